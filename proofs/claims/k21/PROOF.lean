import PyProof.Rows.All
import Wide.All
import OpenK.AllK
import Wide.FinOn
import PyProof.NoPylong
import Flt.Len
import HandS.ForMost
import HandS.ForExc
import HandS.Wide
import HandS.Gcd
import HandS.IsInst
import HandS.Evl
import HandS.Flow
import HandS.Iter
import HandS.ExcInit
import HandS.ExcField
import HandS.ExcCtx
import HandS.HotCalls
import HandS.ExcInitHot
import HandS.TupLe
import HandS.TupAny
import HandS.Conv
import HandS.Strs
import HandS.SetFor
import HandS.Zip
import HandS.Star
import HandS.ClsMeth
import HandS.Codes
import HandS.SlotsOwn
import Flt.RightSqrt
import PySem.Challenge.RW_everyfield_k21_members
set_option Elab.async false
set_option linter.all false
set_option maxRecDepth 100000
set_option maxHeartbeats 4000000
set_option exponentiation.threshold 20000
namespace My
open PySem PySem.Spec PyProof.Rows L2
def top (i : Nat) : Stmt := PySem.Challenge.pw_everyfield_k21_members.main.body.getD i (.Pass ⟨0, 0, 0, 0⟩)
def Pr (n : Int) : Prop := 2 ≤ n ∧ ∀ m : Int, 2 ≤ m → m < n → ¬ m ∣ n
noncomputable def prB (n : Int) : Bool := @decide (Pr n) (Classical.propDecidable _)
theorem prB_true {n : Int} (h : Pr n) : prB n = true := by unfold prB; exact @decide_eq_true _ (Classical.propDecidable _) h
theorem prB_false {n : Int} (h : ¬ Pr n) : prB n = false := by unfold prB; exact @decide_eq_false _ (Classical.propDecidable _) h
theorem prB_iff {n : Int} : prB n = true ↔ Pr n := by unfold prB; exact @decide_eq_true_iff _ (Classical.propDecidable _)
/-- r is the least divisor of n from 2 on -/
structure Least (n r : Int) : Prop where
  two : 2 ≤ r
  dvd : r ∣ n
  min : ∀ m : Int, 2 ≤ m → m < r → ¬ m ∣ n
theorem Least.le {n r : Int} (h : Least n r) (hn : 2 ≤ n) : r ≤ n := Int.le_of_dvd (by omega) h.dvd
theorem Least.pr {n r : Int} (h : Least n r) : Pr r := ⟨h.two, fun m h1 h2 h3 => h.min m h1 h2 (Int.dvd_trans h3 h.dvd)⟩
theorem Least.uniq {n r r' : Int} (h : Least n r) (h' : Least n r') : r = r' := by
  rcases Int.lt_trichotomy r r' with c | c | c
  · exact absurd h.dvd (h'.min r h.two c)
  · exact c
  · exact absurd h'.dvd (h.min r' h'.two c)
theorem Least.self {n r : Int} (h : Least n r) (hn : 2 ≤ n) : r = n ↔ Pr n := by
  constructor
  · intro e
    rw [e] at h
    exact h.pr
  · intro p
    have := h.le hn
    by_cases c : r = n
    · exact c
    · exact absurd h.dvd (p.2 r h.two (by omega))
/-- a proper divisor: one at most the root -/
theorem small_div {n m s : Int} (hn : 2 ≤ n) (h2 : 2 ≤ m) (hm : m < n) (hd : m ∣ n) (hs0 : 0 ≤ s) (hs : n < (s + 1) * (s + 1)) : ∃ d : Int, 2 ≤ d ∧ d ≤ s ∧ d ≤ m ∧ d ∣ n := by
  obtain ⟨k, e⟩ := hd
  have hk : 2 ≤ k := by
    rcases Int.lt_trichotomy k 1 with c | c | c
    · have : m * k ≤ m * 0 := Int.mul_le_mul_of_nonneg_left (by omega) (by omega)
      omega
    · subst c
      omega
    · omega
  by_cases c : m ≤ s
  · exact ⟨m, h2, c, Int.le_refl _, ⟨k, e⟩⟩
  · refine ⟨k, hk, ?_, ?_, ⟨m, by rw [e, Int.mul_comm]⟩⟩
    · by_cases c2 : k ≤ s
      · exact c2
      · have : (s + 1) * (s + 1) ≤ m * k := Int.mul_le_mul (by omega) (by omega) (by omega) (by omega)
        omega
    · by_cases c2 : k ≤ m
      · exact c2
      · have c3 : k ≤ s := by
          by_cases c4 : k ≤ s
          · exact c4
          · have : (s + 1) * (s + 1) ≤ m * k := Int.mul_le_mul (by omega) (by omega) (by omega) (by omega)
            omega
        omega
/-- the trial over the odd ints: what is left at its end -/
theorem least_of_odd {n s : Int} (hn : 2 ≤ n) (h2 : ¬ (2 : Int) ∣ n) (hs0 : 0 ≤ s) (hs : n < (s + 1) * (s + 1)) (h : ∀ i : Nat, 3 + (i : Int) * 2 ≤ s → ¬ (3 + (i : Int) * 2) ∣ n) : Least n n := by
  refine ⟨hn, Int.dvd_refl n, fun m h1 hm hd => ?_⟩
  obtain ⟨d, d2, ds, _, dn⟩ := small_div hn h1 hm hd hs0 hs
  have odd : d % 2 = 1 := by
    have := Int.emod_two_eq d
    rcases this with e | e
    · exact absurd (Int.dvd_trans (Int.dvd_of_emod_eq_zero e) dn) h2
    · exact e
  have e : d = 3 + ((((d - 3) / 2).toNat : Nat) : Int) * 2 := by omega
  exact h ((d - 3) / 2).toNat (by omega) (e ▸ dn)
theorem least_at {n : Int} {i : Nat} (h2 : ¬ (2 : Int) ∣ n) (hd : (3 + (i : Int) * 2) ∣ n) (h : ∀ j : Nat, j < i → ¬ (3 + (j : Int) * 2) ∣ n) : Least n (3 + (i : Int) * 2) := by
  refine ⟨by omega, hd, fun m h1 hm hdv => ?_⟩
  have odd : m % 2 = 1 := by
    have := Int.emod_two_eq m
    rcases this with e | e
    · exact absurd (Int.dvd_trans (Int.dvd_of_emod_eq_zero e) hdv) h2
    · exact e
  have e : m = 3 + ((((m - 3) / 2).toNat : Nat) : Int) * 2 := by omega
  exact h ((m - 3) / 2).toNat (by omega) (e ▸ hdv)
theorem least_two {n : Int} (h : (2 : Int) ∣ n) : Least n 2 := ⟨by omega, h, fun m h1 h2 => by omega⟩
/-- every int from 2 on has a least divisor -/
theorem least_ex {n : Int} (hn : 2 ≤ n) : ∃ r, Least n r := by
  have key : ∀ (k : Nat) (r : Int), n - r ≤ k → 2 ≤ r → r ≤ n → (∀ m : Int, 2 ≤ m → m < r → ¬ m ∣ n) → ∃ r, Least n r := by
    intro k
    induction k with
    | zero =>
      intro r h1 h2 h3 h4
      have : r = n := by omega
      subst this
      exact ⟨r, h2, Int.dvd_refl r, h4⟩
    | succ k ih =>
      intro r h1 h2 h3 h4
      by_cases c : r ∣ n
      · exact ⟨r, h2, c, h4⟩
      · by_cases e : r = n
        · exact absurd (e ▸ Int.dvd_refl r) c
        · refine ih (r + 1) (by omega) (by omega) (by omega) fun m hm1 hm2 => ?_
          by_cases e2 : m = r
          · rw [e2]
            exact c
          · exact h4 m hm1 (by omega)
  exact key (n - 2).toNat 2 (by omega) (by omega) hn (fun m h1 h2 => by omega)
/-- a check of a prime by trial, for the kernel -/
def trial (n : Nat) : Nat → Nat → Bool
  | 0, _ => false
  | f + 1, k => if n < k * k then true else if n % k = 0 then false else trial n f (k + 1)
theorem trial_ok {n : Nat} (hn : 2 ≤ n) : ∀ (f k : Nat), 2 ≤ k → (∀ m : Nat, 2 ≤ m → m < k → ¬ m ∣ n) → trial n f k = true → Pr (n : Int) := by
  intro f
  induction f with
  | zero => intro k _ _ h; exact absurd h (by simp [trial])
  | succ f ih =>
    intro k hk hm h
    unfold trial at h
    by_cases c : n < k * k
    · refine ⟨by omega, fun m h1 h2 h3 => ?_⟩
      obtain ⟨d, d2, ds, _, dn⟩ := small_div (n := n) (s := (k : Int) - 1) (by omega) h1 h2 h3 (by omega) (by
        rw [Int.sub_add_cancel]
        exact_mod_cast c)
      refine hm d.toNat (by omega) (by omega) ?_
      have : ((d.toNat : Nat) : Int) ∣ (n : Int) := by rw [Int.toNat_of_nonneg (by omega)]; exact dn
      exact Int.natCast_dvd_natCast.mp this
    · rw [if_neg c] at h
      by_cases c2 : n % k = 0
      · rw [if_pos c2] at h
        exact absurd h (by simp)
      · rw [if_neg c2] at h
        refine ih (k + 1) (by omega) (fun m h1 h2 h3 => ?_) h
        by_cases e : m = k
        · subst e
          exact c2 (Nat.mod_eq_zero_of_dvd h3)
        · exact hm m h1 (by omega) h3
theorem pr_of_trial {n : Nat} (f : Nat) (h : (decide (2 ≤ n) && trial n f 2) = true) : Pr (n : Int) := by
  rw [Bool.and_eq_true] at h
  exact trial_ok (of_decide_eq_true h.1) f 2 (by omega) (fun m h1 h2 => by omega) h.2
theorem pr_10007 : Pr 10007 := pr_of_trial (n := 10007) 200 (by decide +kernel)
/-- a prime divides a factor -/
theorem pr_mul {q a b : Int} (hq : Pr q) (h : q ∣ a * b) : q ∣ a ∨ q ∣ b := by
  by_cases c : q ∣ a
  · exact .inl c
  · refine .inr ?_
    have hco : Nat.Coprime q.natAbs a.natAbs := by
      have g1 : Nat.gcd q.natAbs a.natAbs ∣ q.natAbs := Nat.gcd_dvd_left _ _
      have g2 : Nat.gcd q.natAbs a.natAbs ∣ a.natAbs := Nat.gcd_dvd_right _ _
      have hq2 := hq.1
      generalize hg : Nat.gcd q.natAbs a.natAbs = g at *
      have gi : (g : Int) ∣ q := Int.natAbs_dvd_natAbs.mp (by rw [Int.natAbs_natCast]; exact g1)
      have ga : (g : Int) ∣ a := Int.natAbs_dvd_natAbs.mp (by rw [Int.natAbs_natCast]; exact g2)
      have gpos : 0 < g := by
        rcases Nat.eq_zero_or_pos g with z | z
        · rw [z] at gi
          have := Int.zero_dvd.mp gi
          omega
        · exact z
      have gle : (g : Int) ≤ q := Int.le_of_dvd (by omega) gi
      by_cases g1' : g = 1
      · unfold Nat.Coprime
        rw [hg, g1']
      · by_cases g2' : (g : Int) = q
        · rw [g2'] at ga
          exact absurd ga c
        · exact absurd gi (hq.2 g (by omega) (by omega))
    have h2 : q.natAbs ∣ a.natAbs * b.natAbs := by
      rw [← Int.natAbs_mul]
      exact Int.natAbs_dvd_natAbs.mpr h
    exact Int.natAbs_dvd_natAbs.mp (Nat.Coprime.dvd_of_dvd_mul_left hco h2)
theorem pr_dvd_pr {p q : Int} (hp : Pr p) (hq : Pr q) (h : q ∣ p) : q = p := by
  have := Int.le_of_dvd (by have := hp.1; omega) h
  by_cases c : q = p
  · exact c
  · exact absurd h (hp.2 q hq.1 (by omega))
/-- l tells the primes that divide n, ascending -/
def PD (n : Int) (l : List Int) : Prop := l.Pairwise (· < ·) ∧ ∀ q, q ∈ l ↔ Pr q ∧ q ∣ n
theorem sorted_uniq : ∀ {l m : List Int}, l.Pairwise (· < ·) → m.Pairwise (· < ·) → (∀ q, q ∈ l ↔ q ∈ m) → l = m
  | [], [], _, _, _ => rfl
  | [], b :: m, _, _, h => absurd ((h b).mpr List.mem_cons_self) (by simp)
  | a :: l, [], _, _, h => absurd ((h a).mp List.mem_cons_self) (by simp)
  | a :: l, b :: m, hl, hm, h => by
    rw [List.pairwise_cons] at hl hm
    have hab : a = b := by
      rcases List.mem_cons.mp ((h a).mp List.mem_cons_self) with e | e
      · exact e
      · rcases List.mem_cons.mp ((h b).mpr List.mem_cons_self) with e2 | e2
        · exact e2.symm
        · have := hm.1 a e
          have := hl.1 b e2
          omega
    subst hab
    rw [sorted_uniq hl.2 hm.2 fun q => ?_]
    constructor
    · intro hq
      have := hl.1 q hq
      rcases List.mem_cons.mp ((h q).mp (List.mem_cons_of_mem _ hq)) with e | e
      · omega
      · exact e
    · intro hq
      have := hm.1 q hq
      rcases List.mem_cons.mp ((h q).mpr (List.mem_cons_of_mem _ hq)) with e | e
      · omega
      · exact e
theorem PD.uniq {n : Int} {l m : List Int} (h : PD n l) (h' : PD n m) : l = m := sorted_uniq h.1 h'.1 fun q => (h.2 q).trans (h'.2 q).symm
/-- what holds between two turns: fs found, r left of n; every prime of r is at least d, those found are less -/
structure Fac (n : Int) (fs : List Int) (r d : Int) : Prop where
  pos : 1 ≤ r
  dv : r ∣ n
  asc : fs.Pairwise (· < ·)
  low : ∀ f ∈ fs, f < d
  mem : ∀ f ∈ fs, Pr f ∧ f ∣ n
  all : ∀ q, Pr q → q ∣ n → q ∣ r ∨ q ∈ fs
  up : ∀ q, Pr q → q ∣ r → d ≤ q
  len : (2 : Int) ^ fs.length * r ≤ n
theorem fac0 {n : Int} (hn : 1 ≤ n) : Fac n [] n 2 := ⟨hn, Int.dvd_refl n, List.Pairwise.nil, (fun _ h => nomatch h), (fun _ h => nomatch h), (fun q _ h => .inl h), (fun q h _ => h.1), by show (2 : Int) ^ 0 * n ≤ n; omega⟩
/-- within the inner loop: r0 at its start, p taken out -/
structure Tak (r0 p r : Int) : Prop where
  pos : 1 ≤ r
  dv : r ∣ r0
  keep : ∀ q, Pr q → q ∣ r0 → q ∣ r ∨ q = p
  half : r = r0 ∨ 2 * r ≤ r0
theorem tak0 {r0 p : Int} (h : 1 ≤ r0) : Tak r0 p r0 := ⟨h, Int.dvd_refl _, fun q _ h => .inl h, .inl rfl⟩
theorem tak_step {r0 p r : Int} (hp : Pr p) (h : Tak r0 p r) (hd : p ∣ r) : Tak r0 p (r / p) ∧ r / p < r := by
  have hp2 := hp.1
  have hpos := h.pos
  obtain ⟨k, e⟩ := hd
  have ek : r / p = k := by rw [e, Int.mul_ediv_cancel_left _ (by omega)]
  rw [ek]
  have k1 : 1 ≤ k := by
    by_cases c : 1 ≤ k
    · exact c
    · have : p * k ≤ p * 0 := Int.mul_le_mul_of_nonneg_left (by omega) (by omega)
      omega
  have k2 : 2 * k ≤ r := by
    have : 2 * k ≤ p * k := Int.mul_le_mul_of_nonneg_right hp2 (by omega)
    omega
  refine ⟨⟨k1, Int.dvd_trans ⟨p, by rw [e, Int.mul_comm]⟩ h.dv, fun q hq hd => ?_, .inr ?_⟩, by omega⟩
  · rcases h.keep q hq hd with c | c
    · rw [e] at c
      rcases pr_mul hq c with c2 | c2
      · exact .inr (pr_dvd_pr hp hq c2)
      · exact .inl c2
    · exact .inr c
  · rcases h.half with c | c <;> omega
/-- behind the inner loop -/
theorem fac_step {n : Int} {fs : List Int} {r0 d p r : Int} (F : Fac n fs r0 d) (hp : Pr p) (hd : p ∣ r0) (T : Tak r0 p r) (hn : ¬ p ∣ r) (hmin : ∀ q, Pr q → q ∣ r0 → p ≤ q) : Fac n (fs ++ [p]) r (p + 1) ∧ r < r0 := by
  have hr : 2 * r ≤ r0 := T.half.resolve_left fun e => hn (e ▸ hd)
  have hdp : d ≤ p := F.up p hp hd
  refine ⟨⟨T.pos, Int.dvd_trans T.dv F.dv, ?_, ?_, ?_, ?_, ?_, ?_⟩, by have := T.pos; omega⟩
  · rw [List.pairwise_append]
    refine ⟨F.asc, List.pairwise_singleton _ _, fun a ha b hb => ?_⟩
    rw [List.mem_singleton.mp hb]
    have := F.low a ha
    omega
  · intro f hf
    rcases List.mem_append.mp hf with h | h
    · have := F.low f h
      omega
    · rw [List.mem_singleton.mp h]
      omega
  · intro f hf
    rcases List.mem_append.mp hf with h | h
    · exact F.mem f h
    · rw [List.mem_singleton.mp h]
      exact ⟨hp, Int.dvd_trans hd F.dv⟩
  · intro q hq h
    rcases F.all q hq h with c | c
    · rcases T.keep q hq c with c2 | c2
      · exact .inl c2
      · exact .inr (List.mem_append_right _ (by rw [c2]; exact List.mem_singleton.mpr rfl))
    · exact .inr (List.mem_append_left _ c)
  · intro q hq h
    have h1 := hmin q hq (Int.dvd_trans h T.dv)
    by_cases c : q = p
    · exact absurd (c ▸ h) hn
    · omega
  · rw [List.length_append]
    show (2 : Int) ^ (fs.length + 1) * r ≤ n
    rw [Int.pow_succ, Int.mul_assoc]
    have h1 : (2 : Int) ^ fs.length * (2 * r) ≤ 2 ^ fs.length * r0 := Int.mul_le_mul_of_nonneg_left hr (Int.pow_nonneg (by decide))
    have := F.len
    omega
theorem fac_end {n : Int} {fs : List Int} {d : Int} (F : Fac n fs 1 d) : PD n fs := by
  refine ⟨F.asc, fun q => ⟨F.mem q, fun ⟨h1, h2⟩ => (F.all q h1 h2).resolve_left fun c => ?_⟩⟩
  have := Int.le_of_dvd (by decide) c
  have := h1.1
  omega
theorem fac_len {n : Int} {fs : List Int} {r d : Int} (F : Fac n fs r d) (hn : n < 2 ^ 62) : fs.length < 62 := by
  by_cases c : fs.length < 62
  · exact c
  · have h1 : (2 : Int) ^ 62 ≤ 2 ^ fs.length := by
      have : (2 : Nat) ^ 62 ≤ 2 ^ fs.length := Nat.pow_le_pow_right (by decide) (by omega)
      have h2 := Int.ofNat_le.mpr this
      rw [Int.natCast_pow, Int.natCast_pow] at h2
      exact h2
    have h2 : (2 : Int) ^ fs.length * 1 ≤ 2 ^ fs.length * r := Int.mul_le_mul_of_nonneg_left F.pos (Int.pow_nonneg (by decide))
    have := F.len
    omega
theorem fac_up {n : Int} {fs : List Int} {r d : Int} (F : Fac n fs r d) (h : ¬ d ∣ r) : Fac n fs r (d + 1) := by
  refine ⟨F.pos, F.dv, F.asc, fun f hf => by have := F.low f hf; omega, F.mem, F.all, fun q h1 h2 => ?_, F.len⟩
  have := F.up q h1 h2
  by_cases c : q = d
  · exact absurd (c ▸ h2) h
  · omega
/-- d divides what is left: it is a prime -/
theorem fac_pr {n : Int} {fs : List Int} {r d : Int} (F : Fac n fs r d) (h2 : 2 ≤ d) (h : d ∣ r) : Pr d := by
  obtain ⟨q, hq⟩ := least_ex h2
  have h1 := F.up q hq.pr (Int.dvd_trans hq.dvd h)
  have := hq.le h2
  have e : q = d := by omega
  exact e ▸ hq.pr
/-- d * d above what is left: that is a prime -/
theorem fac_jump {n : Int} {fs : List Int} {r d : Int} (F : Fac n fs r d) (h2 : 2 ≤ d) (hr : 1 < r) (h : r < d * d) : Pr r ∧ ∀ q, Pr q → q ∣ r → r ≤ q := by
  have hp : Pr r := by
    refine ⟨by omega, fun m h1 h3 h4 => ?_⟩
    obtain ⟨e, e2, es, _, en⟩ := small_div (n := r) (s := d - 1) (by omega) h1 h3 h4 (by omega) (by rw [Int.sub_add_cancel]; exact h)
    obtain ⟨q, hq⟩ := least_ex e2
    have := F.up q hq.pr (Int.dvd_trans hq.dvd en)
    have := hq.le e2
    omega
  exact ⟨hp, fun q hq hd => by have := pr_dvd_pr hp hq hd; omega⟩

structure Cl (P : Program) (w : World) (K : PySem.W.Frag) (mg : Str → Option Value) (base : Heap) (CX : CXT) (k : Nat) (x : Str) (sp : Sp) : Prop where
  ex : ∃ (f : Addr) (fd : FuncData) (ps : List Str), FnOk P w K mg base CX k f fd ps sp ∧ mg x = some (.ref f) ∧ PySem.W.keepIn K (.ref f) = true ∧ Binds K fd ps []
theorem pe_cl {X : Cx} {k j : Nat} {x : Str} {sp : Sp} {p pos : Pos} {e : Expr} {es : List Expr} {t : TA} (c : Cl X.prog X.w X.K X.mg X.base CX0 k x sp) (hr : Room j X.A) (ha : PA X (e :: es) t) (hk : k ≤ j := by decide) (hg : Gl X x := by rfl)
    (hdb : (x == ("__debug__" : Str)) = false := by decide) (he : starEach (e :: es) X.env = (false, eval e X.env) :: starEach es X.env := by rfl) (hpl : (backTo pos (starEach es X.env)).any (·.1) = false := by rfl) :
    PE X (.Call (.Name x p) (e :: es) [] pos) (tCall sp [] E0 t) := by
  obtain ⟨f, fd, ps, F, hm, kp, b⟩ := c.ex
  exact pe_call F (hr.mono hk) hg hm kp b .nil pass0 ha hdb he hpl
structure Txt (mg : Str → Option Value) : Prop where
  int : mg "int" = none
  len : mg "len" = none
  abs : mg "abs" = none
  isinstance : mg "isinstance" = none
  bool : mg "bool" = none
  tuple : mg "tuple" = none
  list : mg "list" = none
  str : mg "str" = none
  range : mg "range" = none
  max : mg "max" = none
  min : mg "min" = none
  sorted : mg "sorted" = none
  set : mg "set" = none
theorem if_pos_of {c : Bool} {A B : Prop} (hc : c = true) (h : A) : if c = true then A else B := by
  rw [if_pos hc]
  exact h
theorem if_neg_of {c : Bool} {A B : Prop} (hc : c = false) (h : B) : if c = true then A else B := by
  rw [hc, if_neg Bool.false_ne_true]
  exact h
theorem same_upd {H : Hp} {p : Addr} {o : HO} (h : H p = none) : Same H (upd H p o) := fun b u e => by
  rw [upd_ne (ne_of_none e h)]
  exact e
/-- a call of a def that may raise, where it doesn't -/
theorem pe_cl0 {X : Cx} {k j : Nat} {x : Str} {sp : Sp} {p pos : Pos} {e : Expr} {es : List Expr} {t : TA} (c : Cl X.prog X.w X.K X.mg X.base (L2.CX X.prog X.w) k x sp) (hr : Room j X.A) (ha : PA X (e :: es) t) (hk : k ≤ j := by decide) (hg : Gl X x := by rfl)
    (hdb : (x == ("__debug__" : Str)) = false := by decide) (he : starEach (e :: es) X.env = (false, eval e X.env) :: starEach es X.env := by rfl) (hpl : (backTo pos (starEach es X.env)).any (·.1) = false := by rfl) :
    PE X (.Call (.Name x p) (e :: es) [] pos) (tCall sp [] E0 t) := by
  obtain ⟨f, fd, ps, F, hm, kp, b⟩ := c.ex
  exact pe_call F (hr.mono hk) hg hm kp b .nil passL ha hdb he hpl
/-- a call of a def that may raise, in a def or try that takes it -/
theorem pe_clX {X : Cx} {W : WX} {k j : Nat} {x : Str} {sp : Sp} {p pos : Pos} {e : Expr} {es : List Expr} {t : TA} (c : Cl X.prog X.w X.K X.mg X.base (L2.CX X.prog X.w) k x sp) (hr : Room j X.A) (tk : Takes X W) (ha : PA X (e :: es) t) (hk : k ≤ j := by decide) (hg : Gl X x := by rfl)
    (hdb : (x == ("__debug__" : Str)) = false := by decide) (he : starEach (e :: es) X.env = (false, eval e X.env) :: starEach es X.env := by rfl) (hpl : (backTo pos (starEach es X.env)).any (·.1) = false := by rfl) :
    PE X (.Call (.Name x p) (e :: es) [] pos) (tCallS sp (WE W) t) := by
  obtain ⟨f, fd, ps, F, hm, kp, b⟩ := c.ex
  exact pe_callS F (hr.mono hk) hg hm kp b (fun σ => passAt tk σ) ha hdb he hpl
/-- FieldError, and what its __init__ is -/
structure FErr (K : PySem.W.Frag) (mg : Str → Option Value) (C : Addr) : Prop where
  g : mg "FieldError" = some (.ref C)
  rd : PySem.W.readsIn K C (.type "type") = true
  ga : PySem.W.specialIn K (.ref C) "__getattribute__" = some (some (.builtin "type.__getattribute__"))
  fi : PySem.W.findCls K (.ref C) (.type "type") "__init__" = some (.val (.builtin "ValueError.__init__"))
theorem pe_feinit {X : Cx} {CF : Addr} {e : Expr} {es : List Expr} {ta : TA} {p1 p2 pos : Pos} {pl : Sem Bool} (F : FErr X.K X.mg CF) (ha : PA X (e :: es) ta) (hg : Gl X "FieldError" := by rfl)
    (hc : eval (.Call (.Attribute (.Name "FieldError" p1) "__init__" p2) (e :: es) [] pos) X.env = (do
      let ov ← eval (.Name "FieldError" p1) X.env
      standAt p2.atName
      let (f, first) ← holding [ov] (getMethod ov "__init__" pl)
      callWith pos f first (backTo pos (starEach (e :: es) X.env)) (backToKw pos (keywordEach [] X.env))) := by rfl)
    (he : starEach (e :: es) X.env = (false, eval e X.env) :: starEach es X.env := by rfl) (hpl : (backTo pos (starEach es X.env)).any (·.1) = false := by rfl) :
    PE X (.Call (.Attribute (.Name "FieldError" p1) "__init__" p2) (e :: es) [] pos) (tVeI X.K ta) := by
  refine ⟨fun pins s σ H Q I h => ?_⟩
  refine PySem.W.methodCall_KW (ld_glob I hg F.g ?_ (by decide)) hc
  refine PySem.W.method_cls I.kIn F.ga (PySem.W.cls_value I.kIn F.rd F.fi (by decide +kernel) ?_)
  show wpAny _ _ (callWith pos (Value.builtin "ValueError.__init__") [] (backTo pos (starEach (e :: es) X.env)) []) _ _ _
  refine PyProof.Rows.callWith_method1 (thn (ha.run pos pins _ σ H _ (I.tok _) h) fun us s1 ⟨vs, H1, I1, r1, a, C, ws, ev, hl, T, ea, q⟩ => ?_) he hpl
  subst ev
  cases r1 with
  | @cons _ u0 _ ur ra rw' =>
    obtain rfl : u0 = Value.ref a := ra
    have hlen : ur.length ≤ sizeLine := by
      rw [← Paired.length rw', sizeLine_eq]
      omega
    exact oinit_ok T I1 ea hlen fun s' J => ⟨.non, H1, J, rfl, q⟩
/-- an own error class with one attribute, and its __init__ by its promise -/
def spInit (C : Addr) (fld : Str) : Sp := fun vs H Q _ => ∃ (a : Addr) (v : V), vs = [.ref a, v] ∧ H a = some (exo a C none) ∧
  ∀ d, H d = none → d ≠ a → Q .non (upd (upd H d (exd d [(fld, v)])) a (exo a C (some d)))
structure ErrC (K : PySem.W.Frag) (mg : Str → Option Value) (nm fld : Str) (C fI : Addr) : Prop where
  g : mg nm = some (.ref C)
  oex : OexC K C
  no : PySem.W.findIn K (.ref C) fld = some none
  iC : PySem.W.findIn K (.ref C) "__init__" = some (some (.ref fI))
  tI : PySem.W.typeIn K (.ref fI) = some (.type "function")
  xf : XfC K C
  te : PySem.W.exmOne K (.ref C) (.ref C) = some true
structure Er (P : Program) (w : World) (K : PySem.W.Frag) (mg : Str → Option Value) (base : Heap) (nm fld : Str) (C : Addr) : Prop where
  ex : ∃ (fI : Addr) (fd : FuncData) (ps : List Str), ErrC K mg nm fld C fI ∧ FnOk P w K mg base CX0 1 fI fd ps (spInit C fld) ∧ Binds K fd ps []
theorem Er.c {P : Program} {w : World} {K : PySem.W.Frag} {mg : Str → Option Value} {base : Heap} {nm fld : Str} {C : Addr} (e : Er P w K mg base nm fld C) : ∃ fI, ErrC K mg nm fld C fI := by
  obtain ⟨fI, _, _, T, _⟩ := e.ex
  exact ⟨fI, T⟩
theorem exm_me {K : PySem.W.Frag} {S : Addr} (h1 : PySem.W.subIn K (.ref S) (.type "BaseException") = some true) (h2 : PySem.W.isClsIn K S = true) (h3 : PySem.W.typeIn K (.ref S) = some (.type "type")) (h4 : PySem.W.subIn K (.ref S) (.ref S) = some true) :
    PySem.W.exmOne K (.ref S) (.ref S) = some true := by
  have e1 : (PySem.W.subIn K (.ref S) (.type "BaseException") == some true) = true := by rw [h1] <;> rfl
  have h2' : (PySem.W.clsIn K S).isSome = true := h2
  have e2 : ((PySem.W.clsIn K S).isSome && PySem.W.typeIn K (.ref S) == some (.type "type")) = true := by rw [h2', h3] <;> rfl
  unfold PySem.W.exmOne
  rw [if_pos e1]
  show (if ((PySem.W.clsIn K S).isSome && PySem.W.typeIn K (.ref S) == some (.type "type")) = true then PySem.W.subIn K (.ref S) (.ref S) else none) = some true
  rw [if_pos e2]
  exact h4
/-- raise C(v): the argument, then what C's own __init__ asks (mk1 answers it) -/
theorem ps_raise1 {X : Cx} {W : WX} {x fld : Str} {C : Addr} {j : Nat} {e : Expr} {ta : TA} {p pos pos' : Pos} (c : Er X.prog X.w X.K X.mg X.base x fld C) (hr : Room j X.A) (tk : Takes X W) (ha : PA X [e] ta) (hj : 2 ≤ j := by decide) (hcalm : X.calm = true := by rfl) (hg : Gl X x := by rfl)
    (hdb : (x == ("__debug__" : Str)) = false := by decide) (he : starEach [e] X.env = (false, eval e X.env) :: starEach [] X.env := by rfl) (hpl : (backTo pos (starEach [] X.env)).any (·.1) = false := by rfl) :
    PS X (.Raise (some (.Call (.Name x p) [e] [] pos)) none pos') (fun _ σ H => tMkO C (spInit C fld) [] ta σ H fun cls d H' => W cls d σ H') := by
  obtain ⟨fI, fd, ps, T, F, b⟩ := c.ex
  exact ps_raise hcalm tk (pmk_oex (X := X) (p := p) (pos := pos) T.oex T.iC T.tI F (hr.mono hj) b .nil (fun _ _ _ _ _ _ _ h => h.elim) hg T.g ha hdb he hpl)
theorem mk1 {C : Addr} {fld : Str} {v : V} {H1 : Hp} {Q : XK} (k : ∀ d H2, Same H1 H2 → H1 d = none → H2 d = some (.xd [(fld, v)]) → Q (.ref C) (some d) H2) :
    ([v] : List V).length ≤ 1000 ∧ ∀ a, H1 a = none → spInit C fld (.ref a :: ([v] ++ [])) (upd H1 a (exo a C none))
      (fun u H2 => u = .non ∧ ∃ (d : Addr) (fs : List (Str × V)), H2 a = some (exo a C (some d)) ∧ H2 d = some (exd d fs) ∧ H1 d = none ∧ Q (.ref C) (some d) (upd (del H2 a) d (.xd fs))) (fun _ _ _ => False) := by
  refine ⟨(by show 1 ≤ 1000; decide), fun a ha => ⟨a, v, rfl, upd_same, fun d hd hda => ⟨rfl, d, [(fld, v)], upd_same, ?_, ?_, ?_⟩⟩⟩
  · rw [upd_ne hda, upd_same]
  · rw [upd_ne hda] at hd
    exact hd
  · rw [upd_ne hda] at hd
    refine k d _ (fun b o e => ?_) hd upd_same
    have hba := ne_of_none e ha
    have hbd := ne_of_none e hd
    rw [upd_ne hbd, del_ne hba, upd_ne hba, upd_ne hbd, upd_ne hba]
    exact e
/-! the same for exceptions whose context is None -/
theorem passN {X : Cx} : Passes (L2N.CX X.prog X.w) X E0 := fun _ _ _ _ _ _ _ ⟨_, _, _, _, _, _, _, _, _, _, _, _, z⟩ => z.elim
theorem takes0N {X : Cx} : L2N.Takes X (fun _ _ _ _ => False) := fun _ _ ⟨_, _, _, _, _, _, _, _, _, _, _, _, _, _, _, _, z⟩ => z.elim
theorem okN {P : Program} {w : World} {K : PySem.W.Frag} {mg : Str → Option Value} {base : Heap} {x qual : Str} {st : Stmt} {f : Addr} {fd : FuncData} {N ps : List Str} {k : Nat} {sp : Sp} (F : Fun K x qual st f fd) (S : FnScope N ps (defScope st)) (len : ∀ vs H Q E, sp vs H Q E → vs.length = ps.length)
    (body : ∀ (cdv : Value) (A : Around) (outer : List Env) (s : Shared) (H : Hp) (vs : List V) (Q : VK) (E : XK), Room k (A.deeper (envOfC qual (defScope st) s.heap.objs.size f cdv)) → sp vs H Q E →
      ∃ t, PSs (cxOf (L2N.CX P w) P w K mg base N qual (defScope st) f cdv A outer s H E) (defBody st) t ∧ t { nx := fun _ H' => Q .non H', rt := Q } (start N vs) H) : FnOk P w K mg base (L2N.CX P w) (k + 1) f fd ps sp := by
  obtain ⟨oc, od, kV, doc, pm, an, cdv, ct, osl, rfl, lk, hcd⟩ := F.ex
  exact fn_of lk hcd S len fun A outer s H vs Q E hr h => body cdv A outer s H vs Q E hr h
/-- a call of such a def, where it doesn't raise -/
theorem pe_clN0 {X : Cx} {k j : Nat} {x : Str} {sp : Sp} {p pos : Pos} {e : Expr} {es : List Expr} {t : TA} (c : Cl X.prog X.w X.K X.mg X.base (L2N.CX X.prog X.w) k x sp) (hr : Room j X.A) (ha : PA X (e :: es) t) (hk : k ≤ j := by decide) (hg : Gl X x := by rfl)
    (hdb : (x == ("__debug__" : Str)) = false := by decide) (he : starEach (e :: es) X.env = (false, eval e X.env) :: starEach es X.env := by rfl) (hpl : (backTo pos (starEach es X.env)).any (·.1) = false := by rfl) :
    PE X (.Call (.Name x p) (e :: es) [] pos) (tCall sp [] E0 t) := by
  obtain ⟨f, fd, ps, F, hm, kp, b⟩ := c.ex
  exact pe_call F (hr.mono hk) hg hm kp b .nil passN ha hdb he hpl
theorem pe_clNX {X : Cx} {W : WX} {k j : Nat} {x : Str} {sp : Sp} {p pos : Pos} {e : Expr} {es : List Expr} {t : TA} (c : Cl X.prog X.w X.K X.mg X.base (L2N.CX X.prog X.w) k x sp) (hr : Room j X.A) (tk : L2N.Takes X W) (ha : PA X (e :: es) t) (hk : k ≤ j := by decide) (hg : Gl X x := by rfl)
    (hdb : (x == ("__debug__" : Str)) = false := by decide) (he : starEach (e :: es) X.env = (false, eval e X.env) :: starEach es X.env := by rfl) (hpl : (backTo pos (starEach es X.env)).any (·.1) = false := by rfl) :
    PE X (.Call (.Name x p) (e :: es) [] pos) (tCallS sp (WE W) t) := by
  obtain ⟨f, fd, ps, F, hm, kp, b⟩ := c.ex
  exact pe_callS F (hr.mono hk) hg hm kp b (fun σ => L2N.passAt tk σ) ha hdb he hpl
theorem pmk_oexN {X : Cx} {e : Expr} {es : List Expr} {ta : TA} {p pos : Pos} {x : Str} {C fI : Addr} {k : Nat} {fd : FuncData} {ps : List Str} {sp : Sp} {ds : List Value} {dvs : List V} (T : OexC X.K C) (iC : PySem.W.findIn X.K (.ref C) "__init__" = some (some (.ref fI))) (tI : PySem.W.typeIn X.K (.ref fI) = some (.type "function"))
    (F1 : FnOk X.prog X.w X.K X.mg X.base CX0 k fI fd ps sp) (hr : Room (k + 1) X.A) (hb : Binds X.K fd ps ds) (hd : Vals dvs ds) (hg : Gl X x) (hm : X.mg x = some (.ref C)) (ha : PA X (e :: es) ta)
    (hdb : (x == ("__debug__" : Str)) = false) (he : starEach (e :: es) X.env = (false, eval e X.env) :: starEach es X.env) (hpl : (backTo pos (starEach es X.env)).any (·.1) = false) :
    L2N.PMk X (.Call (.Name x p) (e :: es) [] pos) (tMkO C sp dvs ta) := by
  intro pins s σ H Q I h
  obtain ⟨nm, q, N, bs, bm, sn, sub, ab, col, dd, k0, k1, k2, k3, k5, hC, hbm⟩ := T.cls
  refine wpAny_Call_Name_kw (ld_glob I hg hm ?_ hdb)
  refine PySem.W.callWith_K (h₀ := X.base) I.ok.mod.kin T.kC (thn (ha.run pos pins s σ H _ I h) fun us st got => ?_) he hpl
  obtain ⟨vs, G1, I1, r1, hz, q1⟩ := got
  refine ⟨I1.kIn, ?_⟩
  show wpAny _ _ (call (.ref C) us) _ _ _
  obtain ⟨hp, g, dr, tk, os⟩ := st
  generalize ex : hp.objs.size + 1 = x1 at *
  have le1 : hp.objs.size ≤ x1 := by omega
  have sp1 := q1 x1 (I1.hok.fresh le1)
  have old : ∀ b o, hp.get? b = some o → ((hp.push (PySem.W.kdv_tup us)).push (PySem.HandSPX.excO C hp.objs.size)).get? b = some o := fun b o z =>
    Heap.get?_push_of_some _ (Heap.get?_push_of_some _ z)
  have new1 : ((hp.push (PySem.W.kdv_tup us)).push (PySem.HandSPX.excO C hp.objs.size)).get? x1 = some (PySem.HandSPX.excO C hp.objs.size) := by
    subst ex
    heap_get
  have I2 := I1.laid (t' := tk) (a := x1) (o := exo x1 C none) old le1 (exo_ok new1)
  have rel : Vals (V.ref x1 :: (vs ++ dvs)) (Value.ref x1 :: (us ++ ds)) := .cons rfl (r1.append hd)
  have few : us.length ≤ sizeLine := by
    have := Paired.length r1
    rw [sizeLine_eq]
    omega
  have many : (Value.ref x1 :: us ++ ds).length = ps.length := by
    have z := rel.length
    rw [F1.len _ _ _ _ sp1] at z
    exact z.symm
  have run := F1.run _ X.stack _ _ ⟨Value.ref x1 :: us, []⟩ (Value.ref x1 :: (us ++ ds)) _ _ (fun _ _ _ => False) (hr.make C us []) (I2.env0.make C us []) (hb _ (Value.ref x1 :: us) I2.kIn many) rel sp1
  refine wpAny_call (PySem.HandSPX.call_own F.excBase_ValueError (fun Y => PySem.HandSPX.refsVE_contains Y bm hbm) (I1.kIn _ _ hC) (PySem.W.looks_findIn I1.kIn iC) (fun self => PySem.W.bind_fn I1.kIn self tI) few ?_)
  subst ex
  refine codeAny_mono run fun r s' back => ?_
  cases r with
  | error er => exact False.elim back
  | ok fl =>
    cases fl with
    | ret u =>
      obtain ⟨v, H2, os2, bare2, un2, hok2, rv, ev, d, fs, ea, ed, hd1, q2⟩ := back
      subst ev
      obtain ⟨h2, g2, d2, t2, os'⟩ := s'
      obtain ⟨t0, G, J, kG, ge, hoe, na⟩ := mk_end0 (d2 := d2) (t2 := t2) I1 le1 old un2 hok2 os2 bare2 ea ed hd1
      exact ⟨rv, _, _, _, ⟨G, g2, d2, t2, os'⟩, _, .ref C, some d, rfl, J, kG, ge, hoe, ⟨rfl, rfl, fun vs z => by cases z; rfl⟩, rfl, rfl, na, rfl, bare2, raises_own T.exC T.tyC, q2⟩
    | next => exact False.elim back
    | brk => exact False.elim back
    | cont => exact False.elim back
theorem ps_raise1N {X : Cx} {W : WX} {x fld : Str} {C : Addr} {j : Nat} {e : Expr} {ta : TA} {p pos pos' : Pos} (c : Er X.prog X.w X.K X.mg X.base x fld C) (hr : Room j X.A) (tk : L2N.Takes X W) (ha : PA X [e] ta) (hj : 2 ≤ j := by decide) (hcalm : X.calm = true := by rfl) (hg : Gl X x := by rfl)
    (hdb : (x == ("__debug__" : Str)) = false := by decide) (he : starEach [e] X.env = (false, eval e X.env) :: starEach [] X.env := by rfl) (hpl : (backTo pos (starEach [] X.env)).any (·.1) = false := by rfl) :
    PS X (.Raise (some (.Call (.Name x p) [e] [] pos)) none pos') (fun _ σ H => tMkO C (spInit C fld) [] ta σ H fun cls d H' => W cls d σ H') := by
  obtain ⟨fI, fd, ps, T, F, b⟩ := c.ex
  exact L2N.ps_raise hcalm tk (pmk_oexN (X := X) (p := p) (pos := pos) T.oex T.iC T.tI F (hr.mono hj) b .nil hg T.g ha hdb he hpl)

section
variable {P : Program} {w : World} {K : PySem.W.Frag} {mg : Str → Option Value} {base : Heap}
/-- a pool: three values -/
def PoolAt (H : Hp) (p : Addr) : Prop := ∃ (c n : Int) (b : Bool), H p = some (.lst [.int c, .int n, .bl b])
def spPool : Sp := fun vs H Q _ => ∃ c : Int, vs = [.int c] ∧ ∀ p H', H p = none → Same H H' → PoolAt H' p → Q (.ref p) H'
abbrev s_pool : Stmt := top 16
theorem sc_pool : FnScope ["_law_cell_here"] ["_law_cell_here"] (defScope s_pool) := ⟨rfl, rfl, rfl, by decide +kernel, rfl, by decide +kernel, by decide +kernel⟩
theorem ok_pool {f : Addr} {fd : FuncData} (F : Fun K "_law_pool" "_law_pool" s_pool f fd) : FnOk P w K mg base CX0 1 f fd ["_law_cell_here"] spPool := by
  refine F.ok sc_pool (fun vs H Q E h => ?_) (fun cdv A outer s H vs Q E hr h => ?_)
  · obtain ⟨c, rfl, _⟩ := h
    rfl
  · obtain ⟨c, rfl, k⟩ := h
    refine ⟨_, (pss_one (ps_ret (pe_lst (pa_cons (pv 0) (pa_cons pe_int (pa_cons (pe_cmpR op_ge (pv 0) (pe_op op_pow pe_int pe_int) (nomark _)) pa_nil)))))), ?_⟩
    refine ⟨_, rfl, _, rfl, _, _, rfl, rfl, ⟨by decide, by decide, by decide⟩, _, _, rfl, rfl, (by show 3 ≤ sizeLine; decide), fun p hp => ?_⟩
    exact k p _ hp (same_upd hp) ⟨_, _, _, upd_same⟩

abbrev s_take : Stmt := top 17
theorem sc_take : FnScope ["_law_pool_here", "_law_limit", "_law_drawn", "_law_mixed"] ["_law_pool_here", "_law_limit"] (defScope s_take) := ⟨rfl, rfl, rfl, by decide +kernel, rfl, by decide +kernel, by decide +kernel⟩
def spTake : Sp := fun vs H Q _ => ∃ (p : Addr) (m : Int), vs = [.ref p, .int m] ∧ PoolAt H p ∧ 0 < m ∧ m.natAbs.log2 < 9000 ∧
  ∀ v H', 0 ≤ v → v < m → (∀ q, q ≠ p → H' q = H q) → PoolAt H' p → Q (.int v) H'
theorem mix_small (z : Int) : (z % 2147483647).natAbs < 2 ^ 64 := by
  have h1 := Int.emod_nonneg z (show (2147483647 : Int) ≠ 0 by decide)
  have h2 := Int.emod_lt_of_pos z (show (0 : Int) < 2147483647 by decide)
  have : (2147483647 : Nat) < 2 ^ 64 := by decide
  omega
theorem ok_take {f : Addr} {fd : FuncData} (T : Txt mg) (F : Fun K "_law_take" "_law_take" s_take f fd) : FnOk P w K mg base CX0 1 f fd ["_law_pool_here", "_law_limit"] spTake := by
  refine F.ok sc_take (fun vs H Q E h => ?_) (fun cdv A outer s H vs Q E hr h => ?_)
  · obtain ⟨p, m, rfl, _⟩ := h
    rfl
  · obtain ⟨p, m, rfl, ⟨c, n, b, hp⟩, hm, hb, k⟩ := h
    refine ⟨_, (pss_cons (ps_asg (pe_op op_add (pe_ix ix_list (pv 0) pe_int (fun _ _ => rfl)) pe_int) (pg_sub (pv 0) pe_int set_list))
 (pss_cons (ps_if (pt_val (pe_ix ix_list (pv 0) pe_int (fun _ _ => rfl))) (pss_cons (ps_set (i := 2) sc_take.nd rfl (Or.inl rfl) (pe_op op_mod (pe_callTy call_int1 (by rfl) T.int boot_int (pa_cons (pe_ix ix_list (pv 0) pe_int (fun _ _ => rfl)) pa_nil)) (pv 1)))
 (pss_cons (ps_asg (pe_op op_fdivW (pe_callTy call_int1 (by rfl) T.int boot_int (pa_cons (pe_ix ix_list (pv 0) pe_int (fun _ _ => rfl)) pa_nil)) (pv 1)) (pg_sub (pv 0) pe_int set_list))
 (pss_one (ps_ret (pv 2))))) pss_nil)
 (pss_cons (ps_set (i := 3) sc_take.nd rfl (Or.inl rfl) (pe_op op_mod (pe_callTy call_int1 (by rfl) T.int boot_int (pa_cons (pe_op op_add (pe_op op_add (pe_op op_mul (pe_ix ix_list (pv 0) pe_int (fun _ _ => rfl)) pe_int) (pe_op op_mul (pe_ix ix_list (pv 0) pe_int (fun _ _ => rfl)) pe_int)) pe_int) pa_nil)) pe_int))
 (pss_one (ps_ret (pe_op op_mod (pe_op op_fdivW (pe_callTy call_int1 (by rfl) T.int boot_int (pa_cons (pe_op op_mod (pe_op op_pow (pv 3) pe_int) pe_int) pa_nil)) pe_int) (pv 1))))))), ?_⟩
    refine ⟨_, rfl, p, _, _, _, rfl, rfl, SqL.of hp, rfl, _, _, rfl, rfl, _, rfl, p, _, _, _, rfl, rfl, hp, rfl, ?_⟩
    refine ⟨_, rfl, p, _, _, _, rfl, rfl, SqL.of upd_same, rfl, b, rfl, ?_⟩
    cases b with
    | true =>
      refine iteT ?_
      refine ⟨_, rfl, p, _, _, _, rfl, rfl, SqL.of upd_same, rfl, .inl ⟨_, rfl, _, rfl, _, _, rfl, rfl, hm, ?_⟩⟩
      refine ⟨_, rfl, p, _, _, _, rfl, rfl, SqL.of upd_same, rfl, .inl ⟨_, rfl, _, rfl, _, _, rfl, rfl, ⟨hm, hb⟩, _, rfl, p, _, _, _, rfl, rfl, upd_same, rfl, ?_⟩⟩
      refine ⟨_, rfl, k _ _ (Int.emod_nonneg _ (by omega)) (Int.emod_lt_of_pos _ hm) (fun q hq => ?_) ⟨_, _, _, upd_same⟩⟩
      rw [upd_ne hq, upd_ne hq]
    | false =>
      refine iteF ?_
      refine ⟨_, rfl, p, _, _, _, rfl, rfl, SqL.of upd_same, rfl, _, _, rfl, rfl, (.inr ⟨by decide, by decide⟩), _, rfl, p, _, _, _, rfl, rfl, SqL.of upd_same, rfl, _, _, rfl, rfl, (.inr ⟨by decide, by decide⟩), _, _, rfl, rfl, _, _, rfl, rfl, .inl ⟨_, rfl, _, _, rfl, rfl, (by show (0 : Int) < 2147483647; decide), ?_⟩⟩
      refine ⟨_, rfl, _, _, rfl, rfl, ⟨by decide, by decide, mix_small _⟩, _, _, rfl, rfl, (by show (0 : Int) < 2147483647; decide), .inl ⟨_, rfl, _, _, rfl, rfl, ⟨by decide, by decide⟩, _, rfl, _, _, rfl, rfl, hm, ?_⟩⟩
      refine k _ _ (Int.emod_nonneg _ (by omega)) (Int.emod_lt_of_pos _ hm) (fun q hq => ?_) ⟨_, _, _, upd_same⟩
      rw [upd_ne hq]

abbrev s_cell : Stmt := top 18
theorem sc_cell : FnScope ["_law_script", "_law_k"] ["_law_script", "_law_k"] (defScope s_cell) := ⟨rfl, rfl, rfl, by decide +kernel, rfl, by decide +kernel, by decide +kernel⟩
def spCellL (K : PySem.W.Frag) : Sp := fun vs H Q _ => ∃ (a : Addr) (ns : List Int) (k : Nat), vs = [.ref a, .int (k : Int)] ∧ SqL K H a (ns.map V.int) ∧ ∀ v, Q (.int v) H
theorem ok_cell {f : Addr} {fd : FuncData} (T : Txt mg) (F : Fun K "_law_cell" "_law_cell" s_cell f fd) : FnOk P w K mg base CX0 1 f fd ["_law_script", "_law_k"] (spCellL K) := by
  refine F.ok sc_cell (fun vs H Q E h => ?_) (fun cdv A outer s H vs Q E hr h => ?_)
  · obtain ⟨a, ns, k, rfl, _⟩ := h
    rfl
  · obtain ⟨a, ns, k, rfl, hS, q⟩ := h
    refine ⟨_, (pss_cons (ps_if (pt_cmpR op_lt (pv 1) (pe_callB call_len_seq (by rfl) T.len PySem.boot_len (pa_cons (pv 0) pa_nil)) (nomark _)) (pss_one (ps_ret (pe_ix ix_list (pv 0) (pv 1) (fun _ _ => rfl)))) pss_nil)
 (pss_one (ps_ret pe_int))), ?_⟩
    refine ⟨_, rfl, _, rfl, a, _, rfl, .inl hS, _, _, rfl, rfl, _, rfl, ?_⟩
    rw [List.length_map]
    by_cases c : k < ns.length
    · refine if_pos_of (decide_eq_true (by omega)) ?_
      refine ⟨_, rfl, _, rfl, a, _, _, .int ns[k], rfl, rfl, hS, atI_nat (by rw [List.getElem?_map, List.getElem?_eq_getElem c]; rfl), ?_⟩
      exact q _
    · refine if_neg_of (decide_eq_false (by omega)) ?_
      exact q _
def rIsqrt : List V → Hp → VK → Prop := fun vs H Q => ∃ a : Int, vs = [.int a] ∧ 0 ≤ a ∧ a < 2 ^ 64 ∧ ∀ r : Int, 0 ≤ r → r * r ≤ a → a < (r + 1) * (r + 1) → Q (.int r) H
theorem cr_isqrt {X : Cx} : CallR X (.builtin "math.isqrt") rIsqrt := by
  intro pins s σ H vs us Q I r h
  obtain ⟨a, rfl, h0, h1, q⟩ := h
  cases r with
  | cons r1 r2 =>
    cases r2
    obtain ⟨t, rfl⟩ := r1
    obtain ⟨s1, s2⟩ := Float64.isqrt_spec a.toNat
    refine PySem.W.mg_isqrt h0 h1 ⟨.int _, H, I.tok _, ⟨_, rfl⟩, q _ (Int.natCast_nonneg _) ?_ ?_⟩
    · have : ((Float64.isqrt a.toNat * Float64.isqrt a.toNat : Nat) : Int) ≤ ((a.toNat : Nat) : Int) := Int.ofNat_le.mpr s1
      rw [Int.natCast_mul, Int.toNat_of_nonneg h0] at this
      exact this
    · have : ((a.toNat : Nat) : Int) < (((Float64.isqrt a.toNat + 1) * (Float64.isqrt a.toNat + 1) : Nat) : Int) := Int.ofNat_lt.mpr s2
      rw [Int.natCast_mul, Int.natCast_add, Int.toNat_of_nonneg h0] at this
      exact this
abbrev s_least : Stmt := top 7
theorem sc_least : FnScope ["n", "d"] ["n"] (defScope s_least) := ⟨rfl, rfl, rfl, by decide +kernel, rfl, by decide +kernel, by decide +kernel⟩
def spLeast : Sp := fun vs H Q _ => ∃ n : Int, vs = [.int n] ∧ 2 ≤ n ∧ n < 2 ^ 62 ∧ ∀ r, Least n r → Q (.int r) H
theorem rgc_two {j : Int} (h0 : 0 ≤ j) (h1 : j < 2 ^ 62) : RgC 3 j 2 (if 3 < j then ((j - 3 - 1) / 2 + 1).toNat else 0) := by
  refine ⟨by decide, by decide, ?_, ?_⟩
  · unfold Builtin.Range.small Builtin.Range.rangeSize
    simp only [Builtin.Range.rangeFitsLong, Bool.and_eq_true, Bool.or_eq_true, decide_eq_true_eq, beq_iff_eq, show ((2 : Int) > 0) by decide, if_true]
    split <;> omega
  · unfold Builtin.Range.rangeSize
    rw [if_pos (by decide)]
    split <;> omega
theorem root_lt {r n : Int} (h0 : 0 ≤ r) (h : r * r ≤ n) (hn : n < 2 ^ 62) : r + 1 < 2 ^ 62 := by
  by_cases c : r < 2 ^ 32
  · omega
  · have : (2 ^ 32 : Int) * 2 ^ 32 ≤ r * r := Int.mul_le_mul (by omega) (by omega) (by decide) h0
    omega
theorem ok_least {f : Addr} {fd : FuncData} (T : Txt mg) (hsq : mg "isqrt" = some (.builtin "math.isqrt")) (F : Fun K "_least_divisor" "_least_divisor" s_least f fd) : FnOk P w K mg base CX0 1 f fd ["n"] spLeast := by
  refine F.ok sc_least (fun vs H Q E h => ?_) (fun cdv A outer s H vs Q E hr h => ?_)
  · obtain ⟨n, rfl, _⟩ := h
    rfl
  · obtain ⟨n, rfl, h2, hb, q⟩ := h
    refine ⟨_, (pss_cons (ps_if (pt_cmpR op_eq (pe_op op_mod (pv 0) pe_int) pe_int (nomark _)) (pss_one (ps_ret pe_int)) pss_nil)
 (pss_cons (ps_for PassesOwn.never rfl (pi_range3 rfl T.range (pa_cons pe_int (pa_cons (pe_op op_add (pe_callBfun cr_isqrt (by rfl) hsq (pa_cons (pv 0) pa_nil)) pe_int) (pa_cons pe_int pa_nil)))) (pg_name (i := 1) sc_least.nd rfl (Or.inl rfl)) (pss_one (ps_if (pt_cmpR op_eq (pe_op op_mod (pv 0) (pv 1)) pe_int (nomark _)) (pss_one (ps_ret (pv 1))) pss_nil)))
 (pss_one (ps_ret (pv 0))))), ?_⟩
    refine ⟨_, rfl, _, _, rfl, rfl, (by show (0 : Int) < 2; decide), rfl, _, rfl, ?_⟩
    by_cases c : (2 : Int) ∣ n
    · refine if_pos_of (decide_eq_true (congrArg V.int (Int.emod_eq_zero_of_dvd c))) ?_
      exact q _ (least_two c)
    · refine if_neg_of (decide_eq_false fun e => c (Int.dvd_of_emod_eq_zero (V.int.inj e))) ?_
      refine ⟨_, rfl, n, rfl, by omega, by omega, fun r r0 r1 r2 => ⟨_, _, rfl, rfl, 3, r + 1, 2, _, rfl, rgc_two (by omega) (root_lt r0 r1 hb), ?_⟩⟩
      refine for_rangeC (lo := 3) (c := 2) (fun i σ H' => H' = H ∧ ∃ x, σ = [some (.int n), x] ∧ ∀ j : Nat, j < i → ¬ (3 + (j : Int) * 2) ∣ n) ⟨rfl, _, rfl, fun j hj => absurd hj (Nat.not_lt_zero j)⟩ ?_ ?_
      · rintro i σ _ hi ⟨rfl, x, rfl, hx⟩
        refine ⟨_, rfl, _, rfl, _, _, rfl, rfl, (by show (0 : Int) < 3 + ((i : Nat) : Int) * 2; omega), rfl, _, rfl, ?_⟩
        by_cases c3 : (3 + (i : Int) * 2) ∣ n
        · refine if_pos_of (decide_eq_true (congrArg V.int (Int.emod_eq_zero_of_dvd c3))) ?_
          exact ⟨_, rfl, q _ (least_at c c3 hx)⟩
        · refine if_neg_of (decide_eq_false fun e => c3 (Int.dvd_of_emod_eq_zero (V.int.inj e))) ?_
          refine ⟨rfl, _, rfl, fun j hj => ?_⟩
          by_cases e : j = i
          · rw [e]
            exact c3
          · exact hx j (by omega)
      · rintro σ _ ⟨rfl, x, rfl, hx⟩
        refine ⟨_, rfl, q _ (least_of_odd h2 c r0 r2 fun i hi => hx i ?_)⟩
        split <;> omega
abbrev s_prime : Stmt := top 8
theorem sc_prime : FnScope ["n"] ["n"] (defScope s_prime) := ⟨rfl, rfl, rfl, by decide +kernel, rfl, by decide +kernel, by decide +kernel⟩
def spPrime : Sp := fun vs H Q _ => ∃ n : Int, vs = [.int n] ∧ n < 2 ^ 62 ∧ Q (.bl (prB n)) H
theorem ok_prime {f : Addr} {fd : FuncData} (F : Fun K "is_prime" "is_prime" s_prime f fd) (c_least : Cl P w K mg base CX0 1 "_least_divisor" spLeast) : FnOk P w K mg base CX0 2 f fd ["n"] spPrime := by
  refine F.ok sc_prime (fun vs H Q E h => ?_) (fun cdv A outer s H vs Q E hr h => ?_)
  · obtain ⟨n, rfl, _⟩ := h
    rfl
  · obtain ⟨n, rfl, hb, q⟩ := h
    refine ⟨_, (pss_one (ps_ret (pe_and (pe_cmpR op_gt (pv 0) pe_int (nomark _)) (pe_one (pe_cmpR op_eq (pe_cl c_least hr (pa_cons (pv 0) pa_nil)) (pv 0) (nomark _)))))), ?_⟩
    refine ⟨_, rfl, _, _, rfl, rfl, _, rfl, ?_⟩
    by_cases c : 1 < n
    · refine if_pos_of (decide_eq_true c) ?_
      refine ⟨_, rfl, n, rfl, by omega, hb, fun r hl => ⟨_, rfl, rfl, ?_⟩⟩
      have e : decide (V.int r = V.int n) = prB n := by
        by_cases p : Pr n
        · rw [prB_true p, (hl.self (by omega)).mpr p]
          exact decide_eq_true rfl
        · rw [prB_false p]
          exact decide_eq_false fun e => p ((hl.self (by omega)).mp (V.int.inj e))
      show Q (.bl (decide (V.int r = V.int n))) H
      rw [e]
      exact q
    · refine if_neg_of (decide_eq_false c) ?_
      have e : prB n = false := prB_false fun p => c (by have := p.1; omega)
      rw [e] at q
      exact q
abbrev s_lprime : Stmt := top 19
theorem sc_lprime : FnScope ["_law_n", "_law_k"] ["_law_n"] (defScope s_lprime) := ⟨rfl, rfl, rfl, by decide +kernel, rfl, by decide +kernel, by decide +kernel⟩
theorem pr_of_trials {n k : Int} (hn : 2 ≤ n) (hk : 2 ≤ k) (hs : n < k * k) (hm : ∀ m : Int, 2 ≤ m → m < k → ¬ m ∣ n) : Pr n := by
  refine ⟨hn, fun m h1 h2 h3 => ?_⟩
  obtain ⟨d, d2, ds, _, dn⟩ := small_div (n := n) (s := k - 1) hn h1 h2 h3 (by omega) (by rw [Int.sub_add_cancel]; exact hs)
  exact hm d d2 (by omega) dn
theorem root_le {k n : Int} (hk : 2 ≤ k) (h : k * k ≤ n) : k < n ∧ 2 * k ≤ n := by
  have : 2 * k ≤ k * k := Int.mul_le_mul_of_nonneg_right hk (by omega)
  omega
theorem ok_lprime {f : Addr} {fd : FuncData} (F : Fun K "_law_is_prime" "_law_is_prime" s_lprime f fd) : FnOk P w K mg base CX0 1 f fd ["_law_n"] spPrime := by
  refine F.ok sc_lprime (fun vs H Q E h => ?_) (fun cdv A outer s H vs Q E hr h => ?_)
  · obtain ⟨n, rfl, _⟩ := h
    rfl
  · obtain ⟨n, rfl, hb, q⟩ := h
    refine ⟨_, (pss_cons (ps_if (pt_cmpR op_lt (pv 0) pe_int (nomark _)) (pss_one (ps_ret pe_bl)) pss_nil)
 (pss_cons (ps_set (i := 1) sc_lprime.nd rfl (Or.inl rfl) pe_int)
 (pss_cons (ps_while PassesOwn.never (pt_cmpR op_le (pe_op op_mul (pv 1) (pv 1)) (pv 0) (nomark _)) (pss_cons (ps_if (pt_cmpR op_eq (pe_op op_mod (pv 0) (pv 1)) pe_int (nomark _)) (pss_one (ps_ret pe_bl)) pss_nil)
 (pss_one (ps_set (i := 1) sc_lprime.nd rfl (Or.inl rfl) (pe_op op_add (pv 1) pe_int)))))
 (pss_one (ps_ret pe_bl))))), ?_⟩
    refine ⟨_, rfl, _, _, rfl, rfl, _, rfl, ?_⟩
    by_cases c : n < 2
    · refine if_pos_of (decide_eq_true c) ?_
      rw [prB_false fun p => by have := p.1; omega] at q
      exact q
    · refine if_neg_of (decide_eq_false c) ?_
      refine while_by (fun σ H' => H' = H ∧ ∃ k : Int, σ = [some (.int n), some (.int k)] ∧ 2 ≤ k ∧ k ≤ n + 1 ∧ ∀ m : Int, 2 ≤ m → m < k → ¬ m ∣ n) (fun σ _ => match σ[1]? with | some (some (V.int k)) => (n + 2 - k).toNat | _ => 0)
        ⟨rfl, 2, rfl, by omega, by omega, fun m h1 h2 => by omega⟩ ?_ ?_
      · rintro σ _ ⟨rfl, k, rfl, k2, k3, hm⟩
        refine ⟨_, rfl, _, rfl, _, _, rfl, rfl, .inl ⟨by omega, by omega⟩, _, rfl, _, _, rfl, rfl, _, rfl, ?_⟩
        by_cases c2 : k * k ≤ n
        · refine if_pos_of (decide_eq_true c2) ?_
          have kn := root_le k2 c2
          refine ⟨_, rfl, _, rfl, _, _, rfl, rfl, (by show 0 < k; omega), rfl, _, rfl, ?_⟩
          by_cases c3 : k ∣ n
          · refine if_pos_of (decide_eq_true (congrArg V.int (Int.emod_eq_zero_of_dvd c3))) ?_
            rw [prB_false fun p => p.2 k k2 (by omega) c3] at q
            exact q
          · refine if_neg_of (decide_eq_false fun e => c3 (Int.dvd_of_emod_eq_zero (V.int.inj e))) ?_
            refine ⟨_, rfl, _, _, rfl, rfl, ⟨rfl, k + 1, rfl, by omega, by omega, fun m h1 h2 => ?_⟩, ?_⟩
            · by_cases e : m = k
              · rw [e]
                exact c3
              · exact hm m h1 (by omega)
            · show (n + 2 - (k + 1)).toNat < (n + 2 - k).toNat
              omega
        · refine if_neg_of (decide_eq_false c2) ?_
          rw [prB_true (pr_of_trials (by omega) k2 (by omega) hm)] at q
          exact q
      · rintro σ H1 Q1 Q2 h ⟨v, e1, v2, e2, i, j, e3, e4, hc, v3, e5, i2, j2, e6, e7, k, e8, qq⟩
        exact ⟨v, e1, v2, e2, i, j, e3, e4, hc, v3, e5, i2, j2, e6, e7, k, e8, h _ _ qq⟩
abbrev s_next : Stmt := top 20
theorem sc_next : FnScope ["_law_n", "_law_found"] ["_law_n"] (defScope s_next) := ⟨rfl, rfl, rfl, by decide +kernel, rfl, by decide +kernel, by decide +kernel⟩
def spNext : Sp := fun vs H Q _ => ∃ (n b : Int), vs = [.int n] ∧ Pr b ∧ n ≤ b ∧ b < 2 ^ 61 ∧ ∀ p : Int, Pr p → n ≤ p → p ≤ b → Q (.int p) H
theorem ok_next {f : Addr} {fd : FuncData} (T : Txt mg) (F : Fun K "_law_next_prime" "_law_next_prime" s_next f fd) (c_lprime : Cl P w K mg base CX0 1 "_law_is_prime" spPrime) : FnOk P w K mg base CX0 2 f fd ["_law_n"] spNext := by
  refine F.ok sc_next (fun vs H Q E h => ?_) (fun cdv A outer s H vs Q E hr h => ?_)
  · obtain ⟨n, b, rfl, _⟩ := h
    rfl
  · obtain ⟨n, b, rfl, hp, hn, hb, q⟩ := h
    refine ⟨_, (pss_cons (ps_set (i := 1) sc_next.nd rfl (Or.inl rfl) (pe_callB (call_max2 rfl) (by rfl) T.max boot_max (pa_cons pe_int (pa_cons (pv 0) pa_nil))))
 (pss_cons (ps_while PassesOwn.never (pt_not (pt_val (pe_cl c_lprime hr (pa_cons (pv 1) pa_nil)))) (pss_one (ps_set (i := 1) sc_next.nd rfl (Or.inl rfl) (pe_op op_add (pv 1) pe_int))))
 (pss_one (ps_ret (pv 1))))), ?_⟩
    refine ⟨_, rfl, _, _, rfl, ?_⟩
    refine while_by (fun σ H' => H' = H ∧ ∃ k : Int, σ = [some (.int n), some (.int k)] ∧ n ≤ k ∧ k ≤ b) (fun σ _ => match σ[1]? with | some (some (V.int k)) => (b - k).toNat | _ => 0)
      ⟨rfl, _, rfl, by split <;> omega, by have := hp.1; split <;> omega⟩ ?_ ?_
    · rintro σ _ ⟨rfl, k, rfl, k2, k3⟩
      refine ⟨_, rfl, k, rfl, by omega, _, rfl, ?_⟩
      by_cases c : Pr k
      · refine if_neg_of (by rw [prB_true c]; rfl) ?_
        exact ⟨_, rfl, q k c k2 k3⟩
      · refine if_pos_of (by rw [prB_false c]; rfl) ?_
        have : k ≠ b := fun e => c (e ▸ hp)
        refine ⟨_, rfl, _, _, rfl, rfl, ⟨rfl, k + 1, rfl, by omega, by omega⟩, ?_⟩
        show (b - (k + 1)).toNat < (b - k).toNat
        omega
    · rintro σ H1 Q1 Q2 h ⟨v, e1, n, e2, hl, k, e3, qq⟩
      exact ⟨v, e1, n, e2, hl, k, e3, h _ _ qq⟩
abbrev s_ibc : Stmt := inClass (top 4) 0
theorem sc_ibc : FnScope ["self", "p"] ["self", "p"] (defScope s_ibc) := ⟨rfl, rfl, rfl, by decide +kernel, rfl, by decide +kernel, by decide +kernel⟩
theorem ok_ibc {f C CF : Addr} {fd : FuncData} (TF : FErr K mg CF) (hC : OexC K C) (hno : PySem.W.findIn K (.ref C) "p" = some none) (F : Fun K "__init__" "BadCharacteristic.__init__" s_ibc f fd) : FnOk P w K mg base CX0 1 f fd ["self", "p"] (spInit C "p") := by
  refine F.ok sc_ibc (fun vs H Q E h => ?_) (fun cdv A outer s H vs Q E hr h => ?_)
  · obtain ⟨a, v, rfl, _⟩ := h
    rfl
  · obtain ⟨a, v, rfl, ha, q⟩ := h
    refine ⟨_, (pss_cons (ps_expr (pe_feinit TF (pa_cons (pv 0) (pa_cons pe_str pa_nil))))
 (pss_one (ps_ost (pv 0) (pv 1)))), ?_⟩
    refine ⟨_, rfl, a, C, _, rfl, (by show 1 ≤ 1000; decide), hC, ha, ?_⟩
    exact ⟨_, rfl, _, rfl, a, C, rfl, hC, hno, .inl ⟨ha, fun dx hn hne => q dx hn hne⟩⟩
theorem eqvAll_ints : ∀ l m : List Int, PyData.eqvAll (l.map PyData.int) (m.map PyData.int) = decide (l = m)
  | [], [] => by rw [List.map_nil, PyData.eqvAll]; rfl
  | [], b :: m => by rw [List.map_nil, List.map_cons, PyData.eqvAll] <;> first | (exact (decide_eq_false (by simp)).symm) | skip
  | a :: l, [] => by rw [List.map_nil, List.map_cons, PyData.eqvAll] <;> first | (exact (decide_eq_false (by simp)).symm) | skip
  | a :: l, b :: m => by
    rw [List.map_cons, List.map_cons, PyData.eqvAll, PyData.eqv, eqvAll_ints l m]
    by_cases c : a = b
    · subst c
      by_cases c2 : l = m
      · subst c2
        simp
      · simp [c2]
    · simp [c]
theorem eqv_ints (l m : List Int) : PyData.eqv (.list (l.map PyData.int)) (.list (m.map PyData.int)) = decide (l = m) := by
  rw [PyData.eqv]
  exact eqvAll_ints l m
theorem eqv_intsT (l m : List Int) : PyData.eqv (.tuple (l.map PyData.int)) (.tuple (m.map PyData.int)) = decide (l = m) := by
  rw [PyData.eqv]
  exact eqvAll_ints l m
theorem canLay_ints : ∀ l : List Int, PyData.canLayAll0 (l.map PyData.int) = true
  | [] => by rw [List.map_nil, PyData.canLayAll0]
  | a :: l => by rw [List.map_cons, PyData.canLayAll0, PyData.canLay0, canLay_ints l]; rfl
theorem depth_ints : ∀ l : List Int, PyData.depthAll (l.map PyData.int) = 0
  | [] => by rw [List.map_nil, PyData.depthAll]
  | a :: l => by rw [List.map_cons, PyData.depthAll, PyData.depth, depth_ints l]; rfl
theorem shaped_ints (l : List Int) : SeqAt.shaped (.list (l.map PyData.int)) = true := by
  unfold SeqAt.shaped
  rw [PyData.canLay0, canLay_ints, PyData.depth, depth_ints]
  rfl
theorem shaped_intsT (l : List Int) : SeqAt.shaped (.tuple (l.map PyData.int)) = true := by
  unfold SeqAt.shaped
  rw [PyData.canLay0, canLay_ints, PyData.depth, depth_ints]
  rfl
theorem dpAll_ints {K : PySem.W.Frag} {H : Hp} : ∀ l : List Int, DpAll K H (l.map V.int) (l.map PyData.int)
  | [] => .nil
  | a :: l => .cons (.int a) (dpAll_ints l)
theorem dp_lst {K : PySem.W.Frag} {H : Hp} {a : Addr} {l : List Int} (h : SqL K H a (l.map V.int)) : Dp K H (.ref a) (.list (l.map PyData.int)) := .lst h (dpAll_ints l)
theorem dp_tup {K : PySem.W.Frag} {H : Hp} {a : Addr} {l : List Int} (h : SqT K H a (l.map V.int)) : Dp K H (.ref a) (.tuple (l.map PyData.int)) := .tup h (dpAll_ints l)
theorem hu64 {k : Nat} {A : Around} (hr : Room k A) : A.units + 64 < cLine := by
  have := hr.un
  omega
theorem item_int {l : List Int} {i : Nat} {y : V} (h : (l.map V.int)[i]? = some y) : ∃ z : Int, y = .int z ∧ l[i]? = some z := by
  rw [List.getElem?_map] at h
  cases e : l[i]? with
  | none =>
    rw [e] at h
    cases h
  | some z =>
    rw [e] at h
    exact ⟨z, (Option.some.inj h).symm, rfl⟩
/-! set(xs) of a list of ints; the walk of the list, as for a tuple -/
/-- the empty set as it is made -/
def set0 (w : World) : Obj := { cls := .type "set", dict := none, data := .set #[] 0 (.fresh 0 0 (!w.params.followText "set-order")) }
open PySem.Calls in
theorem set_of_list {P : Program} {w : World} {A : Around} {E : Value → Shared → Prop} {s : Shared} {l : Addr} {items : Array Value} (ns : List Int) {Q : Value → Shared → Prop} (hh : A.handled = none)
    (hl : s.heap.IsList l items) (hit : IntsAre items.toList ns) (hb : ns.length + 1 < scanBound)
    (h : ∀ (h' : Heap) (tk c : Nat), SetR w h' s.heap.objs.size (fun j => decide (j ∈ ns)) c → c ≤ ns.length → (∀ b o, s.heap.get? b = some o → h'.get? b = some o) →
      Q (.ref s.heap.objs.size) { s with heap := h', toks := tk }) :
    wpAny (model P w) A (call (.type "set") [.ref l]) Q E s := by
  have size_eq : items.size = ns.length := by
    have z := IntsAre.length hit
    rwa [Array.length_toList] at z
  obtain ⟨c, tl, hmro⟩ := F.called_set.mro
  have made_set := F.called_set.made
  have sub_set := F.called_set.sub
  refine wpAny_call (codeAny_of_tree ?_)
  show wpAny _ _ (callAny (.type "set") _) _ _ _
  refine wpAny_pure ⟨Code.quiet_builtin _ (by decide +kernel), codeAny_builtin F.entry_type_call ?_⟩
  rw [Around.under_plain (weight_type_call_type "set" [.ref l] []) rfl]
  have not_type := F.called_set.notType
  have can_create := F.called_set.canCreate
  have type_call := F.typeCall_set_1 (.ref l)
  repeat (any_goals (first | assumption | wp_step))
  refine codeAny_mono (code_set_led1 (.ref l) (E := E) (Q₁ := fun obj st => obj = .ref s.heap.objs.size ∧ st = { s with heap := s.heap.push (set0 w) }) ⟨rfl, rfl⟩) fun r st hr => ?_
  cases r with
  | error e => exact hr
  | ok fl =>
    cases fl with
    | ret obj =>
      obtain ⟨rfl, rfl⟩ := hr
      have at_set : (s.heap.push (set0 w)).get? s.heap.objs.size = some (set0 w) := Heap.get?_push_size _ rfl
      have is_set : Shared.TypeIs { s with heap := s.heap.push (set0 w) } (.ref s.heap.objs.size) "set" := ⟨_, at_set, rfl⟩
      have init_look := F.called_set.init.lookup
      have init_bind := F.called_set.init.bind (.ref s.heap.objs.size)
      repeat (any_goals (first | assumption | wp_step))
      refine codeAny_mono (codeAny_call_builtin (R := wants (fun r t => r = .none ∧ ∃ h' tk c, t = { s with heap := h', toks := tk } ∧ SetR w h' s.heap.objs.size (fun j => decide (j ∈ ns)) c ∧
        c ≤ ns.length ∧ (∀ b o, s.heap.get? b = some o → h'.get? b = some o)) E) F.called_set.init.plain F.entry_set_init (check_set_init_1 is_set ?_)) fun r₂ s₂ hr₂ => ?_
      · obtain ⟨ol, hol, hcl, nl, hdl⟩ := hl
        obtain ⟨ocls, odict, odata, oslots⟩ := ol
        simp only at hcl hdl
        subst hcl
        subst hdl
        have hol' : (s.heap.push (set0 w)).get? l = some { cls := .type "list", dict := odict, data := .seq items nl, slots := oslots } := Heap.get?_push_of_some _ hol
        have no_set := F.sub_list_set
        have no_frozen := F.sub_list_frozenset
        have no_dict : (Value.type "list" == Value.type "dict") = false := by decide
        have list1 : (s.heap.push (set0 w)).IsList l items := ⟨_, hol', rfl, nl, rfl⟩
        unfold Builtin.«set.__init__» noKeywords Builtin.Frozenset.updateFrom
        generalize iter_is : pyIter = PI
        wp_walk
        subst iter_is
        refine wpAny_pyIter_list list1 ?_
        refine wpAny_bind (wpAny_runValue ?_)
        have l_old : l < s.heap.objs.size := Heap.lt_size hol
        have calm3 : A.in1.in1.in1.handled = none := by simp [hh]
        have next_is : (s.heap.push (set0 w)).objs.size = s.heap.objs.size + 1 := Heap.size_push ..
        have l_ne : l ≠ (s.heap.push (set0 w)).objs.size := by
          rw [next_is]
          exact Nat.ne_of_lt (Nat.lt_succ_of_lt l_old)
        have off : s.heap.objs.size ∉ [(s.heap.push (set0 w)).objs.size, l] := by
          rw [next_is]
          simp only [List.mem_cons, List.not_mem_nil, or_false, not_or]
          exact ⟨Nat.ne_of_lt (Nat.lt_succ_self _), Nat.ne_of_gt l_old⟩
        have vals : ∀ (i : Nat) (v : Value), items[i]? = some v → ∃ k t, ns[i]? = some k ∧ v = .int k t := fun i v hv => by
          have lt : i < ns.length := by
            rw [← size_eq]
            exact (Array.getElem?_eq_some_iff.mp hv).1
          obtain ⟨t, e⟩ := IntsAre.int_at hit i v (by rw [Array.getElem?_toList]; exact hv)
          refine ⟨ns[i], t, List.getElem?_eq_getElem lt, ?_⟩
          rw [e, List.getD_eq_getElem?_getD, List.getElem?_eq_getElem lt] <;> rfl
        refine set_update_ints ((Walks.list calm3 _ l l_ne items).toS) s.heap.objs.size off ns size_eq hb vals (items.size - 0) 0 _ (by omega) (Nat.zero_le _) ⟨⟨_, Heap.get?_push_size _ rfl, rfl, rfl⟩, (list1.push _)⟩ ?start ?done
        case start =>
          refine ⟨0, Nat.le_refl 0, setR_new_at ?_⟩
          exact Heap.get?_push_of_some _ at_set
        case done =>
          intro s' c' hm hc' hS'
          obtain ⟨h', g2, d', tk', os'⟩ := s'
          have eg : g2 = s.gens := hm.gens
          have ed : d' = s.drawn := hm.drawn
          have eo : os' = s.os := hm.os
          subst eg
          subst ed
          subst eo
          show wpAny _ _ _ _ _ _
          refine wpAny_pure ?_
          show wpAny _ _ (ret Value.none) _ _ _
          rw [size_eq] at hc'
          refine wpAny_pure ⟨rfl, h', tk', c', rfl, hS', hc', fun b o e => ?_⟩
          have old := Heap.lt_size e
          refine hm.heap b o ?_ (Heap.get?_push_of_some _ (Heap.get?_push_of_some _ e))
          rw [next_is]
          simp only [List.mem_cons, List.not_mem_nil, or_false, not_or]
          exact ⟨Nat.ne_of_lt old, Nat.ne_of_lt (Nat.lt_succ_of_lt old)⟩
      · cases r₂ with
        | error e => exact hr₂
        | ok fl₂ =>
          cases fl₂ with
          | ret r =>
            obtain ⟨rfl, h', tk, c', rfl, hS', hc', hk'⟩ := hr₂
            repeat (any_goals (first | assumption | wp_step))
            exact h _ _ _ hS' hc' hk'
          | _ => exact hr₂.elim
    | _ => exact hr.elim
/-- set(xs): xs a list or a tuple of ints -/
def rSetInts (K : PySem.W.Frag) (w : World) : List V → Hp → VK → Prop := fun xs H Q => ∃ (a : Addr) (ns : List Int), xs = [.ref a] ∧ (SqL K H a (ns.map V.int) ∨ SqT K H a (ns.map V.int)) ∧ ns.length ≤ 1000 ∧
  ∀ p c, H p = none → c ≤ ns.length → Q (.ref p) (upd H p (SetO w p (fun j => decide (j ∈ ns)) c))
theorem cr_setInts {X : Cx} (hc : X.calm = true) : CallR X (.type "set") (rSetInts X.K X.w) := by
  intro pins s σ H vs us Q I r h
  obtain ⟨a, ns, rfl, hq, hl, q⟩ := h
  cases r with
  | cons r1 r2 =>
    cases r2
    cases r1
    have few : ns.length + 1 < scanBound := by unfold scanBound; omega
    have fresh : H s.heap.objs.size = none := I.hok.fresh (Nat.le_refl _)
    have fin : ∀ (h' : Heap) (tk c : Nat), SetR X.w h' s.heap.objs.size (fun j => decide (j ∈ ns)) c → c ≤ ns.length → (∀ b o, s.heap.get? b = some o → h'.get? b = some o) →
        EP X pins σ Q (.ref s.heap.objs.size) { s with heap := h', toks := tk } := fun h' tk c hS hle keep =>
      ⟨.ref s.heap.objs.size, upd H s.heap.objs.size (SetO X.w s.heap.objs.size (fun j => decide (j ∈ ns)) c), I.laid (t' := tk) keep (Nat.le_refl _) (setO_new hS), rfl, q _ _ fresh hle⟩
    rcases hq with hq | hq
    · obtain ⟨its, r, pl, hz⟩ := I.list hq
      exact set_of_list ns (I.ok.hd hc) pl.isList (by simpa using RZ.intsAre_vals r) few fin
    · obtain ⟨its, r, pl, hz⟩ := I.tuple hq
      exact call_set_tupI ns (I.ok.hd hc) pl (by simpa using RZ.intsAre_vals r) few fin
/-! operators of an own class -/
/-- a method of the class at C, by its promise -/
structure Me (P : Program) (w : World) (K : PySem.W.Frag) (mg : Str → Option Value) (base : Heap) (k : Nat) (C : Addr) (m : Str) (sp : Sp) : Prop where
  ex : ∃ (f : Addr) (fd : FuncData) (ps : List Str), Meth K C m f ∧ FnOk P w K mg base CX0 k f fd ps sp ∧ Binds K fd ps []
section
variable {X : Cx} {C : Addr} {m : Str} {sp : Sp} {k j : Nat}
theorem inst_of {pins : List (Addr × Obj)} {σ : L2.St} {H : Hp} {s : Shared} {a dx : Addr} {fs : List (Str × V)} (I : Inv X pins σ H s) (e : H a = some (.ins C dx fs)) : ∃ ox od, PySem.W.InstAt s.heap a ox C od := by
  obtain ⟨mA, O, _⟩ := ins_get I.hok e
  obtain ⟨od, J, _⟩ := O.look
  exact ⟨_, _, J⟩
/-- x op y of two instances -/
def rOwn2 (C : Addr) (sp : Sp) : R2 := fun x y H Q => ∃ a b dx dy fs gs, x = .ref a ∧ y = .ref b ∧ H a = some (.ins C dx fs) ∧ H b = some (.ins C dy gs) ∧ sp [x, y] H Q E0
theorem op_own2 {op : Operator} (c : Me X.prog X.w X.K X.mg X.base k C m sp) (hr : Room j X.A) (sf : PySem.W.selfFirst X.K C = true) (hm : PySem.dunder op.info.2 = m := by decide +kernel) (hk : k ≤ j := by decide) : OpR X (binaryOp op) (rOwn2 C sp) := by
  obtain ⟨f, fd, ps, M, F, b⟩ := c.ex
  intro pins s σ H x y v u Q I rx ry h
  obtain ⟨a, b', dx, dy, fs, gs, rfl, rfl, ha, hb, q⟩ := h
  cases (show v = Value.ref a from rx)
  cases (show u = Value.ref b' from ry)
  obtain ⟨ox, od, J⟩ := inst_of I ha
  obtain ⟨oy, od', J'⟩ := inst_of I hb
  obtain ⟨mm, hF⟩ := I.fr
  refine PySem.W.binop_K hF I.ok.mod.kin J J'.type sf (by rw [hm]; exact M.at_) M.fn ?_
  refine wpAny_mono (run_fn (us := [.ref a, .ref b']) (vs := [.ref a, .ref b']) F (hr.mono hk) b .nil pass0 I (.cons rfl (.cons rfl .nil)) q) (fun u' s' z => ?_) fun _ _ x => x
  obtain ⟨z', H', I', rz, qz⟩ := z
  exact SlX.cmpback rz ⟨z', H', I', rz, qz⟩
/-- op x of an instance -/
def rOwn1 (C : Addr) (sp : Sp) : V → Hp → VK → Prop := fun x H Q => ∃ a dx fs, x = .ref a ∧ H a = some (.ins C dx fs) ∧ sp [x] H Q E0
theorem un_inv1 (c : Me X.prog X.w X.K X.mg X.base k C "__invert__" sp) (hr : Room j X.A) (hk : k ≤ j := by decide) : UnR X (unaryOp .Invert) (rOwn1 C sp) := by
  obtain ⟨f, fd, ps, M, F, b⟩ := c.ex
  intro pins s σ H x v Q I rx h
  obtain ⟨a, dx, fs, rfl, ha, q⟩ := h
  cases (show v = Value.ref a from rx)
  obtain ⟨ox, od, J⟩ := inst_of I ha
  obtain ⟨mm, hF⟩ := I.fr
  exact PySem.W.ksp_inv hF I.ok.mod.kin J M.at_ M.fn (run_fn (us := [.ref a]) (vs := [.ref a]) F (hr.mono hk) b .nil pass0 I (.cons rfl .nil) q)
theorem un_neg1 (c : Me X.prog X.w X.K X.mg X.base k C "__neg__" sp) (hr : Room j X.A) (hk : k ≤ j := by decide) : UnR X (unaryOp .USub) (rOwn1 C sp) := by
  obtain ⟨f, fd, ps, M, F, b⟩ := c.ex
  intro pins s σ H x v Q I rx h
  obtain ⟨a, dx, fs, rfl, ha, q⟩ := h
  cases (show v = Value.ref a from rx)
  obtain ⟨ox, od, J⟩ := inst_of I ha
  obtain ⟨mm, hF⟩ := I.fr
  exact PySem.W.ksp_neg hF I.ok.mod.kin J M.at_ M.fn (run_fn (us := [.ref a]) (vs := [.ref a]) F (hr.mono hk) b .nil pass0 I (.cons rfl .nil) q)
/-- x in y, y an instance: the answer a bool -/
def rOwnIn (neg : Bool) (C : Addr) (sp : Sp) : R2 := fun x y H Q => ∃ b dx fs, y = .ref b ∧ H b = some (.ins C dx fs) ∧ sp [y, x] H (fun v H' => ∃ c : Bool, v = .bl c ∧ Q (.bl (if neg then !c else c)) H') E0
theorem op_in_own (c : Me X.prog X.w X.K X.mg X.base k C "__contains__" sp) (hr : Room j X.A) (hk : k ≤ j := by decide) : OpR X (compareOp .In) (rOwnIn false C sp) := by
  obtain ⟨f, fd, ps, M, F, b⟩ := c.ex
  intro pins s σ H x y v u Q I rx ry h
  obtain ⟨a, dx, fs, rfl, ha, q⟩ := h
  cases (show u = Value.ref a from ry)
  obtain ⟨ox, od, J⟩ := inst_of I ha
  obtain ⟨mm, hF⟩ := I.fr
  refine PySem.W.in_K hF I.ok.mod.kin J M.at_ M.fn (wpAny_mono (run_fn (us := [.ref a, v]) (vs := [.ref a, x]) F (hr.mono hk) b .nil pass0 I (.cons rfl (.cons rx .nil)) q) (fun u' s' z => ?_) fun _ _ x => x)
  obtain ⟨z', H', I', rz, d, ez, qz⟩ := z
  subst ez
  cases (show u' = Value.bool d from rz)
  exact wpAny_truthy_bool ⟨.bl d, H', I', rfl, qz⟩
theorem op_notIn_own (c : Me X.prog X.w X.K X.mg X.base k C "__contains__" sp) (hr : Room j X.A) (hk : k ≤ j := by decide) : OpR X (compareOp .NotIn) (rOwnIn true C sp) := by
  obtain ⟨f, fd, ps, M, F, b⟩ := c.ex
  intro pins s σ H x y v u Q I rx ry h
  obtain ⟨a, dx, fs, rfl, ha, q⟩ := h
  cases (show u = Value.ref a from ry)
  obtain ⟨ox, od, J⟩ := inst_of I ha
  obtain ⟨mm, hF⟩ := I.fr
  refine PySem.W.notIn_K hF I.ok.mod.kin J M.at_ M.fn (wpAny_mono (run_fn (us := [.ref a, v]) (vs := [.ref a, x]) F (hr.mono hk) b .nil pass0 I (.cons rfl (.cons rx .nil)) q) (fun u' s' z => ?_) fun _ _ x => x)
  obtain ⟨z', H', I', rz, d, ez, qz⟩ := z
  subst ez
  cases (show u' = Value.bool d from rz)
  exact wpAny_truthy_bool ⟨.bl (!d), H', I', rfl, qz⟩
/-- x == y of two instances -/
theorem op_eq_own (c : Me X.prog X.w X.K X.mg X.base k C "__eq__" sp) (hr : Room j X.A) (hk : k ≤ j := by decide) : OpR X (compareOp .Eq) (rOwn2 C sp) := by
  obtain ⟨f, fd, ps, M, F, b⟩ := c.ex
  intro pins s σ H x y v u Q I rx ry h
  obtain ⟨a, b', dx, dy, fs, gs, rfl, rfl, ha, hb, q⟩ := h
  cases (show v = Value.ref a from rx)
  cases (show u = Value.ref b' from ry)
  obtain ⟨ox, od, J⟩ := inst_of I ha
  obtain ⟨oy, od', J'⟩ := inst_of I hb
  obtain ⟨mm, hF⟩ := I.fr
  show wpAny _ _ (richCompare .Eq (.ref a) (.ref b')) _ _ _
  refine PySem.W.cmp_K (op := .Eq) (tb := .ref C) hr.units0 hF I.ok.mod.kin J J'.type (by unfold PySem.W.notFirst; simp) M.at_ M.fn ?_
  refine wpAny_mono (run_fn (us := [.ref a, .ref b']) (vs := [.ref a, .ref b']) F (hr.mono hk) b .nil pass0 I (.cons rfl (.cons rfl .nil)) q) (fun u' s' z => ?_) fun _ _ x => x
  obtain ⟨z', H', I', rz, qz⟩ := z
  exact SlX.cmpback rz ⟨z', H', I', rz, qz⟩
/-- the truth of an instance, by its __bool__ -/
def rTruOwn (C : Addr) (sp : Sp) : V → Hp → (Bool → Hp → Prop) → Prop := fun x H Q => ∃ a dx fs, x = .ref a ∧ H a = some (.ins C dx fs) ∧ sp [x] H (fun v H' => ∃ c : Bool, v = .bl c ∧ Q c H') E0
theorem tru_own (c : Me X.prog X.w X.K X.mg X.base k C "__bool__" sp) (hr : Room j X.A) (hk : k ≤ j := by decide) : TruR X (rTruOwn C sp) := by
  obtain ⟨f, fd, ps, M, F, b⟩ := c.ex
  intro pins s σ H x v Q I rx h
  obtain ⟨a, dx, fs, rfl, ha, q⟩ := h
  cases (show v = Value.ref a from rx)
  obtain ⟨ox, od, J⟩ := inst_of I ha
  obtain ⟨mm, hF⟩ := I.fr
  refine PySem.W.truthy_K hF I.ok.mod.kin J M.at_ M.fn (wpAny_mono (run_fn (us := [.ref a]) (vs := [.ref a]) F (hr.mono hk) b .nil pass0 I (.cons rfl .nil) q) (fun u' s' z => ?_) fun _ _ x => x)
  obtain ⟨z', H', I', rz, d, ez, qz⟩ := z
  subst ez
  cases (show u' = Value.bool d from rz)
  exact ⟨H', I', qz⟩
end
/-- a class that makes instances, its __init__ by its promise (it may raise, and here doesn't) -/
structure Ma (P : Program) (w : World) (K : PySem.W.Frag) (mg : Str → Option Value) (base : Heap) (k : Nat) (C : Addr) (sp : Sp) : Prop where
  ex : ∃ (f : Addr) (fd : FuncData) (ps : List Str), Mk K C f ∧ FnOk P w K mg base (L2N.CX P w) k f fd ps sp ∧ Binds K fd ps []
section
variable {X : Cx} {C : Addr} {x : Str} {sp : Sp} {k j i : Nat} {p pos : Pos} {e : Expr} {es : List Expr} {t : TA}
theorem pe_ma (c : Ma X.prog X.w X.K X.mg X.base k C sp) (hr : Room j X.A) (hm : X.mg x = some (.ref C)) (ha : PA X (e :: es) t) (hk : k + 1 ≤ j := by decide) (hg : Gl X x := by rfl)
    (hdb : (x == ("__debug__" : Str)) = false := by decide) (he : starEach (e :: es) X.env = (false, eval e X.env) :: starEach es X.env := by rfl) (hpl : (backTo pos (starEach es X.env)).any (·.1) = false := by rfl) :
    PE X (.Call (.Name x p) (e :: es) [] pos) (tMake C sp [] E0 t) := by
  obtain ⟨f, fd, ps, M, F, b⟩ := c.ex
  exact pe_make M F (hr.mono hk) hg hm b .nil passN ha hdb he hpl
/-- cls(..), cls a parameter that holds the class -/
def tMakeL (i : Nat) (C : Addr) (sp : Sp) (t : TA) : TE := fun σ H Q => σ[i]? = some (some (.ref C)) ∧ tMake C sp [] E0 t σ H Q
theorem pe_maL (c : Ma X.prog X.w X.K X.mg X.base k C sp) (hr : Room j X.A) (hN : X.N[i]? = some x) (ha : PA X (e :: es) t) (hk : k + 1 ≤ j := by decide)
    (hv : Vis X.env.scope x := by first | exact Or.inl rfl | exact Or.inr (Or.inl rfl) | exact Or.inr (Or.inr rfl))
    (hdb : (x == ("__debug__" : Str)) = false := by decide) (hcd : (x == ("__classdict__" : Str)) = false := by decide)
    (he : starEach (e :: es) X.env = (false, eval e X.env) :: starEach es X.env := by rfl) (hpl : (backTo pos (starEach es X.env)).any (·.1) = false := by rfl) :
    PE X (.Call (.Name x p) (e :: es) [] pos) (tMakeL i C sp t) := by
  obtain ⟨f, fd, ps, M, F, b⟩ := c.ex
  refine ⟨fun pins s σ H Q I h => ?_⟩
  obtain ⟨at_i, rest⟩ := h
  refine wpAny_Call_Name_kw (thn ((pe_var (pos := p) hN hv hdb hcd).run pins s σ H (fun v G => v = .ref C ∧ G = H) I ⟨.ref C, at_i, rfl, rfl⟩) fun u s1 ⟨v, G, I1, r1, e1, e2⟩ => ?_)
  subst e1
  subst e2
  cases r1
  refine PySem.W.callWith_K (h₀ := X.base) I.ok.mod.kin M.kp (thn (ha.run pos pins s1 σ _ _ I1 rest) fun us s2 ⟨vs, G2, I2, r, q⟩ => ⟨I2.kIn, ?_⟩) he hpl
  exact run_make M F (hr.mono hk) b .nil passN I2 r q
end
/-- a call of a classmethod without arguments -/
structure Cm (P : Program) (w : World) (K : PySem.W.Frag) (mg : Str → Option Value) (base : Heap) (k : Nat) (C : Addr) (m : Str) (sp : Sp) : Prop where
  ex : ∃ (mc : Value) (p g : Addr) (fd : FuncData) (ps : List Str), ClX.CRead K C mc ∧ ClX.CMet K C mc m p g ∧ FnOk P w K mg base CX0 k g fd ps sp ∧ Binds K fd ps []
theorem fnR_of {P : Program} {w : World} {K : PySem.W.Frag} {mg : Str → Option Value} {base : Heap} {CX : CXT} {k : Nat} {f : Addr} {fd : FuncData} {ps : List Str} {sp : Sp} (F : FnOk P w K mg base CX k f fd ps sp) (b : Binds K fd ps []) : FnR P w K mg base CX k f sp :=
  fun A outer s H us vs Q E hr e0 r h => by
    have hl : us.length = ps.length := by
      rw [← r.length]
      exact F.len _ _ _ _ h
    have z := b s us (e0.mod.kin.keeps fun b o e => (e0.bs b o e).1) (by rw [List.append_nil]; exact hl)
    rw [List.append_nil] at z
    exact F.run A outer s H ⟨us, []⟩ us vs Q E hr e0 z r h
theorem pe_cm {X : Cx} {C : Addr} {m : Str} {sp : Sp} {k j : Nat} {o e : Expr} {es : List Expr} {ta : TE} {t : TA} {apos pos : Pos} {pl : Sem Bool} (c : Cm X.prog X.w X.K X.mg X.base k C m sp) (hr : Room j X.A) (he : PE X o ta) (ha : PA X (e :: es) t) (hk : k ≤ j := by decide)
    (hst : starEach (e :: es) X.env = (false, eval e X.env) :: starEach es X.env := by rfl) (hpl : (backTo pos (starEach es X.env)).any (·.1) = false := by rfl)
    (ht : eval (.Call (.Attribute o m apos) (e :: es) [] pos) X.env = (do
      let got ← eval o X.env
      standAt apos.atName
      let (fn, fst) ← holding [got] (getMethod got m pl)
      callWith pos fn fst (backTo pos (starEach (e :: es) X.env)) (backToKw pos (keywordEach [] X.env))) := by rfl) :
    PE X (.Call (.Attribute o m apos) (e :: es) [] pos) (ClX.tCMeth C sp E0 ta t) := by
  obtain ⟨mc, p, g, fd, ps, r, c, F, b⟩ := c.ex
  exact ClX.pe_cmeth he r c (fnR_of F b) (hr.mono hk) pass0 ha hst hpl ht
theorem pe_cm0 {X : Cx} {C : Addr} {m : Str} {sp : Sp} {k j : Nat} {o : Expr} {ta : TE} {apos pos : Pos} {pl : Sem Bool} (c : Cm X.prog X.w X.K X.mg X.base k C m sp) (hr : Room j X.A) (he : PE X o ta) (hk : k ≤ j := by decide)
    (ht : eval (.Call (.Attribute o m apos) [] [] pos) X.env = (do
      let got ← eval o X.env
      standAt apos.atName
      let (fn, fst) ← holding [got] (getMethod got m pl)
      callWith pos fn fst (backTo pos (starEach [] X.env)) (backToKw pos (keywordEach [] X.env))) := by rfl) :
    PE X (.Call (.Attribute o m apos) [] [] pos) (ClX.tCMeth C sp E0 ta tNil) := by
  obtain ⟨mc, p, g, fd, ps, r, c, F, b⟩ := c.ex
  refine ⟨fun pins s σ H Q I h => ?_⟩
  refine PySem.W.methodCall_KW (pl := pl) (thn (he.run pins s σ H _ I h) fun u s1 ⟨x, H1, I1, rx, ex, q⟩ => ?_) ht
  subst ex
  obtain rfl : u = Value.ref C := rx
  have notin : X.base.get? s1.heap.objs.size = none := by
    cases z : X.base.get? s1.heap.objs.size with
    | none => rfl
    | some o => exact absurd (Heap.lt_size (I1.bk _ o z)) (Nat.lt_irrefl _)
  refine ClX.getmethcm_ok I1 r c fun s2 I2 => ?_
  have hq := ClX.pin_at I2
  have hL : s1.heap.objs.size ≠ X.env.locals := (I2.pin (s1.heap.objs.size, PySem.W.methodObj (.ref g) (.ref C)) (List.mem_append_right _ List.mem_cons_self)).2.2.1
  show wpAny _ _ (callWith pos (Value.ref s1.heap.objs.size) [] (backTo pos (starEach [] X.env)) []) _ _ _
  refine PySem.W.callWith_M0 (K := X.K) (g := g) (self := .ref C) ?_ c.fi ?_
  · exact ⟨hq, I2.kIn⟩
  · have z := ClX.run_cm (us := []) (vs := []) (fnR_of F b) (hr.mono hk) pass0 I2 .nil q
    exact z
open PySem.Sem (wp) in
theorem meets_bool_tup (l : Addr) (items : Array Value) (fit : (items.size : Int) < 2 ^ 63) :
    Meets (Builtin.«bool.__new__» ⟨[.type "bool", .ref l], []⟩) (fun _ R s => IsTup s.heap l items ∧ R (.ok (.ret (.bool (!items.isEmpty)))) { s with toks := s.toks + 1 + 1 }) :=
  Meets.of_wp fun prog w A R s hs => by
    obtain ⟨hl, hs⟩ := hs
    obtain ⟨hp, g, d, tk, os⟩ := s
    have no_bool := F.conv_sub_bool
    repeat (any_goals (first | assumption | (with_reducible refine truthy_tuple hl fit ?_) | wp_step))
    all_goals first | exact ⟨_, rfl, hs⟩ | exact hs | skip
/-- bool(x): a bool, or a tuple -/
def rBoolT (K : PySem.W.Frag) : List V → Hp → VK → Prop := fun xs H Q => (∃ k, xs = [.bl k] ∧ Q (.bl k) H) ∨ ∃ (a : Addr) (zs : List V), xs = [.ref a] ∧ SqT K H a zs ∧ Q (.bl (!zs.isEmpty)) H
theorem cr_boolT {X : Cx} : CallR X (.type "bool") (rBoolT X.K) := by
  intro pins s σ H xs us Q I r h
  rcases h with ⟨k, rfl, q⟩ | ⟨a, zs, rfl, hq, q⟩
  · exact call_bool1 pins s σ H _ us Q I r (.inr ⟨k, rfl, q⟩)
  · obtain rfl := Vals.ref1 r
    obtain ⟨its, rv, pl, hz⟩ := I.tuple hq
    have hl := line63
    have hlen := rv.length
    have e : its.toArray.isEmpty = zs.isEmpty := by
      cases zs with
      | nil =>
        cases rv
        rfl
      | cons z zs =>
        cases rv
        rfl
    refine call_bool_1 (meets_bool_tup a its.toArray (by simp only [List.size_toArray]; omega)) ⟨pl, rfl, ?_⟩
    exact ⟨.bl (!zs.isEmpty), H, I.tok _, by rw [e]; rfl, q⟩
theorem chE : ¬ (("endless" : Str) = "primes") := by decide +kernel
/-- the attributes, in the order in which __init__ stores them -/
def chF (e : Bool) (t : Addr) : List (Str × V) := putF "primes" (.ref t) (putF "endless" (.bl e) [])
theorem chF_e (e : Bool) (t : Addr) : (chF e t).lookup ("endless" : Str) = some (.bl e) := by
  unfold chF
  rw [lookup_putF, if_neg chE, lookup_putF, if_pos rfl]
theorem chF_p (e : Bool) (t : Addr) : (chF e t).lookup ("primes" : Str) = some (.ref t) := by
  unfold chF
  rw [lookup_putF, if_pos rfl]
theorem chF_no (e : Bool) (t : Addr) {m : Str} (h1 : ¬ m = "primes") (h2 : ¬ m = "endless") : (chF e t).lookup m = none := by
  unfold chF
  rw [lookup_putF, if_neg h1, lookup_putF, if_neg h2]
  all_goals rfl
/-- a set of characteristics stands at a -/
structure CharsAt (C : Addr) (H : Hp) (a : Addr) (e : Bool) (l : List Int) : Prop where
  ob : ∃ dx t, H a = some (.ins C dx (chF e t)) ∧ H t = some (.tup (l.map V.int))
  srt : l.Pairwise (· < ·)
  prm : ∀ q ∈ l, Pr q ∧ q < 2 ^ 62
theorem CharsAt.same {C : Addr} {H H' : Hp} {a : Addr} {e : Bool} {l : List Int} (h : CharsAt C H a e l) (s : Same H H') : CharsAt C H' a e l := by
  obtain ⟨dx, t, h1, h2⟩ := h.ob
  exact ⟨⟨dx, t, s _ _ h1, s _ _ h2⟩, h.srt, h.prm⟩
/-- is p in the set -/
def memB (e : Bool) (l : List Int) (p : Int) : Bool := if e = true then !decide (p ∈ l) else decide (p ∈ l)
/-- what is told of the class -/
structure ChT (K : PySem.W.Frag) (mg : Str → Option Value) (C : Addr) : Prop where
  g : mg "Chars" = some (.ref C)
  cl : Cls K C
  nE : NoAttr K C "endless"
  nP : NoAttr K C "primes"
  sf : PySem.W.selfFirst K C = true
  isC : C8.InsC K C
abbrev s_cinit : Stmt := inClass (top 14) 0
theorem sc_cinit : FnScope ["self", "endless", "primes", "p"] ["self", "endless", "primes"] (defScope s_cinit) := ⟨rfl, rfl, rfl, by decide +kernel, rfl, by decide +kernel, by decide +kernel⟩
def spCI (C CB : Addr) (tup : Bool) (K : PySem.W.Frag) : Sp := fun vs H Q E => ∃ (x dx a : Addr) (e : Bool) (ns : List Int), vs = [.ref x, .bl e, .ref a] ∧ H x = some (.ins C dx []) ∧ (if tup = true then SqT K H a (ns.map V.int) else SqL K H a (ns.map V.int)) ∧
  (∀ q ∈ ns, q < 2 ^ 62) ∧ ns.length < 64 ∧
  ((∀ q ∈ ns, Pr q) → ∀ (l : List Int) (H' : Hp), (∀ q, q ∈ l ↔ q ∈ ns) → l.length ≤ ns.length → CharsAt C H' x e l → (∀ b o, H b = some o → b ≠ x → H' b = some o) → Q .non H') ∧
  (∀ (i : Nat) (b : Int), ns[i]? = some b → ¬ Pr b → (∀ (j : Nat) (q : Int), j < i → ns[j]? = some q → Pr q) → ∀ d H', Same H H' → H' d = some (.xd [("p", .int b)]) → E (.ref CB) (some d) H')
theorem cinit_end {C CB : Addr} {mg : Str → Option Value} {K : PySem.W.Frag} (T : ChT K mg C) {H : Hp} {x dx a : Addr} {e : Bool} {ns : List Int} {Q : VK} {y3 : Option V} (hx : H x = some (.ins C dx [])) (hS : SqL K H a (ns.map V.int) ∨ SqT K H a (ns.map V.int)) (few : ns.length < 64) (hp : ∀ q ∈ ns, Pr q ∧ q < 2 ^ 62)
    (q : ∀ (l : List Int) (H' : Hp), (∀ q, q ∈ l ↔ q ∈ ns) → l.length ≤ ns.length → CharsAt C H' x e l → (∀ b o, H b = some o → b ≠ x → H' b = some o) → Q .non H') :
    tSeq (sFld K (tVar 0) (tVar 1) "endless") (sFld K (tVar 0) (tThen (tCB (rSortedSet w) (tCons (tCB (rSetInts K w) (tCons (tVar 2) tNil)) tNil)) (kTup K)) "primes") { nx := fun _ H' => Q .non H', rt := Q } [some (.ref x), some (.bl e), some (.ref a), y3] H := by
  have hxa : x ≠ a ∨ True := .inr trivial
  refine ⟨_, rfl, _, rfl, x, C, dx, [], rfl, hx, T.cl, T.nE, (by show 0 < 1000; decide), ?_⟩
  have hS1 : SqL K (upd H x (.ins C dx (putF "endless" (.bl e) []))) a (ns.map V.int) ∨ SqT K (upd H x (.ins C dx (putF "endless" (.bl e) []))) a (ns.map V.int) := by
    rcases hS with h | h
    · refine .inl ?_
      rcases h with h | h
      · rcases h with h | ⟨o, h⟩
        · exact .inl (.inl (by rw [upd_ne (fun z => by rw [z, hx] at h; cases h)]; exact h))
        · exact .inl (.inr ⟨o, by rw [upd_ne (fun z => by rw [z, hx] at h; cases h)]; exact h⟩)
      · exact .inr h
    · refine .inr ?_
      rcases h with h | h
      · rcases h with h | ⟨o, h⟩
        · exact .inl (.inl (by rw [upd_ne (fun z => by rw [z, hx] at h; cases h)]; exact h))
        · exact .inl (.inr ⟨o, by rw [upd_ne (fun z => by rw [z, hx] at h; cases h)]; exact h⟩)
      · exact .inr h
  refine ⟨_, rfl, a, ns, rfl, hS1, (by omega), fun p c np hc => ?_⟩
  refine ⟨p, _, c, rfl, upd_same, (by omega), fun l p2 srt mem len np2 => ?_⟩
  have npx : p ≠ x := fun z => by
    rw [z, upd_same] at np
    cases np
  refine .inl ⟨p2, _, rfl, SqL.of upd_same, fun t nt => ?_⟩
  have g1 := same_upd (o := SetO w p (fun j => decide (j ∈ ns)) c) np
  have g2 := same_upd (o := .lst (l.map V.int)) np2
  have g3 := same_upd (o := .tup (l.map V.int)) nt
  have hx3 := g3 _ _ (g2 _ _ (g1 _ _ (upd_same (H := H) (a := x) (o := .ins C dx (putF "endless" (.bl e) [])))))
  refine ⟨_, rfl, x, C, dx, _, rfl, hx3, T.cl, T.nP, (by show 1 < 1000; decide), ?_⟩
  have ntx : t ≠ x := fun z => by
    rw [z] at nt
    rw [g2 _ _ (g1 _ _ (upd_same (H := H) (a := x) (o := .ins C dx (putF "endless" (.bl e) []))))] at nt
    cases nt
  refine q l _ (fun z => by rw [mem z]; exact decide_eq_true_iff) (by omega) ⟨⟨dx, t, upd_same, by rw [upd_ne ntx]; exact upd_same⟩, srt, fun z hz => hp z (of_decide_eq_true ((mem z).mp hz))⟩ fun b o hb hbx => ?_
  rw [upd_ne hbx]
  refine g3 _ _ (g2 _ _ (g1 _ _ ?_))
  rw [upd_ne hbx]
  exact hb
theorem ok_cinit {f C CB : Addr} {fd : FuncData} (tup : Bool) (TT : Txt mg) (T : ChT K mg C) (F : Fun K "__init__" "Chars.__init__" s_cinit f fd) (c_prime : Cl P w K mg base CX0 2 "is_prime" spPrime) (x_bc : Er P w K mg base "BadCharacteristic" "p" CB) : FnOk P w K mg base (L2N.CX P w) 3 f fd ["self", "endless", "primes"] (spCI C CB tup K) := by
  refine okN F sc_cinit (fun vs H Q E h => ?_) (fun cdv A outer s H vs Q E hr h => ?_)
  · obtain ⟨x, dx, a, e, ns, rfl, _⟩ := h
    rfl
  · obtain ⟨x, dx, a, e, ns, rfl, hx, hS, hb, few, q, qe⟩ := h
    have turn : ∀ (i : Nat) (y : V), (ns.map V.int)[i]? = some y → ∃ z : Int, y = .int z ∧ ns[i]? = some z ∧ z < 2 ^ 62 := fun i y hi => by
      rw [List.getElem?_map] at hi
      cases e : ns[i]? with
      | none =>
        rw [e] at hi
        cases hi
      | some z =>
        rw [e] at hi
        exact ⟨z, (Option.some.inj hi).symm, rfl, hb z (List.mem_of_getElem? e)⟩
    have all : (∀ (j : Nat) (q : Int), j < (ns.map V.int).length → ns[j]? = some q → Pr q) → ∀ q ∈ ns, Pr q := fun h q hq => by
      obtain ⟨j, hj⟩ := List.mem_iff_getElem?.mp hq
      exact h j q (by rw [List.length_map]; exact (List.getElem?_eq_some_iff.mp hj).1) hj
    cases tup with
    | false =>
      refine ⟨_, (pss_cons (ps_for (passes_of rfl) rfl (pi_list (pv 2)) (pg_name (i := 3) sc_cinit.nd rfl (Or.inl rfl)) (pss_one (ps_if (pt_not (pt_val (pe_cl c_prime hr (pa_cons (pv 3) pa_nil)))) (pss_one (ps_raise1N x_bc hr (L2N.takes_of rfl rfl rfl rfl) (pa_cons (pv 3) pa_nil))) pss_nil)))
 (pss_cons (ps_fld (pv 0) (pv 1) rfl)
 (pss_one (ps_fld (pv 0) (pe_tupleOf (by rfl) TT.tuple (pe_callB (cr_sortedSet rfl) (by rfl) TT.sorted boot_sorted (pa_cons (pe_callTy (cr_setInts rfl) (by rfl) TT.set boot_set (pa_cons (pv 2) pa_nil)) pa_nil))) rfl)))), ?_⟩
      have hS' : SqL K H a (ns.map V.int) := hS
      refine ⟨_, rfl, a, rfl, ⟨_, hS'⟩, for_list (K := K) (a := a) (xs := ns.map V.int) (fun i σ H' => H' = H ∧ (∃ y3, σ = [some (.ref x), some (.bl e), some (.ref a), y3]) ∧ ∀ (j : Nat) (q : Int), j < i → ns[j]? = some q → Pr q)
        ⟨rfl, ⟨none, rfl⟩, fun j q hj => absurd hj (Nat.not_lt_zero j)⟩ (fun i σ H' _ h => by rw [h.1]; exact hS') ?_ ?_⟩
      · rintro i y σ _ hi ⟨rfl, ⟨y3, rfl⟩, hp⟩
        obtain ⟨z, rfl, hz, hzb⟩ := turn i y hi
        refine ⟨_, rfl, z, rfl, hzb, _, rfl, ?_⟩
        by_cases c : Pr z
        · refine if_neg_of (by rw [prB_true c]; rfl) ?_
          refine ⟨rfl, ⟨_, rfl⟩, fun j q hj hq => ?_⟩
          by_cases ej : j = i
          · rw [ej, hz] at hq
            rw [← Option.some.inj hq]
            exact c
          · exact hp j q (by omega) hq
        · refine if_pos_of (by rw [prB_false c]; rfl) ?_
          refine ⟨_, rfl, ?_⟩
          exact mk1 fun d H2 s _ hd => qe i z hz c hp d H2 s hd
      · rintro σ _ ⟨rfl, ⟨y3, rfl⟩, hp⟩
        exact cinit_end (w := w) (CB := CB) T hx (.inl hS') few (fun z hz => ⟨all hp z hz, hb z hz⟩) (q (all hp))
    | true =>
      refine ⟨_, (pss_cons (ps_for (passes_of rfl) rfl (pi_tup (pv 2)) (pg_name (i := 3) sc_cinit.nd rfl (Or.inl rfl)) (pss_one (ps_if (pt_not (pt_val (pe_cl c_prime hr (pa_cons (pv 3) pa_nil)))) (pss_one (ps_raise1N x_bc hr (L2N.takes_of rfl rfl rfl rfl) (pa_cons (pv 3) pa_nil))) pss_nil)))
 (pss_cons (ps_fld (pv 0) (pv 1) rfl)
 (pss_one (ps_fld (pv 0) (pe_tupleOf (by rfl) TT.tuple (pe_callB (cr_sortedSet rfl) (by rfl) TT.sorted boot_sorted (pa_cons (pe_callTy (cr_setInts rfl) (by rfl) TT.set boot_set (pa_cons (pv 2) pa_nil)) pa_nil))) rfl)))), ?_⟩
      have hS' : SqT K H a (ns.map V.int) := hS
      refine ⟨_, rfl, a, rfl, ⟨_, hS'⟩, for_tup (K := K) (a := a) (xs := ns.map V.int) (fun i σ H' => H' = H ∧ (∃ y3, σ = [some (.ref x), some (.bl e), some (.ref a), y3]) ∧ ∀ (j : Nat) (q : Int), j < i → ns[j]? = some q → Pr q)
        ⟨rfl, ⟨none, rfl⟩, fun j q hj => absurd hj (Nat.not_lt_zero j)⟩ (fun i σ H' _ h => by rw [h.1]; exact hS') ?_ ?_⟩
      · rintro i y σ _ hi ⟨rfl, ⟨y3, rfl⟩, hp⟩
        obtain ⟨z, rfl, hz, hzb⟩ := turn i y hi
        refine ⟨_, rfl, z, rfl, hzb, _, rfl, ?_⟩
        by_cases c : Pr z
        · refine if_neg_of (by rw [prB_true c]; rfl) ?_
          refine ⟨rfl, ⟨_, rfl⟩, fun j q hj hq => ?_⟩
          by_cases ej : j = i
          · rw [ej, hz] at hq
            rw [← Option.some.inj hq]
            exact c
          · exact hp j q (by omega) hq
        · refine if_pos_of (by rw [prB_false c]; rfl) ?_
          refine ⟨_, rfl, ?_⟩
          exact mk1 fun d H2 s _ hd => qe i z hz c hp d H2 s hd
      · rintro σ _ ⟨rfl, ⟨y3, rfl⟩, hp⟩
        exact cinit_end (w := w) (CB := CB) T hx (.inr hS') few (fun z hz => ⟨all hp z hz, hb z hz⟩) (q (all hp))
theorem make_ch {C CB : Addr} {tup : Bool} {H1 : Hp} {e : Bool} {a : Addr} {ns : List Int} {Q : VK} (hS : if tup = true then SqT K H1 a (ns.map V.int) else SqL K H1 a (ns.map V.int)) (hp : ∀ q ∈ ns, Pr q ∧ q < 2 ^ 62) (few : ns.length < 64)
    (k : ∀ (r : Addr) (l : List Int) (H2 : Hp), (∀ q, q ∈ l ↔ q ∈ ns) → l.length ≤ ns.length → CharsAt C H2 r e l → Same H1 H2 → Q (.ref r) H2) :
    ∀ x dx, H1 x = none → H1 dx = none → dx ≠ x → spCI C CB tup K (.ref x :: ([.bl e, .ref a] ++ [])) (upd (upd H1 dx (.own x)) x (.ins C dx [])) (fun v H2 => v = .non ∧ Q (.ref x) H2) E0 := by
  intro x dx hx hdx hne
  have s1 : Same H1 (upd (upd H1 dx (.own x)) x (.ins C dx [])) := fun b o eb => by
    rw [upd_ne (ne_of_none eb hx), upd_ne (ne_of_none eb hdx)]
    exact eb
  refine ⟨x, dx, a, e, ns, rfl, upd_same, ?_, fun q hq => (hp q hq).2, few, fun _ l H' mem len ch keep => ⟨rfl, k x l H' mem len ch fun b o eb => keep b o (s1 b o eb) (ne_of_none eb hx)⟩, fun i b hi hb _ => absurd (hp b (List.mem_of_getElem? hi)).1 hb⟩
  cases tup with
  | true =>
    have h : SqT K H1 a (ns.map V.int) := hS
    show SqT K _ a (ns.map V.int)
    exact Evl.ex_t s1 h
  | false =>
    have h : SqL K H1 a (ns.map V.int) := hS
    exact s1.seq h
theorem all_flat : ∀ l : List Int, (l.map V.int).all flatV = true
  | [] => rfl
  | a :: l => by
    rw [List.map_cons, List.all_cons, all_flat l]
    rfl
theorem inV_ints (p : Int) : ∀ l : List Int, inV (.int p) (l.map V.int) = decide (p ∈ l)
  | [] => by simp [inV]
  | a :: l => by
    have ih := inV_ints p l
    unfold inV at ih ⊢
    rw [List.map_cons, List.any_cons, ih]
    show (a == p || decide (p ∈ l)) = decide (p ∈ a :: l)
    by_cases c : a = p
    · subst c
      simp
    · have c2 : ¬ p = a := fun h => c h.symm
      simp [c, c2]
abbrev s_ccont : Stmt := inClass (top 14) 8
theorem sc_ccont : FnScope ["self", "p"] ["self", "p"] (defScope s_ccont) := ⟨rfl, rfl, rfl, by decide +kernel, rfl, by decide +kernel, by decide +kernel⟩
def spCont (C : Addr) : Sp := fun vs H Q _ => ∃ (a : Addr) (e : Bool) (l : List Int) (p : Int), vs = [.ref a, .int p] ∧ CharsAt C H a e l ∧ Q (.bl (memB e l p)) H
theorem ok_ccont {f C : Addr} {fd : FuncData} (T : ChT K mg C) (F : Fun K "__contains__" "Chars.__contains__" s_ccont f fd) : FnOk P w K mg base CX0 1 f fd ["self", "p"] (spCont C) := by
  refine F.ok sc_ccont (fun vs H Q E h => ?_) (fun cdv A outer s H vs Q E hr h => ?_)
  · obtain ⟨a, e, l, p, rfl, _⟩ := h
    rfl
  · obtain ⟨a, e, l, p, rfl, ch, q⟩ := h
    obtain ⟨dx, t, h1, h2⟩ := ch.ob
    refine ⟨_, (pss_cons (ps_if (pt_val (pe_fld (pv 0) rfl)) (pss_one (ps_ret (pe_cmpR op_notIn_seq (pv 1) (pe_fld (pv 0) rfl) (by with_unfolding_all rfl)))) pss_nil)
 (pss_one (ps_ret (pe_cmpR op_in_seq (pv 1) (pe_fld (pv 0) rfl) (by with_unfolding_all rfl))))), ?_⟩
    refine ⟨_, rfl, a, C, dx, _, _, rfl, h1, T.cl, T.nE, chF_e _ _, _, rfl, ?_⟩
    unfold memB at q
    cases e with
    | true =>
      refine if_pos_of rfl ?_
      rw [if_pos rfl] at q
      refine ⟨_, rfl, _, rfl, a, C, dx, _, _, rfl, h1, T.cl, T.nP, chF_p _ _, t, _, rfl, .inr (.inl (.inl h2)), rfl, all_flat l, ?_⟩
      rw [if_pos rfl, inV_ints]
      exact q
    | false =>
      refine if_neg_of rfl ?_
      rw [if_neg (by decide)] at q
      refine ⟨_, rfl, _, rfl, a, C, dx, _, _, rfl, h1, T.cl, T.nP, chF_p _ _, t, _, rfl, .inr (.inl (.inl h2)), rfl, all_flat l, ?_⟩
      rw [if_neg (by decide), inV_ints]
      exact q
abbrev s_cinv : Stmt := inClass (top 14) 12
theorem sc_cinv : FnScope ["self"] ["self"] (defScope s_cinv) := ⟨rfl, rfl, rfl, by decide +kernel, rfl, by decide +kernel, by decide +kernel⟩
def spInv (C : Addr) : Sp := fun vs H Q _ => ∃ (a : Addr) (e : Bool) (l : List Int), vs = [.ref a] ∧ CharsAt C H a e l ∧ l.length < 64 ∧ ∀ r H', CharsAt C H' r (!e) l → Same H H' → Q (.ref r) H'
theorem ok_cinv {f C CB : Addr} {fd : FuncData} (T : ChT K mg C) (F : Fun K "__invert__" "Chars.__invert__" s_cinv f fd) (c_cit : Ma P w K mg base 3 C (spCI C CB true K)) : FnOk P w K mg base CX0 5 f fd ["self"] (spInv C) := by
  refine F.ok sc_cinv (fun vs H Q E h => ?_) (fun cdv A outer s H vs Q E hr h => ?_)
  · obtain ⟨a, e, l, rfl, _⟩ := h
    rfl
  · obtain ⟨a, e, l, rfl, ch, few, q⟩ := h
    obtain ⟨dx, t, h1, h2⟩ := ch.ob
    refine ⟨_, (pss_one (ps_ret (pe_ma c_cit hr T.g (pa_cons (pe_not (pe_fld (pv 0) rfl)) (pa_cons (pe_fld (pv 0) rfl) pa_nil))))), ?_⟩
    refine ⟨_, rfl, a, C, dx, _, _, rfl, h1, T.cl, T.nE, chF_e _ _, _, rfl, _, rfl, a, C, dx, _, _, rfl, h1, T.cl, T.nP, chF_p _ _, ?_⟩
    refine make_ch (CB := CB) (tup := true) (e := !e) (ns := l) (.inl (.inl h2)) ch.prm few fun r l' H' mem len ch' s' => ?_
    have el : l' = l := sorted_uniq ch'.srt ch.srt mem
    subst el
    exact q r H' ch' s'
abbrev s_cand : Stmt := inClass (top 14) 9
theorem sc_cand : FnScope ["self", "other", "p"] ["self", "other"] (defScope s_cand) := ⟨rfl, rfl, rfl, by decide +kernel, rfl, by decide +kernel, by decide +kernel⟩
theorem cat_use {K : PySem.W.Frag} {a b : Addr} {xs ys : List Int} {H : Hp} {Q : VK} (ha : SqT K H a (xs.map V.int)) (hb : SqT K H b (ys.map V.int)) (few : xs.length + ys.length < 64) (k : ∀ c H', SqT K H' c ((xs ++ ys).map V.int) → Same H H' → Q (.ref c) H') : rCatA K (.ref a) (.ref b) H Q := by
  refine ⟨a, b, _, _, rfl, rfl, ha, hb, ?_, fun e => ?_, fun e1 e2 => ?_, fun e1 e2 p hp => ?_⟩
  · rw [List.length_map, List.length_map]
    exact Nat.le_of_lt (small1000 (by omega))
  · have z : xs = [] := List.map_eq_nil_iff.mp e
    subst z
    exact k b H hb (Same.refl H)
  · have z : ys = [] := List.map_eq_nil_iff.mp e2
    subst z
    refine k a H ?_ (Same.refl H)
    rw [List.append_nil]
    exact ha
  · refine k p _ ?_ (same_upd hp)
    rw [List.map_append]
    exact .inl (.inl upd_same)
theorem filter_take {l : List Int} {g : Int → Bool} {i : Nat} {z : Int} (h : l[i]? = some z) : (l.take (i + 1)).filter g = (l.take i).filter g ++ (if g z = true then [z] else []) := by
  rw [List.take_add_one, h, List.filter_append]
  show (l.take i).filter g ++ List.filter g [z] = _
  rw [List.filter_cons, List.filter_nil]
theorem and_false_l (b : Bool) : (false && b) = false := rfl
def spAnd (C : Addr) (f : Bool → Bool → Bool) : Sp := fun vs H Q _ => ∃ (a b : Addr) (e1 e2 : Bool) (l1 l2 : List Int), vs = [.ref a, .ref b] ∧ CharsAt C H a e1 l1 ∧ CharsAt C H b e2 l2 ∧ l1.length + l2.length < 64 ∧
  ∀ (r : Addr) (l : List Int) (H' : Hp), CharsAt C H' r (f e1 e2) l → l.length ≤ l1.length + l2.length → (∀ p, memB (f e1 e2) l p = f (memB e1 l1 p) (memB e2 l2 p)) → Same H H' → Q (.ref r) H'
theorem ok_cand {f C CB : Addr} {fd : FuncData} (T : ChT K mg C) (F : Fun K "__and__" "Chars.__and__" s_cand f fd) (c_cit : Ma P w K mg base 3 C (spCI C CB true K)) (c_cil : Ma P w K mg base 3 C (spCI C CB false K)) (c_cont : Me P w K mg base 1 C "__contains__" (spCont C)) : FnOk P w K mg base CX0 5 f fd ["self", "other"] (spAnd C and) := by
  refine F.ok sc_cand (fun vs H Q E h => ?_) (fun cdv A outer s H vs Q E hr h => ?_)
  · obtain ⟨a, b, _, _, _, _, rfl, _⟩ := h
    rfl
  · obtain ⟨a, b, e1, e2, l1, l2, rfl, ch1, ch2, few, q⟩ := h
    obtain ⟨dx, t, h1, h2⟩ := ch1.ob
    obtain ⟨dy, u, g1, g2⟩ := ch2.ob
    refine ⟨_, (pss_cons (ps_if (pt_not (pt_val (pe_fld (pv 0) rfl))) (pss_one (ps_ret (pe_ma c_cil hr T.g (pa_cons pe_bl (pa_cons (pe_lc (own := [("p", 2)]) (g := gName 2) rfl sc_cand.nd (pi_tup (pe_fld (pv 0) rfl)) (blkOk_by (N := ["self", "other", "p"]) (sc := defScope s_cand) (by decide +kernel)) (fun _ _ _ _ _ => pg_name (i := 2) sc_cand.nd rfl (Or.inl rfl)) (fun _ _ _ _ _ => pts_one (pt_cmpR (op_in_own c_cont (by exact hr)) (pv 2) (pv 1) (by with_unfolding_all rfl))) (fun _ _ _ _ _ => pv 2)) pa_nil))))) pss_nil)
 (pss_cons (ps_if (pt_not (pt_val (pe_fld (pv 1) rfl))) (pss_one (ps_ret (pe_ma c_cil hr T.g (pa_cons pe_bl (pa_cons (pe_lc (own := [("p", 2)]) (g := gName 2) rfl sc_cand.nd (pi_tup (pe_fld (pv 1) rfl)) (blkOk_by (N := ["self", "other", "p"]) (sc := defScope s_cand) (by decide +kernel)) (fun _ _ _ _ _ => pg_name (i := 2) sc_cand.nd rfl (Or.inl rfl)) (fun _ _ _ _ _ => pts_one (pt_cmpR (op_in_own c_cont (by exact hr)) (pv 2) (pv 0) (by with_unfolding_all rfl))) (fun _ _ _ _ _ => pv 2)) pa_nil))))) pss_nil)
 (pss_one (ps_ret (pe_ma c_cit hr T.g (pa_cons pe_bl (pa_cons (pe_op op_catA (pe_fld (pv 0) rfl) (pe_fld (pv 1) rfl)) pa_nil))))))), ?_⟩
    refine ⟨_, rfl, a, C, dx, _, _, rfl, h1, T.cl, T.nE, chF_e _ _, _, rfl, ?_⟩
    cases e1 with
    | false =>
      refine if_pos_of rfl ?_
      refine ⟨_, rfl, a, C, dx, _, _, rfl, h1, T.cl, T.nP, chF_p _ _, t, rfl, ⟨_, .inl (.inl h2)⟩, fun D hD => lc_tup (K := K) (a := t) (xs := l1.map V.int) (fun i H' => Same H H' ∧ H' D = some (.lst (((l1.take i).filter (memB e2 l2)).map V.int)))
        ⟨same_upd hD, upd_same⟩ (fun i H' _ h => Evl.ex_t h.1 (.inl (.inl h2))) ?_ ?_⟩
      · rintro i y H' hi ⟨s', hD'⟩
        obtain ⟨z, rfl, hz⟩ := item_int hi
        refine ⟨rfl, _, rfl, _, rfl, _, _, _, rfl, s' _ _ g1, ?_⟩
        refine ⟨_, e2, l2, z, rfl, ch2.same s', _, rfl, _, rfl, ?_⟩
        have ft := filter_take (g := memB e2 l2) hz
        cases hm : memB e2 l2 z with
        | true =>
          rw [hm, if_pos rfl] at ft
          refine if_pos_of rfl ?_
          refine ⟨_, rfl, _, hD', ?_, fun b o eb => ?_, ?_⟩
          · rw [List.length_map]
            have h3 := List.length_filter_le (memB e2 l2) (l1.take i)
            have h4 : (l1.take i).length ≤ l1.length := by rw [List.length_take]; omega
            exact small1000 (by omega)
          · rw [upd_ne (ne_of_none eb hD)]
            exact s' b o eb
          · rw [ft, List.map_append]
            exact upd_same
        | false =>
          rw [hm, if_neg (by decide), List.append_nil] at ft
          refine if_neg_of rfl ?_
          exact ⟨s', by rw [ft]; exact hD'⟩
      · rintro H' ⟨s', hD'⟩
        rw [List.length_map, List.take_length] at hD'
        refine make_ch (CB := CB) (tup := false) (e := false) (ns := l1.filter (memB e2 l2)) (SqL.of hD') (fun z hz => ch1.prm z (List.mem_filter.mp hz).1) (by have := List.length_filter_le (memB e2 l2) l1; omega) fun r l' H2 mem len ch' s2 => ?_
        have hl := List.length_filter_le (memB e2 l2) l1
        have mem2 : ∀ z, z ∈ l' ↔ z ∈ l1 ∧ memB e2 l2 z = true := fun z => (mem z).trans List.mem_filter
        exact q r l' H2 ch' (by omega) (fun z => by
          rw [and_false_l]
          have := mem2 z
          unfold memB at this ⊢
          by_cases c : z ∈ l1 <;> simp_all) (s'.trans s2)
    | true =>
      refine if_neg_of rfl ?_
      refine ⟨_, rfl, b, C, dy, _, _, rfl, g1, T.cl, T.nE, chF_e _ _, _, rfl, ?_⟩
      cases e2 with
      | false =>
        refine if_pos_of rfl ?_
        refine ⟨_, rfl, b, C, dy, _, _, rfl, g1, T.cl, T.nP, chF_p _ _, u, rfl, ⟨_, .inl (.inl g2)⟩, fun D hD => lc_tup (K := K) (a := u) (xs := l2.map V.int) (fun i H' => Same H H' ∧ H' D = some (.lst (((l2.take i).filter (memB true l1)).map V.int)))
          ⟨same_upd hD, upd_same⟩ (fun i H' _ h => Evl.ex_t h.1 (.inl (.inl g2))) ?_ ?_⟩
        · rintro i y H' hi ⟨s', hD'⟩
          obtain ⟨z, rfl, hz⟩ := item_int hi
          refine ⟨rfl, _, rfl, _, rfl, _, _, _, rfl, s' _ _ h1, ?_⟩
          refine ⟨_, true, l1, z, rfl, ch1.same s', _, rfl, _, rfl, ?_⟩
          have ft := filter_take (g := memB true l1) hz
          cases hm : memB true l1 z with
          | true =>
            rw [hm, if_pos rfl] at ft
            refine if_pos_of rfl ?_
            refine ⟨_, rfl, _, hD', ?_, fun b o eb => ?_, ?_⟩
            · rw [List.length_map]
              have h3 := List.length_filter_le (memB true l1) (l2.take i)
              have h4 : (l2.take i).length ≤ l2.length := by rw [List.length_take]; omega
              exact small1000 (by omega)
            · rw [upd_ne (ne_of_none eb hD)]
              exact s' b o eb
            · rw [ft, List.map_append]
              exact upd_same
          | false =>
            rw [hm, if_neg (by decide), List.append_nil] at ft
            refine if_neg_of rfl ?_
            exact ⟨s', by rw [ft]; exact hD'⟩
        · rintro H' ⟨s', hD'⟩
          rw [List.length_map, List.take_length] at hD'
          refine make_ch (CB := CB) (tup := false) (e := false) (ns := l2.filter (memB true l1)) (SqL.of hD') (fun z hz => ch2.prm z (List.mem_filter.mp hz).1) (by have := List.length_filter_le (memB true l1) l2; omega) fun r l' H2 mem len ch' s2 => ?_
          have hl := List.length_filter_le (memB true l1) l2
          have mem2 : ∀ z, z ∈ l' ↔ z ∈ l2 ∧ memB true l1 z = true := fun z => (mem z).trans List.mem_filter
          exact q r l' H2 ch' (by omega) (fun z => by
            have := mem2 z
            unfold memB at this ⊢
            by_cases c : z ∈ l2 <;> simp_all) (s'.trans s2)
      | true =>
        refine if_neg_of rfl ?_
        refine ⟨_, rfl, a, C, dx, _, _, rfl, h1, T.cl, T.nP, chF_p _ _, _, rfl, b, C, dy, _, _, rfl, g1, T.cl, T.nP, chF_p _ _, ?_⟩
        refine cat_use (xs := l1) (ys := l2) (.inl (.inl h2)) (.inl (.inl g2)) few fun c H' hc s' => ?_
        refine make_ch (CB := CB) (tup := true) (e := true) (ns := l1 ++ l2) hc (fun z hz => (List.mem_append.mp hz).elim (ch1.prm z) (ch2.prm z)) (by rw [List.length_append]; exact few) fun r l' H2 mem len ch' s2 => ?_
        rw [List.length_append] at len
        exact q r l' H2 ch' len (fun z => by
          have := mem z
          rw [List.mem_append] at this
          unfold memB
          by_cases c1 : z ∈ l1 <;> by_cases c2 : z ∈ l2 <;> simp_all) (s'.trans s2)
abbrev s_ceq : Stmt := inClass (top 14) 13
theorem sc_ceq : FnScope ["self", "other"] ["self", "other"] (defScope s_ceq) := ⟨rfl, rfl, rfl, by decide +kernel, rfl, by decide +kernel, by decide +kernel⟩
def spCeq (C : Addr) : Sp := fun vs H Q _ => ∃ (a b : Addr) (e1 e2 : Bool) (l1 l2 : List Int), vs = [.ref a, .ref b] ∧ CharsAt C H a e1 l1 ∧ CharsAt C H b e2 l2 ∧ Q (.bl (decide (e1 = e2 ∧ l1 = l2))) H
theorem ok_ceq {f C : Addr} {fd : FuncData} (TT : Txt mg) (T : ChT K mg C) (F : Fun K "__eq__" "Chars.__eq__" s_ceq f fd) : FnOk P w K mg base CX0 1 f fd ["self", "other"] (spCeq C) := by
  refine F.ok sc_ceq (fun vs H Q E h => ?_) (fun cdv A outer s H vs Q E hr h => ?_)
  · obtain ⟨a, b, _, _, _, _, rfl, _⟩ := h
    rfl
  · obtain ⟨a, b, e1, e2, l1, l2, rfl, ch1, ch2, q⟩ := h
    obtain ⟨dx, t, h1, h2⟩ := ch1.ob
    obtain ⟨dy, u, g1, g2⟩ := ch2.ob
    refine ⟨_, (pss_one (ps_ret (pe_and (pe_callB (C8.call_isC T.isC) (by rfl) TT.isinstance boot_isinstance (pa_cons (pv 1) (pa_cons (pe_glob (v := .ref C) (by rfl) T.g rfl) pa_nil))) (pe_and (pe_cmpR op_eq (pe_fld (pv 0) rfl) (pe_fld (pv 1) rfl) (nomark _)) (pe_one (pe_cmpR (op_eqD (hu64 hr)) (pe_fld (pv 0) rfl) (pe_fld (pv 1) rfl) (nomark _))))))), ?_⟩
    refine ⟨_, rfl, b, dy, _, rfl, g1, _, rfl, if_pos_of rfl ?_⟩
    refine ⟨_, rfl, a, C, dx, _, _, rfl, h1, T.cl, T.nE, chF_e _ _, _, rfl, b, C, dy, _, _, rfl, g1, T.cl, T.nE, chF_e _ _, rfl, _, rfl, ?_⟩
    by_cases c : e1 = e2
    · refine if_pos_of (decide_eq_true (by rw [c])) ?_
      refine ⟨_, rfl, a, C, dx, _, _, rfl, h1, T.cl, T.nP, chF_p _ _, _, rfl, b, C, dy, _, _, rfl, g1, T.cl, T.nP, chF_p _ _, _, _, dp_tup (.inl (.inl h2)), dp_tup (.inl (.inl g2)), shaped_intsT _, shaped_intsT _, ?_⟩
      rw [eqv_intsT]
      have z : decide (e1 = e2 ∧ l1 = l2) = decide (l1 = l2) := by simp [c]
      rw [z] at q
      exact q
    · refine if_neg_of (decide_eq_false fun z => c (V.bl.inj z)) ?_
      rw [decide_eq_false fun z => c z.1] at q
      exact q
abbrev s_cbool : Stmt := inClass (top 14) 14
theorem sc_cbool : FnScope ["self"] ["self"] (defScope s_cbool) := ⟨rfl, rfl, rfl, by decide +kernel, rfl, by decide +kernel, by decide +kernel⟩
def spCbool (C : Addr) : Sp := fun vs H Q _ => ∃ (a : Addr) (e : Bool) (l : List Int), vs = [.ref a] ∧ CharsAt C H a e l ∧ Q (.bl (e || !l.isEmpty)) H
theorem ok_cbool {f C : Addr} {fd : FuncData} (TT : Txt mg) (T : ChT K mg C) (F : Fun K "__bool__" "Chars.__bool__" s_cbool f fd) : FnOk P w K mg base CX0 1 f fd ["self"] (spCbool C) := by
  refine F.ok sc_cbool (fun vs H Q E h => ?_) (fun cdv A outer s H vs Q E hr h => ?_)
  · obtain ⟨a, e, l, rfl, _⟩ := h
    rfl
  · obtain ⟨a, e, l, rfl, ch, q⟩ := h
    obtain ⟨dx, t, h1, h2⟩ := ch.ob
    refine ⟨_, (pss_one (ps_ret (pe_callTy cr_boolT (by rfl) TT.bool boot_bool (pa_cons (pe_orT (pe_fld (pv 0) rfl) (pe_one (pe_fld (pv 0) rfl))) pa_nil)))), ?_⟩
    refine ⟨_, rfl, a, C, dx, _, _, rfl, h1, T.cl, T.nE, chF_e _ _, e, rfl, ?_⟩
    cases e with
    | true => exact if_pos_of rfl (.inl ⟨_, rfl, q⟩)
    | false =>
      refine if_neg_of rfl ?_
      refine ⟨_, rfl, a, C, dx, _, _, rfl, h1, T.cl, T.nP, chF_p _ _, .inr ⟨t, _, rfl, .inl (.inl h2), ?_⟩⟩
      have z : (l.map V.int).isEmpty = l.isEmpty := by cases l <;> rfl
      rw [z]
      exact q
abbrev s_cevery : Stmt := inClass (top 14) 1
theorem sc_cevery : FnScope ["cls"] ["cls"] (defScope s_cevery) := ⟨rfl, rfl, rfl, by decide +kernel, rfl, by decide +kernel, by decide +kernel⟩
def spCevery (C : Addr) (e : Bool) : Sp := fun vs H Q _ => vs = [.ref C] ∧ ∀ r H', CharsAt C H' r e [] → Same H H' → Q (.ref r) H'
theorem ok_cevery {f C CB : Addr} {fd : FuncData} (T : ChT K mg C) (F : Fun K "every" "Chars.every" s_cevery f fd) (c_cit : Ma P w K mg base 3 C (spCI C CB true K)) : FnOk P w K mg base CX0 5 f fd ["cls"] (spCevery C true) := by
  refine F.ok sc_cevery (fun vs H Q E h => ?_) (fun cdv A outer s H vs Q E hr h => ?_)
  · obtain ⟨rfl, _⟩ := h
    rfl
  · obtain ⟨rfl, q⟩ := h
    refine ⟨_, (pss_one (ps_ret (pe_maL (i := 0) c_cit hr rfl (pa_cons pe_bl (pa_cons (pe_tup pa_nil) pa_nil))))), ?_⟩
    refine ⟨rfl, (by show 0 ≤ sizeLine; decide), fun t nt => ?_⟩
    refine make_ch (CB := CB) (tup := true) (e := true) (ns := []) (.inl (.inl upd_same)) (fun _ h => nomatch h) (by decide) fun r l H' mem len ch s' => ?_
    have el : l = [] := List.length_eq_zero_iff.mp (Nat.le_zero.mp len)
    subst el
    exact q r H' ch ((same_upd nt).trans s')
/-! bool(x) and x == y, where y is no instance; classmethods by FnR; C(..) in a try -/
section
variable {X : Cx} {C : Addr} {m : Str} {sp : Sp} {k j : Nat}
/-- bool(x) of an instance -/
def rBoolOwn (C : Addr) (sp : Sp) : List V → Hp → VK → Prop := fun xs H Q => ∃ a dx fs, xs = [.ref a] ∧ H a = some (.ins C dx fs) ∧ sp [.ref a] H (fun v H' => ∃ c : Bool, v = .bl c ∧ Q (.bl c) H') E0
theorem new_bool_any {prog : Program} {w : World} (x : Value) : MeetsIn prog w (Builtin.«bool.__new__» ⟨[.type "bool", x], []⟩)
    (fun A R s => wpAny (model prog w) A.in1 (truthy x) (fun b s1 => R (.ok (.ret (.bool b))) s1) (fun e s1 => R (.error e) s1) s) :=
  .of_wp fun A R s h => by
    have no_bool := F.conv_sub_bool
    unfold Builtin.«bool.__new__»
    generalize same : truthy = TX
    wp_walk
    subst same
    refine wpAny_mono h (fun b s1 hR => ?_) fun _ _ z => z
    exact wpAny_pure ⟨_, rfl, hR⟩
theorem cr_boolOwn (c : Me X.prog X.w X.K X.mg X.base k C "__bool__" sp) (hr : Room j X.A) (hk : k + 2 ≤ j := by decide) : CallR X (.type "bool") (rBoolOwn C sp) := by
  obtain ⟨f, fd, ps, M, F, b⟩ := c.ex
  intro pins s σ H xs us Q I r h
  obtain ⟨a, dx, fs, rfl, ha, q⟩ := h
  obtain rfl := Vals.ref1 r
  obtain ⟨ox, od, J⟩ := inst_of I ha
  obtain ⟨mm, hF⟩ := I.fr
  have many : ([Value.ref a] : List Value).length = ps.length := F.len [.ref a] _ _ _ q
  have bound := b s [.ref a] I.kIn (by rw [List.append_nil]; exact many)
  rw [List.append_nil] at bound
  refine callType_newIn PySem.F.called_bool PySem.F.newNe_bool (PySem.F.typeCall_bool_1 _) (PySem.F.newCall_bool_1 _) (fun obj => PySem.F.args_object_init_2 obj _) PySem.F.entry_bool_new (new_bool_any _) ?_
  refine PySem.W.truthy_K hF I.ok.mod.kin J M.at_ M.fn (wpAny_call (codeAny_mono (F.run _ X.stack s H ⟨[.ref a], []⟩ [.ref a] [.ref a] _ E0 ((hr.mono hk).in1.in1) (I.env0.in1.in1) bound (.cons rfl .nil) q) fun r s' hq => ?_))
  cases r with
  | error e => exact False.elim hq
  | ok fl =>
    cases fl with
    | ret u =>
      obtain ⟨z', H', I', rz, d, ez, qz⟩ := I.after hq
      subst ez
      cases (show u = Value.bool d from rz)
      exact ⟨rfl, .bl d, H', I', rfl, qz⟩
    | next => exact False.elim hq
    | brk => exact False.elim hq
    | cont => exact False.elim hq
/-- x == y, y a tuple -/
def rOwnT (C : Addr) (sp : Sp) : R2 := fun x y H Q => ∃ a b dx fs zs, x = .ref a ∧ y = .ref b ∧ H a = some (.ins C dx fs) ∧ H b = some (.tup zs) ∧ sp [x, y] H Q E0
theorem op_eq_ownT (c : Me X.prog X.w X.K X.mg X.base k C "__eq__" sp) (hr : Room j X.A) (nf : PySem.W.subIn X.K (.type "tuple") (.ref C) = some false) (hk : k ≤ j := by decide) : OpR X (compareOp .Eq) (rOwnT C sp) := by
  obtain ⟨f, fd, ps, M, F, b⟩ := c.ex
  intro pins s σ H x y v u Q I rx ry h
  obtain ⟨a, b', dx, fs, zs, rfl, rfl, ha, hb, q⟩ := h
  cases (show v = Value.ref a from rx)
  cases (show u = Value.ref b' from ry)
  obtain ⟨ox, od, J⟩ := inst_of I ha
  obtain ⟨_, _, _, o, h1, h2, _⟩ := (show ObjOk X.prog X.w H s.heap b' (.tup zs) from I.hok b' _ hb)
  obtain ⟨mm, hF⟩ := I.fr
  show wpAny _ _ (richCompare .Eq (.ref a) (.ref b')) _ _ _
  refine PySem.W.cmp_K (op := .Eq) (tb := .type "tuple") hr.units0 hF I.ok.mod.kin J (fun A Q E s k q => wpAny_typeOf_ref (k _ _ h1) (by rw [h2]; exact q)) (by unfold PySem.W.notFirst; rw [nf]; simp) M.at_ M.fn ?_
  refine wpAny_mono (run_fn (us := [.ref a, .ref b']) (vs := [.ref a, .ref b']) F (hr.mono hk) b .nil pass0 I (.cons rfl (.cons rfl .nil)) q) (fun u' s' z => ?_) fun _ _ x => x
  obtain ⟨z', H', I', rz, qz⟩ := z
  exact SlX.cmpback rz ⟨z', H', I', rz, qz⟩
end
/-- a classmethod by what its call does -/
structure CmR (P : Program) (w : World) (K : PySem.W.Frag) (mg : Str → Option Value) (base : Heap) (k : Nat) (C : Addr) (m : Str) (sp : Sp) : Prop where
  ex : ∃ (mc : Value) (p g : Addr), ClX.CRead K C mc ∧ ClX.CMet K C mc m p g ∧ FnR P w K mg base CX0 k g sp
theorem pe_cmR {X : Cx} {C : Addr} {m : Str} {sp : Sp} {k j : Nat} {o e : Expr} {es : List Expr} {ta : TE} {t : TA} {apos pos : Pos} {pl : Sem Bool} (c : CmR X.prog X.w X.K X.mg X.base k C m sp) (hr : Room j X.A) (he : PE X o ta) (ha : PA X (e :: es) t) (hk : k ≤ j := by decide)
    (hst : starEach (e :: es) X.env = (false, eval e X.env) :: starEach es X.env := by rfl) (hpl : (backTo pos (starEach es X.env)).any (·.1) = false := by rfl)
    (ht : eval (.Call (.Attribute o m apos) (e :: es) [] pos) X.env = (do
      let got ← eval o X.env
      standAt apos.atName
      let (fn, fst) ← holding [got] (getMethod got m pl)
      callWith pos fn fst (backTo pos (starEach (e :: es) X.env)) (backToKw pos (keywordEach [] X.env))) := by rfl) :
    PE X (.Call (.Attribute o m apos) (e :: es) [] pos) (ClX.tCMeth C sp E0 ta t) := by
  obtain ⟨mc, p, g, r, c, F⟩ := c.ex
  exact ClX.pe_cmeth he r c F (hr.mono hk) pass0 ha hst hpl ht
theorem pe_cmR0 {X : Cx} {C : Addr} {m : Str} {sp : Sp} {k j : Nat} {o : Expr} {ta : TE} {apos pos : Pos} {pl : Sem Bool} (c : CmR X.prog X.w X.K X.mg X.base k C m sp) (hr : Room j X.A) (he : PE X o ta) (hk : k ≤ j := by decide)
    (ht : eval (.Call (.Attribute o m apos) [] [] pos) X.env = (do
      let got ← eval o X.env
      standAt apos.atName
      let (fn, fst) ← holding [got] (getMethod got m pl)
      callWith pos fn fst (backTo pos (starEach [] X.env)) (backToKw pos (keywordEach [] X.env))) := by rfl) :
    PE X (.Call (.Attribute o m apos) [] [] pos) (ClX.tCMeth C sp E0 ta tNil) := by
  obtain ⟨mc, p, g, r, c, F⟩ := c.ex
  refine ⟨fun pins s σ H Q I h => ?_⟩
  refine PySem.W.methodCall_KW (pl := pl) (thn (he.run pins s σ H _ I h) fun u s1 ⟨x, H1, I1, rx, ex, q⟩ => ?_) ht
  subst ex
  obtain rfl : u = Value.ref C := rx
  refine ClX.getmethcm_ok I1 r c fun s2 I2 => ?_
  have hq := ClX.pin_at I2
  show wpAny _ _ (callWith pos (Value.ref s1.heap.objs.size) [] (backTo pos (starEach [] X.env)) []) _ _ _
  refine PySem.W.callWith_M0 (K := X.K) (g := g) (self := .ref C) ?_ c.fi ?_
  · exact ⟨hq, I2.kIn⟩
  · exact ClX.run_cm (us := []) (vs := []) F (hr.mono hk) pass0 I2 .nil q
/-- C(..) whose __init__ may raise, in a try that takes it -/
def tMakeS (C : Addr) (sp : Sp) (E : L2.St → XK) (t : TA) : TE := fun σ H Q => tMake C sp [] (E σ) t σ H Q
theorem pe_maX {X : Cx} {W : WX} {C : Addr} {x : Str} {sp : Sp} {k j : Nat} {p pos : Pos} {e : Expr} {es : List Expr} {t : TA} (c : Ma X.prog X.w X.K X.mg X.base k C sp) (hr : Room j X.A) (tk : L2N.Takes X W) (hm : X.mg x = some (.ref C)) (ha : PA X (e :: es) t) (hk : k + 1 ≤ j := by decide) (hg : Gl X x := by rfl)
    (hdb : (x == ("__debug__" : Str)) = false := by decide) (he : starEach (e :: es) X.env = (false, eval e X.env) :: starEach es X.env := by rfl) (hpl : (backTo pos (starEach es X.env)).any (·.1) = false := by rfl) :
    PE X (.Call (.Name x p) (e :: es) [] pos) (tMakeS C sp (WE W) t) := by
  obtain ⟨f, fd, ps, M, F, b⟩ := c.ex
  refine ⟨fun pins s σ H Q I h => ?_⟩
  refine wpAny_Call_Name_kw (ld_glob I hg hm ?_ hdb)
  refine PySem.W.callWith_K (h₀ := X.base) I.ok.mod.kin M.kp (thn (ha.run pos pins s σ H _ I h) fun us s1 ⟨vs, H1, I1, r, q⟩ => ⟨I1.kIn, ?_⟩) he hpl
  generalize ez : s1.heap.objs.size = z
  have le0 : s1.heap.objs.size ≤ z := by rw [ez]; exact Nat.le_refl z
  have asks := q (z + 1) z (I1.hok.fresh (Nat.le_succ_of_le le0)) (I1.hok.fresh le0) (Nat.ne_of_lt (Nat.lt_succ_self z))
  have laid := Inv.made (C := C) I1
  rw [ez] at laid
  have rel : Vals (V.ref (z + 1) :: vs) (Value.ref (z + 1) :: us) := .cons rfl r
  rw [List.append_nil] at asks
  have many : (Value.ref (z + 1) :: us).length = ps.length := by
    rw [← rel.length]
    exact F.len _ _ _ _ asks
  have bound := b _ (Value.ref (z + 1) :: us) laid.kIn (by rw [List.append_nil]; exact many)
  rw [List.append_nil] at bound
  have runs := F.run _ X.stack _ _ ⟨Value.ref (z + 1) :: us, []⟩ (Value.ref (z + 1) :: us) _ _ (WE W σ) ((hr.mono hk).make C us []) (laid.env0.make C us []) bound rel asks
  subst ez
  refine wpAny_call (make_map (f := f) I1.kIn M.makes M.init (beq_iff_eq.mp M.fn) (codeAny_mono runs fun r' s' back => ?_))
  cases r' with
  | error er => exact L2N.passAt tk σ pins _ _ er s' laid back
  | ok fl =>
    cases fl with
    | ret u =>
      obtain ⟨v, H', I3, rv, ev, q3⟩ := laid.after back
      subst ev
      cases (show u = Value.none from rv)
      exact ⟨rfl, .ref _, H', I3, rfl, q3⟩
    | next => exact False.elim back
    | brk => exact False.elim back
    | cont => exact False.elim back
theorem kit_ownF {C : Addr} {U : String} (h2 : PySem.W.isClsIn K C = true) (h3 : PySem.W.typeIn K (.ref C) = some (.type "type")) (h : PySem.W.subIn K (.type U) (.ref C) = some false) : PySem.W.kitOne K (.type U) (.ref C) = some false := by
  have h2' : (PySem.W.clsIn K C).isSome = true := h2
  have e2 : ((PySem.W.clsIn K C).isSome && PySem.W.typeIn K (.ref C) == some (.type "type")) = true := by rw [h2', h3] <;> rfl
  unfold PySem.W.kitOne
  rw [if_neg (by simp)]
  show (if ((PySem.W.clsIn K C).isSome && PySem.W.typeIn K (.ref C) == some (.type "type")) = true then PySem.W.subIn K (.type U) (.ref C) else none) = some false
  rw [if_pos e2]
  exact h
abbrev s_cnone : Stmt := inClass (top 14) 2
theorem sc_cnone : FnScope ["cls"] ["cls"] (defScope s_cnone) := ⟨rfl, rfl, rfl, by decide +kernel, rfl, by decide +kernel, by decide +kernel⟩
theorem ok_cnone {f C CB : Addr} {fd : FuncData} (T : ChT K mg C) (F : Fun K "none" "Chars.none" s_cnone f fd) (c_cit : Ma P w K mg base 3 C (spCI C CB true K)) : FnOk P w K mg base CX0 5 f fd ["cls"] (spCevery C false) := by
  refine F.ok sc_cnone (fun vs H Q E h => ?_) (fun cdv A outer s H vs Q E hr h => ?_)
  · obtain ⟨rfl, _⟩ := h
    rfl
  · obtain ⟨rfl, q⟩ := h
    refine ⟨_, (pss_one (ps_ret (pe_maL (i := 0) c_cit hr rfl (pa_cons pe_bl (pa_cons (pe_tup pa_nil) pa_nil))))), ?_⟩
    refine ⟨rfl, (by show 0 ≤ sizeLine; decide), fun t nt => ?_⟩
    refine make_ch (CB := CB) (tup := true) (e := false) (ns := []) (.inl (.inl upd_same)) (fun _ h => nomatch h) (by decide) fun r l H' mem len ch s' => ?_
    have el : l = [] := List.length_eq_zero_iff.mp (Nat.le_zero.mp len)
    subst el
    exact q r H' ch ((same_upd nt).trans s')
/-- only and but: the primes as they are told -/
def spStar (C : Addr) (e : Bool) : Sp := fun vs H Q _ => ∃ ns : List Int, vs = .ref C :: ns.map V.int ∧ (∀ q ∈ ns, Pr q ∧ q < 2 ^ 62) ∧ ns.length < 64 ∧ ∀ r l H', (∀ q, q ∈ l ↔ q ∈ ns) → CharsAt C H' r e l → Same H H' → Q (.ref r) H'
abbrev s_conly : Stmt := inClass (top 14) 3
theorem sc_conly : FnScope ["cls", "ps"] ["cls", "ps"] (defScope s_conly) := ⟨rfl, rfl, rfl, by decide +kernel, rfl, by decide +kernel, by decide +kernel⟩
abbrev s_cbut : Stmt := inClass (top 14) 4
theorem sc_cbut : FnScope ["cls", "ps"] ["cls", "ps"] (defScope s_cbut) := ⟨rfl, rfl, rfl, by decide +kernel, rfl, by decide +kernel, by decide +kernel⟩
/-- the body's own promise: the tuple is laid -/
def spStarB (C : Addr) (e : Bool) : Sp := fun vs H Q _ => ∃ (t : Addr) (ns : List Int), vs = [.ref C, .ref t] ∧ H t = some (.tup (ns.map V.int)) ∧ (∀ q ∈ ns, Pr q ∧ q < 2 ^ 62) ∧ ns.length < 64 ∧ ∀ r l H', (∀ q, q ∈ l ↔ q ∈ ns) → CharsAt C H' r e l → Same H H' → Q (.ref r) H'
theorem star_of {f C : Addr} {e : Bool} (F : FnR P w K mg base CX0 5 f (fun vs H Q E => ∃ ws rest, vs = ws ++ rest ∧ ws.length = (["cls"] : List Str).length ∧ rest.length ≤ sizeLine ∧ ∀ p, H p = none → spStarB C e (ws ++ [V.ref p]) (upd H p (.tup rest)) Q E)) : FnR P w K mg base CX0 5 f (spStar C e) := by
  intro A outer s H us vs Q E hr e0 r h
  obtain ⟨ns, rfl, hp, few, q⟩ := h
  refine F A outer s H us _ Q E hr e0 r ⟨[.ref C], ns.map V.int, rfl, rfl, ?_, fun p np => ⟨p, ns, rfl, upd_same, hp, few, fun r' l H' mem ch s' => q r' l H' mem ch ((same_upd np).trans s')⟩⟩
  rw [List.length_map]
  exact Nat.le_of_lt (small1000 (by omega))
theorem ok_conly {f C CB : Addr} {fd : FuncData} (T : ChT K mg C) (F : Fun K "only" "Chars.only" s_conly f fd) (c_cit : Ma P w K mg base 3 C (spCI C CB true K)) : FnR P w K mg base CX0 5 f (spStar C false) := by
  obtain ⟨oc, od, kV, doc, pm, an, cdv, ct, osl, rfl, lk, hcd⟩ := F.ex
  refine star_of (StX.fn_star lk hcd sc_conly StX.cxUp_none (StX.bind_star1 (B := fun xs => bindArgs (PySem.W.fnOf "only" "Chars.only" (defArgs s_conly) (defBody s_conly) (defScope s_conly) .none kV doc pm an cdv ct) ⟨xs, []⟩) (fun a => rfl) (fun a r rs => rfl)) fun A outer s H vs Q E hr h => ?_)
  obtain ⟨t, ns, rfl, ht, hp, few, q⟩ := h
  refine ⟨_, (pss_one (ps_ret (pe_maL (i := 0) c_cit hr rfl (pa_cons pe_bl (pa_cons (pv 1) pa_nil))))), ?_⟩
  refine ⟨rfl, _, rfl, ?_⟩
  exact make_ch (CB := CB) (tup := true) (e := false) (ns := ns) (.inl (.inl ht)) hp few fun r l H' mem len ch s' => q r l H' mem ch s'
theorem ok_cbut {f C CB : Addr} {fd : FuncData} (T : ChT K mg C) (F : Fun K "but" "Chars.but" s_cbut f fd) (c_cit : Ma P w K mg base 3 C (spCI C CB true K)) : FnR P w K mg base CX0 5 f (spStar C true) := by
  obtain ⟨oc, od, kV, doc, pm, an, cdv, ct, osl, rfl, lk, hcd⟩ := F.ex
  refine star_of (StX.fn_star lk hcd sc_cbut StX.cxUp_none (StX.bind_star1 (B := fun xs => bindArgs (PySem.W.fnOf "but" "Chars.but" (defArgs s_cbut) (defBody s_cbut) (defScope s_cbut) .none kV doc pm an cdv ct) ⟨xs, []⟩) (fun a => rfl) (fun a r rs => rfl)) fun A outer s H vs Q E hr h => ?_)
  obtain ⟨t, ns, rfl, ht, hp, few, q⟩ := h
  refine ⟨_, (pss_one (ps_ret (pe_maL (i := 0) c_cit hr rfl (pa_cons pe_bl (pa_cons (pv 1) pa_nil))))), ?_⟩
  refine ⟨rfl, _, rfl, ?_⟩
  exact make_ch (CB := CB) (tup := true) (e := true) (ns := ns) (.inl (.inl ht)) hp few fun r l H' mem len ch s' => q r l H' mem ch s'
/-- a set is unequal to a tuple -/
def spCeqT (C : Addr) : Sp := fun vs H Q _ => ∃ (a b : Addr) (e : Bool) (l : List Int) (zs : List V), vs = [.ref a, .ref b] ∧ CharsAt C H a e l ∧ H b = some (.tup zs) ∧ Q (.bl false) H
theorem ok_ceqT {f C : Addr} {fd : FuncData} (TT : Txt mg) (T : ChT K mg C) (kt : PySem.W.kitOne K (.type "tuple") (.ref C) = some false) (F : Fun K "__eq__" "Chars.__eq__" s_ceq f fd) : FnOk P w K mg base CX0 1 f fd ["self", "other"] (spCeqT C) := by
  refine F.ok sc_ceq (fun vs H Q E h => ?_) (fun cdv A outer s H vs Q E hr h => ?_)
  · obtain ⟨a, b, _, _, _, rfl, _⟩ := h
    rfl
  · obtain ⟨a, b, e, l, zs, rfl, ch, hb, q⟩ := h
    refine ⟨_, (pss_one (ps_ret (pe_and (pe_callB call_isi (by rfl) TT.isinstance boot_isinstance (pa_cons (pv 1) (pa_cons (pe_glob (v := .ref C) (by rfl) T.g rfl) pa_nil))) (pe_and (pe_cmpR op_eq (pe_fld (pv 0) rfl) (pe_fld (pv 1) rfl) (nomark _)) (pe_one (pe_cmpR (op_eqD (hu64 hr)) (pe_fld (pv 0) rfl) (pe_fld (pv 1) rfl) (nomark _))))))), ?_⟩
    exact ⟨_, rfl, _, _, _, _, false, rfl, .own C, .base (.tup hb), kt, _, rfl, if_neg_of rfl q⟩
/-- a set is made at x, what follows is any word -/
theorem make_at {C CB : Addr} {tup : Bool} {H1 : Hp} {e : Bool} {a x dx : Addr} {ns : List Int} {R : VK} (hx : H1 x = none) (hdx : H1 dx = none) (hS : if tup = true then SqT K H1 a (ns.map V.int) else SqL K H1 a (ns.map V.int)) (hp : ∀ q ∈ ns, Pr q ∧ q < 2 ^ 62) (few : ns.length < 64)
    (k : ∀ (l : List Int) (H2 : Hp), (∀ q, q ∈ l ↔ q ∈ ns) → l.length ≤ ns.length → CharsAt C H2 x e l → Same H1 H2 → R .non H2) :
    spCI C CB tup K (.ref x :: ([.bl e, .ref a] ++ [])) (upd (upd H1 dx (.own x)) x (.ins C dx [])) R E0 := by
  have s1 : Same H1 (upd (upd H1 dx (.own x)) x (.ins C dx [])) := fun b o eb => by
    rw [upd_ne (ne_of_none eb hx), upd_ne (ne_of_none eb hdx)]
    exact eb
  refine ⟨x, dx, a, e, ns, rfl, upd_same, ?_, fun q hq => (hp q hq).2, few, fun _ l H' mem len ch keep => k l H' mem len ch fun b o eb => keep b o (s1 b o eb) (ne_of_none eb hx), fun i b hi hb _ => absurd (hp b (List.mem_of_getElem? hi)).1 hb⟩
  cases tup with
  | true =>
    have h : SqT K H1 a (ns.map V.int) := hS
    show SqT K _ a (ns.map V.int)
    exact Evl.ex_t s1 h
  | false =>
    have h : SqL K H1 a (ns.map V.int) := hS
    exact s1.seq h
theorem allN {R : V → Prop} : ∀ x ∈ ([] : List V), R x := fun _ h => nomatch h
theorem allC {R : V → Prop} {a : V} {l : List V} (h : R a) (t : ∀ x ∈ l, R x) : ∀ x ∈ a :: l, R x := fun x hx => by
  rcases List.mem_cons.mp hx with e | e
  · rw [e]
    exact h
  · exact t x e
/-- an item at an open place in bounds -/
theorem at_some {xs : List V} {v : Int} (h0 : 0 ≤ v) (h1 : v < xs.length) : ∃ x, atI xs v = some x ∧ x ∈ xs := by
  have hv : ((v.toNat : Nat) : Int) = v := Int.toNat_of_nonneg h0
  have hl : v.toNat < xs.length := by omega
  have z : atI xs ((v.toNat : Nat) : Int) = some xs[v.toNat] := atI_nat (List.getElem?_eq_getElem hl)
  rw [hv] at z
  exact ⟨xs[v.toNat], z, List.getElem_mem hl⟩
def SameBut (p : Addr) (H H' : Hp) : Prop := ∀ b o, b ≠ p → H b = some o → H' b = some o
theorem SameBut.of {p : Addr} {H H' : Hp} (e : ∀ q, q ≠ p → H' q = H q) : SameBut p H H' := fun b o hb h => by
  rw [e b hb]
  exact h
theorem SameBut.trans {p : Addr} {H H1 H2 : Hp} (a : SameBut p H H1) (b : SameBut p H1 H2) : SameBut p H H2 := fun c o hc h => b c o hc (a c o hc h)
theorem sbut {p : Addr} {H H' : Hp} (s : Same H H') : SameBut p H H' := fun b o _ h => s b o h
/-- what was tracked ahead of the pool -/
theorem SameBut.same {p : Addr} {H0 H H' : Hp} (s : Same H0 H) (np : H0 p = none) (e : SameBut p H H') : Same H0 H' := fun b o h => e b o (ne_of_none h np) (s b o h)
theorem PoolAt.same {H H' : Hp} {p : Addr} (h : PoolAt H p) (s : Same H H') : PoolAt H' p := by
  obtain ⟨x, y, z, e⟩ := h
  exact ⟨x, y, z, s _ _ e⟩
theorem PoolAt.new {H : Hp} {p a : Addr} (h : PoolAt H p) (n : H a = none) : a ≠ p := fun e => by
  obtain ⟨x, y, z, q⟩ := h
  rw [e, q] at n
  cases n
/-- an isinstance of an int -/
theorem isi_int {K : PySem.W.Frag} {i : Int} {T : String} {b : Bool} {H : Hp} {Q : VK} (h : kitB "int" T = some b) (q : Q (.bl b) H) : rIsi K [.int i, .ty T] H Q :=
  ⟨_, _, _, _, b, rfl, .ty T, .base (.int i), kit_ty h, q⟩
theorem isi_tup {K : PySem.W.Frag} {a : Addr} {xs : List V} {T : String} {b : Bool} {H : Hp} {Q : VK} (ha : H a = some (.tup xs)) (h : kitB "tuple" T = some b) (q : Q (.bl b) H) : rIsi K [.ref a, .ty T] H Q :=
  ⟨_, _, _, _, b, rfl, .ty T, .base (.tup ha), kit_ty h, q⟩
theorem isi_bl {K : PySem.W.Frag} {x : Bool} {T : String} {b : Bool} {H : Hp} {Q : VK} (h : kitB "bool" T = some b) (q : Q (.bl b) H) : rIsi K [.bl x, .ty T] H Q :=
  ⟨_, _, _, _, b, rfl, .ty T, .base (.bl x), kit_ty h, q⟩
theorem isi_lst {K : PySem.W.Frag} {a : Addr} {xs : List V} {T : String} {b : Bool} {H : Hp} {Q : VK} (ha : H a = some (.lst xs)) (h : kitB "list" T = some b) (q : Q (.bl b) H) : rIsi K [.ref a, .ty T] H Q :=
  ⟨_, _, _, _, b, rfl, .ty T, .base (.lst ha), kit_ty h, q⟩
/-- the law's own promise -/
def spLaw (K : PySem.W.Frag) : Sp := fun vs H Q _ => ∃ (a : Addr) (ns : List Int), vs = [.ref a] ∧ SqL K H a (ns.map V.int) ∧ ns.length ≤ 63 ∧ ∀ H', Q (.bl true) H'
/-- a test by an own truth -/
theorem pt_own {X : Cx} {a : Expr} {ta : TE} {r : V → Hp → (Bool → Hp → Prop) → Prop} (ha : PE X a ta) (hr : TruR X r) (he : ∀ whole, isTrue a X.env whole = (do let v ← whole; standAt a.pos; holding [v] (truthy v)) := by intro _; rfl) :
    PT X a (fun σ H Q => ta σ H fun x H' => r x H' Q) :=
  ⟨fun pins s σ H Q I h => isTrue_plain (thn (ha.run pins s σ H _ I h) fun v s1 ⟨x, H1, I1, r1, q1⟩ => hr pins s1 σ H1 x v Q I1 r1 q1) (he _)⟩
abbrev s_primes : Stmt := top 21
theorem sc_primes : FnScope ["_law_pool_here", "_law_menu", "_law_k"] ["_law_pool_here"] (defScope s_primes) := ⟨rfl, rfl, rfl, by decide +kernel, rfl, by decide +kernel, by decide +kernel⟩
def menu21 : List Int := [2, 3, 5, 7, 11, 13, 59, 999983, 2147483647]
def spPrimes : Sp := fun vs H Q _ => ∃ p : Addr, vs = [.ref p] ∧ PoolAt H p ∧
  ∀ r (ns : List Int) H', (∀ z ∈ ns, z ∈ menu21) → ns.length ≤ 6 → H' r = some (.lst (ns.map V.int)) → H r = none → r ≠ p → SameBut p H H' → PoolAt H' p → Q (.ref r) H'
theorem ok_primes {f : Addr} {fd : FuncData} (T : Txt mg) (F : Fun K "_law_primes" "_law_primes" s_primes f fd) (c_take : Cl P w K mg base CX0 1 "_law_take" spTake) : FnOk P w K mg base CX0 2 f fd ["_law_pool_here"] spPrimes := by
  refine F.ok sc_primes (fun vs H Q E h => ?_) (fun cdv A outer s H vs Q E hr h => ?_)
  · obtain ⟨p, rfl, _⟩ := h
    rfl
  · obtain ⟨p, rfl, P0, q⟩ := h
    refine ⟨_, (pss_cons (ps_set (i := 1) sc_primes.nd rfl (Or.inr rfl) (pe_lst (pa_cons pe_int (pa_cons pe_int (pa_cons pe_int (pa_cons pe_int (pa_cons pe_int (pa_cons pe_int (pa_cons pe_int (pa_cons pe_int (pa_cons pe_int pa_nil)))))))))))
 (pss_one (ps_ret (pe_lc (own := [("_law_k", 2)]) (g := gName 2) (tt := tYes) rfl sc_primes.nd (pi_range1 rfl T.range (pa_cons (pe_cl c_take hr (pa_cons (pv 0) (pa_cons pe_int pa_nil))) pa_nil)) (blkOk_by (N := ["_law_pool_here", "_law_menu", "_law_k"]) (sc := defScope s_primes) (by decide +kernel)) (fun _ _ _ _ _ => pg_name (i := 2) sc_primes.nd rfl (Or.inl rfl)) (fun _ _ _ _ _ => pts_nil) (fun _ _ _ _ _ => pe_ix (r := rIxL K) (by exact ix_list) (pv 1) (pe_cl c_take (by exact hr) (pa_cons (pv 0) (pa_cons pe_int pa_nil))) (fun _ _ => rfl)))))), ?_⟩
    refine ⟨(by show 9 ≤ sizeLine; decide), fun m hm => ?_⟩
    have mp : m ≠ p := P0.new hm
    have P1 := P0.same (same_upd (o := .lst (menu21.map V.int)) hm)
    refine ⟨_, rfl, p, 7, rfl, P1, by decide, by decide, fun v H2 v0 v1 e2 P2 => ?_⟩
    refine ⟨v, rfl, by omega, by omega, fun D hD => ?_⟩
    have hm2 : H2 m = some (.lst (menu21.map V.int)) := by
      rw [e2 m mp]
      exact upd_same
    have Dp : D ≠ p := P2.new hD
    have Dm : D ≠ m := fun e => by
      rw [e, hm2] at hD
      cases hD
    have b2 : SameBut p H H2 := (sbut (same_upd (o := .lst (menu21.map V.int)) hm)).trans (SameBut.of e2)
    refine lc_range (lo := 0) (n := v.toNat) (fun i H' => SameBut p H2 H' ∧ PoolAt H' p ∧ ∃ acc : List Int, H' D = some (.lst (acc.map V.int)) ∧ acc.length = i ∧ ∀ z ∈ acc, z ∈ menu21)
      ⟨sbut (same_upd hD), P2.same (same_upd hD), [], upd_same, rfl, fun _ h => nomatch h⟩ ?_ ?_
    · rintro i H3 hi ⟨b3, P3, acc, hacc, hl, hin⟩
      refine ⟨rfl, ?_⟩
      refine ⟨_, rfl, _, rfl, p, 9, rfl, P3, by decide, by decide, fun u H4 u0 u1 e4 P4 => ?_⟩
      have hm4 : H4 m = some (.lst (menu21.map V.int)) := by
        rw [e4 m mp]
        exact b3 m _ mp hm2
      obtain ⟨x, hx, hxm⟩ := at_some (xs := menu21.map V.int) u0 (by show u < 9; exact u1)
      obtain ⟨z, hz, rfl⟩ := List.mem_map.mp hxm
      refine ⟨m, _, _, _, rfl, rfl, SqL.of hm4, hx, ?_⟩
      have hacc4 : H4 D = some (.lst (acc.map V.int)) := by
        rw [e4 D Dp]
        exact hacc
      refine ⟨_, hacc4, by rw [List.length_map]; exact small1000 (by omega), fun b o hb eb => ?_, ?_, acc ++ [z], ?_, ?_, ?_⟩
      · have hbD : b ≠ D := ne_of_none eb hD
        rw [upd_ne hbD, e4 b hb]
        exact b3 b o hb eb
      · obtain ⟨a1, a2, a3, a4⟩ := P4
        exact ⟨a1, a2, a3, by rw [upd_ne Dp.symm]; exact a4⟩
      · rw [List.map_append]
        exact upd_same
      · rw [List.length_append, hl]
        rfl
      · intro y hy
        rcases List.mem_append.mp hy with h | h
        · exact hin y h
        · rw [List.mem_singleton.mp h]
          exact hz
    · rintro H3 ⟨b3, P3, acc, hacc, hl, hin⟩
      refine q D acc H3 hin (by omega) hacc ?_ Dp (b2.trans b3) P3
      cases e : H D with
      | none => rfl
      | some o =>
        have z := b2 D o Dp e
        rw [hD] at z
        cases z
abbrev s_refused : Stmt := top 22
theorem sc_refused : FnScope ["_law_endless", "_law_rows", "e"] ["_law_endless", "_law_rows"] (defScope s_refused) := ⟨rfl, rfl, rfl, by decide +kernel, rfl, by decide +kernel, by decide +kernel⟩
def spRefused : Sp := fun vs H Q _ => ∃ (e : Bool) (a : Addr) (ns : List Int) (b : Int), vs = [.bl e, .ref a] ∧ (∃ xs, H a = some (.lst xs) ∧ xs = ns.map V.int) ∧ (∀ q ∈ ns, q < 2 ^ 62) ∧ ns.length < 64 ∧ (¬ ∀ q ∈ ns, Pr q) ∧
  (∀ (i : Nat) (c : Int), ns[i]? = some c → ¬ Pr c → (∀ (j : Nat) (q : Int), j < i → ns[j]? = some q → Pr q) → c = b) ∧ ∀ H', Same H H' → Q (.int b) H'
theorem ok_refused {f C CB fI : Addr} {fd : FuncData} (T : ChT K mg C) (F : Fun K "_law_refused" "_law_refused" s_refused f fd) (TB : ErrC K mg "BadCharacteristic" "p" CB fI) (c_cil : Ma P w K mg base 3 C (spCI C CB false K)) : FnOk P w K mg base CX0 5 f fd ["_law_endless", "_law_rows"] spRefused := by
  refine F.ok sc_refused (fun vs H Q E h => ?_) (fun cdv A outer s H vs Q E hr h => ?_)
  · obtain ⟨e, a, _, _, rfl, _⟩ := h
    rfl
  · obtain ⟨e, a, ns, b, rfl, ⟨xs, ha, rfl⟩, hb, few, bad, one, q⟩ := h
    refine ⟨_, (pss_cons (L2N.ps_try_as (i := 2) rfl rfl sc_refused.nd rfl rfl ⟨rfl, by decide, Or.inl TB.g⟩ takes0N
  (fun W pn xe tk _ => (pss_one (ps_expr (pe_maX c_cil hr tk T.g (pa_cons (pv 0) (pa_cons (pv 1) pa_nil))))))
  (fun a oe cls d pn hz hf => (pss_one (ps_ret (pe_xf TB.xf TB.no hz.zc hf (pv 2))))))
 (pss_one (ps_ret pe_non))), ?_⟩
    refine ⟨_, rfl, _, rfl, fun x dx hx hdx hne => ?_⟩
    have s1 : Same H (upd (upd H dx (.own x)) x (.ins C dx [])) := fun b o eb => by
      rw [upd_ne (ne_of_none eb hx), upd_ne (ne_of_none eb hdx)]
      exact eb
    refine ⟨x, dx, a, e, ns, rfl, upd_same, s1.seq (SqL.of ha), hb, few, fun h => absurd h bad, fun i c hi hc hp d H' s2 hd => ?_⟩
    have ec := one i c hi hc hp
    subst ec
    exact ⟨true, TB.te, fun _ y _ => ⟨_, rfl, rfl, rfl, d, _, _, rfl, hd, rfl, q H' (s1.trans s2)⟩, fun z => Bool.noConfusion z⟩
theorem pr_m31 : Pr 2147483647 := pr_of_trial (n := 2147483647) 46342 (by decide +kernel)
theorem menu21_pr : ∀ z ∈ menu21, Pr z ∧ z < 2 ^ 62 := by
  have a2 : Pr 2 := pr_of_trial (n := 2) 10 (by decide +kernel)
  have a3 : Pr 3 := pr_of_trial (n := 3) 10 (by decide +kernel)
  have a5 : Pr 5 := pr_of_trial (n := 5) 10 (by decide +kernel)
  have a7 : Pr 7 := pr_of_trial (n := 7) 10 (by decide +kernel)
  have a11 : Pr 11 := pr_of_trial (n := 11) 10 (by decide +kernel)
  have a13 : Pr 13 := pr_of_trial (n := 13) 10 (by decide +kernel)
  have a59 : Pr 59 := pr_of_trial (n := 59) 10 (by decide +kernel)
  have ag : Pr 999983 := pr_of_trial (n := 999983) 1010 (by decide +kernel)
  intro z hz
  unfold menu21 at hz
  rcases List.mem_cons.mp hz with h | hz
  · exact (by rw [h]; exact ⟨a2, by decide⟩)
  rcases List.mem_cons.mp hz with h | hz
  · exact (by rw [h]; exact ⟨a3, by decide⟩)
  rcases List.mem_cons.mp hz with h | hz
  · exact (by rw [h]; exact ⟨a5, by decide⟩)
  rcases List.mem_cons.mp hz with h | hz
  · exact (by rw [h]; exact ⟨a7, by decide⟩)
  rcases List.mem_cons.mp hz with h | hz
  · exact (by rw [h]; exact ⟨a11, by decide⟩)
  rcases List.mem_cons.mp hz with h | hz
  · exact (by rw [h]; exact ⟨a13, by decide⟩)
  rcases List.mem_cons.mp hz with h | hz
  · exact (by rw [h]; exact ⟨a59, by decide⟩)
  rcases List.mem_cons.mp hz with h | hz
  · exact (by rw [h]; exact ⟨ag, by decide⟩)
  rcases List.mem_cons.mp hz with h | hz
  · exact (by rw [h]; exact ⟨pr_m31, by decide⟩)
  · cases hz
theorem menu21_61 : (61 : Int) ∉ menu21 := by decide
theorem npr_le {p : Int} (h : p < 2) : ¬ Pr p := fun q => by have := q.1; omega
theorem npr_mul {a b : Int} (ha : 2 ≤ a) (hb : 2 ≤ b) : ¬ Pr (a * b) := fun q => by
  have : a * 2 ≤ a * b := Int.mul_le_mul_of_nonneg_left hb (by omega)
  exact q.2 a ha (by omega) ⟨b, rfl⟩
theorem no_zero {l : List Int} (h : ∀ q ∈ l, Pr q ∧ q < 2 ^ 62) (e : Bool) : memB e l 0 = e := by
  have : (0 : Int) ∉ l := fun c => by
    have := (h 0 c).1.1
    omega
  unfold memB
  cases e <;> simp [this]
theorem mem_only {l ns : List Int} (e : Bool) (m : ∀ q, q ∈ l ↔ q ∈ ns) (z : Int) : memB e l z = memB e ns z := by
  unfold memB
  rw [show decide (z ∈ l) = decide (z ∈ ns) from decide_eq_decide.mpr (m z)]
theorem memB_nil (e : Bool) (p : Int) : memB e [] p = e := by
  unfold memB
  cases e <;> simp
theorem bl_ne (a b : Bool) : (!decide (V.bl a = V.bl b)) = xor a b := by cases a <;> cases b <;> simp
theorem memB_xor (e : Bool) (l : List Int) (z : Int) : memB e l z = xor (decide (z ∈ l)) e := by
  unfold memB
  cases e <;> simp
theorem at_mid {pre post : List Int} {b c : Int} {i : Nat} (hp : ∀ q ∈ pre, Pr q) (hb : ¬ Pr b) (h : (pre ++ b :: post)[i]? = some c) (hc : ¬ Pr c) (all : ∀ (j : Nat) (q : Int), j < i → (pre ++ b :: post)[j]? = some q → Pr q) : c = b := by
  by_cases c1 : i < pre.length
  · rw [List.getElem?_append_left c1] at h
    exact absurd (hp c (List.mem_of_getElem? h)) hc
  · by_cases c2 : i = pre.length
    · rw [c2, List.getElem?_append_right (Nat.le_refl _), Nat.sub_self] at h
      exact (Option.some.inj h).symm
    · refine absurd (all pre.length b (by omega) ?_) hb
      rw [List.getElem?_append_right (Nat.le_refl _), Nat.sub_self]
      rfl
/-- a set stands where only a list is changed -/
theorem CharsAt.but {C : Addr} {H H' : Hp} {a q : Addr} {e : Bool} {l : List Int} {xs : List V} (h : CharsAt C H a e l) (hq : H q = some (.lst xs)) (b : SameBut q H H') : CharsAt C H' a e l := by
  obtain ⟨dx, t, h1, h2⟩ := h.ob
  refine ⟨⟨dx, t, b _ _ (fun z => ?_) h1, b _ _ (fun z => ?_) h2⟩, h.srt, h.prm⟩
  · rw [z, hq] at h1
    cases h1
  · rw [z, hq] at h2
    cases h2
structure S21 (C p r x : Addr) (e : Bool) (ns l : List Int) (H : Hp) : Prop where
  pool : PoolAt H p
  row : H r = some (.lst (ns.map V.int))
  ch : CharsAt C H x e l
theorem S21.same {C p r x : Addr} {e : Bool} {ns l : List Int} {H H' : Hp} (h : S21 C p r x e ns l H) (s : Same H H') : S21 C p r x e ns l H' := ⟨h.pool.same s, s _ _ h.row, h.ch.same s⟩
abbrev s_law : Stmt := top 23
theorem sc_law : FnScope ["_law_script", "_law_pool_here", "_law_endless", "_law_row", "_law_passed", "_law_found", "_law_clocks", "_law_p", "_law_at", "_law_bad"] ["_law_script"] (defScope s_law) := ⟨rfl, rfl, rfl, by decide +kernel, rfl, by decide +kernel, by decide +kernel⟩
theorem ok_law {f C CB : Addr} {fd : FuncData} (TT : Txt mg) (T : ChT K mg C) (nf : PySem.W.subIn K (.type "tuple") (.ref C) = some false) (F : Fun K "law" "law" s_law f fd) (c_pool : Cl P w K mg base CX0 1 "_law_pool" spPool) (c_take : Cl P w K mg base CX0 1 "_law_take" spTake) (c_cell : Cl P w K mg base CX0 1 "_law_cell" (spCellL K)) (c_lprime : Cl P w K mg base CX0 1 "_law_is_prime" spPrime)
    (c_primes : Cl P w K mg base CX0 2 "_law_primes" spPrimes) (c_refused : Cl P w K mg base CX0 5 "_law_refused" spRefused) (c_cit : Ma P w K mg base 3 C (spCI C CB true K)) (c_cil : Ma P w K mg base 3 C (spCI C CB false K)) (c_every : Cm P w K mg base 5 C "every" (spCevery C true)) (c_none : Cm P w K mg base 5 C "none" (spCevery C false))
    (c_only : CmR P w K mg base 5 C "only" (spStar C false)) (c_but : CmR P w K mg base 5 C "but" (spStar C true)) (c_cont : Me P w K mg base 1 C "__contains__" (spCont C)) (c_eq : Me P w K mg base 1 C "__eq__" (spCeq C)) (c_eqT : Me P w K mg base 1 C "__eq__" (spCeqT C)) (c_bool : Me P w K mg base 1 C "__bool__" (spCbool C)) : FnOk P w K mg base CX0 7 f fd ["_law_script"] (spLaw K) := by
  refine F.ok sc_law (fun vs H Q E h => ?_) (fun cdv A outer s H vs Q E hr h => ?_)
  · obtain ⟨a, ns, rfl, _⟩ := h
    rfl
  · obtain ⟨l0, ns0, rfl, hS, hlen, q⟩ := h
    refine ⟨_, (pss_cons (ps_set (i := 1) sc_law.nd rfl (Or.inl rfl) (pe_cl c_pool hr (pa_cons (pe_cl c_cell hr (pa_cons (pv 0) (pa_cons pe_int pa_nil))) pa_nil)))
 (pss_cons (ps_set (i := 2) sc_law.nd rfl (Or.inl rfl) (pe_cmpR op_eq (pe_cl c_take hr (pa_cons (pv 1) (pa_cons pe_int pa_nil))) pe_int (nomark _)))
 (pss_cons (ps_set (i := 3) sc_law.nd rfl (Or.inl rfl) (pe_cl c_primes hr (pa_cons (pv 1) pa_nil)))
 (pss_cons (ps_set (i := 4) sc_law.nd rfl (Or.inl rfl) (pe_callTy call_list_of (by rfl) TT.list boot_list (pa_cons (pv 3) pa_nil)))
 (pss_cons (ps_set (i := 5) sc_law.nd rfl (Or.inl rfl) (pe_ma c_cil hr T.g (pa_cons (pv 2) (pa_cons (pv 4) pa_nil))))
 (pss_cons (ps_if (pw_or (pt_cmpR (op_neD (hu64 hr)) (pv 4) (pv 3) (nomark _)) (pw_or1 (pt_not (pt_cmpR (op_eq_own c_eq hr) (pv 5) (pe_ma c_cit hr T.g (pa_cons (pv 2) (pa_cons (pe_tupleOf (by rfl) TT.tuple (pv 3)) pa_nil))) (nomark _))))).pt (pss_one (ps_ret pe_bl)) pss_nil)
 (Evl.pss_cut (ps_expr (pe_bm PySem.F.plainAttrs_list PySem.F.slot_list_append PySem.F.type_list_append mt_append (pv 4) (pa_cons pe_int pa_nil)))
 (Evl.pss_cut (ps_set (i := 6) sc_law.nd rfl (Or.inl rfl) (pe_op op_cat (pe_lc (own := [("_law_p", 7)]) (g := gName 7) rfl sc_law.nd (pi_range2 rfl TT.range (pa_cons pe_int (pa_cons pe_int pa_nil))) (blkOk_by (N := ["_law_script", "_law_pool_here", "_law_endless", "_law_row", "_law_passed", "_law_found", "_law_clocks", "_law_p", "_law_at", "_law_bad"]) (sc := defScope s_law) (by decide +kernel)) (fun _ _ _ _ _ => pg_name (i := 7) sc_law.nd rfl (Or.inl rfl)) (fun _ _ _ _ _ => pts_one (pt_val (pe_cl c_lprime (by exact hr) (pa_cons (pv 7) pa_nil)))) (fun _ _ _ _ _ => pv 7)) (pe_lst (pa_cons pe_int (pa_cons pe_int (pa_cons pe_int pa_nil))))))
 (Evl.pss_cut (ps_for PassesOwn.never rfl (pi_list (pv 6)) (pg_name (i := 7) sc_law.nd rfl (Or.inl rfl)) (pss_cons (ps_if (pw_or (pt_cmpR op_ne (pe_cmpR (op_in_own c_cont hr) (pv 7) (pv 5) (by with_unfolding_all rfl)) (pe_cmpR op_ne (pe_cmpR op_in_seq (pv 7) (pv 3) (by with_unfolding_all rfl)) (pv 2) (nomark _)) (nomark _)) (pw_or1 (pt_cmpR (op_notIn_own c_cont hr) (pv 7) (pe_cm0 c_every hr (pe_glob (v := .ref C) (by rfl) T.g rfl) ) (by with_unfolding_all rfl)))).pt (pss_one (ps_ret pe_bl)) pss_nil)
 (pss_cons (ps_if (pt_cmpR (op_in_own c_cont hr) (pv 7) (pe_cm0 c_none hr (pe_glob (v := .ref C) (by rfl) T.g rfl) ) (by with_unfolding_all rfl)) (pss_one (ps_ret pe_bl)) pss_nil)
 (pss_cons (ps_if (pt_cmpR op_ne (pe_cmpR (op_in_own c_cont hr) (pv 7) (pe_cmR c_only hr (pe_glob (v := .ref C) (by rfl) T.g rfl) (pa_cons pe_int (pa_cons pe_int (pa_cons pe_int pa_nil)))) (by with_unfolding_all rfl)) (pe_cmpR op_in_seq (pv 7) (pe_lst (pa_cons pe_int (pa_cons pe_int pa_nil))) (by with_unfolding_all rfl)) (nomark _)) (pss_one (ps_ret pe_bl)) pss_nil)
 (pss_one (ps_if (pt_cmpR op_ne (pe_cmpR (op_in_own c_cont hr) (pv 7) (pe_cmR c_but hr (pe_glob (v := .ref C) (by rfl) T.g rfl) (pa_cons pe_int (pa_cons pe_int pa_nil))) (by with_unfolding_all rfl)) (pe_cmpR op_notIn_seq (pv 7) (pe_lst (pa_cons pe_int (pa_cons pe_int pa_nil))) (by with_unfolding_all rfl)) (nomark _)) (pss_one (ps_ret pe_bl)) pss_nil))))))
 (Evl.pss_cut (ps_if (pw_or (pt_cmpR op_ne (pe_cmpR (op_in_own c_cont hr) pe_int (pv 5) (by with_unfolding_all rfl)) (pv 2) (nomark _)) (pw_or (pt_cmpR (op_notIn_own c_cont hr) pe_int (pe_cm0 c_every hr (pe_glob (v := .ref C) (by rfl) T.g rfl) ) (by with_unfolding_all rfl)) (pw_or (pt_cmpR (op_in_own c_cont hr) pe_int (pe_cm0 c_none hr (pe_glob (v := .ref C) (by rfl) T.g rfl) ) (by with_unfolding_all rfl)) (pw_or1 (pt_cmpR (op_notIn_own c_cont hr) pe_int (pe_cmR c_but hr (pe_glob (v := .ref C) (by rfl) T.g rfl) (pa_cons pe_int pa_nil)) (by with_unfolding_all rfl)))))).pt (pss_one (ps_ret pe_bl)) pss_nil)
 (Evl.pss_cut (ps_if (pw_or (pt_cmpR op_ne (pe_fld (pv 5) rfl) (pv 2) (nomark _)) (pw_or1 (pt_not (pt_val (pe_callB call_isi (by rfl) TT.isinstance boot_isinstance (pa_cons (pe_fld (pv 5) rfl) (pa_cons (pe_bltn (v := .ty "bool") (by rfl) TT.bool boot_bool rfl) pa_nil))))))).pt (pss_one (ps_ret pe_bl)) pss_nil)
 (Evl.pss_cut (ps_if (pt_cmpR (op_neD (hu64 hr)) (pe_fld (pv 5) rfl) (pe_tupleOf (by rfl) TT.tuple (pe_callB (cr_sortedSet rfl) (by rfl) TT.sorted boot_sorted (pa_cons (pe_callTy (cr_setInts rfl) (by rfl) TT.set boot_set (pa_cons (pv 3) pa_nil)) pa_nil))) (nomark _)) (pss_one (ps_ret pe_bl)) pss_nil)
 (Evl.pss_cut (ps_if (pt_cmpR op_ne (pe_callTy (cr_boolOwn c_bool hr) (by rfl) TT.bool boot_bool (pa_cons (pv 5) pa_nil)) (pe_or (pv 2) (pe_one (pe_cmpR (op_neD (hu64 hr)) (pv 3) (pe_lst pa_nil) (nomark _)))) (nomark _)) (pss_one (ps_ret pe_bl)) pss_nil)
 (Evl.pss_cut (ps_if (pw_or (pt_cmpR (op_eq_own c_eq hr) (pv 5) (pe_ma c_cil hr T.g (pa_cons (pe_not (pv 2)) (pa_cons (pv 3) pa_nil))) (nomark _)) (pw_or1 (pt_cmpR (op_eq_own c_eq hr) (pv 5) (pe_ma c_cil hr T.g (pa_cons (pv 2) (pa_cons (pe_op op_cat (pv 3) (pe_lst (pa_cons pe_int pa_nil))) pa_nil))) (nomark _)))).pt (pss_one (ps_ret pe_bl)) pss_nil)
 (Evl.pss_cut (ps_if (pt_cmpR (op_eq_ownT c_eqT hr nf) (pv 5) (pe_fld (pv 5) rfl) (nomark _)) (pss_one (ps_ret pe_bl)) pss_nil)
 (pss_cons (ps_set (i := 8) sc_law.nd rfl (Or.inl rfl) (pe_cl c_take hr (pa_cons (pv 1) (pa_cons (pe_op op_add pe_int (pe_callB call_len_seq (by rfl) TT.len PySem.boot_len (pa_cons (pv 3) pa_nil))) pa_nil))))
 (pss_cons (ps_set (i := 9) sc_law.nd rfl (Or.inl rfl) (pe_ix ix_list (pe_lst (pa_cons pe_int (pa_cons pe_int (pa_cons (pe_un un_neg pe_int) (pa_cons pe_int (pa_cons pe_int (pa_cons (pe_op op_mul pe_int pe_int) pa_nil))))))) (pe_cl c_take hr (pa_cons (pv 1) (pa_cons pe_int pa_nil))) (fun _ _ => rfl)))
 (pss_cons (ps_if (pt_cmpR op_ne (pe_cl c_refused hr (pa_cons (pv 2) (pa_cons (pe_op op_cat (pe_op op_cat (pe_op op_cat (pe_slice sl_list (pv 3) po_none (po_some (pv 8))) (pe_lst (pa_cons (pv 9) pa_nil))) (pe_slice sl_list (pv 3) (po_some (pv 8)) po_none)) (pe_lst (pa_cons pe_int pa_nil))) pa_nil))) (pv 9) (nomark _)) (pss_one (ps_ret pe_bl)) pss_nil)
 (pss_one (ps_ret (pe_cmpR (op_eq_own c_eq hr) (pe_cmR0 c_only hr (pe_glob (v := .ref C) (by rfl) T.g rfl) ) (pe_cm0 c_none hr (pe_glob (v := .ref C) (by rfl) T.g rfl) ) (nomark _)))))))))))))))))))))), ?_⟩
    refine ⟨_, rfl, l0, ns0, 0, rfl, hS, fun c => ⟨c, rfl, fun p H1 np s1 P1 => ?_⟩⟩
    refine ⟨_, rfl, p, 2, rfl, P1, by decide, by decide, fun v H2 v0 v1 e2 P2 => ⟨rfl, ?_⟩⟩
    generalize decide (V.int v = V.int 1) = e
    refine ⟨_, rfl, p, rfl, P2, fun r ns H3 hin hlen6 hr3 _ rp b3 P3 => ?_⟩
    have hpr : ∀ z ∈ ns, Pr z ∧ z < 2 ^ 62 := fun z hz => menu21_pr z (hin z hz)
    refine ⟨_, rfl, r, _, rfl, .inl (SqL.of hr3), fun ps nps => ?_⟩
    have g1 := same_upd (o := .lst (ns.map V.int)) nps
    refine ⟨_, rfl, _, rfl, ?_⟩
    intro x dnx hnx hdx _
    refine make_at (CB := CB) (tup := false) (e := e) (ns := ns) hnx hdx (SqL.of upd_same) hpr (by omega) fun l H4 mem len ch s4 => ⟨rfl, ?_⟩
    have hps4 := s4 _ _ upd_same
    have hr4 := s4 _ _ (g1 _ _ hr3)
    have P4 := P3.same (g1.trans s4)
    obtain ⟨dx, t, o1, o2⟩ := ch.ob
    have rps : r ≠ ps := ne_of_none hr3 nps
    have pps : p ≠ ps := (P3.new nps).symm
    -- if passed != row or not found == ..
    refine ⟨_, rfl, _, rfl, _, _, dp_lst (SqL.of hps4), dp_lst (SqL.of hr4), shaped_ints _, shaped_ints _, _, rfl, if_neg_of (by rw [eqv_ints]; simp) ?_⟩
    refine ⟨_, rfl, _, rfl, _, rfl, .inl ⟨r, _, rfl, SqL.of hr4, fun tu ntu => ?_⟩⟩
    have g5 := same_upd (o := .tup (ns.map V.int)) ntu
    intro x2 dnx2 hnx2 hdx2 _
    refine make_at (CB := CB) (tup := true) (e := e) (ns := ns) hnx2 hdx2 (.inl (.inl upd_same)) hpr (by omega) fun l2 H5 mem2 len2 ch2 s5 => ⟨rfl, ?_⟩
    have el : l2 = l := sorted_uniq ch2.srt ch.srt fun z => (mem2 z).trans (mem z).symm
    subst el
    obtain ⟨dy, u, w1, w2⟩ := ch2.ob
    have s45 := g5.trans s5
    refine ⟨x, x2, _, _, _, _, rfl, rfl, s45 _ _ o1, w1, x, x2, _, _, _, _, rfl, ch.same s45, ch2, _, rfl, if_neg_of (by simp) ?_⟩
    have hps5 := s45 _ _ hps4
    refine ⟨fun σ H' => S21 C p r x e ns l2 H' ∧ σ = [some (.ref l0), some (.ref p), some (.bl e), some (.ref r), some (.ref ps), some (.ref x), none, none, none, none], ?_, ?_⟩
    · refine ⟨_, rfl, .inl ⟨rfl, _, SqL.of hps5⟩, ps, _, _, rfl, rfl, hps5, by rw [List.length_map]; exact small1000 (by omega), ?_⟩
      have bb : SameBut ps H5 (upd H5 ps (.lst (ns.map V.int ++ [V.int 17]))) := fun b o hb eb => by
        rw [upd_ne hb]
        exact eb
      refine ⟨⟨?_, bb _ _ rps (s45 _ _ hr4), (ch.same s45).but hps5 bb⟩, rfl⟩
      obtain ⟨a1, a2, a3, a4⟩ := P4.same s45
      exact ⟨a1, a2, a3, bb _ _ pps a4⟩
    clear hps5 w1 w2 dy u s45 ch2 mem2 len2 s5 g5 P4 hr4 hps4 o1 o2 t dx ch s4
    rintro σ H6 ⟨S6, rfl⟩
    -- clocks
    refine ⟨fun σ H' => S21 C p r x e ns l2 H' ∧ ∃ (ck : Addr) (cs : List Int), H' ck = some (.lst (cs.map V.int)) ∧ σ = [some (.ref l0), some (.ref p), some (.bl e), some (.ref r), some (.ref ps), some (.ref x), some (.ref ck), none, none, none], ?_, ?_⟩
    · refine ⟨2, 100, rfl, ⟨by decide, by decide, by decide, by decide⟩, fun D hD => lc_range (lo := 2) (n := 98) (fun i H' => Same H6 H' ∧ ∃ acc : List Int, H' D = some (.lst (acc.map V.int)) ∧ acc.length ≤ i)
        ⟨same_upd hD, [], upd_same, Nat.le_refl _⟩ ?_ ?_⟩
      · rintro i H7 hi ⟨s7, acc, hacc, hl⟩
        refine ⟨rfl, _, rfl, 2 + (i : Int), rfl, by omega, _, rfl, ?_⟩
        by_cases hp : Pr (2 + (i : Int))
        · refine if_pos_of (prB_true hp) ?_
          refine ⟨_, rfl, _, hacc, by rw [List.length_map]; exact small1000 (by omega), fun b o eb => ?_, acc ++ [2 + (i : Int)], ?_, ?_⟩
          · rw [upd_ne (ne_of_none eb hD)]
            exact s7 _ _ eb
          · rw [List.map_append]
            exact upd_same
          · rw [List.length_append]
            show acc.length + 1 ≤ i + 1
            omega
        · refine if_neg_of (prB_false hp) ?_
          exact ⟨s7, acc, hacc, by omega⟩
      · rintro H7 ⟨s7, acc, hacc, hl⟩
        refine ⟨(by show 3 ≤ sizeLine; decide), fun q2 n2 => ?_⟩
        have g2 := same_upd (o := .lst [.int 999983, .int 2147483647, .int 2305843009213693951]) n2
        refine ⟨D, q2, _, _, rfl, rfl, g2 _ _ hacc, upd_same, (by rw [List.length_map]; exact Nat.le_of_lt (small1000 (by show acc.length + 3 ≤ 1000; omega))), fun q4 n4 => ?_⟩
        refine ⟨S6.same ((s7.trans g2).trans (same_upd n4)), q4, acc ++ [999983, 2147483647, 2305843009213693951], ?_, rfl⟩
        rw [List.map_append]
        exact upd_same
    rintro σ H7 ⟨S7, ck, cs, hck, rfl⟩
    -- for p in clocks
    refine ⟨fun σ H' => S21 C p r x e ns l2 H' ∧ ∃ x7, σ = [some (.ref l0), some (.ref p), some (.bl e), some (.ref r), some (.ref ps), some (.ref x), some (.ref ck), x7, none, none], ?_, ?_⟩
    · refine ⟨_, rfl, ck, rfl, ⟨_, SqL.of hck⟩, for_list (K := K) (a := ck) (xs := cs.map V.int) (fun _ σ H' => Same H7 H' ∧ ∃ x7, σ = [some (.ref l0), some (.ref p), some (.bl e), some (.ref r), some (.ref ps), some (.ref x), some (.ref ck), x7, none, none])
        ⟨Same.refl _, _, rfl⟩ (fun i σ H' _ h => h.1.seq (SqL.of hck)) ?_ ?_⟩
      · rintro i y σ H8 hi ⟨s8, x7, rfl⟩
        obtain ⟨z, rfl, hz⟩ := item_int hi
        have S8 := S7.same s8
        obtain ⟨dx, t, o1, o2⟩ := S8.ch.ob
        refine ⟨_, rfl, _, rfl, x, dx, _, rfl, o1, x, _, l2, z, rfl, S8.ch, _, rfl, ?_⟩
        refine ⟨_, rfl, _, rfl, r, _, rfl, .inl (SqL.of S8.row), rfl, all_flat ns, _, rfl, rfl, rfl, _, rfl, if_neg_of ?_ ?_⟩
        · rw [bl_ne, memB_xor, if_neg (by decide), inV_ints, bl_ne, show decide (z ∈ l2) = decide (z ∈ ns) from decide_eq_decide.mpr (mem z)]
          simp
        refine ⟨_, rfl, rfl, rfl, fun r2 H9 c9 s9 => ?_⟩
        obtain ⟨d9, t9, y1, _⟩ := c9.ob
        refine ⟨r2, d9, _, rfl, y1, r2, _, _, z, rfl, c9, _, rfl, _, rfl, if_neg_of (by rw [memB_nil]; rfl) ?_⟩
        -- none
        refine ⟨_, rfl, rfl, rfl, fun r3 H10 c10 s10 => ?_⟩
        obtain ⟨d10, t10, y2, _⟩ := c10.ob
        refine ⟨r3, d10, _, rfl, y2, r3, _, _, z, rfl, c10, _, rfl, _, rfl, if_neg_of (by rw [memB_nil]; rfl) ?_⟩
        -- only
        refine ⟨_, rfl, rfl, [3, 7, 3], rfl, ?_, by decide, fun r4 l4 H11 m4 c11 s11 => ?_⟩
        · intro q hq
          rcases List.mem_cons.mp hq with h | hq
          · exact menu21_pr q (by rw [h]; decide)
          rcases List.mem_cons.mp hq with h | hq
          · exact menu21_pr q (by rw [h]; decide)
          rw [List.mem_singleton.mp hq]
          exact menu21_pr 3 (by decide)
        obtain ⟨d11, t11, y3, _⟩ := c11.ob
        refine ⟨r4, d11, _, rfl, y3, r4, _, _, z, rfl, c11, _, rfl, ?_⟩
        refine ⟨_, rfl, (by show 2 ≤ sizeLine; decide), fun q5 n5 => ?_⟩
        have g5 := same_upd (o := .lst [.int 3, .int 7]) n5
        refine ⟨q5, [.int 3, .int 7], rfl, .inl (SqL.of upd_same), rfl, rfl, rfl, _, rfl, if_neg_of ?_ ?_⟩
        · have iv := inV_ints z [3, 7]
          rw [bl_ne, if_neg (by decide), mem_only false m4, show inV (.int z) [V.int 3, V.int 7] = decide (z ∈ ([3, 7] : List Int)) from iv]
          unfold memB
          rw [if_neg (by decide), show decide (z ∈ ([3, 7, 3] : List Int)) = decide (z ∈ ([3, 7] : List Int)) from decide_eq_decide.mpr (by simp; omega)]
          simp
        -- but
        refine ⟨_, rfl, rfl, [2, 5], rfl, ?_, by decide, fun r6 l6 H12 m6 c12 s12 => ?_⟩
        · intro q hq
          rcases List.mem_cons.mp hq with h | hq
          · exact menu21_pr q (by rw [h]; decide)
          rw [List.mem_singleton.mp hq]
          exact menu21_pr 5 (by decide)
        obtain ⟨d12, t12, y4, _⟩ := c12.ob
        refine ⟨r6, d12, _, rfl, y4, r6, _, _, z, rfl, c12, _, rfl, ?_⟩
        refine ⟨_, rfl, (by show 2 ≤ sizeLine; decide), fun q7 n7 => ?_⟩
        have g7 := same_upd (o := .lst [.int 2, .int 5]) n7
        refine ⟨q7, [.int 2, .int 5], rfl, .inl (SqL.of upd_same), rfl, rfl, rfl, _, rfl, if_neg_of ?_ ?_⟩
        · have iv := inV_ints z [2, 5]
          rw [bl_ne, if_pos rfl, mem_only true m6, show inV (.int z) [V.int 2, V.int 5] = decide (z ∈ ([2, 5] : List Int)) from iv]
          unfold memB
          rw [if_pos rfl]
          simp
        exact ⟨((((s8.trans s9).trans s10).trans s11).trans g5).trans (s12.trans g7), _, rfl⟩
      · rintro σ H8 ⟨s8, x7, rfl⟩
        exact ⟨S7.same s8, _, rfl⟩
    rintro σ H8 ⟨S8, x7, rfl⟩
    clear hck
    -- 0 in ..
    refine ⟨fun σ H' => S21 C p r x e ns l2 H' ∧ σ = [some (.ref l0), some (.ref p), some (.bl e), some (.ref r), some (.ref ps), some (.ref x), some (.ref ck), x7, none, none], ?_, ?_⟩
    · obtain ⟨dx, t, o1, o2⟩ := S8.ch.ob
      refine ⟨_, rfl, x, dx, _, rfl, o1, x, _, l2, 0, rfl, S8.ch, _, rfl, _, rfl, rfl, _, rfl, if_neg_of (by rw [bl_ne, no_zero S8.ch.prm]; simp) ?_⟩
      refine ⟨rfl, rfl, fun r2 H9 c9 s9 => ?_⟩
      obtain ⟨d9, t9, y1, _⟩ := c9.ob
      refine ⟨r2, d9, _, rfl, y1, r2, _, _, 0, rfl, c9, _, rfl, _, rfl, if_neg_of (by rw [memB_nil]; rfl) ?_⟩
      refine ⟨rfl, rfl, fun r3 H10 c10 s10 => ?_⟩
      obtain ⟨d10, t10, y2, _⟩ := c10.ob
      refine ⟨r3, d10, _, rfl, y2, r3, _, _, 0, rfl, c10, _, rfl, _, rfl, if_neg_of (by rw [memB_nil]; rfl) ?_⟩
      refine ⟨rfl, [2], rfl, ?_, by decide, fun r4 l4 H11 m4 c11 s11 => ?_⟩
      · intro q hq
        rw [List.mem_singleton.mp hq]
        exact menu21_pr 2 (by decide)
      obtain ⟨d11, t11, y3, _⟩ := c11.ob
      refine ⟨r4, d11, _, rfl, y3, r4, _, _, 0, rfl, c11, _, rfl, _, rfl, if_neg_of (by rw [no_zero c11.prm]; rfl) ?_⟩
      exact ⟨S8.same ((s9.trans s10).trans s11), rfl⟩
    rintro σ H9 ⟨S9, rfl⟩
    -- endless
    refine ⟨fun σ H' => S21 C p r x e ns l2 H' ∧ σ = [some (.ref l0), some (.ref p), some (.bl e), some (.ref r), some (.ref ps), some (.ref x), some (.ref ck), x7, none, none], ?_, ?_⟩
    · obtain ⟨dx, t, o1, o2⟩ := S9.ch.ob
      refine ⟨_, rfl, x, C, dx, _, _, rfl, o1, T.cl, T.nE, chF_e _ _, _, rfl, rfl, _, rfl, iteNS rfl ?_⟩
      refine ⟨_, rfl, x, C, dx, _, _, rfl, o1, T.cl, T.nE, chF_e _ _, _, _, _, _, true, rfl, .ty "bool", .base (.bl e), kit_ty (by decide +kernel), _, rfl, if_neg_of rfl ?_⟩
      exact ⟨S9, rfl⟩
    rintro σ H10 ⟨S10, rfl⟩
    -- primes
    refine ⟨fun σ H' => S21 C p r x e ns l2 H' ∧ σ = [some (.ref l0), some (.ref p), some (.bl e), some (.ref r), some (.ref ps), some (.ref x), some (.ref ck), x7, none, none], ?_, ?_⟩
    · obtain ⟨dx, t, o1, o2⟩ := S10.ch.ob
      refine ⟨_, rfl, x, C, dx, _, _, rfl, o1, T.cl, T.nP, chF_p _ _, ?_⟩
      refine ⟨_, rfl, r, ns, rfl, .inl (SqL.of S10.row), by omega, fun p1 c np1 hc => ?_⟩
      refine ⟨p1, _, c, rfl, upd_same, (by omega), fun l3 p2 srt mem3 len3 np2 => ?_⟩
      refine .inl ⟨p2, _, rfl, SqL.of upd_same, fun t3 nt3 => ?_⟩
      have g1 := same_upd (o := SetO w p1 (fun j => decide (j ∈ ns)) c) np1
      have g2 := same_upd (o := .lst (l3.map V.int)) np2
      have g3 := same_upd (o := .tup (l3.map V.int)) nt3
      have gs := (g1.trans g2).trans g3
      have e3 : l2 = l3 := sorted_uniq S10.ch.srt srt fun z => (mem z).trans (by rw [mem3 z, decide_eq_true_iff])
      subst e3
      refine ⟨_, _, dp_tup (.inl (.inl (gs _ _ o2))), dp_tup (.inl (.inl upd_same)), shaped_intsT _, shaped_intsT _, _, rfl, if_neg_of (by rw [eqv_intsT]; simp) ?_⟩
      exact ⟨S10.same gs, rfl⟩
    rintro σ H11 ⟨S11, rfl⟩
    -- bool
    refine ⟨fun σ H' => S21 C p r x e ns l2 H' ∧ σ = [some (.ref l0), some (.ref p), some (.bl e), some (.ref r), some (.ref ps), some (.ref x), some (.ref ck), x7, none, none], ?_, ?_⟩
    · obtain ⟨dx, t, o1, o2⟩ := S11.ch.ob
      refine ⟨_, rfl, x, dx, _, rfl, o1, x, e, l2, rfl, S11.ch, _, rfl, ?_⟩
      refine ⟨_, rfl, e, rfl, ?_⟩
      have emp : (!l2.isEmpty) = (!decide (ns = [])) := by
        cases hl2 : l2 with
        | nil =>
          cases hns : ns with
          | nil => rfl
          | cons a b =>
            have := (mem a).mpr (by rw [hns]; exact List.mem_cons_self)
            rw [hl2] at this
            cases this
        | cons a b =>
          cases hns : ns with
          | nil =>
            have := (mem a).mp (by rw [hl2]; exact List.mem_cons_self)
            rw [hns] at this
            cases this
          | cons c d => rfl
      cases he : e with
      | true =>
        refine if_pos_of rfl ?_
        exact ⟨rfl, _, rfl, if_neg_of (by rw [bl_ne]; rfl) ⟨he ▸ S11, rfl⟩⟩
      | false =>
        refine if_neg_of rfl ?_
        refine ⟨_, rfl, (by show 0 ≤ sizeLine; decide), fun q3 n3 => ?_⟩
        have g3 := same_upd (o := .lst []) n3
        refine ⟨_, _, dp_lst (SqL.of (g3 _ _ S11.row)), dp_lst (l := []) (SqL.of upd_same), shaped_ints _, shaped_ints _, rfl, _, rfl, if_neg_of (by rw [bl_ne, eqv_ints, emp]; simp) ?_⟩
        exact ⟨he ▸ S11.same g3, rfl⟩
    rintro σ H12 ⟨S12, rfl⟩
    -- unequal sets
    refine ⟨fun σ H' => S21 C p r x e ns l2 H' ∧ σ = [some (.ref l0), some (.ref p), some (.bl e), some (.ref r), some (.ref ps), some (.ref x), some (.ref ck), x7, none, none], ?_, ?_⟩
    · obtain ⟨dx, t, o1, o2⟩ := S12.ch.ob
      refine ⟨_, rfl, _, rfl, _, rfl, _, rfl, ?_⟩
      intro x3 dnx3 hnx3 hdx3 _
      refine make_at (CB := CB) (tup := false) (e := !e) (ns := ns) hnx3 hdx3 (SqL.of S12.row) hpr (by omega) fun l3 H13 mem3 len3 ch3 s13 => ⟨rfl, ?_⟩
      obtain ⟨d3, t3, y3, _⟩ := ch3.ob
      refine ⟨x, x3, _, _, _, _, rfl, rfl, s13 _ _ o1, y3, x, x3, _, _, _, _, rfl, S12.ch.same s13, ch3, _, rfl, if_neg_of (decide_eq_false fun h => by cases e <;> exact absurd h.1 (by decide)) ?_⟩
      refine ⟨_, rfl, _, rfl, _, rfl, (by show 1 ≤ sizeLine; decide), fun q4 n4 => ?_⟩
      have g4 := same_upd (o := .lst [.int 61]) n4
      refine ⟨r, q4, _, _, rfl, rfl, g4 _ _ (s13 _ _ S12.row), upd_same, (by rw [List.length_map]; exact Nat.le_of_lt (small1000 (by show ns.length + 1 ≤ 1000; omega))), fun q5 n5 => ?_⟩
      have g5 := same_upd (o := .lst (ns.map V.int ++ [.int 61])) n5
      have p61 : Pr 61 := pr_of_trial (n := 61) 10 (by decide +kernel)
      intro x4 dnx4 hnx4 hdx4 _
      refine make_at (CB := CB) (tup := false) (e := e) (ns := ns ++ [61]) hnx4 hdx4 (by rw [if_neg (by decide), List.map_append]; exact SqL.of upd_same) (fun z hz => (List.mem_append.mp hz).elim (hpr z) fun h => by rw [List.mem_singleton.mp h]; exact ⟨p61, by decide⟩) (by rw [List.length_append]; show ns.length + 1 < 64; omega) fun l4 H14 mem4 len4 ch4 s14 => ⟨rfl, ?_⟩
      obtain ⟨d4, t4, y4, _⟩ := ch4.ob
      have sa := s13.trans ((g4.trans g5).trans s14)
      refine ⟨x, x4, _, _, _, _, rfl, rfl, sa _ _ o1, y4, x, x4, _, _, _, _, rfl, S12.ch.same sa, ch4, _, rfl, if_neg_of (decide_eq_false fun h => ?_) ?_⟩
      · have h1 := (mem4 61).mpr (List.mem_append_right _ List.mem_cons_self)
        rw [← h.2] at h1
        exact menu21_61 (hin 61 ((mem 61).mp h1))
      · exact ⟨S12.same sa, rfl⟩
    rintro σ H13 ⟨S13, rfl⟩
    -- a tuple
    refine ⟨fun σ H' => S21 C p r x e ns l2 H' ∧ σ = [some (.ref l0), some (.ref p), some (.bl e), some (.ref r), some (.ref ps), some (.ref x), some (.ref ck), x7, none, none], ?_, ?_⟩
    · obtain ⟨dx, t, o1, o2⟩ := S13.ch.ob
      refine ⟨_, rfl, _, rfl, x, C, dx, _, _, rfl, o1, T.cl, T.nP, chF_p _ _, ?_⟩
      refine ⟨x, t, dx, _, _, rfl, rfl, o1, o2, x, t, _, _, _, rfl, S13.ch, o2, _, rfl, if_neg_of rfl ?_⟩
      exact ⟨S13, rfl⟩
    rintro σ H14 ⟨S14, rfl⟩
    -- refused
    refine ⟨_, rfl, _, rfl, r, _, rfl, .inl (SqL.of S14.row), _, _, rfl, rfl, p, _, rfl, S14.pool, (by rw [List.length_map]; omega), ?_, fun k H15 k0 k1 e15 P15 => ?_⟩
    · rw [List.length_map]
      have : (1 + (ns.length : Int)).natAbs < 2 ^ 9000 := Nat.lt_of_lt_of_le (show (1 + (ns.length : Int)).natAbs < 2 ^ 10 by omega) (Nat.pow_le_pow_right (by decide) (by decide))
      exact (Nat.log2_lt (by omega)).mpr this
    rw [List.length_map] at k1
    obtain ⟨kn, rfl⟩ : ∃ kn : Nat, k = (kn : Int) := ⟨k.toNat, by omega⟩
    have hr15 : H15 r = some (.lst (ns.map V.int)) := by
      rw [e15 r rp]
      exact S14.row
    refine ⟨_, rfl, _, _, rfl, rfl, .inl ⟨by decide, by decide⟩, (by show 6 ≤ sizeLine; decide), fun q6 n6 => ?_⟩
    have g6 := same_upd (o := .lst [.int 1, .int 0, .int (-2), .int 4, .int 9, .int (2 * 999983)]) n6
    have q6p := P15.new n6
    refine ⟨_, rfl, p, 6, rfl, P15.same g6, by decide, by decide, fun u H16 u0 u1 e16 P16 => ?_⟩
    have h16 : H16 q6 = some (.lst [.int 1, .int 0, .int (-2), .int 4, .int 9, .int (2 * 999983)]) := by
      rw [e16 q6 q6p]
      exact upd_same
    have hr16 : H16 r = some (.lst (ns.map V.int)) := by
      rw [e16 r rp]
      exact g6 _ _ hr15
    obtain ⟨y, hy, hym⟩ := at_some (xs := [.int 1, .int 0, .int (-2), .int 4, .int 9, .int (2 * 999983)]) u0 (by show u < 6; exact u1)
    have bads : ∀ x ∈ ([.int 1, .int 0, .int (-2), .int 4, .int 9, .int (2 * 999983)] : List V), ∃ z : Int, x = .int z ∧ ¬ Pr z ∧ z < 2 ^ 62 :=
      allC ⟨1, rfl, npr_le (by decide), by decide⟩ (allC ⟨0, rfl, npr_le (by decide), by decide⟩ (allC ⟨-2, rfl, npr_le (by decide), by decide⟩ (allC ⟨4, rfl, npr_mul (a := 2) (b := 2) (by decide) (by decide), by decide⟩ (allC ⟨9, rfl, npr_mul (a := 3) (b := 3) (by decide) (by decide), by decide⟩ (allC ⟨2 * 999983, rfl, npr_mul (by decide) (by decide), by decide⟩ allN)))))
    obtain ⟨z, rfl, nz, bz⟩ := bads y hym
    refine ⟨q6, _, _, _, rfl, rfl, SqL.of h16, hy, ?_⟩
    obtain ⟨hkn, ek⟩ : kn ≤ ns.length ∧ True := ⟨by omega, trivial⟩
    have cut1 : cutV (ns.map V.int) none (some (kn : Int)) = (ns.take kn).map V.int := by
      unfold cutV
      rw [HT.sIx_none, HT.sIx_nat, List.length_map, Nat.min_eq_left hkn, List.drop_zero, Nat.sub_zero, List.map_take]
    have cut2 : cutV (ns.map V.int) (some (kn : Int)) none = (ns.drop kn).map V.int := by
      unfold cutV
      rw [HT.sIx_none, HT.sIx_nat, List.length_map, Nat.min_eq_left hkn, List.take_of_length_le (by rw [List.length_drop, List.length_map]; exact Nat.le_refl _), List.map_drop]
    -- the row with what is no prime
    refine ⟨_, rfl, _, rfl, _, rfl, _, rfl, r, _, rfl, SqL.of hr16, fun a1 na1 => ?_⟩
    rw [cut1]
    have g1 := same_upd (o := .lst ((ns.take kn).map V.int)) na1
    refine ⟨_, rfl, (by show 1 ≤ sizeLine; decide), fun a2 na2 => ?_⟩
    have g2 := same_upd (o := .lst [.int z]) na2
    refine ⟨a1, a2, _, _, rfl, rfl, g2 _ _ upd_same, upd_same, (by rw [List.length_map, List.length_take]; exact Nat.le_of_lt (small1000 (by show min kn ns.length + 1 ≤ 1000; omega))), fun a3 na3 => ?_⟩
    have g3 := same_upd (o := .lst ((ns.take kn).map V.int ++ [.int z])) na3
    have hr19 := g3 _ _ (g2 _ _ (g1 _ _ hr16))
    refine ⟨_, rfl, _, rfl, _, rfl, r, _, rfl, SqL.of hr19, fun a4 na4 => ?_⟩
    rw [cut2]
    have g4 := same_upd (o := .lst ((ns.drop kn).map V.int)) na4
    refine ⟨a3, a4, _, _, rfl, rfl, g4 _ _ upd_same, upd_same, (by rw [List.length_append, List.length_map, List.length_map, List.length_take, List.length_drop]; exact Nat.le_of_lt (small1000 (by show min kn ns.length + 1 + (ns.length - kn) ≤ 1000; omega))), fun a5 na5 => ?_⟩
    have g5 := same_upd (o := .lst ((ns.take kn).map V.int ++ [.int z] ++ (ns.drop kn).map V.int)) na5
    refine ⟨(by show 1 ≤ sizeLine; decide), fun a6 na6 => ?_⟩
    have g6' := same_upd (o := .lst [.int 6]) na6
    refine ⟨a5, a6, _, _, rfl, rfl, g6' _ _ upd_same, upd_same, (by rw [List.length_append, List.length_append, List.length_map, List.length_map, List.length_take, List.length_drop]; exact Nat.le_of_lt (small1000 (by show min kn ns.length + 1 + (ns.length - kn) + 1 ≤ 1000; omega))), fun a7 na7 => ?_⟩
    have split : (ns.take kn).map V.int ++ [.int z] ++ (ns.drop kn).map V.int ++ [.int 6] = (ns.take kn ++ z :: (ns.drop kn ++ [6])).map V.int := by
      simp
    refine ⟨e, a7, ns.take kn ++ z :: (ns.drop kn ++ [6]), z, rfl, ⟨_, upd_same, split⟩, ?_, ?_, fun h => nz (h z (List.mem_append_right _ List.mem_cons_self)), fun i c hi hc all => at_mid (fun q hq => (hpr q (List.mem_of_mem_take hq)).1) nz hi hc all, fun H20 s20 => ?_⟩
    · intro q hq
      rcases List.mem_append.mp hq with h | h
      · exact (hpr q (List.mem_of_mem_take h)).2
      · rcases List.mem_cons.mp h with h | h
        · rw [h]
          exact bz
        · rcases List.mem_append.mp h with h | h
          · exact (hpr q (List.mem_of_mem_drop h)).2
          · rw [List.mem_singleton.mp h]
            decide
    · rw [List.length_append, List.length_cons, List.length_append, List.length_take, List.length_drop]
      show min kn ns.length + (ns.length - kn + 1 + 1) < 64
      omega
    refine ⟨_, rfl, rfl, _, rfl, iteNS rfl ?_⟩
    -- the end
    refine ⟨rfl, [], rfl, (fun _ h => nomatch h), by decide, fun r1 l1 H21 m1 c1 s21 => ?_⟩
    refine ⟨rfl, rfl, fun r2 H22 c2 s22 => ?_⟩
    obtain ⟨d1, t1, y1, _⟩ := c1.ob
    obtain ⟨d2, t2, y2, _⟩ := c2.ob
    have e1 : l1 = [] := by
      cases hl1 : l1 with
      | nil => rfl
      | cons a b =>
        have := (m1 a).mp (by rw [hl1]; exact List.mem_cons_self)
        cases this
    subst e1
    refine ⟨r1, r2, _, _, _, _, rfl, rfl, s22 _ _ y1, y2, r1, r2, _, _, _, _, rfl, c1.same s22, c2, ?_⟩
    rw [decide_eq_true ⟨rfl, rfl⟩]
    exact q _
end
theorem all_mk {P : Program} {w : World} {K : PySem.W.Frag} {h : Heap} {mg : Str → Option Value} {fa : Addr} (X : K.In h) (G : h.Ns mainGlobals mg) (hfa : mg "law" = some (.ref fa))
    {f_least : Addr} {od_least an_least : Option Addr} {sl_least : Array (Option Value)} {oc_least kV_least dc_least pm_least cd_least ct_least : Value}
    {f_prime : Addr} {od_prime an_prime : Option Addr} {sl_prime : Array (Option Value)} {oc_prime kV_prime dc_prime pm_prime cd_prime ct_prime : Value}
    {f_pool : Addr} {od_pool an_pool : Option Addr} {sl_pool : Array (Option Value)} {oc_pool kV_pool dc_pool pm_pool cd_pool ct_pool : Value}
    {f_take : Addr} {od_take an_take : Option Addr} {sl_take : Array (Option Value)} {oc_take kV_take dc_take pm_take cd_take ct_take : Value}
    {f_cell : Addr} {od_cell an_cell : Option Addr} {sl_cell : Array (Option Value)} {oc_cell kV_cell dc_cell pm_cell cd_cell ct_cell : Value}
    {f_lprime : Addr} {od_lprime an_lprime : Option Addr} {sl_lprime : Array (Option Value)} {oc_lprime kV_lprime dc_lprime pm_lprime cd_lprime ct_lprime : Value}
    {f_primes : Addr} {od_primes an_primes : Option Addr} {sl_primes : Array (Option Value)} {oc_primes kV_primes dc_primes pm_primes cd_primes ct_primes : Value}
    {f_refused : Addr} {od_refused an_refused : Option Addr} {sl_refused : Array (Option Value)} {oc_refused kV_refused dc_refused pm_refused cd_refused ct_refused : Value}
    {f_law : Addr} {od_law an_law : Option Addr} {sl_law : Array (Option Value)} {oc_law kV_law dc_law pm_law cd_law ct_law : Value}
    {CF : Addr}
    {C_ibc f_ibc : Addr} {nm_ibc q_ibc : Str} {N_ibc : Addr} {bs_ibc sb_ibc : List Value} {sn_ibc : List Str} {ab_ibc : Bool} {co_ibc : Option Bool} {dd_ibc : Option Addr} {x0_ibc x1_ibc x2_ibc x3_ibc x5_ibc : Option Value} {od_ibc an_ibc : Option Addr} {sl_ibc : Array (Option Value)} {oc_ibc kV_ibc dc_ibc pm_ibc cd_ibc ct_ibc : Value}
    {C_ch : Addr}
    {f_cinit : Addr} {od_cinit an_cinit : Option Addr} {sl_cinit : Array (Option Value)} {oc_cinit kV_cinit dc_cinit pm_cinit cd_cinit ct_cinit : Value}
    {f_ccont : Addr} {od_ccont an_ccont : Option Addr} {sl_ccont : Array (Option Value)} {oc_ccont kV_ccont dc_ccont pm_ccont cd_ccont ct_ccont : Value}
    {f_ceq : Addr} {od_ceq an_ceq : Option Addr} {sl_ceq : Array (Option Value)} {oc_ceq kV_ceq dc_ceq pm_ceq cd_ceq ct_ceq : Value}
    {f_cbool : Addr} {od_cbool an_cbool : Option Addr} {sl_cbool : Array (Option Value)} {oc_cbool kV_cbool dc_cbool pm_cbool cd_cbool ct_cbool : Value}
    {f_cevery : Addr} {od_cevery an_cevery : Option Addr} {sl_cevery : Array (Option Value)} {oc_cevery kV_cevery dc_cevery pm_cevery cd_cevery ct_cevery : Value}
    {p_cevery : Addr} {r_cevery : List Value}
    {f_cnone : Addr} {od_cnone an_cnone : Option Addr} {sl_cnone : Array (Option Value)} {oc_cnone kV_cnone dc_cnone pm_cnone cd_cnone ct_cnone : Value}
    {p_cnone : Addr} {r_cnone : List Value}
    {f_conly : Addr} {od_conly an_conly : Option Addr} {sl_conly : Array (Option Value)} {oc_conly kV_conly dc_conly pm_conly cd_conly ct_conly : Value}
    {p_conly : Addr} {r_conly : List Value}
    {f_cbut : Addr} {od_cbut an_cbut : Option Addr} {sl_cbut : Array (Option Value)} {oc_cbut kV_cbut dc_cbut pm_cbut cd_cbut ct_cbut : Value}
    {p_cbut : Addr} {r_cbut : List Value}
    (a_least : PySem.W.nsIn K mainGlobals "_least_divisor" = some (some (.ref f_least))) (l_least : K.lookup f_least = some ⟨oc_least, od_least, .func (PySem.W.fnOf "_least_divisor" "_least_divisor" (defArgs s_least) (defBody s_least) (defScope s_least) .none kV_least dc_least pm_least an_least cd_least ct_least), sl_least⟩) (c_least : PySem.W.codeIn K cd_least "_least_divisor" = true) (k_least : PySem.W.keepIn K (.ref f_least) = true)
    (a_prime : PySem.W.nsIn K mainGlobals "is_prime" = some (some (.ref f_prime))) (l_prime : K.lookup f_prime = some ⟨oc_prime, od_prime, .func (PySem.W.fnOf "is_prime" "is_prime" (defArgs s_prime) (defBody s_prime) (defScope s_prime) .none kV_prime dc_prime pm_prime an_prime cd_prime ct_prime), sl_prime⟩) (c_prime : PySem.W.codeIn K cd_prime "is_prime" = true) (k_prime : PySem.W.keepIn K (.ref f_prime) = true)
    (a_pool : PySem.W.nsIn K mainGlobals "_law_pool" = some (some (.ref f_pool))) (l_pool : K.lookup f_pool = some ⟨oc_pool, od_pool, .func (PySem.W.fnOf "_law_pool" "_law_pool" (defArgs s_pool) (defBody s_pool) (defScope s_pool) .none kV_pool dc_pool pm_pool an_pool cd_pool ct_pool), sl_pool⟩) (c_pool : PySem.W.codeIn K cd_pool "_law_pool" = true) (k_pool : PySem.W.keepIn K (.ref f_pool) = true)
    (a_take : PySem.W.nsIn K mainGlobals "_law_take" = some (some (.ref f_take))) (l_take : K.lookup f_take = some ⟨oc_take, od_take, .func (PySem.W.fnOf "_law_take" "_law_take" (defArgs s_take) (defBody s_take) (defScope s_take) .none kV_take dc_take pm_take an_take cd_take ct_take), sl_take⟩) (c_take : PySem.W.codeIn K cd_take "_law_take" = true) (k_take : PySem.W.keepIn K (.ref f_take) = true)
    (a_cell : PySem.W.nsIn K mainGlobals "_law_cell" = some (some (.ref f_cell))) (l_cell : K.lookup f_cell = some ⟨oc_cell, od_cell, .func (PySem.W.fnOf "_law_cell" "_law_cell" (defArgs s_cell) (defBody s_cell) (defScope s_cell) .none kV_cell dc_cell pm_cell an_cell cd_cell ct_cell), sl_cell⟩) (c_cell : PySem.W.codeIn K cd_cell "_law_cell" = true) (k_cell : PySem.W.keepIn K (.ref f_cell) = true)
    (a_lprime : PySem.W.nsIn K mainGlobals "_law_is_prime" = some (some (.ref f_lprime))) (l_lprime : K.lookup f_lprime = some ⟨oc_lprime, od_lprime, .func (PySem.W.fnOf "_law_is_prime" "_law_is_prime" (defArgs s_lprime) (defBody s_lprime) (defScope s_lprime) .none kV_lprime dc_lprime pm_lprime an_lprime cd_lprime ct_lprime), sl_lprime⟩) (c_lprime : PySem.W.codeIn K cd_lprime "_law_is_prime" = true) (k_lprime : PySem.W.keepIn K (.ref f_lprime) = true)
    (a_primes : PySem.W.nsIn K mainGlobals "_law_primes" = some (some (.ref f_primes))) (l_primes : K.lookup f_primes = some ⟨oc_primes, od_primes, .func (PySem.W.fnOf "_law_primes" "_law_primes" (defArgs s_primes) (defBody s_primes) (defScope s_primes) .none kV_primes dc_primes pm_primes an_primes cd_primes ct_primes), sl_primes⟩) (c_primes : PySem.W.codeIn K cd_primes "_law_primes" = true) (k_primes : PySem.W.keepIn K (.ref f_primes) = true)
    (a_refused : PySem.W.nsIn K mainGlobals "_law_refused" = some (some (.ref f_refused))) (l_refused : K.lookup f_refused = some ⟨oc_refused, od_refused, .func (PySem.W.fnOf "_law_refused" "_law_refused" (defArgs s_refused) (defBody s_refused) (defScope s_refused) .none kV_refused dc_refused pm_refused an_refused cd_refused ct_refused), sl_refused⟩) (c_refused : PySem.W.codeIn K cd_refused "_law_refused" = true) (k_refused : PySem.W.keepIn K (.ref f_refused) = true)
    (a_law : PySem.W.nsIn K mainGlobals "law" = some (some (.ref f_law))) (l_law : K.lookup f_law = some ⟨oc_law, od_law, .func (PySem.W.fnOf "law" "law" (defArgs s_law) (defBody s_law) (defScope s_law) .none kV_law dc_law pm_law an_law cd_law ct_law), sl_law⟩) (c_law : PySem.W.codeIn K cd_law "law" = true) (k_law : PySem.W.keepIn K (.ref f_law) = true)
    (aF : PySem.W.nsIn K mainGlobals "FieldError" = some (some (.ref CF))) (rF : PySem.W.readsIn K CF (.type "type") = true) (gF : PySem.W.specialIn K (.ref CF) "__getattribute__" = some (some (.builtin "type.__getattribute__"))) (iF : PySem.W.findCls K (.ref CF) (.type "type") "__init__" = some (.val (.builtin "ValueError.__init__")))
    (aC_ibc : PySem.W.nsIn K mainGlobals "BadCharacteristic" = some (some (.ref C_ibc))) (xC_ibc : K.lookup C_ibc = some (excClassObj nm_ibc q_ibc C_ibc N_ibc bs_ibc [.ref CF, .type "ValueError", .type "Exception", .type "BaseException", .type "object"] true sn_ibc sb_ibc ab_ibc co_ibc dd_ibc x0_ibc x1_ibc x2_ibc x3_ibc x5_ibc "ValueError.__new__")) (sa_ibc : PySem.W.findIn K (.ref C_ibc) "__setattr__" = some (some (.builtin "object.__setattr__"))) (ga_ibc : PySem.W.findIn K (.ref C_ibc) "__getattribute__" = some (some (.builtin "BaseException.__getattribute__"))) (gg_ibc : PySem.W.findIn K (.ref C_ibc) "__getattr__" = some none) (no_ibc : PySem.W.findIn K (.ref C_ibc) "p" = some none) (ic_ibc : PySem.W.findIn K (.ref C_ibc) "__init__" = some (some (.ref f_ibc))) (ti_ibc : PySem.W.typeIn K (.ref f_ibc) = some (.type "function")) (kc_ibc : PySem.W.keepIn K (.ref C_ibc) = true) (ec_ibc : PySem.W.subIn K (.ref C_ibc) (.type "BaseException") = some true) (tc_ibc : PySem.W.typeIn K (.ref C_ibc) = some (.type "type")) (hd_ibc : PySem.W.hasDictIn K C_ibc = true) (is_ibc : PySem.W.isClsIn K C_ibc = true) (sc_ibc : PySem.W.subIn K (.ref C_ibc) (.ref C_ibc) = some true) (l_ibc : K.lookup f_ibc = some ⟨oc_ibc, od_ibc, .func (PySem.W.fnOf "__init__" "BadCharacteristic.__init__" (defArgs s_ibc) (defBody s_ibc) (defScope s_ibc) .none kV_ibc dc_ibc pm_ibc an_ibc cd_ibc ct_ibc), sl_ibc⟩) (c_ibc : PySem.W.codeIn K cd_ibc "BadCharacteristic.__init__" = true) (k_ibc : PySem.W.keepIn K (.ref f_ibc) = true)
    (K_aK : PySem.W.nsIn K mainGlobals "Chars" = some (some (.ref C_ch)))
    (K_pg : PySem.W.plainGet K C_ch Str.empty = true)
    (K_hd : PySem.W.hasDictIn K C_ch = true)
    (K_po : PySem.W.plainOver K C_ch = true)
    (K_sa : PySem.W.findIn K (.ref C_ch) "__setattr__" = some (some (.builtin "object.__setattr__")))
    (K_sf : PySem.W.selfFirst K C_ch = true)
    (K_ha : PySem.W.findIn K (.ref C_ch) "__class__" = some (some (.builtin "object.__class__")))
    (K_hn : PySem.W.specialIn K (.builtin "object.__class__") "__get__" = some (some (.builtin "getset_descriptor.__get__")))
    (K_htk : PySem.W.takesIn K (.builtin "object.__class__") = some true)
    (K_hm : PySem.W.mroIn K C_ch (.type "object") = some true)
    (K_mk : PySem.W.makesIn K C_ch = true)
    (K_kp : PySem.W.keepIn K (.ref C_ch) = true)
    (K_no_endless : PySem.W.findIn K (.ref C_ch) "endless" = some none)
    (K_no_primes : PySem.W.findIn K (.ref C_ch) "primes" = some none)
    (K_rd : PySem.W.readsIn K C_ch (.type "type") = true)
    (K_sg : PySem.W.specialIn K (.ref C_ch) "__getattribute__" = some (some (.builtin "type.__getattribute__")))
    (K_nf : PySem.W.subIn K (.type "tuple") (.ref C_ch) = some false)
    (K_ic : PySem.W.isClsIn K C_ch = true)
    (K_ty : PySem.W.typeIn K (.ref C_ch) = some (.type "type"))
    (K_at_cinit : PySem.W.findIn K (.ref C_ch) "__init__" = some (some (.ref f_cinit)))
    (K_fn_cinit : PySem.W.isFn K (.ref f_cinit) = true)
    (K_l_cinit : K.lookup f_cinit = some ⟨oc_cinit, od_cinit, .func (PySem.W.fnOf "__init__" "Chars.__init__" (defArgs s_cinit) (defBody s_cinit) (defScope s_cinit) .none kV_cinit dc_cinit pm_cinit an_cinit cd_cinit ct_cinit), sl_cinit⟩)
    (K_c_cinit : PySem.W.codeIn K cd_cinit "Chars.__init__" = true)
    (K_k_cinit : PySem.W.keepIn K (.ref f_cinit) = true)
    (K_at_ccont : PySem.W.findIn K (.ref C_ch) "__contains__" = some (some (.ref f_ccont)))
    (K_fn_ccont : PySem.W.isFn K (.ref f_ccont) = true)
    (K_l_ccont : K.lookup f_ccont = some ⟨oc_ccont, od_ccont, .func (PySem.W.fnOf "__contains__" "Chars.__contains__" (defArgs s_ccont) (defBody s_ccont) (defScope s_ccont) .none kV_ccont dc_ccont pm_ccont an_ccont cd_ccont ct_ccont), sl_ccont⟩)
    (K_c_ccont : PySem.W.codeIn K cd_ccont "Chars.__contains__" = true)
    (K_k_ccont : PySem.W.keepIn K (.ref f_ccont) = true)
    (K_at_ceq : PySem.W.findIn K (.ref C_ch) "__eq__" = some (some (.ref f_ceq)))
    (K_fn_ceq : PySem.W.isFn K (.ref f_ceq) = true)
    (K_l_ceq : K.lookup f_ceq = some ⟨oc_ceq, od_ceq, .func (PySem.W.fnOf "__eq__" "Chars.__eq__" (defArgs s_ceq) (defBody s_ceq) (defScope s_ceq) .none kV_ceq dc_ceq pm_ceq an_ceq cd_ceq ct_ceq), sl_ceq⟩)
    (K_c_ceq : PySem.W.codeIn K cd_ceq "Chars.__eq__" = true)
    (K_k_ceq : PySem.W.keepIn K (.ref f_ceq) = true)
    (K_at_cbool : PySem.W.findIn K (.ref C_ch) "__bool__" = some (some (.ref f_cbool)))
    (K_fn_cbool : PySem.W.isFn K (.ref f_cbool) = true)
    (K_l_cbool : K.lookup f_cbool = some ⟨oc_cbool, od_cbool, .func (PySem.W.fnOf "__bool__" "Chars.__bool__" (defArgs s_cbool) (defBody s_cbool) (defScope s_cbool) .none kV_cbool dc_cbool pm_cbool an_cbool cd_cbool ct_cbool), sl_cbool⟩)
    (K_c_cbool : PySem.W.codeIn K cd_cbool "Chars.__bool__" = true)
    (K_k_cbool : PySem.W.keepIn K (.ref f_cbool) = true)
    (K_at_cevery : PySem.W.findCls K (.ref C_ch) (.type "type") "every" = some (.get (.builtin "classmethod.__get__") (.ref p_cevery) .none (.ref C_ch)))
    (K_rc_cevery : PySem.W.recIn K p_cevery "classmethod" = some (.ref f_cevery :: r_cevery))
    (K_fi_cevery : PySem.W.fnIn K f_cevery = true)
    (K_l_cevery : K.lookup f_cevery = some ⟨oc_cevery, od_cevery, .func (PySem.W.fnOf "every" "Chars.every" (defArgs s_cevery) (defBody s_cevery) (defScope s_cevery) .none kV_cevery dc_cevery pm_cevery an_cevery cd_cevery ct_cevery), sl_cevery⟩)
    (K_c_cevery : PySem.W.codeIn K cd_cevery "Chars.every" = true)
    (K_k_cevery : PySem.W.keepIn K (.ref f_cevery) = true)
    (K_at_cnone : PySem.W.findCls K (.ref C_ch) (.type "type") "none" = some (.get (.builtin "classmethod.__get__") (.ref p_cnone) .none (.ref C_ch)))
    (K_rc_cnone : PySem.W.recIn K p_cnone "classmethod" = some (.ref f_cnone :: r_cnone))
    (K_fi_cnone : PySem.W.fnIn K f_cnone = true)
    (K_l_cnone : K.lookup f_cnone = some ⟨oc_cnone, od_cnone, .func (PySem.W.fnOf "none" "Chars.none" (defArgs s_cnone) (defBody s_cnone) (defScope s_cnone) .none kV_cnone dc_cnone pm_cnone an_cnone cd_cnone ct_cnone), sl_cnone⟩)
    (K_c_cnone : PySem.W.codeIn K cd_cnone "Chars.none" = true)
    (K_k_cnone : PySem.W.keepIn K (.ref f_cnone) = true)
    (K_at_conly : PySem.W.findCls K (.ref C_ch) (.type "type") "only" = some (.get (.builtin "classmethod.__get__") (.ref p_conly) .none (.ref C_ch)))
    (K_rc_conly : PySem.W.recIn K p_conly "classmethod" = some (.ref f_conly :: r_conly))
    (K_fi_conly : PySem.W.fnIn K f_conly = true)
    (K_l_conly : K.lookup f_conly = some ⟨oc_conly, od_conly, .func (PySem.W.fnOf "only" "Chars.only" (defArgs s_conly) (defBody s_conly) (defScope s_conly) .none kV_conly dc_conly pm_conly an_conly cd_conly ct_conly), sl_conly⟩)
    (K_c_conly : PySem.W.codeIn K cd_conly "Chars.only" = true)
    (K_k_conly : PySem.W.keepIn K (.ref f_conly) = true)
    (K_at_cbut : PySem.W.findCls K (.ref C_ch) (.type "type") "but" = some (.get (.builtin "classmethod.__get__") (.ref p_cbut) .none (.ref C_ch)))
    (K_rc_cbut : PySem.W.recIn K p_cbut "classmethod" = some (.ref f_cbut :: r_cbut))
    (K_fi_cbut : PySem.W.fnIn K f_cbut = true)
    (K_l_cbut : K.lookup f_cbut = some ⟨oc_cbut, od_cbut, .func (PySem.W.fnOf "but" "Chars.but" (defArgs s_cbut) (defBody s_cbut) (defScope s_cbut) .none kV_cbut dc_cbut pm_cbut an_cbut cd_cbut ct_cbut), sl_cbut⟩)
    (K_c_cbut : PySem.W.codeIn K cd_cbut "Chars.but" = true)
    (K_k_cbut : PySem.W.keepIn K (.ref f_cbut) = true)
    (z_int : PySem.W.nsIn K mainGlobals "int" = some none)
    (z_len : PySem.W.nsIn K mainGlobals "len" = some none)
    (z_abs : PySem.W.nsIn K mainGlobals "abs" = some none)
    (z_isinstance : PySem.W.nsIn K mainGlobals "isinstance" = some none)
    (z_bool : PySem.W.nsIn K mainGlobals "bool" = some none)
    (z_tuple : PySem.W.nsIn K mainGlobals "tuple" = some none)
    (z_list : PySem.W.nsIn K mainGlobals "list" = some none)
    (z_str : PySem.W.nsIn K mainGlobals "str" = some none)
    (z_range : PySem.W.nsIn K mainGlobals "range" = some none)
    (z_max : PySem.W.nsIn K mainGlobals "max" = some none)
    (z_min : PySem.W.nsIn K mainGlobals "min" = some none)
    (z_sorted : PySem.W.nsIn K mainGlobals "sorted" = some none)
    (z_set : PySem.W.nsIn K mainGlobals "set" = some none)
    (g_isqrt : PySem.W.nsIn K mainGlobals "isqrt" = some (some (.builtin "math.isqrt"))) :
    ∃ fd : FuncData, (∀ (s : Shared) (v : Value), BindsTo s fd ⟨[v], []⟩ [("_law_script", v)]) ∧ ∀ base : Heap, K.In base → base.Ns mainGlobals mg → FnOk P w K mg base CX0 7 fa fd ["_law_script"] (spLaw K) := by
  have e := hfa.symm.trans (PySem.W.mg_of X G a_law)
  cases e
  have T : Txt mg := ⟨PySem.W.mg_none_of X G z_int, PySem.W.mg_none_of X G z_len, PySem.W.mg_none_of X G z_abs, PySem.W.mg_none_of X G z_isinstance, PySem.W.mg_none_of X G z_bool, PySem.W.mg_none_of X G z_tuple, PySem.W.mg_none_of X G z_list, PySem.W.mg_none_of X G z_str, PySem.W.mg_none_of X G z_range, PySem.W.mg_none_of X G z_max, PySem.W.mg_none_of X G z_min, PySem.W.mg_none_of X G z_sorted, PySem.W.mg_none_of X G z_set⟩
  have TF : FErr K mg CF := ⟨PySem.W.mg_of X G aF, rF, gF, iF⟩
  have F_ibc := fun_mk (st := s_ibc) l_ibc c_ibc k_ibc
  have b_ibc := F_ibc.binds (ps := ["self", "p"]) fun _ _ _ _ _ _ us hl => match us, hl with | [_, _], _ => rfl
  have E_ibc : ErrC K mg "BadCharacteristic" "p" C_ibc f_ibc := ⟨PySem.W.mg_of X G aC_ibc, ⟨⟨_, _, _, _, _, _, _, _, _, _, _, _, _, _, _, xC_ibc, rfl⟩, sa_ibc, ec_ibc, tc_ibc, kc_ibc⟩, no_ibc, ic_ibc, ti_ibc, ⟨ga_ibc, gg_ibc, ec_ibc, hd_ibc⟩, exm_me ec_ibc is_ibc tc_ibc sc_ibc⟩
  have TC : ChT K mg C_ch := ⟨PySem.W.mg_of X G K_aK, ⟨K_pg, K_hd, K_po, K_sa⟩, K_no_endless, K_no_primes, K_sf, ⟨⟨K_pg, K_hd, K_po, K_sa⟩, K_ha, K_hn, K_htk, K_hm, if_pos (beq_self_eq_true _)⟩⟩
  have F_cinit := fun_mk (st := s_cinit) K_l_cinit K_c_cinit K_k_cinit
  have b_cinit := F_cinit.binds (ps := ["self", "endless", "primes"]) fun _ _ _ _ _ _ us hl => match us, hl with | [_, _, _], _ => rfl
  have F_ccont := fun_mk (st := s_ccont) K_l_ccont K_c_ccont K_k_ccont
  have b_ccont := F_ccont.binds (ps := ["self", "p"]) fun _ _ _ _ _ _ us hl => match us, hl with | [_, _], _ => rfl
  have M_ccont : Meth K C_ch "__contains__" f_ccont := ⟨K_at_ccont, K_fn_ccont, K_k_ccont⟩
  have F_ceq := fun_mk (st := s_ceq) K_l_ceq K_c_ceq K_k_ceq
  have b_ceq := F_ceq.binds (ps := ["self", "other"]) fun _ _ _ _ _ _ us hl => match us, hl with | [_, _], _ => rfl
  have M_ceq : Meth K C_ch "__eq__" f_ceq := ⟨K_at_ceq, K_fn_ceq, K_k_ceq⟩
  have F_cbool := fun_mk (st := s_cbool) K_l_cbool K_c_cbool K_k_cbool
  have b_cbool := F_cbool.binds (ps := ["self"]) fun _ _ _ _ _ _ us hl => match us, hl with | [_], _ => rfl
  have M_cbool : Meth K C_ch "__bool__" f_cbool := ⟨K_at_cbool, K_fn_cbool, K_k_cbool⟩
  have F_cevery := fun_mk (st := s_cevery) K_l_cevery K_c_cevery K_k_cevery
  have b_cevery := F_cevery.binds (ps := ["cls"]) fun _ _ _ _ _ _ us hl => match us, hl with | [_], _ => rfl
  have M_cevery : ClX.CMet K C_ch (.type "type") "every" p_cevery f_cevery := ⟨K_at_cevery, ⟨_, K_rc_cevery⟩, K_fi_cevery⟩
  have F_cnone := fun_mk (st := s_cnone) K_l_cnone K_c_cnone K_k_cnone
  have b_cnone := F_cnone.binds (ps := ["cls"]) fun _ _ _ _ _ _ us hl => match us, hl with | [_], _ => rfl
  have M_cnone : ClX.CMet K C_ch (.type "type") "none" p_cnone f_cnone := ⟨K_at_cnone, ⟨_, K_rc_cnone⟩, K_fi_cnone⟩
  have F_conly := fun_mk (st := s_conly) K_l_conly K_c_conly K_k_conly
  have M_conly : ClX.CMet K C_ch (.type "type") "only" p_conly f_conly := ⟨K_at_conly, ⟨_, K_rc_conly⟩, K_fi_conly⟩
  have F_cbut := fun_mk (st := s_cbut) K_l_cbut K_c_cbut K_k_cbut
  have M_cbut : ClX.CMet K C_ch (.type "type") "but" p_cbut f_cbut := ⟨K_at_cbut, ⟨_, K_rc_cbut⟩, K_fi_cbut⟩
  have CR : ClX.CRead K C_ch (.type "type") := ⟨K_rd, K_sg⟩
  have F_least := fun_mk (st := s_least) l_least c_least k_least
  have b_least := F_least.binds (ps := ["n"]) fun _ _ _ _ _ _ us hl => match us, hl with | [_], _ => rfl
  have F_prime := fun_mk (st := s_prime) l_prime c_prime k_prime
  have b_prime := F_prime.binds (ps := ["n"]) fun _ _ _ _ _ _ us hl => match us, hl with | [_], _ => rfl
  have F_pool := fun_mk (st := s_pool) l_pool c_pool k_pool
  have b_pool := F_pool.binds (ps := ["_law_cell_here"]) fun _ _ _ _ _ _ us hl => match us, hl with | [_], _ => rfl
  have F_take := fun_mk (st := s_take) l_take c_take k_take
  have b_take := F_take.binds (ps := ["_law_pool_here", "_law_limit"]) fun _ _ _ _ _ _ us hl => match us, hl with | [_, _], _ => rfl
  have F_cell := fun_mk (st := s_cell) l_cell c_cell k_cell
  have b_cell := F_cell.binds (ps := ["_law_script", "_law_k"]) fun _ _ _ _ _ _ us hl => match us, hl with | [_, _], _ => rfl
  have F_lprime := fun_mk (st := s_lprime) l_lprime c_lprime k_lprime
  have b_lprime := F_lprime.binds (ps := ["_law_n"]) fun _ _ _ _ _ _ us hl => match us, hl with | [_], _ => rfl
  have F_primes := fun_mk (st := s_primes) l_primes c_primes k_primes
  have b_primes := F_primes.binds (ps := ["_law_pool_here"]) fun _ _ _ _ _ _ us hl => match us, hl with | [_], _ => rfl
  have F_refused := fun_mk (st := s_refused) l_refused c_refused k_refused
  have b_refused := F_refused.binds (ps := ["_law_endless", "_law_rows"]) fun _ _ _ _ _ _ us hl => match us, hl with | [_, _], _ => rfl
  have F_law := fun_mk (st := s_law) l_law c_law k_law
  have m_isqrt := PySem.W.mg_of X G g_isqrt
  refine ⟨PySem.W.fnOf "law" "law" (defArgs s_law) (defBody s_law) (defScope s_law) .none kV_law dc_law pm_law an_law cd_law ct_law, fun s v => .of_eq rfl, fun base _ _ => ?_⟩
  have x_ibc : Er P w K mg base "BadCharacteristic" "p" C_ibc := ⟨_, _, _, E_ibc, ok_ibc TF E_ibc.oex E_ibc.no F_ibc, b_ibc⟩
  have d_least : Cl P w K mg base CX0 1 "_least_divisor" spLeast := ⟨_, _, _, ok_least T m_isqrt F_least, PySem.W.mg_of X G a_least, k_least, b_least⟩
  have d_prime : Cl P w K mg base CX0 2 "is_prime" spPrime := ⟨_, _, _, ok_prime F_prime d_least, PySem.W.mg_of X G a_prime, k_prime, b_prime⟩
  have d_pool : Cl P w K mg base CX0 1 "_law_pool" spPool := ⟨_, _, _, ok_pool F_pool, PySem.W.mg_of X G a_pool, k_pool, b_pool⟩
  have d_take : Cl P w K mg base CX0 1 "_law_take" spTake := ⟨_, _, _, ok_take T F_take, PySem.W.mg_of X G a_take, k_take, b_take⟩
  have d_cell : Cl P w K mg base CX0 1 "_law_cell" (spCellL K) := ⟨_, _, _, ok_cell T F_cell, PySem.W.mg_of X G a_cell, k_cell, b_cell⟩
  have d_lprime : Cl P w K mg base CX0 1 "_law_is_prime" spPrime := ⟨_, _, _, ok_lprime F_lprime, PySem.W.mg_of X G a_lprime, k_lprime, b_lprime⟩
  have d_primes : Cl P w K mg base CX0 2 "_law_primes" spPrimes := ⟨_, _, _, ok_primes T F_primes d_take, PySem.W.mg_of X G a_primes, k_primes, b_primes⟩
  have c_cit : Ma P w K mg base 3 C_ch (spCI C_ch C_ibc true K) := ⟨_, _, _, ⟨K_mk, K_at_cinit, K_fn_cinit, K_kp⟩, ok_cinit true T TC F_cinit d_prime x_ibc, b_cinit⟩
  have c_cil : Ma P w K mg base 3 C_ch (spCI C_ch C_ibc false K) := ⟨_, _, _, ⟨K_mk, K_at_cinit, K_fn_cinit, K_kp⟩, ok_cinit false T TC F_cinit d_prime x_ibc, b_cinit⟩
  have m_cont : Me P w K mg base 1 C_ch "__contains__" (spCont C_ch) := ⟨_, _, _, M_ccont, ok_ccont TC F_ccont, b_ccont⟩
  have m_eq : Me P w K mg base 1 C_ch "__eq__" (spCeq C_ch) := ⟨_, _, _, M_ceq, ok_ceq T TC F_ceq, b_ceq⟩
  have m_eqT : Me P w K mg base 1 C_ch "__eq__" (spCeqT C_ch) := ⟨_, _, _, M_ceq, ok_ceqT T TC (kit_ownF K_ic K_ty K_nf) F_ceq, b_ceq⟩
  have m_bool : Me P w K mg base 1 C_ch "__bool__" (spCbool C_ch) := ⟨_, _, _, M_cbool, ok_cbool T TC F_cbool, b_cbool⟩
  have m_every : Cm P w K mg base 5 C_ch "every" (spCevery C_ch true) := ⟨_, _, _, _, _, CR, M_cevery, ok_cevery TC F_cevery c_cit, b_cevery⟩
  have m_none : Cm P w K mg base 5 C_ch "none" (spCevery C_ch false) := ⟨_, _, _, _, _, CR, M_cnone, ok_cnone TC F_cnone c_cit, b_cnone⟩
  have m_only : CmR P w K mg base 5 C_ch "only" (spStar C_ch false) := ⟨_, _, _, CR, M_conly, ok_conly TC F_conly c_cit⟩
  have m_but : CmR P w K mg base 5 C_ch "but" (spStar C_ch true) := ⟨_, _, _, CR, M_cbut, ok_cbut TC F_cbut c_cit⟩
  have d_refused : Cl P w K mg base CX0 5 "_law_refused" spRefused := ⟨_, _, _, ok_refused TC F_refused E_ibc c_cil, PySem.W.mg_of X G a_refused, k_refused, b_refused⟩
  exact ok_law (CB := C_ibc) T TC K_nf F_law d_pool d_take d_cell d_lprime d_primes d_refused c_cit c_cil m_every m_none m_only m_but m_cont m_eq m_eqT m_bool
theorem walk {l : PySem.W.OpenLaw} {q : Program} {loose : List Str} {XP : (Str → Option Value) → Heap → Prop} {YP : World → Heap → Prop} {d : DefRec} {K : Params → PySem.W.Frag} (hn : l.most = some 63) (hdf : d.params.defaults = [])
    (hY : ∀ (w : World) (h : Heap), YP w h → (K w.params).In h)
    (F : ∀ (w : World) (mg : Str → Option Value) (fa : Addr) (h : Heap), (K w.params).In h → h.Ns mainGlobals mg → mg d.name = some (.ref fa) →
      ∃ fd : FuncData, (∀ (s : Shared) (u : Value), BindsTo s fd ⟨[u], []⟩ [("_law_script", u)]) ∧ ∀ base : Heap, (K w.params).In base → base.Ns mainGlobals mg → FnOk l.prog w (K w.params) mg base CX0 7 fa fd ["_law_script"] (spLaw (K w.params))) :
    PySem.W.WalkO q loose XP YP l.row.toRowW d [] (fun f vs => PySem.call f vs) :=
  L2.walk_of (n := 63) (k := 7) (x := "_law_script") (CX := fun _ => CX0) (sp := fun w => spLaw (K w.params)) hn (by decide) hdf ⟨rfl, by decide, by decide⟩ hY F (fun _ _ a ns hl _ hS => ⟨a, ns, rfl, hS, hl, fun _ => rfl⟩) fun _ _ _ _ _ z => z
end My
open PySem PySem.W PyProof.Rows
set_option maxRecDepth 100000 in
set_option maxHeartbeats 0 in
theorem PySem.Challenge.cw_everyfield_k21_members_holds : PySem.Challenge.rw_everyfield_k21_members.Holds := by
  w_on; o_law; k_head; (case hw => w_witness2)
  k_fill
  refine My.walk (l := PySem.Challenge.rw_everyfield_k21_members) rfl rfl (fun w h Y => PySem.W.kIn_of Y) ?F
  case F =>
    intro w mg fa h KX G hmg
    refine' My.all_mk KX G hmg ?a_least ?l_least ?c_least ?k_least ?a_prime ?l_prime ?c_prime ?k_prime ?a_pool ?l_pool ?c_pool ?k_pool ?a_take ?l_take ?c_take ?k_take ?a_cell ?l_cell ?c_cell ?k_cell ?a_lprime ?l_lprime ?c_lprime ?k_lprime ?a_primes ?l_primes ?c_primes ?k_primes ?a_refused ?l_refused ?c_refused ?k_refused ?a_law ?l_law ?c_law ?k_law ?aF ?rF ?gF ?iF ?aC_ibc ?xC_ibc ?sa_ibc ?ga_ibc ?gg_ibc ?no_ibc ?ic_ibc ?ti_ibc ?kc_ibc ?ec_ibc ?tc_ibc ?hd_ibc ?is_ibc ?sc_ibc ?l_ibc ?c_ibc ?k_ibc ?K_aK ?K_pg ?K_hd ?K_po ?K_sa ?K_sf ?K_ha ?K_hn ?K_htk ?K_hm ?K_mk ?K_kp ?K_no_endless ?K_no_primes ?K_rd ?K_sg ?K_nf ?K_ic ?K_ty ?K_at_cinit ?K_fn_cinit ?K_l_cinit ?K_c_cinit ?K_k_cinit ?K_at_ccont ?K_fn_ccont ?K_l_ccont ?K_c_ccont ?K_k_ccont ?K_at_ceq ?K_fn_ceq ?K_l_ceq ?K_c_ceq ?K_k_ceq ?K_at_cbool ?K_fn_cbool ?K_l_cbool ?K_c_cbool ?K_k_cbool ?K_at_cevery ?K_rc_cevery ?K_fi_cevery ?K_l_cevery ?K_c_cevery ?K_k_cevery ?K_at_cnone ?K_rc_cnone ?K_fi_cnone ?K_l_cnone ?K_c_cnone ?K_k_cnone ?K_at_conly ?K_rc_conly ?K_fi_conly ?K_l_conly ?K_c_conly ?K_k_conly ?K_at_cbut ?K_rc_cbut ?K_fi_cbut ?K_l_cbut ?K_c_cbut ?K_k_cbut ?z_int ?z_len ?z_abs ?z_isinstance ?z_bool ?z_tuple ?z_list ?z_str ?z_range ?z_max ?z_min ?z_sorted ?z_set ?g_isqrt
    (case a_least => k_is)
    (case l_least => k_is)
    (case c_least => k_is)
    (case k_least => k_is)
    (case a_prime => k_is)
    (case l_prime => k_is)
    (case c_prime => k_is)
    (case k_prime => k_is)
    (case a_pool => k_is)
    (case l_pool => k_is)
    (case c_pool => k_is)
    (case k_pool => k_is)
    (case a_take => k_is)
    (case l_take => k_is)
    (case c_take => k_is)
    (case k_take => k_is)
    (case a_cell => k_is)
    (case l_cell => k_is)
    (case c_cell => k_is)
    (case k_cell => k_is)
    (case a_lprime => k_is)
    (case l_lprime => k_is)
    (case c_lprime => k_is)
    (case k_lprime => k_is)
    (case a_primes => k_is)
    (case l_primes => k_is)
    (case c_primes => k_is)
    (case k_primes => k_is)
    (case a_refused => k_is)
    (case l_refused => k_is)
    (case c_refused => k_is)
    (case k_refused => k_is)
    (case a_law => k_is)
    (case l_law => k_is)
    (case c_law => k_is)
    (case k_law => k_is)
    (case aF => k_is)
    (case rF => k_is)
    (case gF => k_is)
    (case iF => k_is)
    (case aC_ibc => k_is)
    (case xC_ibc => k_is)
    (case sa_ibc => k_is)
    (case ga_ibc => k_is)
    (case gg_ibc => k_is)
    (case no_ibc => k_is)
    (case ic_ibc => k_is)
    (case ti_ibc => k_is)
    (case kc_ibc => k_is)
    (case ec_ibc => k_is)
    (case tc_ibc => k_is)
    (case hd_ibc => k_is)
    (case is_ibc => k_is)
    (case sc_ibc => k_is)
    (case l_ibc => k_is)
    (case c_ibc => k_is)
    (case k_ibc => k_is)
    (case K_aK => k_is)
    (case K_pg => k_is)
    (case K_hd => k_is)
    (case K_po => k_is)
    (case K_sa => k_is)
    (case K_sf => k_is)
    (case K_ha => k_is)
    (case K_hn => k_is)
    (case K_htk => k_is)
    (case K_hm => k_is)
    (case K_mk => k_is)
    (case K_kp => k_is)
    (case K_no_endless => k_is)
    (case K_no_primes => k_is)
    (case K_rd => k_is)
    (case K_sg => k_is)
    (case K_nf => k_is)
    (case K_ic => k_is)
    (case K_ty => k_is)
    (case K_at_cinit => k_is)
    (case K_fn_cinit => k_is)
    (case K_l_cinit => k_is)
    (case K_c_cinit => k_is)
    (case K_k_cinit => k_is)
    (case K_at_ccont => k_is)
    (case K_fn_ccont => k_is)
    (case K_l_ccont => k_is)
    (case K_c_ccont => k_is)
    (case K_k_ccont => k_is)
    (case K_at_ceq => k_is)
    (case K_fn_ceq => k_is)
    (case K_l_ceq => k_is)
    (case K_c_ceq => k_is)
    (case K_k_ceq => k_is)
    (case K_at_cbool => k_is)
    (case K_fn_cbool => k_is)
    (case K_l_cbool => k_is)
    (case K_c_cbool => k_is)
    (case K_k_cbool => k_is)
    (case K_at_cevery => k_is)
    (case K_rc_cevery => k_is)
    (case K_fi_cevery => k_is)
    (case K_l_cevery => k_is)
    (case K_c_cevery => k_is)
    (case K_k_cevery => k_is)
    (case K_at_cnone => k_is)
    (case K_rc_cnone => k_is)
    (case K_fi_cnone => k_is)
    (case K_l_cnone => k_is)
    (case K_c_cnone => k_is)
    (case K_k_cnone => k_is)
    (case K_at_conly => k_is)
    (case K_rc_conly => k_is)
    (case K_fi_conly => k_is)
    (case K_l_conly => k_is)
    (case K_c_conly => k_is)
    (case K_k_conly => k_is)
    (case K_at_cbut => k_is)
    (case K_rc_cbut => k_is)
    (case K_fi_cbut => k_is)
    (case K_l_cbut => k_is)
    (case K_c_cbut => k_is)
    (case K_k_cbut => k_is)
    (case z_int => k_is)
    (case z_len => k_is)
    (case z_abs => k_is)
    (case z_isinstance => k_is)
    (case z_bool => k_is)
    (case z_tuple => k_is)
    (case z_list => k_is)
    (case z_str => k_is)
    (case z_range => k_is)
    (case z_max => k_is)
    (case z_min => k_is)
    (case z_sorted => k_is)
    (case z_set => k_is)
    (case g_isqrt => k_is)
