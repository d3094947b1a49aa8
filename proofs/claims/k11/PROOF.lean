import PyProof.Rows.All
import Wide.All
import OpenK.AllK
import Wide.FinOn
import PyProof.NoPylong
import Flt.Len
import HandS.ForExc
import HandS.Wide
import HandS.Gcd
import HandS.IsInst
import HandS.Evl
import PySem.Challenge.RW_everyfield_k11_common_divisors
set_option Elab.async false
set_option linter.all false
set_option maxRecDepth 100000
set_option maxHeartbeats 4000000
set_option exponentiation.threshold 20000
namespace My
open PySem PySem.Spec PyProof.Rows L2
def top (i : Nat) : Stmt := PySem.Challenge.pw_everyfield_k11_common_divisors.main.body.getD i (.Pass ⟨0, 0, 0, 0⟩)
/-- floor division: the rest is smaller and has the divisor's sign -/
theorem fd_parts (d r : Int) (hr : r ≠ 0) : ∃ m : Int, d - d.fdiv r * r = m ∧ m.natAbs < r.natAbs ∧ ((0 ≤ r ∧ 0 ≤ m) ∨ (r ≤ 0 ∧ m ≤ 0)) ∧ (d.fdiv r).natAbs ≤ d.natAbs ∧
    (((0 ≤ d ∧ 0 ≤ r) ∨ (d ≤ 0 ∧ r ≤ 0)) → d.natAbs = (d.fdiv r).natAbs * r.natAbs + m.natAbs) := by
  have key : ∀ d r : Int, 0 < r → ∃ m : Int, d - d.fdiv r * r = m ∧ m.natAbs < r.natAbs ∧ 0 ≤ m ∧ (d.fdiv r).natAbs ≤ d.natAbs ∧ (0 ≤ d → d.natAbs = (d.fdiv r).natAbs * r.natAbs + m.natAbs) := by
    intro d r h
    rw [Int.fdiv_eq_ediv_of_nonneg d (by omega)]
    have e := Int.mul_ediv_add_emod d r
    have e1 := Int.emod_nonneg d (show r ≠ 0 by omega)
    have e2 := Int.emod_lt_of_pos d h
    have e3 : d / r * r = r * (d / r) := Int.mul_comm _ _
    refine ⟨d % r, by omega, by omega, e1, Int.natAbs_ediv_le_natAbs d r, fun hd => ?_⟩
    have e4 : 0 ≤ d / r := Int.ediv_nonneg hd (by omega)
    have e5 : ((d / r).natAbs * r.natAbs : Nat) = (d / r * r).natAbs := (Int.natAbs_mul _ _).symm
    have e6 : 0 ≤ d / r * r := Int.mul_nonneg e4 (by omega)
    rw [e5]
    omega
  by_cases h : 0 < r
  · obtain ⟨m, h1, h2, h3, h4, h5⟩ := key d r h
    exact ⟨m, h1, h2, .inl ⟨by omega, h3⟩, h4, fun hh => h5 (by omega)⟩
  · obtain ⟨m, h1, h2, h3, h4, h5⟩ := key (-d) (-r) (by omega)
    rw [Int.neg_fdiv_neg] at h1 h4 h5
    have e : d.fdiv r * -r = -(d.fdiv r * r) := Int.mul_neg _ _
    refine ⟨-m, by omega, by omega, .inr ⟨by omega, by omega⟩, by omega, fun hh => ?_⟩
    have h6 := h5 (by omega)
    have e2 : (-r).natAbs = r.natAbs := by omega
    have e3 : (-d).natAbs = d.natAbs := by omega
    have e4 : (-m).natAbs = m.natAbs := by omega
    rw [e2, e3] at h6
    rw [e4]
    exact h6
/-- what holds between two turns -/
structure Euc (a b d r u u' : Int) : Prop where
  g : d.gcd r = a.gcd b
  c1 : ∃ v, d = u * a + v * b
  c2 : ∃ v, r = u' * a + v * b
  bd : d.natAbs ≤ a.natAbs + b.natAbs
  br : r.natAbs ≤ a.natAbs + b.natAbs
  bu : u.natAbs ≤ b.natAbs + 1
  bu' : u'.natAbs ≤ b.natAbs
  way : (u' = 0 ∧ u = 1 ∧ r = b) ∨ (((0 ≤ d ∧ 0 ≤ r) ∨ (d ≤ 0 ∧ r ≤ 0)) ∧ d ≠ 0 ∧ d.natAbs * u'.natAbs + r.natAbs * u.natAbs ≤ b.natAbs)
theorem euc0 (a b : Int) : Euc a b a b 1 0 := ⟨rfl, ⟨0, by omega⟩, ⟨1, by omega⟩, by omega, by omega, by omega, by omega, .inl ⟨rfl, rfl, rfl⟩⟩
theorem euc_step {a b d r u u' : Int} (h : Euc a b d r u u') (hr : r ≠ 0) :
    Euc a b r (d - d.fdiv r * r) u' (u - d.fdiv r * u') ∧ (d - d.fdiv r * r).natAbs < r.natAbs := by
  obtain ⟨m, e, hm, hs, hq, hd⟩ := fd_parts d r hr
  obtain ⟨v1, c1⟩ := h.c1
  obtain ⟨v2, c2⟩ := h.c2
  generalize hqq : d.fdiv r = q at *
  rw [e]
  have hg : r.gcd m = a.gcd b := by
    rw [← e, Int.gcd_sub_mul_right_right, Int.gcd_comm, h.g]
  have hc2 : ∃ v, m = (u - q * u') * a + v * b := by
    refine ⟨v1 - q * v2, ?_⟩
    rw [← e, Int.sub_mul, Int.sub_mul, Int.mul_assoc, Int.mul_assoc]
    have : q * r = q * (u' * a) + q * (v2 * b) := by rw [← Int.mul_add, ← c2]
    omega
  -- the bounds
  have hw : r.natAbs * (u - q * u').natAbs + m.natAbs * u'.natAbs ≤ b.natAbs := by
    rcases h.way with ⟨z1, z2, z3⟩ | ⟨s, z1, z2⟩
    · subst z1
      subst z2
      subst z3
      rw [Int.mul_zero]
      simp
    · have hd' := hd s
      have t1 : (u - q * u').natAbs ≤ u.natAbs + q.natAbs * u'.natAbs := by
        have := Int.natAbs_sub_le u (q * u')
        rw [Int.natAbs_mul] at this
        exact this
      have t2 := Nat.mul_le_mul_left r.natAbs t1
      rw [hd', Nat.add_mul] at z2
      rw [Nat.mul_add] at t2
      have t3 : r.natAbs * (q.natAbs * u'.natAbs) = q.natAbs * r.natAbs * u'.natAbs := by
        rw [← Nat.mul_assoc, Nat.mul_comm r.natAbs]
      omega
  have hrn : 1 ≤ r.natAbs := by omega
  have hu2 : (u - q * u').natAbs ≤ b.natAbs := by
    have := Nat.mul_le_mul_right (u - q * u').natAbs hrn
    omega
  exact ⟨⟨hg, ⟨v2, c2⟩, hc2, h.br, by have := h.br; omega, by have := h.bu'; omega, hu2, .inr ⟨hs, hr, hw⟩⟩, hm⟩
/-- the end -/
theorem euc_end {a b d u u' : Int} (h : Euc a b d 0 u u') : d.natAbs = a.gcd b := by
  have := h.g
  rwa [Int.gcd_zero_right] at this
theorem euc_last {a b d u v : Int} (hb : b ≠ 0) (c : d = u * a + v * b) : (d - u * a).fdiv b = v := by
  have : d - u * a = v * b := by omega
  rw [this, Int.mul_fdiv_cancel _ hb]
theorem natAbs_le_mul {v b : Int} (hb : b ≠ 0) : v.natAbs ≤ (v * b).natAbs := by
  rw [Int.natAbs_mul]
  exact Nat.le_mul_of_pos_right _ (by omega)

structure Cl (P : Program) (w : World) (K : PySem.W.Frag) (mg : Str → Option Value) (base : Heap) (CX : CXT) (k : Nat) (x : Str) (sp : Sp) : Prop where
  ex : ∃ (f : Addr) (fd : FuncData) (ps : List Str), FnOk P w K mg base CX k f fd ps sp ∧ mg x = some (.ref f) ∧ PySem.W.keepIn K (.ref f) = true ∧ Binds K fd ps []
theorem pe_cl {X : Cx} {k j : Nat} {x : Str} {sp : Sp} {p pos : Pos} {e : Expr} {es : List Expr} {t : TA} (c : Cl X.prog X.w X.K X.mg X.base CX0 k x sp) (hr : Room j X.A) (ha : PA X (e :: es) t) (hk : k ≤ j := by decide) (hg : Gl X x := by rfl)
    (hdb : (x == ("__debug__" : Str)) = false := by decide) (he : starEach (e :: es) X.env = (false, eval e X.env) :: starEach es X.env := by rfl) (hpl : (backTo pos (starEach es X.env)).any (·.1) = false := by rfl) :
    PE X (.Call (.Name x p) (e :: es) [] pos) (tCall sp [] E0 t) := by
  obtain ⟨f, fd, ps, F, hm, kp, b⟩ := c.ex
  exact pe_call F (hr.mono hk) hg hm kp b .nil pass0 ha hdb he hpl
structure Txt (mg : Str → Option Value) : Prop where
  int : mg "int" = none
  len : mg "len" = none
  abs : mg "abs" = none
  isinstance : mg "isinstance" = none
  bool : mg "bool" = none
  tuple : mg "tuple" = none
  list : mg "list" = none
  str : mg "str" = none
theorem if_pos_of {c : Bool} {A B : Prop} (hc : c = true) (h : A) : if c = true then A else B := by
  rw [if_pos hc]
  exact h
theorem if_neg_of {c : Bool} {A B : Prop} (hc : c = false) (h : B) : if c = true then A else B := by
  rw [hc, if_neg Bool.false_ne_true]
  exact h
section
variable {P : Program} {w : World} {K : PySem.W.Frag} {mg : Str → Option Value} {base : Heap}
/-- a pool: three values -/
def PoolAt (H : Hp) (p : Addr) : Prop := ∃ (c n : Int) (b : Bool), H p = some (.lst [.int c, .int n, .bl b])
def spPool : Sp := fun vs H Q _ => ∃ c : Int, vs = [.int c] ∧ ∀ p H', H p = none → Same H H' → PoolAt H' p → Q (.ref p) H'
theorem same_upd {H : Hp} {p : Addr} {o : HO} (h : H p = none) : Same H (upd H p o) := fun b u e => by
  rw [upd_ne (ne_of_none e h)]
  exact e

abbrev s_pool : Stmt := top 5
theorem sc_pool : FnScope ["_law_cell_here"] ["_law_cell_here"] (defScope s_pool) := ⟨rfl, rfl, rfl, by decide +kernel, rfl, by decide +kernel, by decide +kernel⟩
theorem ok_pool {f : Addr} {fd : FuncData} (F : Fun K "_law_pool" "_law_pool" s_pool f fd) : FnOk P w K mg base CX0 1 f fd ["_law_cell_here"] spPool := by
  refine F.ok sc_pool (fun vs H Q E h => ?_) (fun cdv A outer s H vs Q E hr h => ?_)
  · obtain ⟨c, rfl, _⟩ := h
    rfl
  · obtain ⟨c, rfl, k⟩ := h
    refine ⟨_, (pss_one (ps_ret (pe_lst (pa_cons (pv 0) (pa_cons pe_int (pa_cons (pe_cmpR op_ge (pv 0) (pe_op op_pow pe_int pe_int) (nomark _)) pa_nil)))))), ?_⟩
    refine ⟨_, rfl, _, rfl, _, _, rfl, rfl, ⟨by decide, by decide, by decide⟩, _, _, rfl, rfl, (by show 3 ≤ sizeLine; decide), fun p hp => ?_⟩
    exact k p _ hp (same_upd hp) ⟨_, _, _, upd_same⟩

abbrev s_take : Stmt := top 6
theorem sc_take : FnScope ["_law_pool_here", "_law_limit", "_law_drawn", "_law_mixed"] ["_law_pool_here", "_law_limit"] (defScope s_take) := ⟨rfl, rfl, rfl, by decide +kernel, rfl, by decide +kernel, by decide +kernel⟩
def spTake : Sp := fun vs H Q _ => ∃ (p : Addr) (m : Int), vs = [.ref p, .int m] ∧ PoolAt H p ∧ 0 < m ∧ m.natAbs.log2 < 9000 ∧
  ∀ v H', 0 ≤ v → v < m → (∀ q, q ≠ p → H' q = H q) → PoolAt H' p → Q (.int v) H'
theorem mix_small (z : Int) : (z % 2147483647).natAbs < 2 ^ 64 := by
  have h1 := Int.emod_nonneg z (show (2147483647 : Int) ≠ 0 by decide)
  have h2 := Int.emod_lt_of_pos z (show (0 : Int) < 2147483647 by decide)
  have : (2147483647 : Nat) < 2 ^ 64 := by decide
  omega
theorem ok_take {f : Addr} {fd : FuncData} (T : Txt mg) (F : Fun K "_law_take" "_law_take" s_take f fd) : FnOk P w K mg base CX0 1 f fd ["_law_pool_here", "_law_limit"] spTake := by
  refine F.ok sc_take (fun vs H Q E h => ?_) (fun cdv A outer s H vs Q E hr h => ?_)
  · obtain ⟨p, m, rfl, _⟩ := h
    rfl
  · obtain ⟨p, m, rfl, ⟨c, n, b, hp⟩, hm, hb, k⟩ := h
    refine ⟨_, (pss_cons (ps_asg (pe_op op_add (pe_ix ix_list (pv 0) pe_int (fun _ _ => rfl)) pe_int) (pg_sub (pv 0) pe_int set_list))
 (pss_cons (ps_if (pt_val (pe_ix ix_list (pv 0) pe_int (fun _ _ => rfl))) (pss_cons (ps_set (i := 2) sc_take.nd rfl (Or.inl rfl) (pe_op op_mod (pe_callTy call_int1 (by rfl) T.int boot_int (pa_cons (pe_ix ix_list (pv 0) pe_int (fun _ _ => rfl)) pa_nil)) (pv 1)))
 (pss_cons (ps_asg (pe_op op_fdivW (pe_callTy call_int1 (by rfl) T.int boot_int (pa_cons (pe_ix ix_list (pv 0) pe_int (fun _ _ => rfl)) pa_nil)) (pv 1)) (pg_sub (pv 0) pe_int set_list))
 (pss_one (ps_ret (pv 2))))) pss_nil)
 (pss_cons (ps_set (i := 3) sc_take.nd rfl (Or.inl rfl) (pe_op op_mod (pe_callTy call_int1 (by rfl) T.int boot_int (pa_cons (pe_op op_add (pe_op op_add (pe_op op_mul (pe_ix ix_list (pv 0) pe_int (fun _ _ => rfl)) pe_int) (pe_op op_mul (pe_ix ix_list (pv 0) pe_int (fun _ _ => rfl)) pe_int)) pe_int) pa_nil)) pe_int))
 (pss_one (ps_ret (pe_op op_mod (pe_op op_fdivW (pe_callTy call_int1 (by rfl) T.int boot_int (pa_cons (pe_op op_mod (pe_op op_pow (pv 3) pe_int) pe_int) pa_nil)) pe_int) (pv 1))))))), ?_⟩
    refine ⟨_, rfl, p, _, _, _, rfl, rfl, SqL.of hp, rfl, _, _, rfl, rfl, _, rfl, p, _, _, _, rfl, rfl, hp, rfl, ?_⟩
    refine ⟨_, rfl, p, _, _, _, rfl, rfl, SqL.of upd_same, rfl, b, rfl, ?_⟩
    cases b with
    | true =>
      refine iteT ?_
      refine ⟨_, rfl, p, _, _, _, rfl, rfl, SqL.of upd_same, rfl, .inl ⟨_, rfl, _, rfl, _, _, rfl, rfl, hm, ?_⟩⟩
      refine ⟨_, rfl, p, _, _, _, rfl, rfl, SqL.of upd_same, rfl, .inl ⟨_, rfl, _, rfl, _, _, rfl, rfl, ⟨hm, hb⟩, _, rfl, p, _, _, _, rfl, rfl, upd_same, rfl, ?_⟩⟩
      refine ⟨_, rfl, k _ _ (Int.emod_nonneg _ (by omega)) (Int.emod_lt_of_pos _ hm) (fun q hq => ?_) ⟨_, _, _, upd_same⟩⟩
      rw [upd_ne hq, upd_ne hq]
    | false =>
      refine iteF ?_
      refine ⟨_, rfl, p, _, _, _, rfl, rfl, SqL.of upd_same, rfl, _, _, rfl, rfl, (.inr ⟨by decide, by decide⟩), _, rfl, p, _, _, _, rfl, rfl, SqL.of upd_same, rfl, _, _, rfl, rfl, (.inr ⟨by decide, by decide⟩), _, _, rfl, rfl, _, _, rfl, rfl, .inl ⟨_, rfl, _, _, rfl, rfl, (by show (0 : Int) < 2147483647; decide), ?_⟩⟩
      refine ⟨_, rfl, _, _, rfl, rfl, ⟨by decide, by decide, mix_small _⟩, _, _, rfl, rfl, (by show (0 : Int) < 2147483647; decide), .inl ⟨_, rfl, _, _, rfl, rfl, ⟨by decide, by decide⟩, _, rfl, _, _, rfl, rfl, hm, ?_⟩⟩
      refine k _ _ (Int.emod_nonneg _ (by omega)) (Int.emod_lt_of_pos _ hm) (fun q hq => ?_) ⟨_, _, _, upd_same⟩
      rw [upd_ne hq]

abbrev s_cell : Stmt := top 7
theorem sc_cell : FnScope ["_law_script", "_law_k"] ["_law_script", "_law_k"] (defScope s_cell) := ⟨rfl, rfl, rfl, by decide +kernel, rfl, by decide +kernel, by decide +kernel⟩
def spCellL (K : PySem.W.Frag) : Sp := fun vs H Q _ => ∃ (a : Addr) (ns : List Int) (k : Nat), vs = [.ref a, .int (k : Int)] ∧ SqL K H a (ns.map V.int) ∧ ∀ v, Q (.int v) H
theorem ok_cell {f : Addr} {fd : FuncData} (T : Txt mg) (F : Fun K "_law_cell" "_law_cell" s_cell f fd) : FnOk P w K mg base CX0 1 f fd ["_law_script", "_law_k"] (spCellL K) := by
  refine F.ok sc_cell (fun vs H Q E h => ?_) (fun cdv A outer s H vs Q E hr h => ?_)
  · obtain ⟨a, ns, k, rfl, _⟩ := h
    rfl
  · obtain ⟨a, ns, k, rfl, hS, q⟩ := h
    refine ⟨_, (pss_cons (ps_if (pt_cmpR op_lt (pv 1) (pe_callB call_len_seq (by rfl) T.len PySem.boot_len (pa_cons (pv 0) pa_nil)) (nomark _)) (pss_one (ps_ret (pe_ix ix_list (pv 0) (pv 1) (fun _ _ => rfl)))) pss_nil)
 (pss_one (ps_ret pe_int))), ?_⟩
    refine ⟨_, rfl, _, rfl, a, _, rfl, .inl hS, _, _, rfl, rfl, _, rfl, ?_⟩
    rw [List.length_map]
    by_cases c : k < ns.length
    · refine if_pos_of (decide_eq_true (by omega)) ?_
      refine ⟨_, rfl, _, rfl, a, _, _, .int ns[k], rfl, rfl, hS, atI_nat (by rw [List.getElem?_map, List.getElem?_eq_getElem c]; rfl), ?_⟩
      exact q _
    · refine if_neg_of (decide_eq_false (by omega)) ?_
      exact q _

abbrev s_number : Stmt := top 8
theorem sc_number : FnScope ["_law_script", "_law_k", "_law_pool_here", "_law_which"] ["_law_script", "_law_k"] (defScope s_number) := ⟨rfl, rfl, rfl, by decide +kernel, rfl, by decide +kernel, by decide +kernel⟩
theorem big60 : (10 : Int) ^ (60 : Int).toNat = 1000000000000000000000000000000000000000000000000000000000000 := by decide
def spNumber (K : PySem.W.Frag) : Sp := fun vs H Q _ => ∃ (a : Addr) (ns : List Int) (k : Nat), vs = [.ref a, .int (k : Int)] ∧ SqL K H a (ns.map V.int) ∧
  ∀ v H', v.natAbs < 1000000000000000000000000000000000000000000000000000000000000 → Same H H' → Q (.int v) H'
theorem ok_number {f : Addr} {fd : FuncData} (T : Txt mg) (F : Fun K "_law_number" "_law_number" s_number f fd) (c_pool : Cl P w K mg base CX0 1 "_law_pool" spPool) (c_take : Cl P w K mg base CX0 1 "_law_take" spTake) (c_cell : Cl P w K mg base CX0 1 "_law_cell" (spCellL K)) : FnOk P w K mg base CX0 2 f fd ["_law_script", "_law_k"] (spNumber K) := by
  refine F.ok sc_number (fun vs H Q E h => ?_) (fun cdv A outer s H vs Q E hr h => ?_)
  · obtain ⟨a, ns, k, rfl, _⟩ := h
    rfl
  · obtain ⟨a, ns, k, rfl, hS, q⟩ := h
    refine ⟨_, (pss_cons (ps_set (i := 2) sc_number.nd rfl (Or.inl rfl) (pe_cl c_pool hr (pa_cons (pe_cl c_cell hr (pa_cons (pv 0) (pa_cons (pv 1) pa_nil))) pa_nil)))
 (pss_cons (ps_set (i := 3) sc_number.nd rfl (Or.inl rfl) (pe_cl c_take hr (pa_cons (pv 2) (pa_cons pe_int pa_nil))))
 (pss_cons (ps_if (pt_cmpR op_eq (pv 3) pe_int (nomark _)) (pss_one (ps_ret pe_int)) pss_nil)
 (pss_cons (ps_if (pt_cmpR op_eq (pv 3) pe_int (nomark _)) (pss_one (ps_ret (pe_op op_mod (pe_callTy call_int1 (by rfl) T.int boot_int (pa_cons (pe_cl c_cell hr (pa_cons (pv 0) (pa_cons (pv 1) pa_nil))) pa_nil)) (pe_op op_pow pe_int pe_int)))) pss_nil)
 (pss_cons (ps_if (pt_cmpR op_eq (pv 3) pe_int (nomark _)) (pss_one (ps_ret (pe_un un_neg (pe_op op_mod (pe_callTy call_int1 (by rfl) T.int boot_int (pa_cons (pe_cl c_cell hr (pa_cons (pv 0) (pa_cons (pv 1) pa_nil))) pa_nil)) (pe_op op_pow pe_int pe_int))))) pss_nil)
 (pss_one (ps_ret (pe_op op_sub (pe_cl c_take hr (pa_cons (pv 2) (pa_cons pe_int pa_nil))) pe_int)))))))), ?_⟩
    refine ⟨_, rfl, _, rfl, a, ns, k, rfl, hS, fun c => ⟨c, rfl, fun p H1 np s1 P1 => ?_⟩⟩
    refine ⟨_, rfl, p, 6, rfl, P1, by decide, by decide, fun v H2 v0 v1 e2 P2 => ?_⟩
    have s2 : Same H H2 := fun b o e => by
      rw [e2 b (ne_of_none e np)]
      exact s1 b o e
    refine ⟨_, rfl, rfl, _, rfl, ite2 (fun _ => q _ _ (by decide) s2) (fun _ => ?_)⟩
    refine ⟨_, rfl, rfl, _, rfl, ite2 (fun _ => ?_) (fun _ => ?_)⟩
    · refine ⟨_, rfl, _, rfl, a, ns, k, rfl, s2.seq hS, fun c => .inl ⟨_, rfl, _, _, rfl, rfl, ⟨by decide, by decide, by decide⟩, _, _, rfl, rfl, (by show (0 : Int) < (10 : Int) ^ (60 : Int).toNat; rw [big60]; decide), ?_⟩⟩
      rw [big60]
      have h1 := Int.emod_nonneg c (show (1000000000000000000000000000000000000000000000000000000000000 : Int) ≠ 0 by decide)
      have h2 := Int.emod_lt_of_pos c (show (0 : Int) < 1000000000000000000000000000000000000000000000000000000000000 by decide)
      exact q _ _ (by omega) s2
    refine ⟨_, rfl, rfl, _, rfl, ite2 (fun _ => ?_) (fun _ => ?_)⟩
    · refine ⟨_, rfl, _, rfl, a, ns, k, rfl, s2.seq hS, fun c => .inl ⟨_, rfl, _, _, rfl, rfl, ⟨by decide, by decide, by decide⟩, _, _, rfl, rfl, (by show (0 : Int) < (10 : Int) ^ (60 : Int).toNat; rw [big60]; decide), _, rfl, ?_⟩⟩
      rw [big60]
      have h1 := Int.emod_nonneg c (show (1000000000000000000000000000000000000000000000000000000000000 : Int) ≠ 0 by decide)
      have h2 := Int.emod_lt_of_pos c (show (0 : Int) < 1000000000000000000000000000000000000000000000000000000000000 by decide)
      exact q _ _ (by omega) s2
    · refine ⟨_, rfl, p, 601, rfl, P2, by decide, by decide, fun v H3 v0 v1 e3 P3 => ⟨_, _, rfl, rfl, ?_⟩⟩
      exact q _ _ (by omega) fun b o e => by
        rw [e3 b (ne_of_none e np)]
        exact s2 b o e

abbrev s_common : Stmt := top 2
theorem sc_common : FnScope ["a", "b"] ["a", "b"] (defScope s_common) := ⟨rfl, rfl, rfl, by decide +kernel, rfl, by decide +kernel, by decide +kernel⟩
def spCommon : Sp := fun vs H Q _ => ∃ (a b : Int), vs = [.int a, .int b] ∧ Q (.int ((a.gcd b : Nat) : Int)) H
theorem ok_common {f : Addr} {fd : FuncData} (hg : mg "gcd" = some (.builtin "math.gcd")) (F : Fun K "common" "common" s_common f fd) : FnOk P w K mg base CX0 1 f fd ["a", "b"] spCommon := by
  refine F.ok sc_common (fun vs H Q E h => ?_) (fun cdv A outer s H vs Q E hr h => ?_)
  · obtain ⟨a, b, rfl, _⟩ := h
    rfl
  · obtain ⟨a, b, rfl, q⟩ := h
    exact ⟨_, (pss_one (ps_ret (pe_callBfun cr_gcd (by rfl) hg (pa_cons (pv 0) (pa_cons (pv 1) pa_nil))))), _, rfl, _, rfl, _, _, rfl, q⟩
abbrev s_comb : Stmt := top 3
theorem sc_comb : FnScope ["a", "b", "d", "rest", "u", "next_u", "times"] ["a", "b"] (defScope s_comb) := ⟨rfl, rfl, rfl, by decide +kernel, rfl, by decide +kernel, by decide +kernel⟩
def CDivNW (_ j : Int) : Prop := j ≠ 0 ∧ j.natAbs.log2 < 9000
theorem op_fdivNW {X : Cx} : OpR X (binaryOp .FloorDiv) (rI CDivNW fun i j => .int (i.fdiv j)) := opI fun i j _ _ _ _ _ hc q => floordiv_int hc.1 q (.inl (PyProof.noPylong_of_log2 hc.2))
def BigL : Nat := 2 ^ 300
theorem bigL_lt {x : Nat} {a b : Int} (ha : a.natAbs < BigL) (hb : b.natAbs < BigL) (h : x ≤ a.natAbs + b.natAbs + 1) : x < 2 ^ 302 := by
  have e : (2 : Nat) ^ 302 = 4 * BigL := by decide
  have e2 : 2 ≤ BigL := by decide
  omega
def spComb : Sp := fun vs H Q _ => ∃ (a b : Int), vs = [.int a, .int b] ∧ a.natAbs < BigL ∧ b.natAbs < BigL ∧
  ∀ u v t H', u * a + v * b = ((a.gcd b : Nat) : Int) → u.natAbs < 2 ^ 302 → v.natAbs < 2 ^ 700 → Same H H' → H' t = some (.tup [.int ((a.gcd b : Nat) : Int), .int u, .int v]) → Q (.ref t) H'
theorem ok_comb {f : Addr} {fd : FuncData} (F : Fun K "combination" "combination" s_comb f fd) : FnOk P w K mg base CX0 1 f fd ["a", "b"] spComb := by
  refine F.ok sc_comb (fun vs H Q E h => ?_) (fun cdv A outer s H vs Q E hr h => ?_)
  · obtain ⟨a, b, rfl, _⟩ := h
    rfl
  · obtain ⟨a, b, rfl, ha, hb, q⟩ := h
    refine ⟨_, (pss_cons (ps_par (i := 2) (j := 3) rfl sc_comb.nd rfl rfl (by decide) rfl rfl (pa_cons (pv 0) (pa_cons (pv 1) pa_nil)) rfl)
 (pss_cons (ps_asg (pe_tup (pa_cons pe_int (pa_cons pe_int pa_nil))) (pg_tup rfl (pgs_cons (pg_name (i := 4) sc_comb.nd rfl (Or.inl rfl)) (pgs_cons (pg_name (i := 5) sc_comb.nd rfl (Or.inl rfl)) pgs_nil))))
 (pss_cons (ps_while PassesOwn.never (pt_cmpR op_ne (pv 3) pe_int (nomark _)) (pss_cons (ps_set (i := 6) sc_comb.nd rfl (Or.inl rfl) (pe_op op_fdivNW (pv 2) (pv 3)))
 (pss_cons (ps_par (i := 2) (j := 3) rfl sc_comb.nd rfl rfl (by decide) rfl rfl (pa_cons (pv 3) (pa_cons (pe_op op_sub (pv 2) (pe_op op_mulW (pv 6) (pv 3))) pa_nil)) rfl)
 (pss_one (ps_par (i := 4) (j := 5) rfl sc_comb.nd rfl rfl (by decide) rfl rfl (pa_cons (pv 5) (pa_cons (pe_op op_sub (pv 4) (pe_op op_mulW (pv 6) (pv 5))) pa_nil)) rfl)))))
 (pss_cons (ps_if (pt_cmpR op_lt (pv 2) pe_int (nomark _)) (pss_one (ps_par (i := 2) (j := 4) rfl sc_comb.nd rfl rfl (by decide) rfl rfl (pa_cons (pe_un un_neg (pv 2)) (pa_cons (pe_un un_neg (pv 4)) pa_nil)) rfl)) pss_nil)
 (pss_cons (ps_if (pt_cmpR op_eq (pv 1) pe_int (nomark _)) (pss_one (ps_ret (pe_tup (pa_cons (pv 2) (pa_cons (pv 4) (pa_cons pe_int pa_nil)))))) pss_nil)
 (pss_one (ps_ret (pe_tup (pa_cons (pv 2) (pa_cons (pv 4) (pa_cons (pe_op op_fdivNW (pe_op op_sub (pv 2) (pe_op op_mulW (pv 4) (pv 0))) (pv 1)) pa_nil))))))))))), ?_⟩
    refine ⟨_, rfl, _, rfl, _, _, rfl, ?_⟩
    refine ⟨(by show 2 ≤ sizeLine; decide), fun p0 hp0 => ⟨p0, _, rfl, .inl (.inl upd_same), rfl, _, _, rfl, _, _, rfl, rfl, ?_⟩⟩
    refine while_by (fun σ H' => H' = _ ∧ ∃ d r u u' x, σ = [some (.int a), some (.int b), some (.int d), some (.int r), some (.int u), some (.int u'), x] ∧ Euc a b d r u u')
      (fun σ _ => match σ[3]? with | some (some (V.int r)) => r.natAbs | _ => 0) ⟨rfl, _, _, _, _, _, rfl, euc0 a b⟩ ?_ ?_
    · rintro σ _ ⟨rfl, d, r, u, u', x, rfl, I⟩
      refine ⟨_, rfl, rfl, _, rfl, ?_⟩
      by_cases c : r = 0
      · refine if_neg_of (by simp [c]) ?_
        subst c
        have eg := euc_end I
        have bu := bigL_lt (x := u.natAbs) ha hb (by have := I.bu; omega)
        have ba : a.natAbs < 2 ^ 302 := bigL_lt ha hb (by omega)
        have s1 : Same H (upd H p0 (.tup [.int 1, .int 0])) := same_upd hp0
        obtain ⟨v, cv⟩ := I.c1
        obtain ⟨d', u', v', h1, h2, h3, h4, h5⟩ : ∃ d' u' v' : Int, (d < 0 → d' = -d ∧ u' = -u) ∧ (¬ d < 0 → d' = d ∧ u' = u) ∧ d' = ((a.gcd b : Nat) : Int) ∧ d' = u' * a + v' * b ∧ u'.natAbs < 2 ^ 302 := by
          by_cases hd : d < 0
          · refine ⟨-d, -u, -v, fun _ => ⟨rfl, rfl⟩, fun h => absurd hd h, by omega, ?_, by omega⟩
            rw [cv, Int.neg_mul, Int.neg_mul]
            omega
          · exact ⟨d, u, v, fun h => absurd h hd, fun _ => ⟨rfl, rfl⟩, by omega, cv, bu⟩
        refine ⟨_, rfl, _, _, rfl, rfl, _, rfl, ?_⟩
        by_cases hd : d < 0
        · refine if_pos_of (decide_eq_true hd) ?_
          refine ⟨_, rfl, _, rfl, _, rfl, _, rfl, V.int d', V.int u', (by rw [(h1 hd).1, (h1 hd).2] <;> rfl), ?_⟩
          refine ⟨_, rfl, rfl, _, rfl, ?_⟩
          by_cases hb0 : b = 0
          · refine if_pos_of (by simp [hb0]) ?_
            refine ⟨_, rfl, _, rfl, (by show 3 ≤ sizeLine; decide), fun t ht => ?_⟩
            subst hb0
            exact q u' 0 t _ (by omega) h5 (by decide) (s1.trans (same_upd ht)) (by rw [← h3]; exact upd_same)
          · refine if_neg_of (by simp [hb0]) ?_
            have m : (u' * a).natAbs < 2 ^ (302 + 302) := wide_lt h5 ba
            have bb : b.natAbs < 2 ^ 302 := bigL_lt (x := b.natAbs) ha hb (by omega)
            have bv : v'.natAbs < 2 ^ 700 := by
              have z := natAbs_le_mul (v := v') hb0
              have bd : d'.natAbs < 2 ^ 302 := bigL_lt ha hb (by have := I.bd; omega)
              have z2 : v' * b = d' - u' * a := by omega
              rw [z2] at z
              have z3 := Int.natAbs_sub_le d' (u' * a)
              have e1 : (2 : Nat) ^ 302 ≤ 2 ^ 604 := by decide
              have e2 : (2 : Nat) ^ 604 + 2 ^ 604 ≤ 2 ^ 700 := by decide
              have m' : (u' * a).natAbs < 2 ^ 604 := m
              generalize (2 : Nat) ^ 700 = T7 at *
              generalize (2 : Nat) ^ 604 = T6 at *
              generalize (2 : Nat) ^ 302 = T3 at *
              omega
            refine ⟨_, rfl, _, rfl, _, rfl, _, rfl, _, rfl, _, _, rfl, rfl, wide_mul h5 ba (by decide) (by decide) (by decide), _, _, rfl, rfl, _, rfl, _, _, rfl, rfl, ⟨hb0, PySem.Flt.log2_lt_of (by decide) (Nat.lt_of_lt_of_le bb (by decide))⟩, (by show 3 ≤ sizeLine; decide), fun t ht => ?_⟩
            show Q (V.ref t) (upd (upd H p0 (HO.tup [V.int 1, V.int 0])) t (HO.tup [V.int d', V.int u', V.int ((d' - u' * a).fdiv b)]))
            rw [euc_last hb0 h4]
            exact q u' v' t _ (by omega) h5 bv (s1.trans (same_upd ht)) (by rw [← h3]; exact upd_same)
        · refine if_neg_of (decide_eq_false hd) ?_
          rw [← (h2 hd).1, ← (h2 hd).2]
          refine ⟨_, rfl, rfl, _, rfl, ?_⟩
          by_cases hb0 : b = 0
          · refine if_pos_of (by simp [hb0]) ?_
            refine ⟨_, rfl, _, rfl, (by show 3 ≤ sizeLine; decide), fun t ht => ?_⟩
            subst hb0
            exact q u' 0 t _ (by omega) h5 (by decide) (s1.trans (same_upd ht)) (by rw [← h3]; exact upd_same)
          · refine if_neg_of (by simp [hb0]) ?_
            have m : (u' * a).natAbs < 2 ^ (302 + 302) := wide_lt h5 ba
            have bb : b.natAbs < 2 ^ 302 := bigL_lt (x := b.natAbs) ha hb (by omega)
            have bv : v'.natAbs < 2 ^ 700 := by
              have z := natAbs_le_mul (v := v') hb0
              have bd : d'.natAbs < 2 ^ 302 := bigL_lt ha hb (by have := I.bd; omega)
              have z2 : v' * b = d' - u' * a := by omega
              rw [z2] at z
              have z3 := Int.natAbs_sub_le d' (u' * a)
              have e1 : (2 : Nat) ^ 302 ≤ 2 ^ 604 := by decide
              have e2 : (2 : Nat) ^ 604 + 2 ^ 604 ≤ 2 ^ 700 := by decide
              have m' : (u' * a).natAbs < 2 ^ 604 := m
              generalize (2 : Nat) ^ 700 = T7 at *
              generalize (2 : Nat) ^ 604 = T6 at *
              generalize (2 : Nat) ^ 302 = T3 at *
              omega
            refine ⟨_, rfl, _, rfl, _, rfl, _, rfl, _, rfl, _, _, rfl, rfl, wide_mul h5 ba (by decide) (by decide) (by decide), _, _, rfl, rfl, _, rfl, _, _, rfl, rfl, ⟨hb0, PySem.Flt.log2_lt_of (by decide) (Nat.lt_of_lt_of_le bb (by decide))⟩, (by show 3 ≤ sizeLine; decide), fun t ht => ?_⟩
            show Q (V.ref t) (upd (upd H p0 (HO.tup [V.int 1, V.int 0])) t (HO.tup [V.int d', V.int u', V.int ((d' - u' * a).fdiv b)]))
            rw [euc_last hb0 h4]
            exact q u' v' t _ (by omega) h5 bv (s1.trans (same_upd ht)) (by rw [← h3]; exact upd_same)
      · refine if_pos_of (by simp [c]) ?_
        have br := bigL_lt (x := r.natAbs) ha hb (by have := I.br; omega)
        have bd := bigL_lt (x := d.natAbs) ha hb (by have := I.bd; omega)
        have bu := bigL_lt (x := u'.natAbs) ha hb (by have := I.bu'; omega)
        have bq : (d.fdiv r).natAbs < 2 ^ 302 := by
          obtain ⟨_, _, _, _, h4, _⟩ := fd_parts d r c
          omega
        have st := euc_step I c
        refine ⟨_, rfl, _, rfl, _, _, rfl, rfl, ⟨c, PySem.Flt.log2_lt_of (by decide) (Nat.lt_of_lt_of_le br (by decide))⟩, ?_⟩
        refine ⟨_, rfl, _, rfl, _, rfl, _, rfl, _, _, rfl, rfl, wide_mul bq br (by decide) (by decide) (by decide), _, _, rfl, rfl, _, _, rfl, ?_⟩
        refine ⟨_, rfl, _, rfl, _, rfl, _, rfl, _, _, rfl, rfl, wide_mul bq bu (by decide) (by decide) (by decide), _, _, rfl, rfl, _, _, rfl, ?_⟩
        exact ⟨⟨rfl, _, _, _, _, _, rfl, st.1⟩, st.2⟩
    · intro σ H1 Q1 Q2 h ⟨v, e, s, k, e2, q⟩
      exact ⟨v, e, s, k, e2, h _ _ q⟩
/-- an isinstance of an int -/
theorem isi_int {K : PySem.W.Frag} {i : Int} {T : String} {b : Bool} {H : Hp} {Q : VK} (h : kitB "int" T = some b) (q : Q (.bl b) H) : rIsi K [.int i, .ty T] H Q :=
  ⟨_, _, _, _, b, rfl, .ty T, .base (.int i), kit_ty h, q⟩
theorem isi_tup {K : PySem.W.Frag} {a : Addr} {xs : List V} {T : String} {b : Bool} {H : Hp} {Q : VK} (ha : H a = some (.tup xs)) (h : kitB "tuple" T = some b) (q : Q (.bl b) H) : rIsi K [.ref a, .ty T] H Q :=
  ⟨_, _, _, _, b, rfl, .ty T, .base (.tup ha), kit_ty h, q⟩
theorem isi_bl {K : PySem.W.Frag} {x : Bool} {T : String} {b : Bool} {H : Hp} {Q : VK} (h : kitB "bool" T = some b) (q : Q (.bl b) H) : rIsi K [.bl x, .ty T] H Q :=
  ⟨_, _, _, _, b, rfl, .ty T, .base (.bl x), kit_ty h, q⟩
theorem isi_lst {K : PySem.W.Frag} {a : Addr} {xs : List V} {T : String} {b : Bool} {H : Hp} {Q : VK} (ha : H a = some (.lst xs)) (h : kitB "list" T = some b) (q : Q (.bl b) H) : rIsi K [.ref a, .ty T] H Q :=
  ⟨_, _, _, _, b, rfl, .ty T, .base (.lst ha), kit_ty h, q⟩
/-- the law's own promise -/
def spLaw (K : PySem.W.Frag) : Sp := fun vs H Q _ => ∃ (a : Addr) (ns : List Int), vs = [.ref a] ∧ SqL K H a (ns.map V.int) ∧ ns.length ≤ 63 ∧ ∀ H', Q (.bl true) H'
abbrev s_law : Stmt := top 9
theorem sc_law : FnScope ["_law_script", "_law_factor", "_law_pool_here", "_law_a", "_law_b", "_law_first", "_law_second", "_law_told", "_law_row", "_law_d", "_law_u", "_law_v"] ["_law_script"] (defScope s_law) := ⟨rfl, rfl, rfl, by decide +kernel, rfl, by decide +kernel, by decide +kernel⟩
theorem big20 : (10 : Int) ^ (20 : Int).toNat = 100000000000000000000 := by decide
theorem prod_lt {f v : Int} (hf : 1 ≤ f) (hf2 : f ≤ 100000000000000000000) (hv : v.natAbs < 1000000000000000000000000000000000000000000000000000000000000) : (f * v).natAbs < 2 ^ 299 := by
  have h1 : f.natAbs < 2 ^ 67 := by
    have : (2 : Nat) ^ 67 = 147573952589676412928 := by decide
    omega
  have h2 : v.natAbs < 2 ^ 200 := Nat.lt_trans hv (by decide)
  exact Nat.lt_trans (wide_lt h1 h2) (by decide)
theorem bigL_of {x : Int} (h : x.natAbs < 2 ^ 299) : x.natAbs < BigL ∧ (-x).natAbs < BigL ∧ (x + 1).natAbs < BigL := by
  have e : BigL = 2 * 2 ^ 299 := by decide
  have e2 : (2 : Nat) ≤ 2 ^ 299 := by decide
  rw [e]
  generalize (2 : Nat) ^ 299 = T at *
  omega
/-- a pair of ints of bounded size stands at t -/
def PairAt (H : Hp) (x : V) : Prop := ∃ (t : Addr) (f s : Int), x = .ref t ∧ H t = some (.tup [.int f, .int s]) ∧ f.natAbs < BigL ∧ s.natAbs < BigL
theorem PairAt.same {H H' : Hp} {x : V} (h : PairAt H x) (s : Same H H') : PairAt H' x := by
  obtain ⟨t, f, z, e, ht, b⟩ := h
  exact ⟨t, f, z, e, s _ _ ht, b⟩
theorem pair_new {H : Hp} {p : Addr} {a b : Int} (_h : H p = none) (ha : a.natAbs < BigL) (hb : b.natAbs < BigL) : PairAt (upd H p (.tup [.int a, .int b])) (.ref p) := ⟨p, a, b, rfl, upd_same, ha, hb⟩
theorem allN {R : V → Prop} : ∀ x ∈ ([] : List V), R x := fun _ h => nomatch h
theorem allC {R : V → Prop} {a : V} {l : List V} (h : R a) (t : ∀ x ∈ l, R x) : ∀ x ∈ a :: l, R x := fun x hx => by
  rcases List.mem_cons.mp hx with e | e
  · rw [e]
    exact h
  · exact t x e
theorem ok_law {f : Addr} {fd : FuncData} (T : Txt mg) (F : Fun K "law" "law" s_law f fd) (c_pool : Cl P w K mg base CX0 1 "_law_pool" spPool) (c_take : Cl P w K mg base CX0 1 "_law_take" spTake) (c_cell : Cl P w K mg base CX0 1 "_law_cell" (spCellL K)) (c_number : Cl P w K mg base CX0 2 "_law_number" (spNumber K)) (c_common : Cl P w K mg base CX0 1 "common" spCommon) (c_comb : Cl P w K mg base CX0 1 "combination" spComb) : FnOk P w K mg base CX0 3 f fd ["_law_script"] (spLaw K) := by
  refine F.ok sc_law (fun vs H Q E h => ?_) (fun cdv A outer s H vs Q E hr h => ?_)
  · obtain ⟨a, ns, rfl, _⟩ := h
    rfl
  · obtain ⟨l, ns, rfl, hS, hlen, q⟩ := h
    refine ⟨_, (pss_cons (ps_set (i := 1) sc_law.nd rfl (Or.inl rfl) pe_int)
 (pss_cons (ps_set (i := 2) sc_law.nd rfl (Or.inl rfl) (pe_cl c_pool hr (pa_cons (pe_cl c_cell hr (pa_cons (pv 0) (pa_cons pe_int pa_nil))) pa_nil)))
 (Evl.pss_cut (ps_if (pt_cmpR op_eq (pe_cl c_take hr (pa_cons (pv 2) (pa_cons pe_int pa_nil))) pe_int (nomark _)) (pss_one (ps_set (i := 1) sc_law.nd rfl (Or.inl rfl) (pe_op op_add pe_int (pe_cl c_take hr (pa_cons (pv 2) (pa_cons (pe_op op_pow pe_int pe_int) pa_nil)))))) pss_nil)
 (pss_cons (ps_set (i := 3) sc_law.nd rfl (Or.inl rfl) (pe_op op_mulW (pv 1) (pe_cl c_number hr (pa_cons (pv 0) (pa_cons pe_int pa_nil)))))
 (Evl.pss_cut (ps_set (i := 4) sc_law.nd rfl (Or.inl rfl) (pe_op op_mulW (pv 1) (pe_cl c_number hr (pa_cons (pv 0) (pa_cons pe_int pa_nil)))))
 (Evl.pss_cut (ps_for PassesOwn.never rfl (pi_list (pe_lst (pa_cons (pe_tup (pa_cons (pv 3) (pa_cons (pv 4) pa_nil))) (pa_cons (pe_tup (pa_cons (pv 4) (pa_cons (pv 3) pa_nil))) (pa_cons (pe_tup (pa_cons (pv 3) (pa_cons (pv 3) pa_nil))) (pa_cons (pe_tup (pa_cons (pv 3) (pa_cons pe_int pa_nil))) (pa_cons (pe_tup (pa_cons pe_int (pa_cons (pv 4) pa_nil))) (pa_cons (pe_tup (pa_cons (pe_un un_neg (pv 3)) (pa_cons (pv 4) pa_nil))) (pa_cons (pe_tup (pa_cons (pe_op op_add (pv 3) pe_int) (pa_cons (pv 4) pa_nil))) pa_nil))))))))) (pg_tup rfl (pgs_cons (pg_name (i := 5) sc_law.nd rfl (Or.inl rfl)) (pgs_cons (pg_name (i := 6) sc_law.nd rfl (Or.inl rfl)) pgs_nil))) (pss_cons (ps_set (i := 7) sc_law.nd rfl (Or.inl rfl) (pe_cl c_common hr (pa_cons (pv 5) (pa_cons (pv 6) pa_nil))))
 (pss_cons (ps_set (i := 8) sc_law.nd rfl (Or.inl rfl) (pe_cl c_comb hr (pa_cons (pv 5) (pa_cons (pv 6) pa_nil))))
 (pss_cons (ps_if (pw_or (pt_val (pe_callB call_isi (by rfl) T.isinstance boot_isinstance (pa_cons (pv 7) (pa_cons (pe_bltn (v := .ty "bool") (by rfl) T.bool boot_bool rfl) pa_nil)))) (pw_or (pt_not (pt_val (pe_callB call_isi (by rfl) T.isinstance boot_isinstance (pa_cons (pv 7) (pa_cons (pe_bltn (v := .ty "int") (by rfl) T.int boot_int rfl) pa_nil))))) (pw_or1 (pt_cmpR op_lt (pv 7) pe_int (nomark _))))).pt (pss_one (ps_ret pe_bl)) pss_nil)
 (pss_cons (ps_if (pt_not (pt_val (pe_callB call_isi (by rfl) T.isinstance boot_isinstance (pa_cons (pv 8) (pa_cons (pe_bltn (v := .ty "tuple") (by rfl) T.tuple boot_tuple rfl) pa_nil))))) (pss_one (ps_ret pe_bl)) pss_nil)
 (pss_cons (ps_asg (pv 8) (pg_tup rfl (pgs_cons (pg_name (i := 9) sc_law.nd rfl (Or.inl rfl)) (pgs_cons (pg_name (i := 10) sc_law.nd rfl (Or.inl rfl)) (pgs_cons (pg_name (i := 11) sc_law.nd rfl (Or.inl rfl)) pgs_nil)))))
 (pss_cons (ps_if (pw_or (pt_cmpR op_ne (pv 9) (pv 7) (nomark _)) (pw_or1 (pt_cmpR op_ne (pe_op op_add (pe_op op_mulW (pv 10) (pv 5)) (pe_op op_mulW (pv 11) (pv 6))) (pv 7) (nomark _)))).pt (pss_one (ps_ret pe_bl)) pss_nil)
 (Evl.pss_cut (ps_if (pw_and (pt_cmpR op_eq (pv 7) pe_int (nomark _)) (pw_and1 (pw_or (pt_cmpR op_ne (pv 5) pe_int (nomark _)) (pw_or1 (pt_cmpR op_ne (pv 6) pe_int (nomark _)))).pt)).pt (pss_one (ps_ret pe_bl)) pss_nil)
 (pss_one (ps_if (pw_and (pt_cmpR op_gt (pv 7) pe_int (nomark _)) (pw_and1 (pw_or (pt_cmpR op_ne (pe_op op_mod (pe_callTy call_int1 (by rfl) T.int boot_int (pa_cons (pv 5) pa_nil)) (pv 7)) pe_int (nomark _)) (pw_or1 (pt_cmpR op_ne (pe_op op_mod (pe_callTy call_int1 (by rfl) T.int boot_int (pa_cons (pv 6) pa_nil)) (pv 7)) pe_int (nomark _)))).pt)).pt (pss_one (ps_ret pe_bl)) pss_nil))))))))))
 (pss_cons (ps_if (pt_cmpR op_ne (pe_cl c_common hr (pa_cons (pv 3) (pa_cons (pv 4) pa_nil))) (pe_cl c_common hr (pa_cons (pv 4) (pa_cons (pv 3) pa_nil))) (nomark _)) (pss_one (ps_ret pe_bl)) pss_nil)
 (pss_cons (ps_if (pt_cmpR op_ne (pe_cl c_common hr (pa_cons (pv 3) (pa_cons pe_int pa_nil))) (pe_callB call_abs (by rfl) T.abs boot_abs (pa_cons (pv 3) pa_nil)) (nomark _)) (pss_one (ps_ret pe_bl)) pss_nil)
 (pss_one (ps_ret (pe_cmpR op_eq (pe_op op_mod (pe_callTy call_int1 (by rfl) T.int boot_int (pa_cons (pe_cl c_common hr (pa_cons (pv 3) (pa_cons (pv 4) pa_nil))) pa_nil)) (pv 1)) pe_int (nomark _)))))))))))), ?_⟩
    refine ⟨_, rfl, l, ns, 2, rfl, hS, fun c => ⟨c, rfl, fun p H1 np s1 P1 => ?_⟩⟩
    refine ⟨fun σ H' => Same H H' ∧ ∃ fac : Int, 1 ≤ fac ∧ fac ≤ 100000000000000000000 ∧ σ = [some (.ref l), some (.int fac), some (.ref p), none, none, none, none, none, none, none, none, none], ?_, ?_⟩
    · refine ⟨_, rfl, p, 2, rfl, P1, by decide, by decide, fun v H2 v0 v1 e2 P2 => ?_⟩
      have s2 : Same H H2 := fun b o e => by
        rw [e2 b (ne_of_none e np)]
        exact s1 b o e
      refine ⟨rfl, _, rfl, ite2 (fun _ => ?_) (fun _ => ?_)⟩
      · refine ⟨_, rfl, _, _, rfl, rfl, ⟨by decide, by decide, by decide⟩, p, _, rfl, P2, (by rw [big20]; decide), (by rw [big20]; decide), fun v H3 v0 v1 e3 P3 => ⟨_, _, rfl, rfl, ?_⟩⟩
        rw [big20] at v1
        refine ⟨fun b o e => ?_, 1 + v, by omega, by omega, rfl⟩
        rw [e3 b (ne_of_none e np)]
        exact s2 b o e
      · exact ⟨s2, 1, by decide, by decide, rfl⟩
    · rintro σ H2 ⟨s2, fac, f1, f2, rfl⟩
      refine ⟨_, rfl, _, rfl, l, ns, 0, rfl, s2.seq hS, fun x H3 bx s3 => ?_⟩
      have bf : fac.natAbs < 2 ^ 67 := by
        have : (2 : Nat) ^ 67 = 147573952589676412928 := by decide
        omega
      have bx2 : x.natAbs < 2 ^ 200 := Nat.lt_trans bx (by decide)
      refine ⟨_, _, rfl, rfl, wide_mul bf bx2 (by decide) (by decide) (by decide), ?_⟩
      refine ⟨fun σ H' => ∃ a b : Int, σ = [some (.ref l), some (.int fac), some (.ref p), some (.int a), some (.int b), none, none, none, none, none, none, none] ∧ (a.natAbs < BigL ∧ (-a).natAbs < BigL ∧ (a + 1).natAbs < BigL) ∧ (b.natAbs < BigL ∧ (-b).natAbs < BigL ∧ (b + 1).natAbs < BigL) ∧ fac ∣ a ∧ fac ∣ b, ?_, ?_⟩
      · refine ⟨_, rfl, _, rfl, l, ns, 1, rfl, (s2.trans s3).seq hS, fun y H4 by' s4 => ?_⟩
        have by2 : y.natAbs < 2 ^ 200 := Nat.lt_trans by' (by decide)
        refine ⟨_, _, rfl, rfl, wide_mul bf by2 (by decide) (by decide) (by decide), ?_⟩
        exact ⟨fac * x, fac * y, rfl, bigL_of (prod_lt f1 f2 bx), bigL_of (prod_lt f1 f2 by'), ⟨x, rfl⟩, ⟨y, rfl⟩⟩
      rintro σ H4 ⟨a, b, rfl, ba, bb, da, db⟩
      refine ⟨fun σ H' => ∃ x5 x6 x7 x8 x9 x10 x11, σ = [some (.ref l), some (.int fac), some (.ref p), some (.int a), some (.int b), x5, x6, x7, x8, x9, x10, x11], ?_, ?_⟩
      · have b0 : (0 : Int).natAbs < BigL := by decide
        refine ⟨_, rfl, _, rfl, (by show 2 ≤ sizeLine; decide), fun p1 h1 => ?_⟩
        refine ⟨_, rfl, _, rfl, (by show 2 ≤ sizeLine; decide), fun p2 h2 => ?_⟩
        refine ⟨_, rfl, _, rfl, (by show 2 ≤ sizeLine; decide), fun p3 h3 => ?_⟩
        refine ⟨_, rfl, (by show 2 ≤ sizeLine; decide), fun p4 h4 => ?_⟩
        refine ⟨_, rfl, (by show 2 ≤ sizeLine; decide), fun p5 h5 => ?_⟩
        refine ⟨_, rfl, _, rfl, _, rfl, (by show 2 ≤ sizeLine; decide), fun p6 h6 => ?_⟩
        refine ⟨_, rfl, _, _, rfl, rfl, _, rfl, (by show 2 ≤ sizeLine; decide), fun p7 h7 => ?_⟩
        refine ⟨(by show 7 ≤ sizeLine; decide), fun p8 h8 => ?_⟩
        have g1 := same_upd (o := .tup [.int a, .int b]) h1
        have g2 := same_upd (o := .tup [.int b, .int a]) h2
        have g3 := same_upd (o := .tup [.int a, .int a]) h3
        have g4 := same_upd (o := .tup [.int a, .int 0]) h4
        have g5 := same_upd (o := .tup [.int 0, .int b]) h5
        have g6 := same_upd (o := .tup [.int (-a), .int b]) h6
        have g7 := same_upd (o := .tup [.int (a + 1), .int b]) h7
        have g8 := same_upd (o := .lst [.ref p1, .ref p2, .ref p3, .ref p4, .ref p5, .ref p6, .ref p7]) h8
        have q1 := pair_new (a := a) (b := b) h1 ba.1 bb.1
        have q2 := pair_new (a := b) (b := a) h2 bb.1 ba.1
        have q3 := pair_new (a := a) (b := a) h3 ba.1 ba.1
        have q4 := pair_new (a := a) (b := 0) h4 ba.1 b0
        have q5 := pair_new (a := 0) (b := b) h5 b0 bb.1
        have q6 := pair_new (a := -a) (b := b) h6 ba.2.1 bb.1
        have q7 := pair_new (a := a + 1) (b := b) h7 ba.2.2 bb.1
        have all := (allC (((((((q1.same g2).same g3).same g4).same g5).same g6).same g7).same g8) (allC ((((((q2.same g3).same g4).same g5).same g6).same g7).same g8) (allC (((((q3.same g4).same g5).same g6).same g7).same g8) (allC ((((q4.same g5).same g6).same g7).same g8) (allC (((q5.same g6).same g7).same g8) (allC ((q6.same g7).same g8) (allC (q7.same g8) allN)))))))
        refine ⟨p8, rfl, ⟨_, SqL.of upd_same⟩, for_list (K := K) (a := p8) (xs := [.ref p1, .ref p2, .ref p3, .ref p4, .ref p5, .ref p6, .ref p7]) (fun _ σ H' => Same _ H' ∧ ∃ x5 x6 x7 x8 x9 x10 x11, σ = [some (.ref l), some (.int fac), some (.ref p), some (.int a), some (.int b), x5, x6, x7, x8, x9, x10, x11])
          ⟨Same.refl _, _, _, _, _, _, _, _, rfl⟩ (fun i σ H' _ h => h.1.seq (SqL.of upd_same)) ?_ ?_⟩
        · rintro i z σ H' hi ⟨s9, x5, x6, x7, x8, x9, x10, x11, rfl⟩
          obtain ⟨t, f, s, rfl, ht, bf', bs'⟩ := all z (List.mem_of_getElem? hi)
          have ht' := s9 _ _ ht
          refine ⟨t, _, rfl, .inl (.inl ht'), rfl, _, _, rfl, _, _, rfl, rfl, ?_⟩
          -- told, row
          refine ⟨_, rfl, _, rfl, f, s, rfl, ?_⟩
          refine ⟨_, rfl, _, rfl, f, s, rfl, bf', bs', fun u v tr H5 e bu bv s5 hr5 => ?_⟩
          have hg0 : (0 : Int) ≤ ((f.gcd s : Nat) : Int) := Int.natCast_nonneg _
          have gf : ((f.gcd s : Nat) : Int) ∣ f := Int.gcd_dvd_left f s
          have gs : ((f.gcd s : Nat) : Int) ∣ s := Int.gcd_dvd_right f s
          generalize ((f.gcd s : Nat) : Int) = g at *
          -- isinstance(told, bool) or not isinstance(told, int) or told < 0
          refine ⟨_, rfl, _, _, _, _, false, rfl, .ty _, .base (.int _), kit_ty (by decide +kernel), _, rfl, iteF ?_⟩
          refine ⟨_, rfl, _, _, _, _, true, rfl, .ty _, .base (.int _), kit_ty (by decide +kernel), _, rfl, iteF ?_⟩
          refine ⟨_, rfl, _, _, rfl, rfl, _, rfl, if_neg_of (decide_eq_false (by omega)) ?_⟩
          -- not isinstance(row, tuple)
          refine ⟨_, rfl, _, _, _, _, true, rfl, .ty _, .base (.tup hr5), kit_ty (by decide +kernel), _, rfl, iteF ?_⟩
          refine ⟨_, rfl, tr, _, rfl, .inl (.inl hr5), rfl, _, _, rfl, _, _, rfl, _, _, rfl, rfl, ?_⟩
          -- d != told or ..
          refine ⟨_, rfl, _, rfl, rfl, _, rfl, iteNS rfl ?_⟩
          refine ⟨_, rfl, _, rfl, _, _, rfl, rfl, wide_mul bu (show f.natAbs < 2 ^ 300 from bf') (by decide) (by decide) (by decide), _, rfl, _, rfl, _, _, rfl, rfl, wide_mul bv (show s.natAbs < 2 ^ 300 from bs') (by decide) (by decide) (by decide), _, _, rfl, rfl, _, rfl, rfl, _, rfl, iteNS (congrArg V.int e) ?_⟩
          have z0 : g = 0 → f = 0 ∧ s = 0 := fun h0 => by
            rw [h0] at gf gs
            exact ⟨Int.zero_dvd.mp gf, Int.zero_dvd.mp gs⟩
          refine ⟨fun σ H' => H' = H5 ∧ σ = [some (.ref l), some (.int fac), some (.ref p), some (.int a), some (.int b), some (.int f), some (.int s), some (.int g), some (.ref tr), some (.int g), some (.int u), some (.int v)], ?_, ?_⟩
          · refine ⟨_, rfl, rfl, _, rfl, ?_⟩
            by_cases hz : g = 0
            · refine if_pos_of (by rw [hz]; simp) ?_
              refine ⟨_, rfl, rfl, _, rfl, iteNS (by rw [(z0 hz).1]) ?_⟩
              refine ⟨_, rfl, rfl, _, rfl, iteNS (by rw [(z0 hz).2]) ?_⟩
              exact ⟨rfl, rfl⟩
            · refine if_neg_of (by simp [hz]) ?_
              refine if_neg_of rfl ?_
              exact ⟨rfl, rfl⟩
          · rintro σ _ ⟨rfl, rfl⟩
            refine ⟨_, rfl, _, _, rfl, rfl, _, rfl, ?_⟩
            by_cases hp : 0 < g
            · refine if_pos_of (decide_eq_true hp) ?_
              refine ⟨_, rfl, .inl ⟨_, rfl, _, rfl, _, _, rfl, rfl, hp, rfl, _, rfl, iteNS (congrArg V.int (Int.emod_eq_zero_of_dvd gf)) ?_⟩⟩
              refine ⟨_, rfl, .inl ⟨_, rfl, _, rfl, _, _, rfl, rfl, hp, rfl, _, rfl, iteNS (congrArg V.int (Int.emod_eq_zero_of_dvd gs)) ?_⟩⟩
              exact ⟨s9.trans s5, _, _, _, _, _, _, _, rfl⟩
            · refine if_neg_of (decide_eq_false hp) ?_
              refine if_neg_of rfl ?_
              exact ⟨s9.trans s5, _, _, _, _, _, _, _, rfl⟩
        · rintro σ H' ⟨s9, h⟩
          exact h
      · rintro σ H' ⟨x5, x6, x7, x8, x9, x10, x11, rfl⟩
        refine ⟨_, rfl, _, rfl, a, b, rfl, _, rfl, _, rfl, b, a, rfl, rfl, _, rfl, iteNS (by rw [Int.gcd_comm]) ?_⟩
        refine ⟨_, rfl, a, 0, rfl, _, rfl, a, rfl, rfl, _, rfl, iteNS (by rw [Int.gcd_zero_right]; congr 1; split <;> omega) ?_⟩
        refine ⟨_, rfl, _, rfl, a, b, rfl, .inl ⟨_, rfl, _, rfl, _, _, rfl, rfl, (by show 0 < fac; omega), rfl, ?_⟩⟩
        have dd : fac ∣ ((a.gcd b : Nat) : Int) := Int.dvd_coe_gcd da db
        show Q (.bl (decide (V.int (((a.gcd b : Nat) : Int) % fac) = V.int 0))) H'
        rw [Int.emod_eq_zero_of_dvd dd]
        exact q _
end
theorem all_mk {P : Program} {w : World} {K : PySem.W.Frag} {h : Heap} {mg : Str → Option Value} {fa : Addr} (X : K.In h) (G : h.Ns mainGlobals mg) (hfa : mg "law" = some (.ref fa))
    {f_pool : Addr} {od_pool an_pool : Option Addr} {sl_pool : Array (Option Value)} {oc_pool kV_pool dc_pool pm_pool cd_pool ct_pool : Value}
    {f_take : Addr} {od_take an_take : Option Addr} {sl_take : Array (Option Value)} {oc_take kV_take dc_take pm_take cd_take ct_take : Value}
    {f_cell : Addr} {od_cell an_cell : Option Addr} {sl_cell : Array (Option Value)} {oc_cell kV_cell dc_cell pm_cell cd_cell ct_cell : Value}
    {f_number : Addr} {od_number an_number : Option Addr} {sl_number : Array (Option Value)} {oc_number kV_number dc_number pm_number cd_number ct_number : Value}
    {f_common : Addr} {od_common an_common : Option Addr} {sl_common : Array (Option Value)} {oc_common kV_common dc_common pm_common cd_common ct_common : Value}
    {f_comb : Addr} {od_comb an_comb : Option Addr} {sl_comb : Array (Option Value)} {oc_comb kV_comb dc_comb pm_comb cd_comb ct_comb : Value}
    {f_law : Addr} {od_law an_law : Option Addr} {sl_law : Array (Option Value)} {oc_law kV_law dc_law pm_law cd_law ct_law : Value}
    (a_pool : PySem.W.nsIn K mainGlobals "_law_pool" = some (some (.ref f_pool))) (l_pool : K.lookup f_pool = some ⟨oc_pool, od_pool, .func (PySem.W.fnOf "_law_pool" "_law_pool" (defArgs s_pool) (defBody s_pool) (defScope s_pool) .none kV_pool dc_pool pm_pool an_pool cd_pool ct_pool), sl_pool⟩) (c_pool : PySem.W.codeIn K cd_pool "_law_pool" = true) (k_pool : PySem.W.keepIn K (.ref f_pool) = true)
    (a_take : PySem.W.nsIn K mainGlobals "_law_take" = some (some (.ref f_take))) (l_take : K.lookup f_take = some ⟨oc_take, od_take, .func (PySem.W.fnOf "_law_take" "_law_take" (defArgs s_take) (defBody s_take) (defScope s_take) .none kV_take dc_take pm_take an_take cd_take ct_take), sl_take⟩) (c_take : PySem.W.codeIn K cd_take "_law_take" = true) (k_take : PySem.W.keepIn K (.ref f_take) = true)
    (a_cell : PySem.W.nsIn K mainGlobals "_law_cell" = some (some (.ref f_cell))) (l_cell : K.lookup f_cell = some ⟨oc_cell, od_cell, .func (PySem.W.fnOf "_law_cell" "_law_cell" (defArgs s_cell) (defBody s_cell) (defScope s_cell) .none kV_cell dc_cell pm_cell an_cell cd_cell ct_cell), sl_cell⟩) (c_cell : PySem.W.codeIn K cd_cell "_law_cell" = true) (k_cell : PySem.W.keepIn K (.ref f_cell) = true)
    (a_number : PySem.W.nsIn K mainGlobals "_law_number" = some (some (.ref f_number))) (l_number : K.lookup f_number = some ⟨oc_number, od_number, .func (PySem.W.fnOf "_law_number" "_law_number" (defArgs s_number) (defBody s_number) (defScope s_number) .none kV_number dc_number pm_number an_number cd_number ct_number), sl_number⟩) (c_number : PySem.W.codeIn K cd_number "_law_number" = true) (k_number : PySem.W.keepIn K (.ref f_number) = true)
    (a_common : PySem.W.nsIn K mainGlobals "common" = some (some (.ref f_common))) (l_common : K.lookup f_common = some ⟨oc_common, od_common, .func (PySem.W.fnOf "common" "common" (defArgs s_common) (defBody s_common) (defScope s_common) .none kV_common dc_common pm_common an_common cd_common ct_common), sl_common⟩) (c_common : PySem.W.codeIn K cd_common "common" = true) (k_common : PySem.W.keepIn K (.ref f_common) = true)
    (a_comb : PySem.W.nsIn K mainGlobals "combination" = some (some (.ref f_comb))) (l_comb : K.lookup f_comb = some ⟨oc_comb, od_comb, .func (PySem.W.fnOf "combination" "combination" (defArgs s_comb) (defBody s_comb) (defScope s_comb) .none kV_comb dc_comb pm_comb an_comb cd_comb ct_comb), sl_comb⟩) (c_comb : PySem.W.codeIn K cd_comb "combination" = true) (k_comb : PySem.W.keepIn K (.ref f_comb) = true)
    (a_law : PySem.W.nsIn K mainGlobals "law" = some (some (.ref f_law))) (l_law : K.lookup f_law = some ⟨oc_law, od_law, .func (PySem.W.fnOf "law" "law" (defArgs s_law) (defBody s_law) (defScope s_law) .none kV_law dc_law pm_law an_law cd_law ct_law), sl_law⟩) (c_law : PySem.W.codeIn K cd_law "law" = true) (k_law : PySem.W.keepIn K (.ref f_law) = true)
    (z_int : PySem.W.nsIn K mainGlobals "int" = some none)
    (z_len : PySem.W.nsIn K mainGlobals "len" = some none)
    (z_abs : PySem.W.nsIn K mainGlobals "abs" = some none)
    (z_isinstance : PySem.W.nsIn K mainGlobals "isinstance" = some none)
    (z_bool : PySem.W.nsIn K mainGlobals "bool" = some none)
    (z_tuple : PySem.W.nsIn K mainGlobals "tuple" = some none)
    (z_list : PySem.W.nsIn K mainGlobals "list" = some none)
    (z_str : PySem.W.nsIn K mainGlobals "str" = some none)
    (g_gcd : PySem.W.nsIn K mainGlobals "gcd" = some (some (.builtin "math.gcd"))) :
    ∃ fd : FuncData, (∀ (s : Shared) (v : Value), BindsTo s fd ⟨[v], []⟩ [("_law_script", v)]) ∧ ∀ base : Heap, K.In base → base.Ns mainGlobals mg → FnOk P w K mg base CX0 3 fa fd ["_law_script"] (spLaw K) := by
  have e := hfa.symm.trans (PySem.W.mg_of X G a_law)
  cases e
  have T : Txt mg := ⟨PySem.W.mg_none_of X G z_int, PySem.W.mg_none_of X G z_len, PySem.W.mg_none_of X G z_abs, PySem.W.mg_none_of X G z_isinstance, PySem.W.mg_none_of X G z_bool, PySem.W.mg_none_of X G z_tuple, PySem.W.mg_none_of X G z_list, PySem.W.mg_none_of X G z_str⟩
  have F_pool := fun_mk (st := s_pool) l_pool c_pool k_pool
  have b_pool := F_pool.binds (ps := ["_law_cell_here"]) fun _ _ _ _ _ _ us hl => match us, hl with | [_], _ => rfl
  have F_take := fun_mk (st := s_take) l_take c_take k_take
  have b_take := F_take.binds (ps := ["_law_pool_here", "_law_limit"]) fun _ _ _ _ _ _ us hl => match us, hl with | [_, _], _ => rfl
  have F_cell := fun_mk (st := s_cell) l_cell c_cell k_cell
  have b_cell := F_cell.binds (ps := ["_law_script", "_law_k"]) fun _ _ _ _ _ _ us hl => match us, hl with | [_, _], _ => rfl
  have F_number := fun_mk (st := s_number) l_number c_number k_number
  have b_number := F_number.binds (ps := ["_law_script", "_law_k"]) fun _ _ _ _ _ _ us hl => match us, hl with | [_, _], _ => rfl
  have F_common := fun_mk (st := s_common) l_common c_common k_common
  have b_common := F_common.binds (ps := ["a", "b"]) fun _ _ _ _ _ _ us hl => match us, hl with | [_, _], _ => rfl
  have F_comb := fun_mk (st := s_comb) l_comb c_comb k_comb
  have b_comb := F_comb.binds (ps := ["a", "b"]) fun _ _ _ _ _ _ us hl => match us, hl with | [_, _], _ => rfl
  have F_law := fun_mk (st := s_law) l_law c_law k_law
  have m_gcd := PySem.W.mg_of X G g_gcd
  refine ⟨PySem.W.fnOf "law" "law" (defArgs s_law) (defBody s_law) (defScope s_law) .none kV_law dc_law pm_law an_law cd_law ct_law, fun s v => .of_eq rfl, fun base _ _ => ?_⟩
  have d_pool : Cl P w K mg base CX0 1 "_law_pool" spPool := ⟨_, _, _, ok_pool F_pool, PySem.W.mg_of X G a_pool, k_pool, b_pool⟩
  have d_take : Cl P w K mg base CX0 1 "_law_take" spTake := ⟨_, _, _, ok_take T F_take, PySem.W.mg_of X G a_take, k_take, b_take⟩
  have d_cell : Cl P w K mg base CX0 1 "_law_cell" (spCellL K) := ⟨_, _, _, ok_cell T F_cell, PySem.W.mg_of X G a_cell, k_cell, b_cell⟩
  have d_number : Cl P w K mg base CX0 2 "_law_number" (spNumber K) := ⟨_, _, _, ok_number T F_number d_pool d_take d_cell, PySem.W.mg_of X G a_number, k_number, b_number⟩
  have d_common : Cl P w K mg base CX0 1 "common" spCommon := ⟨_, _, _, ok_common m_gcd F_common, PySem.W.mg_of X G a_common, k_common, b_common⟩
  have d_comb : Cl P w K mg base CX0 1 "combination" spComb := ⟨_, _, _, ok_comb F_comb, PySem.W.mg_of X G a_comb, k_comb, b_comb⟩
  exact ok_law T F_law d_pool d_take d_cell d_number d_common d_comb
theorem walk {l : PySem.W.OpenLaw} {q : Program} {loose : List Str} {XP : (Str → Option Value) → Heap → Prop} {YP : World → Heap → Prop} {d : DefRec} {K : Params → PySem.W.Frag} (hn : l.most = some 63) (hdf : d.params.defaults = [])
    (hY : ∀ (w : World) (h : Heap), YP w h → (K w.params).In h)
    (F : ∀ (w : World) (mg : Str → Option Value) (fa : Addr) (h : Heap), (K w.params).In h → h.Ns mainGlobals mg → mg d.name = some (.ref fa) →
      ∃ fd : FuncData, (∀ (s : Shared) (u : Value), BindsTo s fd ⟨[u], []⟩ [("_law_script", u)]) ∧ ∀ base : Heap, (K w.params).In base → base.Ns mainGlobals mg → FnOk l.prog w (K w.params) mg base CX0 3 fa fd ["_law_script"] (spLaw (K w.params))) :
    PySem.W.WalkO q loose XP YP l.row.toRowW d [] (fun f vs => PySem.call f vs) :=
  L2.walk_of (n := 63) (k := 3) (x := "_law_script") (CX := fun _ => CX0) (sp := fun w => spLaw (K w.params)) hn (by decide) hdf ⟨rfl, by decide, by decide⟩ hY F (fun _ _ a ns hl _ hS => ⟨a, ns, rfl, hS, hl, fun _ => rfl⟩) fun _ _ _ _ _ z => z
end My
open PySem PySem.W PyProof.Rows
set_option maxRecDepth 100000 in
set_option maxHeartbeats 0 in
theorem PySem.Challenge.cw_everyfield_k11_common_divisors_holds : PySem.Challenge.rw_everyfield_k11_common_divisors.Holds := by
  w_on; o_law; k_head; (case hw => w_witness2)
  k_fill
  refine My.walk (l := PySem.Challenge.rw_everyfield_k11_common_divisors) rfl rfl (fun w h Y => PySem.W.kIn_of Y) ?F
  case F =>
    intro w mg fa h KX G hmg
    refine' My.all_mk KX G hmg ?a_pool ?l_pool ?c_pool ?k_pool ?a_take ?l_take ?c_take ?k_take ?a_cell ?l_cell ?c_cell ?k_cell ?a_number ?l_number ?c_number ?k_number ?a_common ?l_common ?c_common ?k_common ?a_comb ?l_comb ?c_comb ?k_comb ?a_law ?l_law ?c_law ?k_law ?z_int ?z_len ?z_abs ?z_isinstance ?z_bool ?z_tuple ?z_list ?z_str ?g_gcd
    (case a_pool => k_is)
    (case l_pool => k_is)
    (case c_pool => k_is)
    (case k_pool => k_is)
    (case a_take => k_is)
    (case l_take => k_is)
    (case c_take => k_is)
    (case k_take => k_is)
    (case a_cell => k_is)
    (case l_cell => k_is)
    (case c_cell => k_is)
    (case k_cell => k_is)
    (case a_number => k_is)
    (case l_number => k_is)
    (case c_number => k_is)
    (case k_number => k_is)
    (case a_common => k_is)
    (case l_common => k_is)
    (case c_common => k_is)
    (case k_common => k_is)
    (case a_comb => k_is)
    (case l_comb => k_is)
    (case c_comb => k_is)
    (case k_comb => k_is)
    (case a_law => k_is)
    (case l_law => k_is)
    (case c_law => k_is)
    (case k_law => k_is)
    (case z_int => k_is)
    (case z_len => k_is)
    (case z_abs => k_is)
    (case z_isinstance => k_is)
    (case z_bool => k_is)
    (case z_tuple => k_is)
    (case z_list => k_is)
    (case z_str => k_is)
    (case g_gcd => k_is)
