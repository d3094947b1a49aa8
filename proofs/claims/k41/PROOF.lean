import PyProof.Rows.All
import Wide.All
import OpenK.AllK
import Wide.FinOn
import PyProof.NoPylong
import Flt.Len
import HandS.ForMost
import HandS.ForExc
import HandS.Wide
import HandS.Gcd
import HandS.IsInst
import HandS.Evl
import HandS.Flow
import HandS.Iter
import HandS.ExcInit
import HandS.ExcField
import HandS.ExcCtx
import HandS.HotCalls
import HandS.ExcInitHot
import HandS.TupLe
import HandS.TupAny
import HandS.Conv
import HandS.Strs
import HandS.SetFor
import HandS.Zip
import HandS.Star
import HandS.ClsMeth
import HandS.Codes
import HandS.SlotsOwn
import HandS.Walk
import HandS.StrMore
import HandS.FStr
import HandS.FStrTup
import HandS.Style
import HandS.TryMany
import HandS.ExcIs
import HandS.Rev
import HandS.ListEq
import HandS.Small
import KE.GoesMore
import KE.GoesEnum
import PyProof.Draws
import Flt.RightSqrt
import HandS.NoneIn
import PySem.Challenge.RW_everyfield_k41_matrices_by_items
set_option Elab.async false
set_option linter.all false
set_option maxRecDepth 100000
set_option maxHeartbeats 4000000
set_option exponentiation.threshold 20000
namespace My
open PySem PySem.Spec PyProof.Rows L2
def top (i : Nat) : Stmt := PySem.Challenge.pw_everyfield_k41_matrices_by_items.main.body.getD i (.Pass ⟨0, 0, 0, 0⟩)
-- part trim
/-! rows without zeros at the end -/
def tsz (l : List Int) : Nat → Nat
  | 0 => 0
  | k + 1 => if l.getD k 0 = 0 then tsz l k else k + 1
def trim (l : List Int) : List Int := l.take (tsz l l.length)
/-- the last one is not 0 -/
def Trim (l : List Int) : Prop := ∀ k, l.length = k + 1 → l.getD k 0 ≠ 0
theorem tsz_le (l : List Int) : ∀ k, tsz l k ≤ k
  | 0 => Nat.le_refl _
  | k + 1 => by
    unfold tsz
    split
    · exact Nat.le_succ_of_le (tsz_le l k)
    · exact Nat.le_refl _
theorem tsz_zero (l : List Int) : ∀ k i, tsz l k ≤ i → i < k → l.getD i 0 = 0
  | 0, i, _, h => absurd h (Nat.not_lt_zero i)
  | k + 1, i, h1, h2 => by
    unfold tsz at h1
    split at h1
    · rename_i c
      by_cases e : i = k
      · rw [e]
        exact c
      · exact tsz_zero l k i h1 (by omega)
    · omega
theorem tsz_last (l : List Int) : ∀ k n, tsz l k = n + 1 → l.getD n 0 ≠ 0
  | 0, n, h => by cases h
  | k + 1, n, h => by
    unfold tsz at h
    split at h
    · exact tsz_last l k n h
    · rename_i c
      cases h
      exact c
theorem getD_of {l : List Int} {i : Nat} {z : Int} (h : l[i]? = some z) : l.getD i 0 = z := by
  rw [List.getD_eq_getElem?_getD, h] <;> rfl
theorem getD_ge {l : List Int} {i : Nat} (h : l.length ≤ i) : l.getD i 0 = 0 := by
  rw [List.getD_eq_getElem?_getD, List.getElem?_eq_none h] <;> rfl
theorem getD_at {l : List Int} {i : Nat} (h : i < l.length) : l[i]? = some (l.getD i 0) := by
  rw [List.getD_eq_getElem?_getD, List.getElem?_eq_getElem h] <;> rfl
theorem getD_take (l : List Int) (n i : Nat) : (l.take n).getD i 0 = if i < n then l.getD i 0 else 0 := by
  rw [List.getD_eq_getElem?_getD, List.getElem?_take]
  split
  · rw [List.getD_eq_getElem?_getD]
  · rfl
theorem getD_map {f : Int → Int} (h0 : f 0 = 0) (l : List Int) (i : Nat) : (l.map f).getD i 0 = f (l.getD i 0) := by
  rw [List.getD_eq_getElem?_getD, List.getD_eq_getElem?_getD, List.getElem?_map]
  cases l[i]? with
  | none => exact h0.symm
  | some z => rfl
theorem getD_app0 (l : List Int) (k i : Nat) : (l ++ List.replicate k 0).getD i 0 = l.getD i 0 := by
  rw [List.getD_eq_getElem?_getD, List.getD_eq_getElem?_getD]
  by_cases c : i < l.length
  · rw [List.getElem?_append_left c]
  · rw [List.getElem?_append_right (by omega), List.getElem?_eq_none (show l.length ≤ i by omega), List.getElem?_replicate]
    split <;> rfl
theorem trim_len (l : List Int) : (trim l).length = tsz l l.length := by
  unfold trim
  rw [List.length_take]
  have := tsz_le l l.length
  omega
theorem trim_few (l : List Int) : (trim l).length ≤ l.length := by
  rw [trim_len]
  exact tsz_le l l.length
theorem trim_mem {l : List Int} {z : Int} (h : z ∈ trim l) : z ∈ l := List.mem_of_mem_take h
theorem trim_get (l : List Int) (i : Nat) : (trim l).getD i 0 = l.getD i 0 := by
  unfold trim
  rw [getD_take]
  split
  · rfl
  · rename_i c
    by_cases d : i < l.length
    · exact (tsz_zero l l.length i (by omega) d).symm
    · exact (getD_ge (by omega)).symm
theorem trim_trim (l : List Int) : Trim (trim l) := fun k h => by
  rw [trim_len] at h
  rw [trim_get]
  exact tsz_last l l.length k h
theorem Trim.ext {a b : List Int} (ha : Trim a) (hb : Trim b) (h : ∀ i, a.getD i 0 = b.getD i 0) : a = b := by
  have hl : a.length = b.length := by
    rcases Nat.lt_trichotomy a.length b.length with c | c | c
    · obtain ⟨k, hk⟩ : ∃ k, b.length = k + 1 := ⟨b.length - 1, by omega⟩
      have := hb k hk
      rw [← h k, getD_ge (by omega)] at this
      exact absurd rfl this
    · exact c
    · obtain ⟨k, hk⟩ : ∃ k, a.length = k + 1 := ⟨a.length - 1, by omega⟩
      have := ha k hk
      rw [h k, getD_ge (by omega)] at this
      exact absurd rfl this
  refine List.ext_getElem? fun i => ?_
  by_cases c : i < a.length
  · rw [getD_at c, getD_at (by omega), h i]
  · rw [List.getElem?_eq_none (by omega), List.getElem?_eq_none (by omega)]
theorem trim_ext {a b : List Int} (h : ∀ i, a.getD i 0 = b.getD i 0) : trim a = trim b :=
  (trim_trim a).ext (trim_trim b) fun i => by rw [trim_get, trim_get, h i]
theorem trim_of {l : List Int} (h : Trim l) : trim l = l := (trim_trim l).ext h fun i => trim_get l i
theorem trim_nil : trim [] = [] := rfl
theorem Trim.nil : Trim [] := fun k h => by cases h
theorem Trim.map {l : List Int} {f : Int → Int} (h : Trim l) (h0 : f 0 = 0) (hf : ∀ z, f z = 0 → z = 0) : Trim (l.map f) := fun k hk => by
  rw [List.length_map] at hk
  rw [getD_map h0]
  exact fun e => h k hk (hf _ e)
/-- sums and differences by places -/
theorem getD_zip {f : Int → Int → Int} (a b : List Int) (hl : a.length = b.length) (h0 : f 0 0 = 0) (i : Nat) : (List.zipWith f a b).getD i 0 = f (a.getD i 0) (b.getD i 0) := by
  rw [List.getD_eq_getElem?_getD, List.getElem?_zipWith]
  by_cases c : i < a.length
  · rw [getD_at c, getD_at (show i < b.length by omega)] <;> rfl
  · rw [List.getElem?_eq_none (by omega), List.getElem?_eq_none (show b.length ≤ i by omega), getD_ge (by omega), getD_ge (show b.length ≤ i by omega), h0] <;> rfl
def rngN (n : Nat) (f : Nat → Int) : List Int := (List.range n).map f
theorem rngN_len (n : Nat) (f : Nat → Int) : (rngN n f).length = n := by
  unfold rngN
  rw [List.length_map, List.length_range]
theorem rngN_at {n : Nat} {f : Nat → Int} {i : Nat} (h : i < n) : (rngN n f)[i]? = some (f i) := by
  unfold rngN
  rw [List.getElem?_map, List.getElem?_range h] <;> rfl
theorem rngN_get (n : Nat) (f : Nat → Int) (i : Nat) : (rngN n f).getD i 0 = if i < n then f i else 0 := by
  split
  · rename_i c
    exact getD_of (rngN_at c)
  · rename_i c
    exact getD_ge (by rw [rngN_len]; omega)
/-- the polynomial's rows: sum (sign s), product -/
def pplus (s : Int) (a b : List Int) : List Int := trim (rngN (max a.length b.length) fun i => a.getD i 0 + s * b.getD i 0)
theorem pplus_get (s : Int) (a b : List Int) (i : Nat) : (pplus s a b).getD i 0 = a.getD i 0 + s * b.getD i 0 := by
  unfold pplus
  rw [trim_get, rngN_get]
  split
  · rfl
  · rw [getD_ge (show a.length ≤ i by omega), getD_ge (show b.length ≤ i by omega)]
    simp
/-- the sum of f below n -/
def sumN (f : Nat → Int) : Nat → Int
  | 0 => 0
  | n + 1 => sumN f n + f n
theorem sumN_congr {f g : Nat → Int} : ∀ n, (∀ i, i < n → f i = g i) → sumN f n = sumN g n
  | 0, _ => rfl
  | n + 1, h => by
    unfold sumN
    rw [sumN_congr n fun i hi => h i (by omega), h n (by omega)]
theorem sumN_zero (n : Nat) : sumN (fun _ => 0) n = 0 := by
  induction n with
  | zero => rfl
  | succ n ih => unfold sumN; rw [ih]; rfl
theorem sumN_more {f : Nat → Int} {n : Nat} : ∀ m, (∀ i, n ≤ i → f i = 0) → n ≤ m → sumN f m = sumN f n
  | 0, _, h => by rw [show n = 0 by omega]
  | m + 1, h0, h => by
    by_cases e : n = m + 1
    · rw [e]
    · show sumN f m + f m = sumN f n
      rw [sumN_more m h0 (by omega), h0 m (by omega), Int.add_zero]
/-- the coefficient at k of the product -/
def cnv (a b : List Int) (k : Nat) : Int := sumN (fun i => a.getD i 0 * (if i ≤ k then b.getD (k - i) 0 else 0)) a.length
def pmul (a b : List Int) : List Int := trim (rngN (a.length + b.length) (cnv a b))
theorem cnv_far {a b : List Int} {k : Nat} (h : a.length + b.length ≤ k + 1) : cnv a b k = 0 := by
  unfold cnv
  rw [sumN_congr (g := fun _ => 0) _ fun i hi => ?_, sumN_zero]
  split
  · rw [getD_ge (show b.length ≤ k - i by omega), Int.mul_zero]
  · rw [Int.mul_zero]
theorem pmul_get (a b : List Int) (k : Nat) : (pmul a b).getD k 0 = cnv a b k := by
  unfold pmul
  rw [trim_get, rngN_get]
  split
  · rfl
  · exact (cnv_far (by omega)).symm
/-- the value at x -/
def pev : List Int → Int → Int
  | [], _ => 0
  | c :: l, x => c + x * pev l x
theorem pev_trim (l : List Int) (x : Int) : pev (trim l) x = pev l x := by
  unfold trim
  have key : ∀ (l : List Int) (n : Nat), (∀ i, n ≤ i → l.getD i 0 = 0) → pev (l.take n) x = pev l x := fun l => by
    induction l with
    | nil => intro n _; rw [List.take_nil]
    | cons c l ih =>
      intro n h
      cases n with
      | zero =>
        have hc : c = 0 := h 0 (Nat.le_refl _)
        have hl := ih 0 fun i _ => h (i + 1) (Nat.zero_le _)
        rw [List.take_zero] at hl ⊢
        show 0 = c + x * pev l x
        rw [← hl, hc]
        show (0 : Int) = 0 + x * 0
        rw [Int.mul_zero] <;> rfl
      | succ n =>
        rw [List.take_succ_cons]
        show c + x * pev (l.take n) x = c + x * pev l x
        rw [ih n fun i hi => h (i + 1) (by omega)]
  refine key l _ fun i hi => ?_
  by_cases c : i < l.length
  · exact tsz_zero l _ i hi c
  · exact getD_ge (by omega)
theorem pev_drop {l : List Int} {i : Nat} {c : Int} (h : l[i]? = some c) (x : Int) : pev (l.drop i) x = c + x * pev (l.drop (i + 1)) x := by
  have hi := (List.getElem?_eq_some_iff.mp h).1
  rw [List.drop_eq_getElem_cons hi]
  rw [List.getElem?_eq_getElem hi] at h
  cases h
  rfl
/-- the value, term by term -/
theorem pev_take {l : List Int} {i : Nat} {c : Int} (h : l[i]? = some c) (x : Int) : pev (l.take (i + 1)) x = pev (l.take i) x + c * x ^ i := by
  induction l generalizing i with
  | nil => cases h
  | cons d l ih =>
    cases i with
    | zero =>
      cases h
      rw [List.take_succ_cons, List.take_zero, List.take_zero]
      show c + x * 0 = 0 + c * x ^ 0
      simp
    | succ i =>
      have := ih (i := i) h
      rw [List.take_succ_cons, List.take_succ_cons]
      show d + x * pev (l.take (i + 1)) x = d + x * pev (l.take i) x + c * x ^ (i + 1)
      rw [this, Int.mul_add, Int.pow_succ]
      have e : x * (c * x ^ i) = c * (x ^ i * x) := by rw [Int.mul_left_comm, Int.mul_comm x]
      rw [e]
      omega

structure Cl (P : Program) (w : World) (K : PySem.W.Frag) (mg : Str → Option Value) (base : Heap) (CX : CXT) (k : Nat) (x : Str) (sp : Sp) : Prop where
  ex : ∃ (f : Addr) (fd : FuncData) (ps : List Str), FnOk P w K mg base CX k f fd ps sp ∧ mg x = some (.ref f) ∧ PySem.W.keepIn K (.ref f) = true ∧ Binds K fd ps []
theorem pe_cl {X : Cx} {k j : Nat} {x : Str} {sp : Sp} {p pos : Pos} {e : Expr} {es : List Expr} {t : TA} (c : Cl X.prog X.w X.K X.mg X.base CX0 k x sp) (hr : Room j X.A) (ha : PA X (e :: es) t) (hk : k ≤ j := by decide) (hg : Gl X x := by rfl)
    (hdb : (x == ("__debug__" : Str)) = false := by decide) (he : starEach (e :: es) X.env = (false, eval e X.env) :: starEach es X.env := by rfl) (hpl : (backTo pos (starEach es X.env)).any (·.1) = false := by rfl) :
    PE X (.Call (.Name x p) (e :: es) [] pos) (tCall sp [] E0 t) := by
  obtain ⟨f, fd, ps, F, hm, kp, b⟩ := c.ex
  exact pe_call F (hr.mono hk) hg hm kp b .nil pass0 ha hdb he hpl
structure Txt (mg : Str → Option Value) : Prop where
  int : mg "int" = none
  len : mg "len" = none
  abs : mg "abs" = none
  isinstance : mg "isinstance" = none
  bool : mg "bool" = none
  tuple : mg "tuple" = none
  list : mg "list" = none
  str : mg "str" = none
  range : mg "range" = none
  max : mg "max" = none
  min : mg "min" = none
  sorted : mg "sorted" = none
  set : mg "set" = none
theorem if_pos_of {c : Bool} {A B : Prop} (hc : c = true) (h : A) : if c = true then A else B := by
  rw [if_pos hc]
  exact h
theorem if_neg_of {c : Bool} {A B : Prop} (hc : c = false) (h : B) : if c = true then A else B := by
  rw [hc, if_neg Bool.false_ne_true]
  exact h
theorem same_upd {H : Hp} {p : Addr} {o : HO} (h : H p = none) : Same H (upd H p o) := fun b u e => by
  rw [upd_ne (ne_of_none e h)]
  exact e
/-- a call of a def that may raise, where it doesn't -/
theorem pe_cl0 {X : Cx} {k j : Nat} {x : Str} {sp : Sp} {p pos : Pos} {e : Expr} {es : List Expr} {t : TA} (c : Cl X.prog X.w X.K X.mg X.base (L2.CX X.prog X.w) k x sp) (hr : Room j X.A) (ha : PA X (e :: es) t) (hk : k ≤ j := by decide) (hg : Gl X x := by rfl)
    (hdb : (x == ("__debug__" : Str)) = false := by decide) (he : starEach (e :: es) X.env = (false, eval e X.env) :: starEach es X.env := by rfl) (hpl : (backTo pos (starEach es X.env)).any (·.1) = false := by rfl) :
    PE X (.Call (.Name x p) (e :: es) [] pos) (tCall sp [] E0 t) := by
  obtain ⟨f, fd, ps, F, hm, kp, b⟩ := c.ex
  exact pe_call F (hr.mono hk) hg hm kp b .nil passL ha hdb he hpl
/-- a call of a def that may raise, in a def or try that takes it -/
theorem pe_clX {X : Cx} {W : WX} {k j : Nat} {x : Str} {sp : Sp} {p pos : Pos} {e : Expr} {es : List Expr} {t : TA} (c : Cl X.prog X.w X.K X.mg X.base (L2.CX X.prog X.w) k x sp) (hr : Room j X.A) (tk : Takes X W) (ha : PA X (e :: es) t) (hk : k ≤ j := by decide) (hg : Gl X x := by rfl)
    (hdb : (x == ("__debug__" : Str)) = false := by decide) (he : starEach (e :: es) X.env = (false, eval e X.env) :: starEach es X.env := by rfl) (hpl : (backTo pos (starEach es X.env)).any (·.1) = false := by rfl) :
    PE X (.Call (.Name x p) (e :: es) [] pos) (tCallS sp (WE W) t) := by
  obtain ⟨f, fd, ps, F, hm, kp, b⟩ := c.ex
  exact pe_callS F (hr.mono hk) hg hm kp b (fun σ => passAt tk σ) ha hdb he hpl
/-- FieldError, and what its __init__ is -/
structure FErr (K : PySem.W.Frag) (mg : Str → Option Value) (C : Addr) : Prop where
  g : mg "FieldError" = some (.ref C)
  rd : PySem.W.readsIn K C (.type "type") = true
  ga : PySem.W.specialIn K (.ref C) "__getattribute__" = some (some (.builtin "type.__getattribute__"))
  fi : PySem.W.findCls K (.ref C) (.type "type") "__init__" = some (.val (.builtin "ValueError.__init__"))
theorem pe_feinit {X : Cx} {CF : Addr} {e : Expr} {es : List Expr} {ta : TA} {p1 p2 pos : Pos} {pl : Sem Bool} (F : FErr X.K X.mg CF) (ha : PA X (e :: es) ta) (hg : Gl X "FieldError" := by rfl)
    (hc : eval (.Call (.Attribute (.Name "FieldError" p1) "__init__" p2) (e :: es) [] pos) X.env = (do
      let ov ← eval (.Name "FieldError" p1) X.env
      standAt p2.atName
      let (f, first) ← holding [ov] (getMethod ov "__init__" pl)
      callWith pos f first (backTo pos (starEach (e :: es) X.env)) (backToKw pos (keywordEach [] X.env))) := by rfl)
    (he : starEach (e :: es) X.env = (false, eval e X.env) :: starEach es X.env := by rfl) (hpl : (backTo pos (starEach es X.env)).any (·.1) = false := by rfl) :
    PE X (.Call (.Attribute (.Name "FieldError" p1) "__init__" p2) (e :: es) [] pos) (tVeI X.K ta) := by
  refine ⟨fun pins s σ H Q I h => ?_⟩
  refine PySem.W.methodCall_KW (ld_glob I hg F.g ?_ (by decide)) hc
  refine PySem.W.method_cls I.kIn F.ga (PySem.W.cls_value I.kIn F.rd F.fi (by decide +kernel) ?_)
  show wpAny _ _ (callWith pos (Value.builtin "ValueError.__init__") [] (backTo pos (starEach (e :: es) X.env)) []) _ _ _
  refine PyProof.Rows.callWith_method1 (thn (ha.run pos pins _ σ H _ (I.tok _) h) fun us s1 ⟨vs, H1, I1, r1, a, C, ws, ev, hl, T, ea, q⟩ => ?_) he hpl
  subst ev
  cases r1 with
  | @cons _ u0 _ ur ra rw' =>
    obtain rfl : u0 = Value.ref a := ra
    have hlen : ur.length ≤ sizeLine := by
      rw [← Paired.length rw', sizeLine_eq]
      omega
    exact oinit_ok T I1 ea hlen fun s' J => ⟨.non, H1, J, rfl, q⟩
/-- an own error class with one attribute, and its __init__ by its promise -/
def spInit (C : Addr) (fld : Str) : Sp := fun vs H Q _ => ∃ (a : Addr) (v : V), vs = [.ref a, v] ∧ H a = some (exo a C none) ∧
  ∀ d, H d = none → d ≠ a → Q .non (upd (upd H d (exd d [(fld, v)])) a (exo a C (some d)))
structure ErrC (K : PySem.W.Frag) (mg : Str → Option Value) (nm fld : Str) (C fI : Addr) : Prop where
  g : mg nm = some (.ref C)
  oex : OexC K C
  no : PySem.W.findIn K (.ref C) fld = some none
  iC : PySem.W.findIn K (.ref C) "__init__" = some (some (.ref fI))
  tI : PySem.W.typeIn K (.ref fI) = some (.type "function")
  xf : XfC K C
  te : PySem.W.exmOne K (.ref C) (.ref C) = some true
structure Er (P : Program) (w : World) (K : PySem.W.Frag) (mg : Str → Option Value) (base : Heap) (nm fld : Str) (C : Addr) : Prop where
  ex : ∃ (fI : Addr) (fd : FuncData) (ps : List Str), ErrC K mg nm fld C fI ∧ FnOk P w K mg base CX0 1 fI fd ps (spInit C fld) ∧ Binds K fd ps []
theorem Er.c {P : Program} {w : World} {K : PySem.W.Frag} {mg : Str → Option Value} {base : Heap} {nm fld : Str} {C : Addr} (e : Er P w K mg base nm fld C) : ∃ fI, ErrC K mg nm fld C fI := by
  obtain ⟨fI, _, _, T, _⟩ := e.ex
  exact ⟨fI, T⟩
theorem exm_me {K : PySem.W.Frag} {S : Addr} (h1 : PySem.W.subIn K (.ref S) (.type "BaseException") = some true) (h2 : PySem.W.isClsIn K S = true) (h3 : PySem.W.typeIn K (.ref S) = some (.type "type")) (h4 : PySem.W.subIn K (.ref S) (.ref S) = some true) :
    PySem.W.exmOne K (.ref S) (.ref S) = some true := by
  have e1 : (PySem.W.subIn K (.ref S) (.type "BaseException") == some true) = true := by rw [h1] <;> rfl
  have h2' : (PySem.W.clsIn K S).isSome = true := h2
  have e2 : ((PySem.W.clsIn K S).isSome && PySem.W.typeIn K (.ref S) == some (.type "type")) = true := by rw [h2', h3] <;> rfl
  unfold PySem.W.exmOne
  rw [if_pos e1]
  show (if ((PySem.W.clsIn K S).isSome && PySem.W.typeIn K (.ref S) == some (.type "type")) = true then PySem.W.subIn K (.ref S) (.ref S) else none) = some true
  rw [if_pos e2]
  exact h4
/-- raise C(v): the argument, then what C's own __init__ asks (mk1 answers it) -/
theorem ps_raise1 {X : Cx} {W : WX} {x fld : Str} {C : Addr} {j : Nat} {e : Expr} {ta : TA} {p pos pos' : Pos} (c : Er X.prog X.w X.K X.mg X.base x fld C) (hr : Room j X.A) (tk : Takes X W) (ha : PA X [e] ta) (hj : 2 ≤ j := by decide) (hcalm : X.calm = true := by rfl) (hg : Gl X x := by rfl)
    (hdb : (x == ("__debug__" : Str)) = false := by decide) (he : starEach [e] X.env = (false, eval e X.env) :: starEach [] X.env := by rfl) (hpl : (backTo pos (starEach [] X.env)).any (·.1) = false := by rfl) :
    PS X (.Raise (some (.Call (.Name x p) [e] [] pos)) none pos') (fun _ σ H => tMkO C (spInit C fld) [] ta σ H fun cls d H' => W cls d σ H') := by
  obtain ⟨fI, fd, ps, T, F, b⟩ := c.ex
  exact ps_raise hcalm tk (pmk_oex (X := X) (p := p) (pos := pos) T.oex T.iC T.tI F (hr.mono hj) b .nil (fun _ _ _ _ _ _ _ h => h.elim) hg T.g ha hdb he hpl)
theorem mk1 {C : Addr} {fld : Str} {v : V} {H1 : Hp} {Q : XK} (k : ∀ d H2, Same H1 H2 → H1 d = none → H2 d = some (.xd [(fld, v)]) → Q (.ref C) (some d) H2) :
    ([v] : List V).length ≤ 1000 ∧ ∀ a, H1 a = none → spInit C fld (.ref a :: ([v] ++ [])) (upd H1 a (exo a C none))
      (fun u H2 => u = .non ∧ ∃ (d : Addr) (fs : List (Str × V)), H2 a = some (exo a C (some d)) ∧ H2 d = some (exd d fs) ∧ H1 d = none ∧ Q (.ref C) (some d) (upd (del H2 a) d (.xd fs))) (fun _ _ _ => False) := by
  refine ⟨(by show 1 ≤ 1000; decide), fun a ha => ⟨a, v, rfl, upd_same, fun d hd hda => ⟨rfl, d, [(fld, v)], upd_same, ?_, ?_, ?_⟩⟩⟩
  · rw [upd_ne hda, upd_same]
  · rw [upd_ne hda] at hd
    exact hd
  · rw [upd_ne hda] at hd
    refine k d _ (fun b o e => ?_) hd upd_same
    have hba := ne_of_none e ha
    have hbd := ne_of_none e hd
    rw [upd_ne hbd, del_ne hba, upd_ne hba, upd_ne hbd, upd_ne hba]
    exact e
/-! the same for exceptions whose context is None -/
theorem passN {X : Cx} : Passes (L2N.CX X.prog X.w) X E0 := fun _ _ _ _ _ _ _ ⟨_, _, _, _, _, _, _, _, _, _, _, _, z⟩ => z.elim
theorem takes0N {X : Cx} : L2N.Takes X (fun _ _ _ _ => False) := fun _ _ ⟨_, _, _, _, _, _, _, _, _, _, _, _, _, _, _, _, z⟩ => z.elim
theorem okN {P : Program} {w : World} {K : PySem.W.Frag} {mg : Str → Option Value} {base : Heap} {x qual : Str} {st : Stmt} {f : Addr} {fd : FuncData} {N ps : List Str} {k : Nat} {sp : Sp} (F : Fun K x qual st f fd) (S : FnScope N ps (defScope st)) (len : ∀ vs H Q E, sp vs H Q E → vs.length = ps.length)
    (body : ∀ (cdv : Value) (A : Around) (outer : List Env) (s : Shared) (H : Hp) (vs : List V) (Q : VK) (E : XK), Room k (A.deeper (envOfC qual (defScope st) s.heap.objs.size f cdv)) → sp vs H Q E →
      ∃ t, PSs (cxOf (L2N.CX P w) P w K mg base N qual (defScope st) f cdv A outer s H E) (defBody st) t ∧ t { nx := fun _ H' => Q .non H', rt := Q } (start N vs) H) : FnOk P w K mg base (L2N.CX P w) (k + 1) f fd ps sp := by
  obtain ⟨oc, od, kV, doc, pm, an, cdv, ct, osl, rfl, lk, hcd⟩ := F.ex
  exact fn_of lk hcd S len fun A outer s H vs Q E hr h => body cdv A outer s H vs Q E hr h
/-- a call of such a def, where it doesn't raise -/
theorem pe_clN0 {X : Cx} {k j : Nat} {x : Str} {sp : Sp} {p pos : Pos} {e : Expr} {es : List Expr} {t : TA} (c : Cl X.prog X.w X.K X.mg X.base (L2N.CX X.prog X.w) k x sp) (hr : Room j X.A) (ha : PA X (e :: es) t) (hk : k ≤ j := by decide) (hg : Gl X x := by rfl)
    (hdb : (x == ("__debug__" : Str)) = false := by decide) (he : starEach (e :: es) X.env = (false, eval e X.env) :: starEach es X.env := by rfl) (hpl : (backTo pos (starEach es X.env)).any (·.1) = false := by rfl) :
    PE X (.Call (.Name x p) (e :: es) [] pos) (tCall sp [] E0 t) := by
  obtain ⟨f, fd, ps, F, hm, kp, b⟩ := c.ex
  exact pe_call F (hr.mono hk) hg hm kp b .nil passN ha hdb he hpl
theorem pe_clNX {X : Cx} {W : WX} {k j : Nat} {x : Str} {sp : Sp} {p pos : Pos} {e : Expr} {es : List Expr} {t : TA} (c : Cl X.prog X.w X.K X.mg X.base (L2N.CX X.prog X.w) k x sp) (hr : Room j X.A) (tk : L2N.Takes X W) (ha : PA X (e :: es) t) (hk : k ≤ j := by decide) (hg : Gl X x := by rfl)
    (hdb : (x == ("__debug__" : Str)) = false := by decide) (he : starEach (e :: es) X.env = (false, eval e X.env) :: starEach es X.env := by rfl) (hpl : (backTo pos (starEach es X.env)).any (·.1) = false := by rfl) :
    PE X (.Call (.Name x p) (e :: es) [] pos) (tCallS sp (WE W) t) := by
  obtain ⟨f, fd, ps, F, hm, kp, b⟩ := c.ex
  exact pe_callS F (hr.mono hk) hg hm kp b (fun σ => L2N.passAt tk σ) ha hdb he hpl
theorem pmk_oexN {X : Cx} {e : Expr} {es : List Expr} {ta : TA} {p pos : Pos} {x : Str} {C fI : Addr} {k : Nat} {fd : FuncData} {ps : List Str} {sp : Sp} {ds : List Value} {dvs : List V} (T : OexC X.K C) (iC : PySem.W.findIn X.K (.ref C) "__init__" = some (some (.ref fI))) (tI : PySem.W.typeIn X.K (.ref fI) = some (.type "function"))
    (F1 : FnOk X.prog X.w X.K X.mg X.base CX0 k fI fd ps sp) (hr : Room (k + 1) X.A) (hb : Binds X.K fd ps ds) (hd : Vals dvs ds) (hg : Gl X x) (hm : X.mg x = some (.ref C)) (ha : PA X (e :: es) ta)
    (hdb : (x == ("__debug__" : Str)) = false) (he : starEach (e :: es) X.env = (false, eval e X.env) :: starEach es X.env) (hpl : (backTo pos (starEach es X.env)).any (·.1) = false) :
    L2N.PMk X (.Call (.Name x p) (e :: es) [] pos) (tMkO C sp dvs ta) := by
  intro pins s σ H Q I h
  obtain ⟨nm, q, N, bs, bm, sn, sub, ab, col, dd, k0, k1, k2, k3, k5, hC, hbm⟩ := T.cls
  refine wpAny_Call_Name_kw (ld_glob I hg hm ?_ hdb)
  refine PySem.W.callWith_K (h₀ := X.base) I.ok.mod.kin T.kC (thn (ha.run pos pins s σ H _ I h) fun us st got => ?_) he hpl
  obtain ⟨vs, G1, I1, r1, hz, q1⟩ := got
  refine ⟨I1.kIn, ?_⟩
  show wpAny _ _ (call (.ref C) us) _ _ _
  obtain ⟨hp, g, dr, tk, os⟩ := st
  generalize ex : hp.objs.size + 1 = x1 at *
  have le1 : hp.objs.size ≤ x1 := by omega
  have sp1 := q1 x1 (I1.hok.fresh le1)
  have old : ∀ b o, hp.get? b = some o → ((hp.push (PySem.W.kdv_tup us)).push (PySem.HandSPX.excO C hp.objs.size)).get? b = some o := fun b o z =>
    Heap.get?_push_of_some _ (Heap.get?_push_of_some _ z)
  have new1 : ((hp.push (PySem.W.kdv_tup us)).push (PySem.HandSPX.excO C hp.objs.size)).get? x1 = some (PySem.HandSPX.excO C hp.objs.size) := by
    subst ex
    heap_get
  have I2 := I1.laid (t' := tk) (a := x1) (o := exo x1 C none) old le1 (exo_ok new1)
  have rel : Vals (V.ref x1 :: (vs ++ dvs)) (Value.ref x1 :: (us ++ ds)) := .cons rfl (r1.append hd)
  have few : us.length ≤ sizeLine := by
    have := Paired.length r1
    rw [sizeLine_eq]
    omega
  have many : (Value.ref x1 :: us ++ ds).length = ps.length := by
    have z := rel.length
    rw [F1.len _ _ _ _ sp1] at z
    exact z.symm
  have run := F1.run _ X.stack _ _ ⟨Value.ref x1 :: us, []⟩ (Value.ref x1 :: (us ++ ds)) _ _ (fun _ _ _ => False) (hr.make C us []) (I2.env0.make C us []) (hb _ (Value.ref x1 :: us) I2.kIn many) rel sp1
  refine wpAny_call (PySem.HandSPX.call_own F.excBase_ValueError (fun Y => PySem.HandSPX.refsVE_contains Y bm hbm) (I1.kIn _ _ hC) (PySem.W.looks_findIn I1.kIn iC) (fun self => PySem.W.bind_fn I1.kIn self tI) few ?_)
  subst ex
  refine codeAny_mono run fun r s' back => ?_
  cases r with
  | error er => exact False.elim back
  | ok fl =>
    cases fl with
    | ret u =>
      obtain ⟨v, H2, os2, bare2, un2, hok2, rv, ev, d, fs, ea, ed, hd1, q2⟩ := back
      subst ev
      obtain ⟨h2, g2, d2, t2, os'⟩ := s'
      obtain ⟨t0, G, J, kG, ge, hoe, na⟩ := mk_end0 (d2 := d2) (t2 := t2) I1 le1 old un2 hok2 os2 bare2 ea ed hd1
      exact ⟨rv, _, _, _, ⟨G, g2, d2, t2, os'⟩, _, .ref C, some d, rfl, J, kG, ge, hoe, ⟨rfl, rfl, fun vs z => by cases z; rfl⟩, rfl, rfl, na, rfl, bare2, raises_own T.exC T.tyC, q2⟩
    | next => exact False.elim back
    | brk => exact False.elim back
    | cont => exact False.elim back
theorem ps_raise1N {X : Cx} {W : WX} {x fld : Str} {C : Addr} {j : Nat} {e : Expr} {ta : TA} {p pos pos' : Pos} (c : Er X.prog X.w X.K X.mg X.base x fld C) (hr : Room j X.A) (tk : L2N.Takes X W) (ha : PA X [e] ta) (hj : 2 ≤ j := by decide) (hcalm : X.calm = true := by rfl) (hg : Gl X x := by rfl)
    (hdb : (x == ("__debug__" : Str)) = false := by decide) (he : starEach [e] X.env = (false, eval e X.env) :: starEach [] X.env := by rfl) (hpl : (backTo pos (starEach [] X.env)).any (·.1) = false := by rfl) :
    PS X (.Raise (some (.Call (.Name x p) [e] [] pos)) none pos') (fun _ σ H => tMkO C (spInit C fld) [] ta σ H fun cls d H' => W cls d σ H') := by
  obtain ⟨fI, fd, ps, T, F, b⟩ := c.ex
  exact L2N.ps_raise hcalm tk (pmk_oexN (X := X) (p := p) (pos := pos) T.oex T.iC T.tI F (hr.mono hj) b .nil hg T.g ha hdb he hpl)
section
variable {P : Program} {w : World} {K : PySem.W.Frag} {mg : Str → Option Value} {base : Heap}
-- part gen2
/-- an isinstance of an int -/
theorem isi_int {K : PySem.W.Frag} {i : Int} {T : String} {b : Bool} {H : Hp} {Q : VK} (h : kitB "int" T = some b) (q : Q (.bl b) H) : rIsi K [.int i, .ty T] H Q :=
  ⟨_, _, _, _, b, rfl, .ty T, .base (.int i), kit_ty h, q⟩
theorem isi_tup {K : PySem.W.Frag} {a : Addr} {xs : List V} {T : String} {b : Bool} {H : Hp} {Q : VK} (ha : H a = some (.tup xs)) (h : kitB "tuple" T = some b) (q : Q (.bl b) H) : rIsi K [.ref a, .ty T] H Q :=
  ⟨_, _, _, _, b, rfl, .ty T, .base (.tup ha), kit_ty h, q⟩
theorem isi_bl {K : PySem.W.Frag} {x : Bool} {T : String} {b : Bool} {H : Hp} {Q : VK} (h : kitB "bool" T = some b) (q : Q (.bl b) H) : rIsi K [.bl x, .ty T] H Q :=
  ⟨_, _, _, _, b, rfl, .ty T, .base (.bl x), kit_ty h, q⟩
theorem isi_lst {K : PySem.W.Frag} {a : Addr} {xs : List V} {T : String} {b : Bool} {H : Hp} {Q : VK} (ha : H a = some (.lst xs)) (h : kitB "list" T = some b) (q : Q (.bl b) H) : rIsi K [.ref a, .ty T] H Q :=
  ⟨_, _, _, _, b, rfl, .ty T, .base (.lst ha), kit_ty h, q⟩
/-- the law's own promise -/
def spLaw (K : PySem.W.Frag) : Sp := fun vs H Q _ => ∃ (a : Addr) (ns : List Int), vs = [.ref a] ∧ SqL K H a (ns.map V.int) ∧ ns.length ≤ 63 ∧ ∀ H', Q (.bl true) H'
/-- a test by an own truth -/
theorem pt_own {X : Cx} {a : Expr} {ta : TE} {r : V → Hp → (Bool → Hp → Prop) → Prop} (ha : PE X a ta) (hr : TruR X r) (he : ∀ whole, isTrue a X.env whole = (do let v ← whole; standAt a.pos; holding [v] (truthy v)) := by intro _; rfl) :
    PT X a (fun σ H Q => ta σ H fun x H' => r x H' Q) :=
  ⟨fun pins s σ H Q I h => isTrue_plain (thn (ha.run pins s σ H _ I h) fun v s1 ⟨x, H1, I1, r1, q1⟩ => hr pins s1 σ H1 x v Q I1 r1 q1) (he _)⟩
-- part pool
/-- a pool: three values -/
def PoolAt (H : Hp) (p : Addr) : Prop := ∃ (c n : Int) (b : Bool), H p = some (.lst [.int c, .int n, .bl b])
def spPool : Sp := fun vs H Q _ => ∃ c : Int, vs = [.int c] ∧ ∀ p H', H p = none → Same H H' → PoolAt H' p → Q (.ref p) H'
abbrev s_pool : Stmt := top 16
theorem sc_pool : FnScope ["_law_cell_here"] ["_law_cell_here"] (defScope s_pool) := ⟨rfl, rfl, rfl, by decide +kernel, rfl, by decide +kernel, by decide +kernel⟩
theorem ok_pool {f : Addr} {fd : FuncData} (F : Fun K "_law_pool" "_law_pool" s_pool f fd) : FnOk P w K mg base CX0 1 f fd ["_law_cell_here"] spPool := by
  refine F.ok sc_pool (fun vs H Q E h => ?_) (fun cdv A outer s H vs Q E hr h => ?_)
  · obtain ⟨c, rfl, _⟩ := h
    rfl
  · obtain ⟨c, rfl, k⟩ := h
    refine ⟨_, (pss_one (ps_ret (pe_lst (pa_cons (pv 0) (pa_cons pe_int (pa_cons (pe_cmpR op_ge (pv 0) (pe_op op_pow pe_int pe_int) (nomark _)) pa_nil)))))), ?_⟩
    refine ⟨_, rfl, _, rfl, _, _, rfl, rfl, ⟨by decide, by decide, by decide⟩, _, _, rfl, rfl, (by show 3 ≤ sizeLine; decide), fun p hp => ?_⟩
    exact k p _ hp (same_upd hp) ⟨_, _, _, upd_same⟩

abbrev s_take : Stmt := top 17
theorem sc_take : FnScope ["_law_pool_here", "_law_limit", "_law_drawn", "_law_mixed"] ["_law_pool_here", "_law_limit"] (defScope s_take) := ⟨rfl, rfl, rfl, by decide +kernel, rfl, by decide +kernel, by decide +kernel⟩
def spTake : Sp := fun vs H Q _ => ∃ (p : Addr) (m : Int), vs = [.ref p, .int m] ∧ PoolAt H p ∧ 0 < m ∧ m.natAbs.log2 < 9000 ∧
  ∀ v H', 0 ≤ v → v < m → (∀ q, q ≠ p → H' q = H q) → PoolAt H' p → Q (.int v) H'
theorem mix_small (z : Int) : (z % 2147483647).natAbs < 2 ^ 64 := by
  have h1 := Int.emod_nonneg z (show (2147483647 : Int) ≠ 0 by decide)
  have h2 := Int.emod_lt_of_pos z (show (0 : Int) < 2147483647 by decide)
  have : (2147483647 : Nat) < 2 ^ 64 := by decide
  omega
theorem ok_take {f : Addr} {fd : FuncData} (T : Txt mg) (F : Fun K "_law_take" "_law_take" s_take f fd) : FnOk P w K mg base CX0 1 f fd ["_law_pool_here", "_law_limit"] spTake := by
  refine F.ok sc_take (fun vs H Q E h => ?_) (fun cdv A outer s H vs Q E hr h => ?_)
  · obtain ⟨p, m, rfl, _⟩ := h
    rfl
  · obtain ⟨p, m, rfl, ⟨c, n, b, hp⟩, hm, hb, k⟩ := h
    refine ⟨_, (pss_cons (ps_asg (pe_op op_add (pe_ix ix_list (pv 0) pe_int (fun _ _ => rfl)) pe_int) (pg_sub (pv 0) pe_int set_list))
 (pss_cons (ps_if (pt_val (pe_ix ix_list (pv 0) pe_int (fun _ _ => rfl))) (pss_cons (ps_set (i := 2) sc_take.nd rfl (Or.inl rfl) (pe_op op_mod (pe_callTy call_int1 (by rfl) T.int boot_int (pa_cons (pe_ix ix_list (pv 0) pe_int (fun _ _ => rfl)) pa_nil)) (pv 1)))
 (pss_cons (ps_asg (pe_op op_fdivW (pe_callTy call_int1 (by rfl) T.int boot_int (pa_cons (pe_ix ix_list (pv 0) pe_int (fun _ _ => rfl)) pa_nil)) (pv 1)) (pg_sub (pv 0) pe_int set_list))
 (pss_one (ps_ret (pv 2))))) pss_nil)
 (pss_cons (ps_set (i := 3) sc_take.nd rfl (Or.inl rfl) (pe_op op_mod (pe_callTy call_int1 (by rfl) T.int boot_int (pa_cons (pe_op op_add (pe_op op_add (pe_op op_mul (pe_ix ix_list (pv 0) pe_int (fun _ _ => rfl)) pe_int) (pe_op op_mul (pe_ix ix_list (pv 0) pe_int (fun _ _ => rfl)) pe_int)) pe_int) pa_nil)) pe_int))
 (pss_one (ps_ret (pe_op op_mod (pe_op op_fdivW (pe_callTy call_int1 (by rfl) T.int boot_int (pa_cons (pe_op op_mod (pe_op op_pow (pv 3) pe_int) pe_int) pa_nil)) pe_int) (pv 1))))))), ?_⟩
    refine ⟨_, rfl, p, _, _, _, rfl, rfl, SqL.of hp, rfl, _, _, rfl, rfl, _, rfl, p, _, _, _, rfl, rfl, hp, rfl, ?_⟩
    refine ⟨_, rfl, p, _, _, _, rfl, rfl, SqL.of upd_same, rfl, b, rfl, ?_⟩
    cases b with
    | true =>
      refine iteT ?_
      refine ⟨_, rfl, p, _, _, _, rfl, rfl, SqL.of upd_same, rfl, .inl ⟨_, rfl, _, rfl, _, _, rfl, rfl, hm, ?_⟩⟩
      refine ⟨_, rfl, p, _, _, _, rfl, rfl, SqL.of upd_same, rfl, .inl ⟨_, rfl, _, rfl, _, _, rfl, rfl, ⟨hm, hb⟩, _, rfl, p, _, _, _, rfl, rfl, upd_same, rfl, ?_⟩⟩
      refine ⟨_, rfl, k _ _ (Int.emod_nonneg _ (by omega)) (Int.emod_lt_of_pos _ hm) (fun q hq => ?_) ⟨_, _, _, upd_same⟩⟩
      rw [upd_ne hq, upd_ne hq]
    | false =>
      refine iteF ?_
      refine ⟨_, rfl, p, _, _, _, rfl, rfl, SqL.of upd_same, rfl, _, _, rfl, rfl, (.inr ⟨by decide, by decide⟩), _, rfl, p, _, _, _, rfl, rfl, SqL.of upd_same, rfl, _, _, rfl, rfl, (.inr ⟨by decide, by decide⟩), _, _, rfl, rfl, _, _, rfl, rfl, .inl ⟨_, rfl, _, _, rfl, rfl, (by show (0 : Int) < 2147483647; decide), ?_⟩⟩
      refine ⟨_, rfl, _, _, rfl, rfl, ⟨by decide, by decide, mix_small _⟩, _, _, rfl, rfl, (by show (0 : Int) < 2147483647; decide), .inl ⟨_, rfl, _, _, rfl, rfl, ⟨by decide, by decide⟩, _, rfl, _, _, rfl, rfl, hm, ?_⟩⟩
      refine k _ _ (Int.emod_nonneg _ (by omega)) (Int.emod_lt_of_pos _ hm) (fun q hq => ?_) ⟨_, _, _, upd_same⟩
      rw [upd_ne hq]
-- part cell

abbrev s_cell : Stmt := top 18
theorem sc_cell : FnScope ["_law_script", "_law_k"] ["_law_script", "_law_k"] (defScope s_cell) := ⟨rfl, rfl, rfl, by decide +kernel, rfl, by decide +kernel, by decide +kernel⟩
def spCellL (K : PySem.W.Frag) : Sp := fun vs H Q _ => ∃ (a : Addr) (ns : List Int) (k : Nat), vs = [.ref a, .int (k : Int)] ∧ SqL K H a (ns.map V.int) ∧ ∀ v, Q (.int v) H
theorem ok_cell {f : Addr} {fd : FuncData} (T : Txt mg) (F : Fun K "_law_cell" "_law_cell" s_cell f fd) : FnOk P w K mg base CX0 1 f fd ["_law_script", "_law_k"] (spCellL K) := by
  refine F.ok sc_cell (fun vs H Q E h => ?_) (fun cdv A outer s H vs Q E hr h => ?_)
  · obtain ⟨a, ns, k, rfl, _⟩ := h
    rfl
  · obtain ⟨a, ns, k, rfl, hS, q⟩ := h
    refine ⟨_, (pss_cons (ps_if (pt_cmpR op_lt (pv 1) (pe_callB call_len_seq (by rfl) T.len PySem.boot_len (pa_cons (pv 0) pa_nil)) (nomark _)) (pss_one (ps_ret (pe_ix ix_list (pv 0) (pv 1) (fun _ _ => rfl)))) pss_nil)
 (pss_one (ps_ret pe_int))), ?_⟩
    refine ⟨_, rfl, _, rfl, a, _, rfl, .inl hS, _, _, rfl, rfl, _, rfl, ?_⟩
    rw [List.length_map]
    by_cases c : k < ns.length
    · refine if_pos_of (decide_eq_true (by omega)) ?_
      refine ⟨_, rfl, _, rfl, a, _, _, .int ns[k], rfl, rfl, hS, atI_nat (by rw [List.getElem?_map, List.getElem?_eq_getElem c]; rfl), ?_⟩
      exact q _
    · refine if_neg_of (decide_eq_false (by omega)) ?_
      exact q _
-- part maps
/-! comprehensions and loops whose turns leave what stood before as it was -/
/-- the list that a comprehension makes: f i behind i turns -/
def PvM (H1 : Hp) (D : Addr) (f : Nat → List V) (i : Nat) (H : Hp) : Prop := Same H1 H ∧ H D = some (.lst (f i))
theorem PvM.zero {H1 : Hp} {D : Addr} {f : Nat → List V} (hD : H1 D = none) (h0 : f 0 = []) : PvM H1 D f 0 (upd H1 D (.lst [])) := ⟨same_upd hD, by rw [h0]; exact upd_same⟩
theorem PvM.push {H1 H4 : Hp} {D : Addr} {f : Nat → List V} {i : Nat} {y : V} (hD : H1 D = none) (s : Same H1 H4) (hd : H4 D = some (.lst (f i))) (few : (f i).length < 1000) (hf : f (i + 1) = f i ++ [y]) :
    ∃ acc, H4 D = some (.lst acc) ∧ acc.length < sizeLine ∧ PvM H1 D f (i + 1) (upd H4 D (.lst (acc ++ [y]))) :=
  ⟨f i, hd, small1000 (by omega), fun b o eb => by
    rw [upd_ne (ne_of_none eb hD)]
    exact s b o eb, by rw [hf]; exact upd_same⟩
theorem PvM.skip {H1 H4 : Hp} {D : Addr} {f : Nat → List V} {i : Nat} (s : Same H1 H4) (hd : H4 D = some (.lst (f i))) (hf : f (i + 1) = f i) : PvM H1 D f (i + 1) H4 := ⟨s, by rw [hf]; exact hd⟩
section
variable {J : It} {n : Nat} {G : Hp → Prop} {Y : Nat → Hp → V → Hp → Prop}
theorem lcW (w : Walk J n G Y) {g : TG} {tt : TT} {te : TE} {vs : List Nat} {σ : L2.St} {H1 : Hp} {D : Addr} {Qd : Hp → Prop} (f : Nat → List V) (hD : H1 D = none) (h0 : f 0 = []) (hG : ∀ H, Same H1 H → G H)
    (hs : ∀ i x H H', i < n → Same H1 H → H D = some (.lst (f i)) → Y i H x H' → g x (wipe σ vs) H' fun σ2 H2 => wipe σ2 vs = wipe σ vs ∧ tt σ2 H2 fun b H3 =>
      if b = true then te σ2 H3 fun y H4 => ∃ acc, H4 D = some (.lst acc) ∧ acc.length < sizeLine ∧ PvM H1 D f (i + 1) (upd H4 D (.lst (acc ++ [y]))) else PvM H1 D f (i + 1) H3) (hd : ∀ H, Same H1 H → H D = some (.lst (f n)) → Qd H) :
    ∃ W : Nat → Nat → Hp → Prop, (∃ m, W 0 m (upd H1 D (.lst []))) ∧ ∀ i m H, W i m H →
      (J.stop i H ∧ Qd H) ∨ (J.go i H ∧ ∃ Nx : Hp → Prop, (∀ H', Nx H' → ∃ m', m' < m ∧ W (i + 1) m' H') ∧ ∀ x H', J.yld i H x H' → g x (wipe σ vs) H' fun σ2 H2 => wipe σ2 vs = wipe σ vs ∧ tt σ2 H2 fun b H3 =>
        if b = true then te σ2 H3 fun y H4 => ∃ acc, H4 D = some (.lst acc) ∧ acc.length < sizeLine ∧ Nx (upd H4 D (.lst (acc ++ [y]))) else Nx H3) :=
  lc_it w (PvM H1 D f) (PvM.zero hD h0) (fun _ H _ h => hG H h.1) (fun i x H H' hi h y => hs i x H H' hi h.1 h.2 y) fun H h => hd H h.1 h.2
end
/-- the first i of a row -/
abbrev tkV (l : List V) (i : Nat) : List V := l.take i
theorem tkV_succ {l : List V} {i : Nat} {y : V} (h : l[i]? = some y) : tkV l (i + 1) = tkV l i ++ [y] := by
  show l.take (i + 1) = l.take i ++ [y]
  rw [List.take_add_one, h]
  rfl
theorem tkV_len (l : List V) (i : Nat) : (tkV l i).length ≤ l.length := by
  show (l.take i).length ≤ l.length
  rw [List.length_take]
  omega
theorem tkV_all (l : List V) : tkV l l.length = l := List.take_length
/-- the turn of a map ends -/
theorem mapEnd {H1 H4 : Hp} {D : Addr} {ys : List V} {i : Nat} {y : V} (hD : H1 D = none) (few : ys.length < 1000) (s : Same H1 H4) (hd : H4 D = some (.lst (tkV ys i))) (hy : ys[i]? = some y) :
    ∃ acc, H4 D = some (.lst acc) ∧ acc.length < sizeLine ∧ PvM H1 D (tkV ys) (i + 1) (upd H4 D (.lst (acc ++ [y]))) :=
  PvM.push hD s hd (Nat.lt_of_le_of_lt (tkV_len ys i) few) (tkV_succ hy)
theorem map_at {α : Type} {f : α → V} {l : List α} {i : Nat} {z : α} (h : l[i]? = some z) : (l.map f)[i]? = some (f z) := by
  rw [List.getElem?_map, h]
  rfl
theorem pow_small {z : Int} {n m : Nat} (h : z.natAbs < 2 ^ n) (hnm : n ≤ m) : z.natAbs < 2 ^ m := Nat.lt_of_lt_of_le h (Nat.pow_le_pow_right (by decide) hnm)
theorem flat_rep {α : Type} (x : α) : ∀ m : Nat, (List.replicate m [x]).flatten = List.replicate m x
  | 0 => rfl
  | m + 1 => by rw [List.replicate_succ, List.flatten_cons, flat_rep x m, List.replicate_succ, List.singleton_append]
/-- len of a list or tuple, the frame named -/
def rLenS (K : PySem.W.Frag) : List V → Hp → VK → Prop := fun xs H Q => ∃ p ys, xs = [V.ref p] ∧ (SqL K H p ys ∨ SqT K H p ys) ∧ Q (V.int (ys.length : Int)) H
theorem call_len_seqK {X : Cx} {K : PySem.W.Frag} (hK : X.K = K) : CallR X (.builtin "len") (rLenS K) := by
  subst hK
  exact call_len_seq
/-- o.f, the frame named -/
theorem pe_fldK {X : Cx} {K : PySem.W.Frag} {e : Expr} {f : Str} {pos : Pos} {ta : TE} (hK : X.K = K) (he : PE X e ta) (hb : attributeBase e f X.env (eval e X.env) = eval e X.env) : PE X (.Attribute e f pos) (tFld K ta f) := by
  subst hK
  exact pe_fld he hb
/-- range(n): 0, 1, .. -/
theorem walk_range0 {n : Nat} : Walk (Itr 0 n) n (fun _ => True) (YFn fun i => .int (i : Int)) :=
  walk_range.mono (fun _ _ => trivial) fun i H x H' _ _ y => ⟨y.1, y.2.trans (congrArg V.int (Int.zero_add _))⟩
section
variable {J : It} {n : Nat} {G : Hp → Prop} {Y : Nat → Hp → V → Hp → Prop}
/-- a comprehension that makes the row ys -/
theorem lcMap (w : Walk J n G Y) {g : TG} {tt : TT} {te : TE} {vs : List Nat} {σ : L2.St} {H1 : Hp} {D : Addr} {Qd : Hp → Prop} (ys : List V) (hl : ys.length = n) (hD : H1 D = none) (hG : ∀ H, Same H1 H → G H)
    (hs : ∀ i x H H', i < n → Same H1 H → H D = some (.lst (tkV ys i)) → Y i H x H' → g x (wipe σ vs) H' fun σ2 H2 => wipe σ2 vs = wipe σ vs ∧ tt σ2 H2 fun b H3 =>
      if b = true then te σ2 H3 fun y H4 => ∃ acc, H4 D = some (.lst acc) ∧ acc.length < sizeLine ∧ PvM H1 D (tkV ys) (i + 1) (upd H4 D (.lst (acc ++ [y]))) else PvM H1 D (tkV ys) (i + 1) H3) (hd : ∀ H, Same H1 H → H D = some (.lst ys) → Qd H) :
    ∃ W : Nat → Nat → Hp → Prop, (∃ m, W 0 m (upd H1 D (.lst []))) ∧ ∀ i m H, W i m H →
      (J.stop i H ∧ Qd H) ∨ (J.go i H ∧ ∃ Nx : Hp → Prop, (∀ H', Nx H' → ∃ m', m' < m ∧ W (i + 1) m' H') ∧ ∀ x H', J.yld i H x H' → g x (wipe σ vs) H' fun σ2 H2 => wipe σ2 vs = wipe σ vs ∧ tt σ2 H2 fun b H3 =>
        if b = true then te σ2 H3 fun y H4 => ∃ acc, H4 D = some (.lst acc) ∧ acc.length < sizeLine ∧ Nx (upd H4 D (.lst (acc ++ [y]))) else Nx H3) :=
  lcW w (tkV ys) hD rfl hG hs fun H s h => hd H s (by rw [h, ← hl, tkV_all])
end
-- part menu
theorem allN {R : V → Prop} : ∀ x ∈ ([] : List V), R x := fun _ h => nomatch h
theorem allC {R : V → Prop} {a : V} {l : List V} (h : R a) (t : ∀ x ∈ l, R x) : ∀ x ∈ a :: l, R x := fun x hx => by
  rcases List.mem_cons.mp hx with e | e
  · rw [e]
    exact h
  · exact t x e
/-- an item at an open place in bounds -/
theorem at_some {xs : List V} {v : Int} (h0 : 0 ≤ v) (h1 : v < xs.length) : ∃ x, atI xs v = some x ∧ x ∈ xs := by
  have hv : ((v.toNat : Nat) : Int) = v := Int.toNat_of_nonneg h0
  have hl : v.toNat < xs.length := by omega
  have z : atI xs ((v.toNat : Nat) : Int) = some xs[v.toNat] := atI_nat (List.getElem?_eq_getElem hl)
  rw [hv] at z
  exact ⟨xs[v.toNat], z, List.getElem_mem hl⟩
def SameBut (p : Addr) (H H' : Hp) : Prop := ∀ b o, b ≠ p → H b = some o → H' b = some o
theorem SameBut.of {p : Addr} {H H' : Hp} (e : ∀ q, q ≠ p → H' q = H q) : SameBut p H H' := fun b o hb h => by
  rw [e b hb]
  exact h
theorem SameBut.trans {p : Addr} {H H1 H2 : Hp} (a : SameBut p H H1) (b : SameBut p H1 H2) : SameBut p H H2 := fun c o hc h => b c o hc (a c o hc h)
theorem sbut {p : Addr} {H H' : Hp} (s : Same H H') : SameBut p H H' := fun b o _ h => s b o h
/-- what was tracked ahead of the pool -/
theorem SameBut.same {p : Addr} {H0 H H' : Hp} (s : Same H0 H) (np : H0 p = none) (e : SameBut p H H') : Same H0 H' := fun b o h => e b o (ne_of_none h np) (s b o h)
theorem PoolAt.same {H H' : Hp} {p : Addr} (h : PoolAt H p) (s : Same H H') : PoolAt H' p := by
  obtain ⟨x, y, z, e⟩ := h
  exact ⟨x, y, z, s _ _ e⟩
theorem PoolAt.new {H : Hp} {p a : Addr} (h : PoolAt H p) (n : H a = none) : a ≠ p := fun e => by
  obtain ⟨x, y, z, q⟩ := h
  rw [e, q] at n
  cases n
-- part eqints
theorem eqvAll_ints : ∀ l m : List Int, PyData.eqvAll (l.map PyData.int) (m.map PyData.int) = decide (l = m)
  | [], [] => by rw [List.map_nil, PyData.eqvAll]; rfl
  | [], b :: m => by rw [List.map_nil, List.map_cons, PyData.eqvAll] <;> first | (exact (decide_eq_false (by simp)).symm) | skip
  | a :: l, [] => by rw [List.map_nil, List.map_cons, PyData.eqvAll] <;> first | (exact (decide_eq_false (by simp)).symm) | skip
  | a :: l, b :: m => by
    rw [List.map_cons, List.map_cons, PyData.eqvAll, PyData.eqv, eqvAll_ints l m]
    by_cases c : a = b
    · subst c
      by_cases c2 : l = m
      · subst c2
        simp
      · simp [c2]
    · simp [c]
theorem eqv_ints (l m : List Int) : PyData.eqv (.list (l.map PyData.int)) (.list (m.map PyData.int)) = decide (l = m) := by
  rw [PyData.eqv]
  exact eqvAll_ints l m
theorem eqv_intsT (l m : List Int) : PyData.eqv (.tuple (l.map PyData.int)) (.tuple (m.map PyData.int)) = decide (l = m) := by
  rw [PyData.eqv]
  exact eqvAll_ints l m
theorem canLay_ints : ∀ l : List Int, PyData.canLayAll0 (l.map PyData.int) = true
  | [] => by rw [List.map_nil, PyData.canLayAll0]
  | a :: l => by rw [List.map_cons, PyData.canLayAll0, PyData.canLay0, canLay_ints l]; rfl
theorem depth_ints : ∀ l : List Int, PyData.depthAll (l.map PyData.int) = 0
  | [] => by rw [List.map_nil, PyData.depthAll]
  | a :: l => by rw [List.map_cons, PyData.depthAll, PyData.depth, depth_ints l]; rfl
theorem shaped_ints (l : List Int) : SeqAt.shaped (.list (l.map PyData.int)) = true := by
  unfold SeqAt.shaped
  rw [PyData.canLay0, canLay_ints, PyData.depth, depth_ints]
  rfl
theorem shaped_intsT (l : List Int) : SeqAt.shaped (.tuple (l.map PyData.int)) = true := by
  unfold SeqAt.shaped
  rw [PyData.canLay0, canLay_ints, PyData.depth, depth_ints]
  rfl
theorem dpAll_ints {K : PySem.W.Frag} {H : Hp} : ∀ l : List Int, DpAll K H (l.map V.int) (l.map PyData.int)
  | [] => .nil
  | a :: l => .cons (.int a) (dpAll_ints l)
theorem dp_lst {K : PySem.W.Frag} {H : Hp} {a : Addr} {l : List Int} (h : SqL K H a (l.map V.int)) : Dp K H (.ref a) (.list (l.map PyData.int)) := .lst h (dpAll_ints l)
theorem dp_tup {K : PySem.W.Frag} {H : Hp} {a : Addr} {l : List Int} (h : SqT K H a (l.map V.int)) : Dp K H (.ref a) (.tuple (l.map PyData.int)) := .tup h (dpAll_ints l)
theorem hu64 {k : Nat} {A : Around} (hr : Room k A) : A.units + 64 < cLine := by
  have := hr.un
  omega
theorem item_int {l : List Int} {i : Nat} {y : V} (h : (l.map V.int)[i]? = some y) : ∃ z : Int, y = .int z ∧ l[i]? = some z := by
  rw [List.getElem?_map] at h
  cases e : l[i]? with
  | none =>
    rw [e] at h
    cases h
  | some z =>
    rw [e] at h
    exact ⟨z, (Option.some.inj h).symm, rfl⟩
-- part enumt
/-! enumerate(tuple) -/
set_option maxHeartbeats 1000000 in
theorem meets_enumerate_newB0 {v : Value} {o : Obj} {H : Heap → Prop} (B : Begins v o H) :
    Meets (Builtin.«enumerate.__new__» ⟨[.type "enumerate", v], []⟩) (fun _ R s => H s.heap ∧
      R (.ok (.ret (.ref (s.heap.push o).objs.size))) { s with heap := (s.heap.push o).push { cls := .type "enumerate", data := .fields #[.none, .bool false, .ref s.heap.objs.size, rawInt 0, .none, .none] } }) :=
  .of_wp fun prog w A R s h => by
    obtain ⟨hp, g, d, tk, os⟩ := s; obtain ⟨h1, h⟩ := h
    have hsub := sub_enumerate
    have q1 : ∀ {A' : Around} {E : Value → Shared → Prop} {Q : Value → Shared → Prop}, Q (.ref hp.objs.size) ⟨hp.push o, g, d, tk, os⟩ → wpAny (model prog w) A' (pyIter v) Q E ⟨hp, g, d, tk, os⟩ :=
      fun q => B.iter prog w _ _ ⟨hp, g, d, tk, os⟩ _ h1 q
    wp_walk using q1
    refine wpAny_stack_any fun st => wpAny_pure ?_
    split
    · rename_i c _ _ _ _ _
      cases (c == Value.type "enumerate")
      · wp_walk using q1
        exact ⟨_, rfl, h⟩
      · wp_walk using q1
        exact ⟨_, rfl, h⟩
    · wp_walk using q1
      exact ⟨_, rfl, h⟩
theorem call_enumerateT {prog : Program} {w : World} {A : Around} {E : Value → Shared → Prop} {s : Shared} {l : Addr} {items : Array Value} {Q : Value → Shared → Prop} (hL : s.heap.IsTuple l items)
    (h : ∀ h', IsEnum h' (s.heap.objs.size + 1) s.heap.objs.size 0 .none → h'.IsTupleIter s.heap.objs.size l 0 → h'.objs.size = s.heap.objs.size + 2 →
      (∀ b o, s.heap.get? b = some o → h'.get? b = some o) → Q (.ref (s.heap.objs.size + 1)) { s with heap := h' }) :
    wpAny (model prog w) A (call (.type "enumerate") [.ref l]) Q E s := by
  have B := begins_tuple l items
  refine callType_new F.called_enumerate (by decide) (F.typeCall_enumerate_1 _) (F.newCall_enumerate_1 _) (fun obj => F.args_object_init_2 obj _) F.entry_enumerate_new
    (meets_enumerate_newB0 B) ⟨hL, ?_⟩
  have hz : (s.heap.push { cls := .type "tuple_iterator", data := .fields #[.ref l, .int 0 0] }).objs.size = s.heap.objs.size + 1 := Heap.size_push ..
  show _ ∧ _
  rw [hz]
  have he : IsEnum ((s.heap.push { cls := .type "tuple_iterator", data := .fields #[.ref l, .int 0 0] }).push
      { cls := .type "enumerate", data := .fields #[.none, .bool false, .ref s.heap.objs.size, rawInt 0, .none, .none] }) (s.heap.objs.size + 1) s.heap.objs.size 0 .none := by
    have := Heap.get?_push_size (s.heap.push { cls := .type "tuple_iterator", data := .fields #[.ref l, .int 0 0] })
      (o := { cls := .type "enumerate", data := .fields #[.none, .bool false, .ref s.heap.objs.size, rawInt 0, .none, .none] }) rfl
    rw [hz] at this; exact this
  refine ⟨⟨_, he, rfl⟩, h _ he ⟨_, Heap.get?_push_of_some _ (Heap.get?_push_size _ rfl), rfl, rfl⟩ (by rw [Heap.size_push, hz]) fun b o x => Heap.get?_push_of_some _ (Heap.get?_push_of_some _ x)⟩
/-- the tuple at a, each item in a new pair -/
def IteT (K : PySem.W.Frag) (a : Addr) : It :=
  ⟨fun i H => ∃ (xs : List V) (x : V), SqT K H a xs ∧ xs[i]? = some x, fun i H v H' => ∃ T x, v = .ref T ∧ H T = none ∧ H' = upd H T (.tup [.int (i : Nat), x]) ∧ ∀ xs, SqT K H a xs → xs[i]? = some x, fun i H => ∃ xs : List V, SqT K H a xs ∧ xs.length = i⟩
theorem turn_enumT {P : Program} {w : World} {K : PySem.W.Frag} {elts : List Expr} {kk : Nat} {tpos : Pos} (a e it : Addr) :
    Turn P w K (.Tuple elts kk tpos) (IteT K a) [e, it] e (fun i h => (∃ old, IsEnum h e it ((i : Nat) : Int) old) ∧ h.IsTupleIter it a i ∧ e ≠ it ∧ a ≠ it ∧ a ≠ e) where
  mem := by simp
  obj := fun i h st b hb => by
    obtain ⟨⟨old, he⟩, ⟨o, ho, hc, hd⟩, _⟩ := st
    have e' : b = e ∨ b = it := by simpa using hb
    rcases e' with z | z
    · rw [z]; exact ⟨_, he, fun v q => nomatch q⟩
    · rw [z]; exact ⟨o, ho, fun v q => by rw [hd] at q; cases q⟩
  keep := fun i h h' st k => let ⟨⟨old, he⟩, hi, hne⟩ := st; ⟨⟨old, k e (by simp) _ he⟩, hi.at fun o q => k it (by simp) o q, hne⟩
  item := by
    intro X hP hw hK hc i pins s σ H E I hf st hg
    subst hP hw hK
    obtain ⟨⟨old, he⟩, hit, hne, hai, hae⟩ := st
    obtain ⟨xs, x, hq, hx⟩ := hg
    obtain ⟨its, rv, p, hz⟩ := I.tuple hq
    obtain ⟨u, hu, ru⟩ := rv.get hx
    have hel : e < s.heap.objs.size := Heap.lt_size he
    have hil : it < s.heap.objs.size := by obtain ⟨_, q, _⟩ := hit; exact Heap.lt_size q
    have hi : i < its.toArray.size := by simpa using (List.getElem?_eq_some_iff.mp hu).1
    refine wpAny_pyNext_enum_itemD (Draws.tuple (A := X.A.in1) (I.ok.hd hc) it a hai its.toArray) he ⟨hit, p⟩ hi hne (by simp [hne, Ne.symm hae]) fun x' h' tk hx' ho hst hT hsz hk => ?_
    have ex : x' = u := by
      have z : its.toArray[i]? = some x' := hx'
      rw [List.getElem?_toArray, hu] at z
      exact (Option.some.inj z).symm
    subst ex
    refine ⟨_, rfl, wpAny_letOwnedTupleGo_enum (s := { s with heap := h', toks := tk + 1 }) ho fun h'' he' sb => ?_⟩
    have hT2 : h''.get? s.heap.objs.size = some { cls := .type "tuple", data := .seq #[.int i tk, x'] } := (sb.2 _ (Nat.ne_of_gt hel)).trans hT
    have new : ObjOk X.prog X.w (upd H s.heap.objs.size (.tup [.int (i : Nat), x])) h'' s.heap.objs.size (.tup [.int (i : Nat), x]) :=
      ⟨by show 2 ≤ sizeLine; decide, [.int i tk, x'], .cons ⟨_, rfl⟩ (.cons ru .nil), ⟨_, hT2, rfl, _, rfl⟩⟩
    have I1 : Inv X pins σ (upd H s.heap.objs.size (.tup [.int (i : Nat), x])) { s with heap := h'', toks := tk + 1 } :=
      I.turnedNew (ch := [e, it]) (fun b ob hb q => (sb.2 b (fun z => hb (by simp [z]))).trans (hk b ob (fun z => hb (by simp [z])) (fun z => hb (by simp [z])) q)) hf (Nat.le_refl _) new
    refine ⟨.ref s.heap.objs.size, _, I1, rfl, ⟨_, x, rfl, I.hok.fresh (Nat.le_refl _), rfl, fun ys hy => by rw [I.tuple_inj hy hq]; exact hx⟩, ⟨⟨x', ?_⟩, hst.1.at fun o q => (sb.2 it (Ne.symm hne)).trans q, hne, hai, hae⟩, fun b hb => ?_⟩
    · have e1 : ((i + 1 : Nat) : Int) = (i : Int) + 1 := by omega
      rw [e1]; exact he'
    · have hb' : b < s.heap.objs.size := by
        have e' : b = e ∨ b = it := by simpa using hb
        rcases e' with z | z
        · rw [z]; exact hel
        · rw [z]; exact hil
      rw [upd_ne (Nat.ne_of_lt hb')]
      exact (hf b hb).1
  done := by
    intro X hP hw hK hc i pins s σ H E I hf st hg
    subst hP hw hK
    obtain ⟨⟨old, he⟩, hit, hne, hai, hae⟩ := st
    obtain ⟨xs, hq, hx⟩ := hg
    obtain ⟨its, rv, p, hz⟩ := I.tuple hq
    obtain ⟨f0, f1, f2, f3, f4, f5⟩ := hf it (by simp)
    have hl := rv.length
    have e2 : i = its.toArray.size := by simp; omega
    subst e2
    exact wpAny_pyNext_enum_endD (Draws.tuple (A := X.A.in1) (I.ok.hd hc) it a hai its.toArray) he ⟨hit, p⟩ fun h' eb => ⟨rfl, I.turned (t' := s.toks) (fun b o hb q => eb b o hb q) f0 f1 f3 f4 f5⟩
  self := fun A i s Q E st h => let ⟨⟨_, he⟩, _⟩ := st; wpAny_pyIter_enum he h
def iEnumT (K : PySem.W.Frag) (ta : TA) : TI := fun σ H R => ta σ H fun vs H1 => ∃ a xs, vs = [.ref a] ∧ SqT K H1 a xs ∧ R (IteT K a) H1
theorem pi_enumT {X : Cx} {e : Expr} {ta : TA} {p pos tpos : Pos} {elts : List Expr} {kk : Nat} (hg : Gl X "enumerate") (hm : X.mg "enumerate" = none) (ha : PA X [e] ta) (hs : starEach [e] X.env = [(false, eval e X.env)] := by rfl) :
    PI X (.Tuple elts kk tpos) (.Call (.Name "enumerate" p) [e] [] pos) (iEnumT X.K ta) := by
  refine ⟨fun pins s σ H R I h => ?_⟩
  refine Call_ (ld_blt I hg hm boot_enumerate (PyProof.Rows.callWith_type1 (thn (ha.run pos pins s σ H _ I h) fun us s1 ⟨vs, H1, I1, r1, q1⟩ => ?_) hs rfl))
  obtain ⟨a, xs, ex, hq, q⟩ := q1
  subst ex
  cases r1 with
  | cons r rr =>
    cases rr
    cases r
    obtain ⟨its, rv, p', hz⟩ := I1.tuple hq
    have al : a < s1.heap.objs.size := by obtain ⟨_, q, _⟩ := p'; exact Heap.lt_size q
    refine call_enumerateT p' fun h' he hit hsz hk => wpAny_pyIter_enum he ?_
    have I2 : Inv X pins σ H1 { s1 with heap := h' } := I1.kept (t' := s1.toks) hk
    refine ⟨s1.heap.objs.size + 1, [s1.heap.objs.size + 1, s1.heap.objs.size], _, _, H1, rfl, I2, turn_enumT a (s1.heap.objs.size + 1) s1.heap.objs.size, ⟨⟨.none, he⟩, hit, Nat.succ_ne_self _, Nat.ne_of_lt al, Nat.ne_of_lt (Nat.lt_succ_of_lt al)⟩, fun b hb => ?_, q⟩
    have e' : b = s1.heap.objs.size + 1 ∨ b = s1.heap.objs.size := by simpa using hb
    have hle : s1.heap.objs.size ≤ b := by
      rcases e' with z | z
      · rw [z]; exact Nat.le_add_right _ _
      · rw [z]; exact Nat.le_refl _
    exact I1.fpOk hle (I1.hok.fresh hle)
theorem walk_enumT {K : PySem.W.Frag} {a : Addr} {xs : List V} : Walk (IteT K a) xs.length (fun H => SqT K H a xs) (YPair (fun i => some (.int (i : Nat))) (fun i => xs[i]?)) := by
  refine ⟨fun i _ hi q => ⟨xs, xs[i], q, by simp [hi]⟩, fun _ q => ⟨xs, q, rfl⟩, fun i H v H' _ q y => ?_⟩
  obtain ⟨T, x, h1, h2, h3, h4⟩ := y
  exact ⟨T, .int (i : Nat), x, h1, h2, h3, rfl, h4 xs q⟩
-- part ownops
/-! operators of an own class -/
/-- a method of the class at C, by its promise -/
structure Me (P : Program) (w : World) (K : PySem.W.Frag) (mg : Str → Option Value) (base : Heap) (k : Nat) (C : Addr) (m : Str) (sp : Sp) : Prop where
  ex : ∃ (f : Addr) (fd : FuncData) (ps : List Str), Meth K C m f ∧ FnOk P w K mg base CX0 k f fd ps sp ∧ Binds K fd ps []
section
variable {X : Cx} {C : Addr} {m : Str} {sp : Sp} {k j : Nat}
theorem inst_of {pins : List (Addr × Obj)} {σ : L2.St} {H : Hp} {s : Shared} {a dx : Addr} {fs : List (Str × V)} (I : Inv X pins σ H s) (e : H a = some (.ins C dx fs)) : ∃ ox od, PySem.W.InstAt s.heap a ox C od := by
  obtain ⟨mA, O, _⟩ := ins_get I.hok e
  obtain ⟨od, J, _⟩ := O.look
  exact ⟨_, _, J⟩
/-- x op y of two instances -/
def rOwn2 (C : Addr) (sp : Sp) : R2 := fun x y H Q => ∃ a b dx dy fs gs, x = .ref a ∧ y = .ref b ∧ H a = some (.ins C dx fs) ∧ H b = some (.ins C dy gs) ∧ sp [x, y] H Q E0
theorem op_own2 {op : Operator} (c : Me X.prog X.w X.K X.mg X.base k C m sp) (hr : Room j X.A) (sf : PySem.W.selfFirst X.K C = true) (hm : PySem.dunder op.info.2 = m := by decide +kernel) (hk : k ≤ j := by decide) : OpR X (binaryOp op) (rOwn2 C sp) := by
  obtain ⟨f, fd, ps, M, F, b⟩ := c.ex
  intro pins s σ H x y v u Q I rx ry h
  obtain ⟨a, b', dx, dy, fs, gs, rfl, rfl, ha, hb, q⟩ := h
  cases (show v = Value.ref a from rx)
  cases (show u = Value.ref b' from ry)
  obtain ⟨ox, od, J⟩ := inst_of I ha
  obtain ⟨oy, od', J'⟩ := inst_of I hb
  obtain ⟨mm, hF⟩ := I.fr
  refine PySem.W.binop_K hF I.ok.mod.kin J J'.type sf (by rw [hm]; exact M.at_) M.fn ?_
  refine wpAny_mono (run_fn (us := [.ref a, .ref b']) (vs := [.ref a, .ref b']) F (hr.mono hk) b .nil pass0 I (.cons rfl (.cons rfl .nil)) q) (fun u' s' z => ?_) fun _ _ x => x
  obtain ⟨z', H', I', rz, qz⟩ := z
  exact SlX.cmpback rz ⟨z', H', I', rz, qz⟩
/-- op x of an instance -/
def rOwn1 (C : Addr) (sp : Sp) : V → Hp → VK → Prop := fun x H Q => ∃ a dx fs, x = .ref a ∧ H a = some (.ins C dx fs) ∧ sp [x] H Q E0
theorem un_inv1 (c : Me X.prog X.w X.K X.mg X.base k C "__invert__" sp) (hr : Room j X.A) (hk : k ≤ j := by decide) : UnR X (unaryOp .Invert) (rOwn1 C sp) := by
  obtain ⟨f, fd, ps, M, F, b⟩ := c.ex
  intro pins s σ H x v Q I rx h
  obtain ⟨a, dx, fs, rfl, ha, q⟩ := h
  cases (show v = Value.ref a from rx)
  obtain ⟨ox, od, J⟩ := inst_of I ha
  obtain ⟨mm, hF⟩ := I.fr
  exact PySem.W.ksp_inv hF I.ok.mod.kin J M.at_ M.fn (run_fn (us := [.ref a]) (vs := [.ref a]) F (hr.mono hk) b .nil pass0 I (.cons rfl .nil) q)
theorem un_neg1 (c : Me X.prog X.w X.K X.mg X.base k C "__neg__" sp) (hr : Room j X.A) (hk : k ≤ j := by decide) : UnR X (unaryOp .USub) (rOwn1 C sp) := by
  obtain ⟨f, fd, ps, M, F, b⟩ := c.ex
  intro pins s σ H x v Q I rx h
  obtain ⟨a, dx, fs, rfl, ha, q⟩ := h
  cases (show v = Value.ref a from rx)
  obtain ⟨ox, od, J⟩ := inst_of I ha
  obtain ⟨mm, hF⟩ := I.fr
  exact PySem.W.ksp_neg hF I.ok.mod.kin J M.at_ M.fn (run_fn (us := [.ref a]) (vs := [.ref a]) F (hr.mono hk) b .nil pass0 I (.cons rfl .nil) q)
/-- x in y, y an instance: the answer a bool -/
def rOwnIn (neg : Bool) (C : Addr) (sp : Sp) : R2 := fun x y H Q => ∃ b dx fs, y = .ref b ∧ H b = some (.ins C dx fs) ∧ sp [y, x] H (fun v H' => ∃ c : Bool, v = .bl c ∧ Q (.bl (if neg then !c else c)) H') E0
theorem op_in_own (c : Me X.prog X.w X.K X.mg X.base k C "__contains__" sp) (hr : Room j X.A) (hk : k ≤ j := by decide) : OpR X (compareOp .In) (rOwnIn false C sp) := by
  obtain ⟨f, fd, ps, M, F, b⟩ := c.ex
  intro pins s σ H x y v u Q I rx ry h
  obtain ⟨a, dx, fs, rfl, ha, q⟩ := h
  cases (show u = Value.ref a from ry)
  obtain ⟨ox, od, J⟩ := inst_of I ha
  obtain ⟨mm, hF⟩ := I.fr
  refine PySem.W.in_K hF I.ok.mod.kin J M.at_ M.fn (wpAny_mono (run_fn (us := [.ref a, v]) (vs := [.ref a, x]) F (hr.mono hk) b .nil pass0 I (.cons rfl (.cons rx .nil)) q) (fun u' s' z => ?_) fun _ _ x => x)
  obtain ⟨z', H', I', rz, d, ez, qz⟩ := z
  subst ez
  cases (show u' = Value.bool d from rz)
  exact wpAny_truthy_bool ⟨.bl d, H', I', rfl, qz⟩
theorem op_notIn_own (c : Me X.prog X.w X.K X.mg X.base k C "__contains__" sp) (hr : Room j X.A) (hk : k ≤ j := by decide) : OpR X (compareOp .NotIn) (rOwnIn true C sp) := by
  obtain ⟨f, fd, ps, M, F, b⟩ := c.ex
  intro pins s σ H x y v u Q I rx ry h
  obtain ⟨a, dx, fs, rfl, ha, q⟩ := h
  cases (show u = Value.ref a from ry)
  obtain ⟨ox, od, J⟩ := inst_of I ha
  obtain ⟨mm, hF⟩ := I.fr
  refine PySem.W.notIn_K hF I.ok.mod.kin J M.at_ M.fn (wpAny_mono (run_fn (us := [.ref a, v]) (vs := [.ref a, x]) F (hr.mono hk) b .nil pass0 I (.cons rfl (.cons rx .nil)) q) (fun u' s' z => ?_) fun _ _ x => x)
  obtain ⟨z', H', I', rz, d, ez, qz⟩ := z
  subst ez
  cases (show u' = Value.bool d from rz)
  exact wpAny_truthy_bool ⟨.bl (!d), H', I', rfl, qz⟩
/-- x == y of two instances -/
theorem op_eq_own (c : Me X.prog X.w X.K X.mg X.base k C "__eq__" sp) (hr : Room j X.A) (hk : k ≤ j := by decide) : OpR X (compareOp .Eq) (rOwn2 C sp) := by
  obtain ⟨f, fd, ps, M, F, b⟩ := c.ex
  intro pins s σ H x y v u Q I rx ry h
  obtain ⟨a, b', dx, dy, fs, gs, rfl, rfl, ha, hb, q⟩ := h
  cases (show v = Value.ref a from rx)
  cases (show u = Value.ref b' from ry)
  obtain ⟨ox, od, J⟩ := inst_of I ha
  obtain ⟨oy, od', J'⟩ := inst_of I hb
  obtain ⟨mm, hF⟩ := I.fr
  show wpAny _ _ (richCompare .Eq (.ref a) (.ref b')) _ _ _
  refine PySem.W.cmp_K (op := .Eq) (tb := .ref C) hr.units0 hF I.ok.mod.kin J J'.type (by unfold PySem.W.notFirst; simp) M.at_ M.fn ?_
  refine wpAny_mono (run_fn (us := [.ref a, .ref b']) (vs := [.ref a, .ref b']) F (hr.mono hk) b .nil pass0 I (.cons rfl (.cons rfl .nil)) q) (fun u' s' z => ?_) fun _ _ x => x
  obtain ⟨z', H', I', rz, qz⟩ := z
  exact SlX.cmpback rz ⟨z', H', I', rz, qz⟩
/-- the truth of an instance, by its __bool__ -/
def rTruOwn (C : Addr) (sp : Sp) : V → Hp → (Bool → Hp → Prop) → Prop := fun x H Q => ∃ a dx fs, x = .ref a ∧ H a = some (.ins C dx fs) ∧ sp [x] H (fun v H' => ∃ c : Bool, v = .bl c ∧ Q c H') E0
theorem tru_own (c : Me X.prog X.w X.K X.mg X.base k C "__bool__" sp) (hr : Room j X.A) (hk : k ≤ j := by decide) : TruR X (rTruOwn C sp) := by
  obtain ⟨f, fd, ps, M, F, b⟩ := c.ex
  intro pins s σ H x v Q I rx h
  obtain ⟨a, dx, fs, rfl, ha, q⟩ := h
  cases (show v = Value.ref a from rx)
  obtain ⟨ox, od, J⟩ := inst_of I ha
  obtain ⟨mm, hF⟩ := I.fr
  refine PySem.W.truthy_K hF I.ok.mod.kin J M.at_ M.fn (wpAny_mono (run_fn (us := [.ref a]) (vs := [.ref a]) F (hr.mono hk) b .nil pass0 I (.cons rfl .nil) q) (fun u' s' z => ?_) fun _ _ x => x)
  obtain ⟨z', H', I', rz, d, ez, qz⟩ := z
  subst ez
  cases (show u' = Value.bool d from rz)
  exact ⟨H', I', qz⟩
end
/-- a class that makes instances, its __init__ by its promise (it may raise, and here doesn't) -/
structure Ma (P : Program) (w : World) (K : PySem.W.Frag) (mg : Str → Option Value) (base : Heap) (k : Nat) (C : Addr) (sp : Sp) : Prop where
  ex : ∃ (f : Addr) (fd : FuncData) (ps : List Str), Mk K C f ∧ FnOk P w K mg base (L2N.CX P w) k f fd ps sp ∧ Binds K fd ps []
section
variable {X : Cx} {C : Addr} {x : Str} {sp : Sp} {k j i : Nat} {p pos : Pos} {e : Expr} {es : List Expr} {t : TA}
theorem pe_ma (c : Ma X.prog X.w X.K X.mg X.base k C sp) (hr : Room j X.A) (hm : X.mg x = some (.ref C)) (ha : PA X (e :: es) t) (hk : k + 1 ≤ j := by decide) (hg : Gl X x := by rfl)
    (hdb : (x == ("__debug__" : Str)) = false := by decide) (he : starEach (e :: es) X.env = (false, eval e X.env) :: starEach es X.env := by rfl) (hpl : (backTo pos (starEach es X.env)).any (·.1) = false := by rfl) :
    PE X (.Call (.Name x p) (e :: es) [] pos) (tMake C sp [] E0 t) := by
  obtain ⟨f, fd, ps, M, F, b⟩ := c.ex
  exact pe_make M F (hr.mono hk) hg hm b .nil passN ha hdb he hpl
/-- cls(..), cls a parameter that holds the class -/
def tMakeL (i : Nat) (C : Addr) (sp : Sp) (t : TA) : TE := fun σ H Q => σ[i]? = some (some (.ref C)) ∧ tMake C sp [] E0 t σ H Q
theorem pe_maL (c : Ma X.prog X.w X.K X.mg X.base k C sp) (hr : Room j X.A) (hN : X.N[i]? = some x) (ha : PA X (e :: es) t) (hk : k + 1 ≤ j := by decide)
    (hv : Vis X.env.scope x := by first | exact Or.inl rfl | exact Or.inr (Or.inl rfl) | exact Or.inr (Or.inr rfl))
    (hdb : (x == ("__debug__" : Str)) = false := by decide) (hcd : (x == ("__classdict__" : Str)) = false := by decide)
    (he : starEach (e :: es) X.env = (false, eval e X.env) :: starEach es X.env := by rfl) (hpl : (backTo pos (starEach es X.env)).any (·.1) = false := by rfl) :
    PE X (.Call (.Name x p) (e :: es) [] pos) (tMakeL i C sp t) := by
  obtain ⟨f, fd, ps, M, F, b⟩ := c.ex
  refine ⟨fun pins s σ H Q I h => ?_⟩
  obtain ⟨at_i, rest⟩ := h
  refine wpAny_Call_Name_kw (thn ((pe_var (pos := p) hN hv hdb hcd).run pins s σ H (fun v G => v = .ref C ∧ G = H) I ⟨.ref C, at_i, rfl, rfl⟩) fun u s1 ⟨v, G, I1, r1, e1, e2⟩ => ?_)
  subst e1
  subst e2
  cases r1
  refine PySem.W.callWith_K (h₀ := X.base) I.ok.mod.kin M.kp (thn (ha.run pos pins s1 σ _ _ I1 rest) fun us s2 ⟨vs, G2, I2, r, q⟩ => ⟨I2.kIn, ?_⟩) he hpl
  exact run_make M F (hr.mono hk) b .nil passN I2 r q
end
-- part ownops2
/-! bool(x) and x == y, where y is no instance; classmethods by FnR; C(..) in a try -/
section
variable {X : Cx} {C : Addr} {m : Str} {sp : Sp} {k j : Nat}
/-- bool(x) of an instance -/
def rBoolOwn (C : Addr) (sp : Sp) : List V → Hp → VK → Prop := fun xs H Q => ∃ a dx fs, xs = [.ref a] ∧ H a = some (.ins C dx fs) ∧ sp [.ref a] H (fun v H' => ∃ c : Bool, v = .bl c ∧ Q (.bl c) H') E0
theorem new_bool_any {prog : Program} {w : World} (x : Value) : MeetsIn prog w (Builtin.«bool.__new__» ⟨[.type "bool", x], []⟩)
    (fun A R s => wpAny (model prog w) A.in1 (truthy x) (fun b s1 => R (.ok (.ret (.bool b))) s1) (fun e s1 => R (.error e) s1) s) :=
  .of_wp fun A R s h => by
    have no_bool := F.conv_sub_bool
    unfold Builtin.«bool.__new__»
    generalize same : truthy = TX
    wp_walk
    subst same
    refine wpAny_mono h (fun b s1 hR => ?_) fun _ _ z => z
    exact wpAny_pure ⟨_, rfl, hR⟩
theorem cr_boolOwn (c : Me X.prog X.w X.K X.mg X.base k C "__bool__" sp) (hr : Room j X.A) (hk : k + 2 ≤ j := by decide) : CallR X (.type "bool") (rBoolOwn C sp) := by
  obtain ⟨f, fd, ps, M, F, b⟩ := c.ex
  intro pins s σ H xs us Q I r h
  obtain ⟨a, dx, fs, rfl, ha, q⟩ := h
  obtain rfl := Vals.ref1 r
  obtain ⟨ox, od, J⟩ := inst_of I ha
  obtain ⟨mm, hF⟩ := I.fr
  have many : ([Value.ref a] : List Value).length = ps.length := F.len [.ref a] _ _ _ q
  have bound := b s [.ref a] I.kIn (by rw [List.append_nil]; exact many)
  rw [List.append_nil] at bound
  refine callType_newIn PySem.F.called_bool PySem.F.newNe_bool (PySem.F.typeCall_bool_1 _) (PySem.F.newCall_bool_1 _) (fun obj => PySem.F.args_object_init_2 obj _) PySem.F.entry_bool_new (new_bool_any _) ?_
  refine PySem.W.truthy_K hF I.ok.mod.kin J M.at_ M.fn (wpAny_call (codeAny_mono (F.run _ X.stack s H ⟨[.ref a], []⟩ [.ref a] [.ref a] _ E0 ((hr.mono hk).in1.in1) (I.env0.in1.in1) bound (.cons rfl .nil) q) fun r s' hq => ?_))
  cases r with
  | error e => exact False.elim hq
  | ok fl =>
    cases fl with
    | ret u =>
      obtain ⟨z', H', I', rz, d, ez, qz⟩ := I.after hq
      subst ez
      cases (show u = Value.bool d from rz)
      exact ⟨rfl, .bl d, H', I', rfl, qz⟩
    | next => exact False.elim hq
    | brk => exact False.elim hq
    | cont => exact False.elim hq
/-- x == y, y a tuple -/
def rOwnT (C : Addr) (sp : Sp) : R2 := fun x y H Q => ∃ a b dx fs zs, x = .ref a ∧ y = .ref b ∧ H a = some (.ins C dx fs) ∧ H b = some (.tup zs) ∧ sp [x, y] H Q E0
theorem op_eq_ownT (c : Me X.prog X.w X.K X.mg X.base k C "__eq__" sp) (hr : Room j X.A) (nf : PySem.W.subIn X.K (.type "tuple") (.ref C) = some false) (hk : k ≤ j := by decide) : OpR X (compareOp .Eq) (rOwnT C sp) := by
  obtain ⟨f, fd, ps, M, F, b⟩ := c.ex
  intro pins s σ H x y v u Q I rx ry h
  obtain ⟨a, b', dx, fs, zs, rfl, rfl, ha, hb, q⟩ := h
  cases (show v = Value.ref a from rx)
  cases (show u = Value.ref b' from ry)
  obtain ⟨ox, od, J⟩ := inst_of I ha
  obtain ⟨_, _, _, o, h1, h2, _⟩ := (show ObjOk X.prog X.w H s.heap b' (.tup zs) from I.hok b' _ hb)
  obtain ⟨mm, hF⟩ := I.fr
  show wpAny _ _ (richCompare .Eq (.ref a) (.ref b')) _ _ _
  refine PySem.W.cmp_K (op := .Eq) (tb := .type "tuple") hr.units0 hF I.ok.mod.kin J (fun A Q E s k q => wpAny_typeOf_ref (k _ _ h1) (by rw [h2]; exact q)) (by unfold PySem.W.notFirst; rw [nf]; simp) M.at_ M.fn ?_
  refine wpAny_mono (run_fn (us := [.ref a, .ref b']) (vs := [.ref a, .ref b']) F (hr.mono hk) b .nil pass0 I (.cons rfl (.cons rfl .nil)) q) (fun u' s' z => ?_) fun _ _ x => x
  obtain ⟨z', H', I', rz, qz⟩ := z
  exact SlX.cmpback rz ⟨z', H', I', rz, qz⟩
end
/-- a classmethod by what its call does -/
structure CmR (P : Program) (w : World) (K : PySem.W.Frag) (mg : Str → Option Value) (base : Heap) (k : Nat) (C : Addr) (m : Str) (sp : Sp) : Prop where
  ex : ∃ (mc : Value) (p g : Addr), ClX.CRead K C mc ∧ ClX.CMet K C mc m p g ∧ FnR P w K mg base CX0 k g sp
theorem pe_cmR {X : Cx} {C : Addr} {m : Str} {sp : Sp} {k j : Nat} {o e : Expr} {es : List Expr} {ta : TE} {t : TA} {apos pos : Pos} {pl : Sem Bool} (c : CmR X.prog X.w X.K X.mg X.base k C m sp) (hr : Room j X.A) (he : PE X o ta) (ha : PA X (e :: es) t) (hk : k ≤ j := by decide)
    (hst : starEach (e :: es) X.env = (false, eval e X.env) :: starEach es X.env := by rfl) (hpl : (backTo pos (starEach es X.env)).any (·.1) = false := by rfl)
    (ht : eval (.Call (.Attribute o m apos) (e :: es) [] pos) X.env = (do
      let got ← eval o X.env
      standAt apos.atName
      let (fn, fst) ← holding [got] (getMethod got m pl)
      callWith pos fn fst (backTo pos (starEach (e :: es) X.env)) (backToKw pos (keywordEach [] X.env))) := by rfl) :
    PE X (.Call (.Attribute o m apos) (e :: es) [] pos) (ClX.tCMeth C sp E0 ta t) := by
  obtain ⟨mc, p, g, r, c, F⟩ := c.ex
  exact ClX.pe_cmeth he r c F (hr.mono hk) pass0 ha hst hpl ht
theorem pe_cmR0 {X : Cx} {C : Addr} {m : Str} {sp : Sp} {k j : Nat} {o : Expr} {ta : TE} {apos pos : Pos} {pl : Sem Bool} (c : CmR X.prog X.w X.K X.mg X.base k C m sp) (hr : Room j X.A) (he : PE X o ta) (hk : k ≤ j := by decide)
    (ht : eval (.Call (.Attribute o m apos) [] [] pos) X.env = (do
      let got ← eval o X.env
      standAt apos.atName
      let (fn, fst) ← holding [got] (getMethod got m pl)
      callWith pos fn fst (backTo pos (starEach [] X.env)) (backToKw pos (keywordEach [] X.env))) := by rfl) :
    PE X (.Call (.Attribute o m apos) [] [] pos) (ClX.tCMeth C sp E0 ta tNil) := by
  obtain ⟨mc, p, g, r, c, F⟩ := c.ex
  refine ⟨fun pins s σ H Q I h => ?_⟩
  refine PySem.W.methodCall_KW (pl := pl) (thn (he.run pins s σ H _ I h) fun u s1 ⟨x, H1, I1, rx, ex, q⟩ => ?_) ht
  subst ex
  obtain rfl : u = Value.ref C := rx
  refine ClX.getmethcm_ok I1 r c fun s2 I2 => ?_
  have hq := ClX.pin_at I2
  show wpAny _ _ (callWith pos (Value.ref s1.heap.objs.size) [] (backTo pos (starEach [] X.env)) []) _ _ _
  refine PySem.W.callWith_M0 (K := X.K) (g := g) (self := .ref C) ?_ c.fi ?_
  · exact ⟨hq, I2.kIn⟩
  · exact ClX.run_cm (us := []) (vs := []) F (hr.mono hk) pass0 I2 .nil q
/-- C(..) whose __init__ may raise, in a try that takes it -/
def tMakeS (C : Addr) (sp : Sp) (E : L2.St → XK) (t : TA) : TE := fun σ H Q => tMake C sp [] (E σ) t σ H Q
theorem pe_maX {X : Cx} {W : WX} {C : Addr} {x : Str} {sp : Sp} {k j : Nat} {p pos : Pos} {e : Expr} {es : List Expr} {t : TA} (c : Ma X.prog X.w X.K X.mg X.base k C sp) (hr : Room j X.A) (tk : L2N.Takes X W) (hm : X.mg x = some (.ref C)) (ha : PA X (e :: es) t) (hk : k + 1 ≤ j := by decide) (hg : Gl X x := by rfl)
    (hdb : (x == ("__debug__" : Str)) = false := by decide) (he : starEach (e :: es) X.env = (false, eval e X.env) :: starEach es X.env := by rfl) (hpl : (backTo pos (starEach es X.env)).any (·.1) = false := by rfl) :
    PE X (.Call (.Name x p) (e :: es) [] pos) (tMakeS C sp (WE W) t) := by
  obtain ⟨f, fd, ps, M, F, b⟩ := c.ex
  refine ⟨fun pins s σ H Q I h => ?_⟩
  refine wpAny_Call_Name_kw (ld_glob I hg hm ?_ hdb)
  refine PySem.W.callWith_K (h₀ := X.base) I.ok.mod.kin M.kp (thn (ha.run pos pins s σ H _ I h) fun us s1 ⟨vs, H1, I1, r, q⟩ => ⟨I1.kIn, ?_⟩) he hpl
  generalize ez : s1.heap.objs.size = z
  have le0 : s1.heap.objs.size ≤ z := by rw [ez]; exact Nat.le_refl z
  have asks := q (z + 1) z (I1.hok.fresh (Nat.le_succ_of_le le0)) (I1.hok.fresh le0) (Nat.ne_of_lt (Nat.lt_succ_self z))
  have laid := Inv.made (C := C) I1
  rw [ez] at laid
  have rel : Vals (V.ref (z + 1) :: vs) (Value.ref (z + 1) :: us) := .cons rfl r
  rw [List.append_nil] at asks
  have many : (Value.ref (z + 1) :: us).length = ps.length := by
    rw [← rel.length]
    exact F.len _ _ _ _ asks
  have bound := b _ (Value.ref (z + 1) :: us) laid.kIn (by rw [List.append_nil]; exact many)
  rw [List.append_nil] at bound
  have runs := F.run _ X.stack _ _ ⟨Value.ref (z + 1) :: us, []⟩ (Value.ref (z + 1) :: us) _ _ (WE W σ) ((hr.mono hk).make C us []) (laid.env0.make C us []) bound rel asks
  subst ez
  refine wpAny_call (make_map (f := f) I1.kIn M.makes M.init (beq_iff_eq.mp M.fn) (codeAny_mono runs fun r' s' back => ?_))
  cases r' with
  | error er => exact L2N.passAt tk σ pins _ _ er s' laid back
  | ok fl =>
    cases fl with
    | ret u =>
      obtain ⟨v, H', I3, rv, ev, q3⟩ := laid.after back
      subst ev
      cases (show u = Value.none from rv)
      exact ⟨rfl, .ref _, H', I3, rfl, q3⟩
    | next => exact False.elim back
    | brk => exact False.elim back
    | cont => exact False.elim back
theorem kit_ownF {C : Addr} {U : String} (h2 : PySem.W.isClsIn K C = true) (h3 : PySem.W.typeIn K (.ref C) = some (.type "type")) (h : PySem.W.subIn K (.type U) (.ref C) = some false) : PySem.W.kitOne K (.type U) (.ref C) = some false := by
  have h2' : (PySem.W.clsIn K C).isSome = true := h2
  have e2 : ((PySem.W.clsIn K C).isSome && PySem.W.typeIn K (.ref C) == some (.type "type")) = true := by rw [h2', h3] <;> rfl
  unfold PySem.W.kitOne
  rw [if_neg (by simp)]
  show (if ((PySem.W.clsIn K C).isSome && PySem.W.typeIn K (.ref C) == some (.type "type")) = true then PySem.W.subIn K (.type U) (.ref C) else none) = some false
  rw [if_pos e2]
  exact h
-- part clsm
/-- a call of a classmethod without arguments -/
structure Cm (P : Program) (w : World) (K : PySem.W.Frag) (mg : Str → Option Value) (base : Heap) (k : Nat) (C : Addr) (m : Str) (sp : Sp) : Prop where
  ex : ∃ (mc : Value) (p g : Addr) (fd : FuncData) (ps : List Str), ClX.CRead K C mc ∧ ClX.CMet K C mc m p g ∧ FnOk P w K mg base CX0 k g fd ps sp ∧ Binds K fd ps []
theorem fnR_of {P : Program} {w : World} {K : PySem.W.Frag} {mg : Str → Option Value} {base : Heap} {CX : CXT} {k : Nat} {f : Addr} {fd : FuncData} {ps : List Str} {sp : Sp} (F : FnOk P w K mg base CX k f fd ps sp) (b : Binds K fd ps []) : FnR P w K mg base CX k f sp :=
  fun A outer s H us vs Q E hr e0 r h => by
    have hl : us.length = ps.length := by
      rw [← r.length]
      exact F.len _ _ _ _ h
    have z := b s us (e0.mod.kin.keeps fun b o e => (e0.bs b o e).1) (by rw [List.append_nil]; exact hl)
    rw [List.append_nil] at z
    exact F.run A outer s H ⟨us, []⟩ us vs Q E hr e0 z r h
theorem pe_cm {X : Cx} {C : Addr} {m : Str} {sp : Sp} {k j : Nat} {o e : Expr} {es : List Expr} {ta : TE} {t : TA} {apos pos : Pos} {pl : Sem Bool} (c : Cm X.prog X.w X.K X.mg X.base k C m sp) (hr : Room j X.A) (he : PE X o ta) (ha : PA X (e :: es) t) (hk : k ≤ j := by decide)
    (hst : starEach (e :: es) X.env = (false, eval e X.env) :: starEach es X.env := by rfl) (hpl : (backTo pos (starEach es X.env)).any (·.1) = false := by rfl)
    (ht : eval (.Call (.Attribute o m apos) (e :: es) [] pos) X.env = (do
      let got ← eval o X.env
      standAt apos.atName
      let (fn, fst) ← holding [got] (getMethod got m pl)
      callWith pos fn fst (backTo pos (starEach (e :: es) X.env)) (backToKw pos (keywordEach [] X.env))) := by rfl) :
    PE X (.Call (.Attribute o m apos) (e :: es) [] pos) (ClX.tCMeth C sp E0 ta t) := by
  obtain ⟨mc, p, g, fd, ps, r, c, F, b⟩ := c.ex
  exact ClX.pe_cmeth he r c (fnR_of F b) (hr.mono hk) pass0 ha hst hpl ht
theorem pe_cm0 {X : Cx} {C : Addr} {m : Str} {sp : Sp} {k j : Nat} {o : Expr} {ta : TE} {apos pos : Pos} {pl : Sem Bool} (c : Cm X.prog X.w X.K X.mg X.base k C m sp) (hr : Room j X.A) (he : PE X o ta) (hk : k ≤ j := by decide)
    (ht : eval (.Call (.Attribute o m apos) [] [] pos) X.env = (do
      let got ← eval o X.env
      standAt apos.atName
      let (fn, fst) ← holding [got] (getMethod got m pl)
      callWith pos fn fst (backTo pos (starEach [] X.env)) (backToKw pos (keywordEach [] X.env))) := by rfl) :
    PE X (.Call (.Attribute o m apos) [] [] pos) (ClX.tCMeth C sp E0 ta tNil) := by
  obtain ⟨mc, p, g, fd, ps, r, c, F, b⟩ := c.ex
  refine ⟨fun pins s σ H Q I h => ?_⟩
  refine PySem.W.methodCall_KW (pl := pl) (thn (he.run pins s σ H _ I h) fun u s1 ⟨x, H1, I1, rx, ex, q⟩ => ?_) ht
  subst ex
  obtain rfl : u = Value.ref C := rx
  have notin : X.base.get? s1.heap.objs.size = none := by
    cases z : X.base.get? s1.heap.objs.size with
    | none => rfl
    | some o => exact absurd (Heap.lt_size (I1.bk _ o z)) (Nat.lt_irrefl _)
  refine ClX.getmethcm_ok I1 r c fun s2 I2 => ?_
  have hq := ClX.pin_at I2
  have hL : s1.heap.objs.size ≠ X.env.locals := (I2.pin (s1.heap.objs.size, PySem.W.methodObj (.ref g) (.ref C)) (List.mem_append_right _ List.mem_cons_self)).2.2.1
  show wpAny _ _ (callWith pos (Value.ref s1.heap.objs.size) [] (backTo pos (starEach [] X.env)) []) _ _ _
  refine PySem.W.callWith_M0 (K := X.K) (g := g) (self := .ref C) ?_ c.fi ?_
  · exact ⟨hq, I2.kIn⟩
  · have z := ClX.run_cm (us := []) (vs := []) (fnR_of F b) (hr.mono hk) pass0 I2 .nil q
    exact z
-- part meths
/-! o.m(..) of an own class, by its promise -/
section
variable {X : Cx} {C : Addr} {m : Str} {sp : Sp} {k j : Nat} {o e : Expr} {es : List Expr} {ta : TE} {t : TA} {apos pos : Pos} {pl : Sem Bool}
theorem pe_me0 (c : Me X.prog X.w X.K X.mg X.base k C m sp) (cl : Cls X.K C) (hr : Room j X.A) (he : PE X o ta) (hk : k ≤ j := by decide)
    (ht : eval (.Call (.Attribute o m apos) [] [] pos) X.env = (do
      let ov ← eval o X.env
      standAt apos.atName
      let (f, first) ← holding [ov] (getMethod ov m pl)
      callWith pos f first (backTo pos (starEach [] X.env)) (backToKw pos (keywordEach [] X.env))) := by rfl) :
    PE X (.Call (.Attribute o m apos) [] [] pos) (tMeth C m sp [] E0 ta tNil) := by
  obtain ⟨f, fd, ps, M, F, b⟩ := c.ex
  exact pe_meth0 he cl M F (hr.mono hk) b .nil pass0 ht
theorem pe_me (c : Me X.prog X.w X.K X.mg X.base k C m sp) (cl : Cls X.K C) (hr : Room j X.A) (he : PE X o ta) (ha : PA X (e :: es) t) (hk : k ≤ j := by decide)
    (hst : starEach (e :: es) X.env = (false, eval e X.env) :: starEach es X.env := by rfl) (hpl : (backTo pos (starEach es X.env)).any (·.1) = false := by rfl)
    (ht : eval (.Call (.Attribute o m apos) (e :: es) [] pos) X.env = (do
      let ov ← eval o X.env
      standAt apos.atName
      let (f, first) ← holding [ov] (getMethod ov m pl)
      callWith pos f first (backTo pos (starEach (e :: es) X.env)) (backToKw pos (keywordEach [] X.env))) := by rfl) :
    PE X (.Call (.Attribute o m apos) (e :: es) [] pos) (tMeth C m sp [] E0 ta t) := by
  obtain ⟨f, fd, ps, M, F, b⟩ := c.ex
  exact pe_meth he cl M F (hr.mono hk) b .nil pass0 ha hst hpl ht
end
/-- a class whose instances are called, by the promise of its __call__ -/
structure Co (P : Program) (w : World) (K : PySem.W.Frag) (mg : Str → Option Value) (base : Heap) (k : Nat) (C : Addr) (sp : Sp) : Prop where
  ex : ∃ g, StX.CallO K C g ∧ FnR P w K mg base CX0 k g sp
def tCallI (C : Addr) (sp : Sp) (tf : TE) (t : TA) : TE := fun σ H Q => tf σ H fun y H1 => ∃ a, y = V.ref a ∧ t σ H1 fun vs H2 => ((∃ dx vs, SlX.Slt H2 a C dx vs) ∨ ∃ dx fs, H2 a = some (.ins C dx fs)) ∧ sp (V.ref a :: vs) H2 Q E0
theorem pe_inst {X : Cx} {C : Addr} {sp : Sp} {k j : Nat} {fe e : Expr} {es : List Expr} {tf : TE} {t : TA} {pos : Pos} (c : Co X.prog X.w X.K X.mg X.base k C sp) (hr : Room j X.A) (hf : PE X fe tf) (ha : PA X (e :: es) t) (hk : k ≤ j := by decide)
    (ht : eval (.Call fe (e :: es) [] pos) X.env = (do callWith pos (← eval fe X.env) [] (backTo pos (starEach (e :: es) X.env)) (backToKw pos (keywordEach [] X.env))) := by rfl)
    (he : starEach (e :: es) X.env = (false, eval e X.env) :: starEach es X.env := by rfl) (hpl : (backTo pos (starEach es X.env)).any (·.1) = false := by rfl) :
    PE X (.Call fe (e :: es) [] pos) (tCallI C sp tf t) := by
  obtain ⟨g, c, F⟩ := c.ex
  exact StX.pe_callO hf c F (hr.mono hk) pass0 ha ht he hpl
-- part errpa
/-! own errors of one attribute whose __init__ asks something of the argument -/
def spInitP (C : Addr) (fld : Str) (ok : V → Prop) : Sp := fun vs H Q _ => ∃ (a : Addr) (v : V), vs = [.ref a, v] ∧ ok v ∧ H a = some (exo a C none) ∧
  ∀ d, H d = none → d ≠ a → Q .non (upd (upd H d (exd d [(fld, v)])) a (exo a C (some d)))
structure ErP (P : Program) (w : World) (K : PySem.W.Frag) (mg : Str → Option Value) (base : Heap) (nm fld : Str) (C : Addr) (ok : V → Prop) : Prop where
  ex : ∃ (fI : Addr) (fd : FuncData) (ps : List Str), ErrC K mg nm fld C fI ∧ FnOk P w K mg base CX0 1 fI fd ps (spInitP C fld ok) ∧ Binds K fd ps []
theorem ps_raiseP {X : Cx} {W : WX} {x fld : Str} {C : Addr} {ok : V → Prop} {j : Nat} {e : Expr} {ta : TA} {p pos pos' : Pos} (c : ErP X.prog X.w X.K X.mg X.base x fld C ok) (hr : Room j X.A) (tk : L2N.Takes X W) (ha : PA X [e] ta) (hj : 2 ≤ j := by decide) (hcalm : X.calm = true := by rfl) (hg : Gl X x := by rfl)
    (hdb : (x == ("__debug__" : Str)) = false := by decide) (he : starEach [e] X.env = (false, eval e X.env) :: starEach [] X.env := by rfl) (hpl : (backTo pos (starEach [] X.env)).any (·.1) = false := by rfl) :
    PS X (.Raise (some (.Call (.Name x p) [e] [] pos)) none pos') (fun _ σ H => tMkO C (spInitP C fld ok) [] ta σ H fun cls d H' => W cls d σ H') := by
  obtain ⟨fI, fd, ps, T, F, b⟩ := c.ex
  exact L2N.ps_raise hcalm tk (pmk_oexN (X := X) (p := p) (pos := pos) T.oex T.iC T.tI F (hr.mono hj) b .nil hg T.g ha hdb he hpl)
theorem mkP {C : Addr} {fld : Str} {ok : V → Prop} {v : V} {H1 : Hp} {Q : XK} (o : ok v) (k : ∀ d H2, Same H1 H2 → H1 d = none → H2 d = some (.xd [(fld, v)]) → Q (.ref C) (some d) H2) :
    ([v] : List V).length ≤ 1000 ∧ ∀ a, H1 a = none → spInitP C fld ok (.ref a :: ([v] ++ [])) (upd H1 a (exo a C none))
      (fun u H2 => u = .non ∧ ∃ (d : Addr) (fs : List (Str × V)), H2 a = some (exo a C (some d)) ∧ H2 d = some (exd d fs) ∧ H1 d = none ∧ Q (.ref C) (some d) (upd (del H2 a) d (.xd fs))) (fun _ _ _ => False) := by
  obtain ⟨h1, h2⟩ := mk1 (C := C) (fld := fld) (v := v) (H1 := H1) (Q := Q) k
  refine ⟨h1, fun a ha => ?_⟩
  obtain ⟨a', v', e, ha', q⟩ := h2 a ha
  exact ⟨a', v', e, by rw [show v' = v from by simpa using (List.cons.inj (List.cons.inj e).2).1.symm]; exact o, ha', q⟩
/-- an index that is written in a message -/
def okNat : V → Prop := fun v => ∃ n : Nat, v = .int (n : Int) ∧ n < 2 ^ 62
theorem log_nat {n : Nat} (h : n < 2 ^ 62) : (n : Int).natAbs.log2 < 1920 := by
  show n.log2 < 1920
  by_cases c : n = 0
  · rw [c]
    decide
  · have := (Nat.log2_lt c).mpr h
    omega
theorem str_len (x : Str) : x.length = (TL.tl x).length := TL.len_tl x
theorem num_len {n : Nat} (h : n < 2 ^ 62) : (Str.ofString (toString (n : Int))).length ≤ 19 := by
  rw [str_len, TL.tl_num]
  exact TL.numL_len (by decide) (Nat.lt_of_lt_of_le h (by decide))
theorem app_len (x y : Str) : (x ++ y).length = x.length + y.length := by
  rw [str_len, TL.tl_append, List.length_append, ← str_len, ← str_len]
theorem empty_app (x : Str) : Str.empty ++ x = x := TL.ext_tl (by rw [TL.tl_append] <;> rfl)
-- part errm
abbrev s_ibr : Stmt := inClass (top 4) 0
theorem sc_ibr : FnScope ["self", "at"] ["self", "at"] (defScope s_ibr) := ⟨rfl, rfl, rfl, by decide +kernel, rfl, by decide +kernel, by decide +kernel⟩
theorem ok_ibr {f C CF : Addr} {fd : FuncData} (TF : FErr K mg CF) (hC : OexC K C) (hno : PySem.W.findIn K (.ref C) "at" = some none) (F : Fun K "__init__" "BadRow.__init__" s_ibr f fd) : FnOk P w K mg base CX0 1 f fd ["self", "at"] (spInitP C "at" okNat) := by
  refine F.ok sc_ibr (fun vs H Q E h => ?_) (fun cdv A outer s H vs Q E hr h => ?_)
  · obtain ⟨a, v, rfl, _⟩ := h
    rfl
  · obtain ⟨a, v, rfl, ⟨n, rfl, hn⟩, ha, q⟩ := h
    have ln := num_len hn
    have m1 : ("the row with index " : Str).length ≤ 100 := by decide +kernel
    have m2 : (" is not as long as the first one" : Str).length ≤ 100 := by decide +kernel
    refine ⟨_, (pss_cons (ps_expr (pe_feinit TF (pa_cons (pv 0) (pa_cons (pe_joined (.cons pe_str (.cons (pe_fmt (pv 1)) (.cons pe_str .nil)))) pa_nil))))
 (pss_one (ps_ost (pv 0) (pv 1)))), ?_⟩
    refine ⟨_, rfl, _, rfl, by rw [empty_app, sizeLine_eq]; omega, _, rfl, .inr ⟨_, rfl, log_nat hn, _, rfl, by rw [empty_app, app_len, sizeLine_eq]; omega, ?_⟩⟩
    refine ⟨_, rfl, by rw [empty_app, app_len, app_len, sizeLine_eq]; omega, ?_⟩
    refine ⟨a, C, _, rfl, (by show 1 ≤ 1000; decide), hC, ha, ?_⟩
    exact ⟨_, rfl, _, rfl, a, C, rfl, hC, hno, .inl ⟨ha, fun dx hn hne => q dx hn hne⟩⟩
-- part errgr
/-! own errors whose __init__ keeps any promise; errors without arguments -/
structure ErG (P : Program) (w : World) (K : PySem.W.Frag) (mg : Str → Option Value) (base : Heap) (nm : Str) (C : Addr) (sp : Sp) : Prop where
  ex : ∃ (fI : Addr) (fd : FuncData) (ps : List Str), mg nm = some (.ref C) ∧ OexC K C ∧ PySem.W.findIn K (.ref C) "__init__" = some (some (.ref fI)) ∧ PySem.W.typeIn K (.ref fI) = some (.type "function") ∧ FnOk P w K mg base CX0 1 fI fd ps sp ∧ Binds K fd ps []
theorem ps_raiseG {X : Cx} {W : WX} {x : Str} {C : Addr} {sp : Sp} {j : Nat} {e : Expr} {es : List Expr} {ta : TA} {p pos pos' : Pos} (c : ErG X.prog X.w X.K X.mg X.base x C sp) (hr : Room j X.A) (tk : L2N.Takes X W) (ha : PA X (e :: es) ta) (hj : 2 ≤ j := by decide) (hcalm : X.calm = true := by rfl) (hg : Gl X x := by rfl)
    (hdb : (x == ("__debug__" : Str)) = false := by decide) (he : starEach (e :: es) X.env = (false, eval e X.env) :: starEach es X.env := by rfl) (hpl : (backTo pos (starEach es X.env)).any (·.1) = false := by rfl) :
    PS X (.Raise (some (.Call (.Name x p) (e :: es) [] pos)) none pos') (fun _ σ H => tMkO C sp [] ta σ H fun cls d H' => W cls d σ H') := by
  obtain ⟨fI, fd, ps, g, T, iC, tI, F, b⟩ := c.ex
  exact L2N.ps_raise hcalm tk (pmk_oexN (X := X) (p := p) (pos := pos) T iC tI F (hr.mono hj) b .nil hg g ha hdb he hpl)
-- part errgf
/-- {t}, t a tuple of ints -/
theorem repr_ints {prog : Program} {w : World} : ∀ {l : List Int} {its : List Value}, Vals (l.map V.int) its → (∀ i ∈ l, i.natAbs.log2 < 1920) → ReprAll prog w its (l.map fun i => Str.ofString (toString i))
  | [], _, r, _ => by
    cases r
    exact .nil
  | i :: l, _, r, h => by
    cases r with
    | cons r1 r2 =>
      obtain ⟨t, rfl⟩ := r1
      exact .cons (ReprIs.int t (h i List.mem_cons_self)) (repr_ints r2 fun z hz => h z (List.mem_cons_of_mem _ hz))
theorem piled_ints : ∀ l : List Int, (∀ i ∈ l, i.natAbs.log2 < 1920) → piled (l.map fun i => Str.ofString (toString i)) ≤ l.length * 1925
  | [], _ => Nat.zero_le _
  | i :: l, h => by
    have h1 := int_text_len_1921 (h i List.mem_cons_self)
    have h2 := piled_ints l fun z hz => h z (List.mem_cons_of_mem _ hz)
    rw [List.map_cons, piled_cons, List.length_cons, Nat.succ_mul]
    omega
def tFmtI (K : PySem.W.Frag) (te : TE) : TE := fun σ H Q => te σ H fun x H1 => ∃ (a : Addr) (l : List Int), x = .ref a ∧ SqT K H1 a (l.map V.int) ∧ (∀ i ∈ l, i.natAbs.log2 < 1920) ∧ l.length ≤ 10 ∧ ∀ m : Str, m.length ≤ 20000 → Q (.str m) H1
theorem pe_fmtI {X : Cx} {e : Expr} {te : TE} {pos : Pos} {k : Nat} (hr : Room k X.A) (he : PE X e te) : PE X (.FormattedValue e (-1) none pos) (tFmtI X.K te) := by
  refine ⟨fun pins s σ H Q I h => wpAny_FormattedValue_plain (thn (he.run pins s σ H _ I h) fun v s1 hv => ?_)⟩
  obtain ⟨x, H1, I1, r1, a, l, rfl, ht, hc, few, q⟩ := hv
  cases r1
  obtain ⟨its, rv, ⟨o, ho, hcl, n, hd⟩, _⟩ := I1.tuple ht
  have h1 := piled_ints l hc
  have h2 := fmt_text (l.map fun i => Str.ofString (toString i))
  have hu := hr.units
  have h3 : l.length * 1925 ≤ 10 * 1925 := Nat.mul_le_mul_right _ few
  exact fmt_tuple (ts := l.map fun i => Str.ofString (toString i)) (by omega) ho hcl hd (repr_ints rv hc) (by rw [sizeLine_eq]; omega) fun m u tk hm => ⟨.str m, H1, I1.tok _, ⟨u, rfl⟩, q m (by omega)⟩
-- part erru
/-! two fields -/
def spInit2 (C : Addr) (f1 f2 : Str) (ok : V → V → Hp → Prop) : Sp := fun vs H Q _ => ∃ (a : Addr) (v1 v2 : V), vs = [.ref a, v1, v2] ∧ ok v1 v2 H ∧ H a = some (exo a C none) ∧
  ∀ d, H d = none → d ≠ a → Q .non (upd (upd (upd H d (exd d [(f1, v1)])) a (exo a C (some d))) d (exd d [(f2, v2), (f1, v1)]))
theorem mk2 {C : Addr} {f1 f2 : Str} {ok : V → V → Hp → Prop} {v1 v2 : V} {H1 : Hp} {Q : XK} (o : ∀ a, H1 a = none → ok v1 v2 (upd H1 a (exo a C none))) (k : ∀ d H2, Same H1 H2 → H1 d = none → H2 d = some (.xd [(f2, v2), (f1, v1)]) → Q (.ref C) (some d) H2) :
    ([v1, v2] : List V).length ≤ 1000 ∧ ∀ a, H1 a = none → spInit2 C f1 f2 ok (.ref a :: ([v1, v2] ++ [])) (upd H1 a (exo a C none))
      (fun u H2 => u = .non ∧ ∃ (d : Addr) (fs : List (Str × V)), H2 a = some (exo a C (some d)) ∧ H2 d = some (exd d fs) ∧ H1 d = none ∧ Q (.ref C) (some d) (upd (del H2 a) d (.xd fs))) (fun _ _ _ => False) := by
  refine ⟨(by show 2 ≤ 1000; decide), fun a ha => ⟨a, v1, v2, rfl, o a ha, upd_same, fun d hd hda => ⟨rfl, d, [(f2, v2), (f1, v1)], ?_, upd_same, ?_, ?_⟩⟩⟩
  · rw [upd_ne (Ne.symm hda), upd_same]
  · rw [upd_ne hda] at hd
    exact hd
  · rw [upd_ne hda] at hd
    refine k d _ (fun b o e => ?_) hd upd_same
    have hba := ne_of_none e ha
    have hbd := ne_of_none e hd
    rw [upd_ne hbd, del_ne hba, upd_ne hbd, upd_ne hba, upd_ne hbd, upd_ne hba]
    exact e
def okTup (K : PySem.W.Frag) (v : V) (H : Hp) : Prop := ∃ (t : Addr) (l : List Int), v = .ref t ∧ SqT K H t (l.map V.int) ∧ (∀ i ∈ l, i.natAbs.log2 < 1920) ∧ l.length ≤ 10
def okTT (K : PySem.W.Frag) : V → V → Hp → Prop := fun v1 v2 H => okTup K v1 H ∧ okTup K v2 H
def okTN (K : PySem.W.Frag) : V → V → Hp → Prop := fun v1 v2 H => okTup K v1 H ∧ okNat v2
abbrev s_ius : Stmt := inClass (top 5) 0
theorem sc_ius : FnScope ["self", "first", "second"] ["self", "first", "second"] (defScope s_ius) := ⟨rfl, rfl, rfl, by decide +kernel, rfl, by decide +kernel, by decide +kernel⟩
theorem ok_iusT {f C CF : Addr} {fd : FuncData} (TF : FErr K mg CF) (hC : OexC K C) (n1 : PySem.W.findIn K (.ref C) "first" = some none) (n2 : PySem.W.findIn K (.ref C) "second" = some none) (F : Fun K "__init__" "UnlikeShapes.__init__" s_ius f fd) : FnOk P w K mg base CX0 1 f fd ["self", "first", "second"] (spInit2 C "first" "second" (okTT K)) := by
  refine F.ok sc_ius (fun vs H Q E h => ?_) (fun cdv A outer s H vs Q E hr h => ?_)
  · obtain ⟨a, v1, v2, rfl, _⟩ := h
    rfl
  · obtain ⟨a, v1, v2, rfl, ⟨⟨t, l, rfl, ht, hl, few⟩, ⟨t', l', rfl, ht', hl', few'⟩⟩, ha, q⟩ := h
    have m1 : ("the shapes " : Str).length ≤ 100 := by decide +kernel
    have m2 : (" and " : Str).length ≤ 100 := by decide +kernel
    have m3 : (" do not go together" : Str).length ≤ 100 := by decide +kernel
    refine ⟨_, (pss_cons (ps_expr (pe_feinit TF (pa_cons (pv 0) (pa_cons (pe_joined (.cons pe_str (.cons (pe_fmtI hr (pv 1)) (.cons pe_str (.cons (pe_fmtI hr (pv 2)) (.cons pe_str .nil)))))) pa_nil))))
 (pss_cons (ps_ost (pv 0) (pv 1))
 (pss_one (ps_ost (pv 0) (pv 2))))), ?_⟩
    refine ⟨_, rfl, _, rfl, by rw [empty_app, sizeLine_eq]; omega, _, rfl, t, l, rfl, ht, hl, few, fun m hm => ⟨_, rfl, by rw [empty_app, app_len, sizeLine_eq]; omega, ?_⟩⟩
    refine ⟨_, rfl, by rw [empty_app, app_len, app_len, sizeLine_eq]; omega, _, rfl, t', l', rfl, ht', hl', few', fun m' hm' => ⟨_, rfl, by rw [empty_app, app_len, app_len, app_len, sizeLine_eq]; omega, ?_⟩⟩
    refine ⟨_, rfl, by rw [empty_app, app_len, app_len, app_len, app_len, sizeLine_eq]; omega, ?_⟩
    refine ⟨a, C, _, rfl, (by show 1 ≤ 1000; decide), hC, ha, ?_⟩
    refine ⟨_, rfl, _, rfl, a, C, rfl, hC, n1, .inl ⟨ha, fun dx hn hne => ?_⟩⟩
    exact ⟨_, rfl, _, rfl, a, C, rfl, hC, n2, .inr ⟨dx, _, upd_same, by rw [upd_ne hne]; exact upd_same, (by show 1 ≤ 900; decide), q dx hn hne⟩⟩
-- part objs
/-! comprehensions that make lists of objects -/
/-- what a heap but for D holds -/
def But (D : Addr) (H H' : Hp) : Prop := ∀ b o, b ≠ D → H b = some o → H' b = some o
theorem But.upd {D : Addr} {H : Hp} {o : HO} : But D H (upd H D o) := fun b u hb e => by
  rw [upd_ne hb]
  exact e
theorem But.of {D : Addr} {H H' : Hp} (s : Same H H') : But D H H' := fun b o _ e => s b o e
theorem sqT_but {K : PySem.W.Frag} {D q : Addr} {H H' : Hp} {xs : List V} (h : SqT K H q xs) (ne : q ≠ D) (k : But D H H') : SqT K H' q xs := by
  rcases h with (h | ⟨o, h⟩) | h
  · exact .inl (.inl (k _ _ ne h))
  · exact .inl (.inr ⟨o, k _ _ ne h⟩)
  · exact .inr h
theorem sqL_but {K : PySem.W.Frag} {D q : Addr} {H H' : Hp} {xs : List V} (h : SqL K H q xs) (ne : q ≠ D) (k : But D H H') : SqL K H' q xs := by
  rcases h with (h | ⟨o, h⟩) | h
  · exact .inl (.inl (k _ _ ne h))
  · exact .inl (.inr ⟨o, k _ _ ne h⟩)
  · exact .inr h
/-- what is told of the j-th object stands while only D changes -/
def Stab (D : Addr) (R : Nat → V → Hp → Prop) : Prop := ∀ j v H H', R j v H → v ≠ .ref D → But D H H' → R j v H'
def PvO (H1 : Hp) (D : Addr) (R : Nat → V → Hp → Prop) (i : Nat) (H : Hp) : Prop := Same H1 H ∧ ∃ acc, H D = some (.lst acc) ∧ acc.length = i ∧ ∀ j v, acc[j]? = some v → v ≠ .ref D ∧ R j v H
theorem objEnd {H1 H H4 : Hp} {D : Addr} {R : Nat → V → Hp → Prop} {i : Nat} {y : V} (st : Stab D R) (hD : H1 D = none) (p : PvO H1 D R i H) (s4 : Same H H4) (few : i < 1000) (ny : y ≠ .ref D) (ry : R i y H4) :
    ∃ acc, H4 D = some (.lst acc) ∧ acc.length < sizeLine ∧ PvO H1 D R (i + 1) (upd H4 D (.lst (acc ++ [y]))) := by
  obtain ⟨s, acc, ha, hl, hr⟩ := p
  refine ⟨acc, s4 _ _ ha, small1000 (by omega), fun b o eb => ?_, acc ++ [y], upd_same, ?_, fun j v hv => ?_⟩
  · rw [upd_ne (ne_of_none eb hD)]
    exact s4 b o (s b o eb)
  · rw [List.length_append, hl]
    rfl
  · by_cases c : j < acc.length
    · rw [List.getElem?_append_left c] at hv
      obtain ⟨nv, rv⟩ := hr j v hv
      exact ⟨nv, st j v _ _ (st j v _ _ rv nv (But.of s4)) nv But.upd⟩
    · rw [List.getElem?_append_right (by omega)] at hv
      have e : j = i := by
        by_cases e : j - acc.length = 0
        · omega
        · rw [List.getElem?_eq_none (by show 1 ≤ j - acc.length; omega)] at hv
          cases hv
      subst e
      rw [hl, Nat.sub_self] at hv
      cases hv
      exact ⟨ny, st j y _ _ ry ny But.upd⟩
section
variable {J : It} {n : Nat} {G : Hp → Prop} {Y : Nat → Hp → V → Hp → Prop}
theorem lcObj (w : Walk J n G Y) {g : TG} {tt : TT} {te : TE} {vs : List Nat} {σ : L2.St} {H1 : Hp} {D : Addr} {Qd : Hp → Prop} (R : Nat → V → Hp → Prop) (hD : H1 D = none) (hG : ∀ H, Same H1 H → G H)
    (hs : ∀ i x H H', i < n → PvO H1 D R i H → Y i H x H' → g x (wipe σ vs) H' fun σ2 H2 => wipe σ2 vs = wipe σ vs ∧ tt σ2 H2 fun b H3 =>
      if b = true then te σ2 H3 fun y H4 => ∃ acc, H4 D = some (.lst acc) ∧ acc.length < sizeLine ∧ PvO H1 D R (i + 1) (upd H4 D (.lst (acc ++ [y]))) else PvO H1 D R (i + 1) H3)
    (hd : ∀ H acc, Same H1 H → H D = some (.lst acc) → acc.length = n → (∀ j v, acc[j]? = some v → v ≠ .ref D ∧ R j v H) → Qd H) :
    ∃ W : Nat → Nat → Hp → Prop, (∃ m, W 0 m (upd H1 D (.lst []))) ∧ ∀ i m H, W i m H →
      (J.stop i H ∧ Qd H) ∨ (J.go i H ∧ ∃ Nx : Hp → Prop, (∀ H', Nx H' → ∃ m', m' < m ∧ W (i + 1) m' H') ∧ ∀ x H', J.yld i H x H' → g x (wipe σ vs) H' fun σ2 H2 => wipe σ2 vs = wipe σ vs ∧ tt σ2 H2 fun b H3 =>
        if b = true then te σ2 H3 fun y H4 => ∃ acc, H4 D = some (.lst acc) ∧ acc.length < sizeLine ∧ Nx (upd H4 D (.lst (acc ++ [y]))) else Nx H3) :=
  lc_it w (PvO H1 D R) ⟨same_upd hD, [], upd_same, rfl, fun j v h => by cases h⟩ (fun _ H _ h => hG H h.1) hs fun H h => by
    obtain ⟨s, acc, a, b, c⟩ := h
    exact hd H acc s a b c
end
/-- the j-th is a list of ints, a tuple of ints -/
def RL (w : Nat) (f : Nat → Nat → Int) : Nat → V → Hp → Prop := fun i v H => ∃ q, v = .ref q ∧ H q = some (.lst ((rngN w (f i)).map V.int))
def RT (g : Nat → List Int) : Nat → V → Hp → Prop := fun i v H => ∃ q, v = .ref q ∧ H q = some (.tup ((g i).map V.int))
theorem stab_RL {w : Nat} {f : Nat → Nat → Int} {D : Addr} : Stab D (RL w f) := fun j v H H' h nv k => by
  obtain ⟨q, rfl, h⟩ := h
  exact ⟨q, rfl, k _ _ (fun e => nv (by rw [e])) h⟩
theorem stab_RT {g : Nat → List Int} {D : Addr} : Stab D (RT g) := fun j v H H' h nv k => by
  obtain ⟨q, rfl, h⟩ := h
  exact ⟨q, rfl, k _ _ (fun e => nv (by rw [e])) h⟩
/-- an address that stands is no new one -/
theorem ref_ne {H : Hp} {q D : Addr} {o : HO} (hq : H q = none) (hD : H D = some o) : V.ref q ≠ V.ref D := fun e => by
  have := V.ref.inj e
  rw [this, hD] at hq
  cases hq
theorem pe_tupleOfK {X : Cx} {K : PySem.W.Frag} {p pos : Pos} {a : Expr} {ta : TE} (hK : X.K = K) (hg : Gl X "tuple") (hm : X.mg "tuple" = none) (ha : PE X a ta)
    (na : starEach [a] X.env = (false, eval a X.env) :: starEach [] X.env := by rfl) : PE X (.Call (.Name "tuple" p) [a] [] pos) (tThen ta (kTup K)) := by
  subst hK
  exact pe_tupleOf hg hm ha na
theorem ref_ne2 {H : Hp} {q D : Addr} {xs ys : List V} (hq : H q = some (.tup xs)) (hD : H D = some (.lst ys)) : V.ref q ≠ V.ref D := fun e => by
  have := V.ref.inj e
  rw [this, hD] at hq
  cases hq
/-! walks, the frame named -/
section
variable {X : Cx} {K : PySem.W.Frag} {e e2 : Expr} {te : TE} {ta : TA} {tg : Expr} {p pos tpos : Pos} {elts : List Expr} {kk : Nat}
theorem pi_listK (hK : X.K = K) (he : PE X e te) : PI X tg e (iList K te) := by
  subst hK
  exact pi_list he
theorem pi_tupK (hK : X.K = K) (he : PE X e te) : PI X tg e (iTup K te) := by
  subst hK
  exact pi_tup he
theorem pi_zipAK (hK : X.K = K) (hg : Gl X "zip") (hm : X.mg "zip" = none) (ha : PA X [e, e2] ta)
    (hs : starEach [e, e2] X.env = (false, eval e X.env) :: starEach [e2] X.env := by rfl) (hpl : (backTo pos (starEach [e2] X.env)).any (·.1) = false := by rfl) :
    PI X (.Tuple elts kk tpos) (.Call (.Name "zip" p) [e, e2] [] pos) (RZ.iZipA K ta) := by
  subst hK
  exact RZ.pi_zipA hg hm ha hs hpl
end
theorem walk_zipT {K : PySem.W.Frag} {a b : Addr} {xs ys : List V} {n : Nat} (hn : n = min xs.length ys.length) : Walk (RZ.ItzT K a b) n (fun H => SqT K H a xs ∧ SqT K H b ys) (YPair (fun i => xs[i]?) (fun i => ys[i]?)) := by
  subst hn
  refine ⟨fun i _ hi q => ?_, fun _ q => ⟨xs, ys, q.1, q.2, by omega⟩, fun i H v H' _ q y => ?_⟩
  · have h1 : i < xs.length := by omega
    have h2 : i < ys.length := by omega
    exact ⟨xs, ys, xs[i], ys[i], q.1, q.2, by simp [h1], by simp [h2]⟩
  · obtain ⟨T, x, z, h1, h2, h3, h4, h5⟩ := y
    exact ⟨T, x, z, h1, h2, h3, h4 xs q.1, h5 ys q.2⟩
-- part methn
/-! methods and operators of an own class that may raise -/
structure MeN (P : Program) (w : World) (K : PySem.W.Frag) (mg : Str → Option Value) (base : Heap) (k : Nat) (C : Addr) (m : Str) (sp : Sp) : Prop where
  ex : ∃ (f : Addr) (fd : FuncData) (ps : List Str), Meth K C m f ∧ FnOk P w K mg base (L2N.CX P w) k f fd ps sp ∧ Binds K fd ps []
section
variable {X : Cx} {W : WX} {C : Addr} {m : Str} {sp : Sp} {k j : Nat} {o e a b : Expr} {es : List Expr} {ta tb : TE} {t : TA} {apos pos : Pos} {pl : Sem Bool}
/-- x op y, where it doesn't raise -/
theorem op_own2N {op : Operator} (c : MeN X.prog X.w X.K X.mg X.base k C m sp) (hr : Room j X.A) (sf : PySem.W.selfFirst X.K C = true) (hm : PySem.dunder op.info.2 = m := by decide +kernel) (hk : k ≤ j := by decide) : OpR X (binaryOp op) (rOwn2 C sp) := by
  obtain ⟨f, fd, ps, M, F, b⟩ := c.ex
  intro pins s σ H x y v u Q I rx ry h
  obtain ⟨a, b', dx, dy, fs, gs, rfl, rfl, ha, hb, q⟩ := h
  cases (show v = Value.ref a from rx)
  cases (show u = Value.ref b' from ry)
  obtain ⟨ox, od, J⟩ := inst_of I ha
  obtain ⟨oy, od', J'⟩ := inst_of I hb
  obtain ⟨mm, hF⟩ := I.fr
  refine PySem.W.binop_K hF I.ok.mod.kin J J'.type sf (by rw [hm]; exact M.at_) M.fn ?_
  refine wpAny_mono (run_fn (us := [.ref a, .ref b']) (vs := [.ref a, .ref b']) F (hr.mono hk) b .nil passN I (.cons rfl (.cons rfl .nil)) q) (fun u' s' z => ?_) fun _ _ x => x
  obtain ⟨z', H', I', rz, qz⟩ := z
  exact SlX.cmpback rz ⟨z', H', I', rz, qz⟩
/-- x op y, what it raises is taken -/
def tOp2S (C : Addr) (sp : Sp) (E : L2.St → XK) (ta tb : TE) : TE := fun σ H Q => ta σ H fun x H1 => tb σ H1 fun y H2 => ∃ a b dx dy fs gs, x = .ref a ∧ y = .ref b ∧ H2 a = some (.ins C dx fs) ∧ H2 b = some (.ins C dy gs) ∧ sp [x, y] H2 Q (E σ)
theorem pe_op2X {op : Operator} (c : MeN X.prog X.w X.K X.mg X.base k C m sp) (hr : Room j X.A) (tk : L2N.Takes X W) (sf : PySem.W.selfFirst X.K C = true) (ha : PE X a ta) (hb : PE X b tb) (hm : PySem.dunder op.info.2 = m := by decide +kernel) (hk : k ≤ j := by decide) : PE X (.BinOp a op b pos) (tOp2S C sp (WE W) ta tb) := by
  obtain ⟨f, fd, ps, M, F, bb⟩ := c.ex
  refine ⟨fun pins s σ H Q I h => ?_⟩
  refine wpAny_BinOp (binT ha hb I h fun v u s2 x y H2 I2 rx ry q => ?_)
  obtain ⟨a, b', dx, dy, fs, gs, rfl, rfl, ha, hb, q⟩ := q
  cases (show v = Value.ref a from rx)
  cases (show u = Value.ref b' from ry)
  obtain ⟨ox, od, J⟩ := inst_of I2 ha
  obtain ⟨oy, od', J'⟩ := inst_of I2 hb
  obtain ⟨mm, hF⟩ := I2.fr
  refine PySem.W.binop_K hF I2.ok.mod.kin J J'.type sf (by rw [hm]; exact M.at_) M.fn ?_
  refine wpAny_mono (run_fnS (us := [.ref a, .ref b']) (vs := [.ref a, .ref b']) (E := WE W) F (hr.mono hk) bb (L2N.passAt tk σ) I2 (.cons rfl (.cons rfl .nil)) q) (fun u' s' z => ?_) fun _ _ x => x
  obtain ⟨z', H', I', rz, qz⟩ := z
  exact SlX.cmpback rz ⟨z', H', I', rz, qz⟩
theorem pe_meN0 (c : MeN X.prog X.w X.K X.mg X.base k C m sp) (cl : Cls X.K C) (hr : Room j X.A) (he : PE X o ta) (hk : k ≤ j := by decide)
    (ht : eval (.Call (.Attribute o m apos) [] [] pos) X.env = (do
      let ov ← eval o X.env
      standAt apos.atName
      let (f, first) ← holding [ov] (getMethod ov m pl)
      callWith pos f first (backTo pos (starEach [] X.env)) (backToKw pos (keywordEach [] X.env))) := by rfl) :
    PE X (.Call (.Attribute o m apos) [] [] pos) (tMeth C m sp [] E0 ta tNil) := by
  obtain ⟨f, fd, ps, M, F, b⟩ := c.ex
  exact pe_meth0 he cl M F (hr.mono hk) b .nil passN ht
theorem pe_meN (c : MeN X.prog X.w X.K X.mg X.base k C m sp) (cl : Cls X.K C) (hr : Room j X.A) (he : PE X o ta) (ha : PA X (e :: es) t) (hk : k ≤ j := by decide)
    (hst : starEach (e :: es) X.env = (false, eval e X.env) :: starEach es X.env := by rfl) (hpl : (backTo pos (starEach es X.env)).any (·.1) = false := by rfl)
    (ht : eval (.Call (.Attribute o m apos) (e :: es) [] pos) X.env = (do
      let ov ← eval o X.env
      standAt apos.atName
      let (f, first) ← holding [ov] (getMethod ov m pl)
      callWith pos f first (backTo pos (starEach (e :: es) X.env)) (backToKw pos (keywordEach [] X.env))) := by rfl) :
    PE X (.Call (.Attribute o m apos) (e :: es) [] pos) (tMeth C m sp [] E0 ta t) := by
  obtain ⟨f, fd, ps, M, F, b⟩ := c.ex
  exact pe_meth he cl M F (hr.mono hk) b .nil passN ha hst hpl ht
/-- o.m(..), what it raises is taken -/
def tMethS (C : Addr) (m : Str) (sp : Sp) (E : L2.St → XK) (ta : TE) (t : TA) : TE := fun σ H Q => ta σ H fun x H1 => ∃ a dx fs, x = .ref a ∧ H1 a = some (.ins C dx fs) ∧ fs.lookup m = none ∧ t σ H1 fun vs H2 => sp (x :: vs) H2 Q (E σ)
theorem pe_meX (c : MeN X.prog X.w X.K X.mg X.base k C m sp) (cl : Cls X.K C) (hr : Room j X.A) (tk : L2N.Takes X W) (he : PE X o ta) (ha : PA X (e :: es) t) (hk : k ≤ j := by decide)
    (hst : starEach (e :: es) X.env = (false, eval e X.env) :: starEach es X.env := by rfl) (hpl : (backTo pos (starEach es X.env)).any (·.1) = false := by rfl)
    (ht : eval (.Call (.Attribute o m apos) (e :: es) [] pos) X.env = (do
      let ov ← eval o X.env
      standAt apos.atName
      let (f, first) ← holding [ov] (getMethod ov m pl)
      callWith pos f first (backTo pos (starEach (e :: es) X.env)) (backToKw pos (keywordEach [] X.env))) := by rfl) :
    PE X (.Call (.Attribute o m apos) (e :: es) [] pos) (tMethS C m sp (WE W) ta t) := by
  obtain ⟨f, fd, ps, M, F, b⟩ := c.ex
  refine ⟨fun pins s σ H Q I h => ?_⟩
  refine PySem.W.methodCall_KW (pl := pl) (thn (he.run pins s σ H _ I h) fun u s1 ⟨x, H1, I1, rx, a, dx, fs, ex, ea, l, q⟩ => ?_) ht
  subst ex
  obtain rfl : u = Value.ref a := rx
  refine getmeth_ok I1 ea cl M l ?_
  exact PySem.W.callWith_K (first := [.ref a]) (h₀ := X.base) I1.ok.mod.kin M.kp (thn (ha.run pos pins s1 σ H1 _ I1 q) fun us s2 ⟨vs, H2, I2, r, q2⟩ => ⟨I2.kIn, run_fnS (us := .ref a :: us) (vs := .ref a :: vs) (E := WE W) F (hr.mono hk) b (L2N.passAt tk σ) I2 (.cons rfl r) q2⟩) hst hpl
theorem pe_meX0 (c : MeN X.prog X.w X.K X.mg X.base k C m sp) (cl : Cls X.K C) (hr : Room j X.A) (tk : L2N.Takes X W) (he : PE X o ta) (hk : k ≤ j := by decide)
    (ht : eval (.Call (.Attribute o m apos) [] [] pos) X.env = (do
      let ov ← eval o X.env
      standAt apos.atName
      let (f, first) ← holding [ov] (getMethod ov m pl)
      callWith pos f first (backTo pos (starEach [] X.env)) (backToKw pos (keywordEach [] X.env))) := by rfl) :
    PE X (.Call (.Attribute o m apos) [] [] pos) (tMethS C m sp (WE W) ta tNil) := by
  obtain ⟨f, fd, ps, M, F, b⟩ := c.ex
  refine ⟨fun pins s σ H Q I h => ?_⟩
  refine PySem.W.methodCall_KW (pl := pl) (thn (he.run pins s σ H _ I h) fun u s1 ⟨x, H1, I1, rx, a, dx, fs, ex, ea, l, q⟩ => ?_) ht
  subst ex
  obtain rfl : u = Value.ref a := rx
  refine getmeth_ok I1 ea cl M l ?_
  exact PySem.W.callWith_K0 (first := [.ref a]) I1.kIn M.kp (run_fnS (us := [.ref a]) (vs := [.ref a]) (E := WE W) F (hr.mono hk) b (L2N.passAt tk σ) I1 (.cons rfl .nil) q)
end
-- part matb
/-! the class Matrix -/
def maF (t : Addr) (h w : Nat) : List (Str × V) := putF "width" (.int (w : Int)) (putF "height" (.int (h : Int)) (putF "rows" (.ref t) []))
theorem maE1 : ¬ (("rows" : Str) = "height") := by decide +kernel
theorem maE2 : ¬ (("rows" : Str) = "width") := by decide +kernel
theorem maE3 : ¬ (("height" : Str) = "width") := by decide +kernel
theorem maF_r (t : Addr) (h w : Nat) : (maF t h w).lookup ("rows" : Str) = some (.ref t) := by
  unfold maF
  rw [lookup_putF, if_neg maE2, lookup_putF, if_neg maE1, lookup_putF, if_pos rfl]
theorem maF_h (t : Addr) (h w : Nat) : (maF t h w).lookup ("height" : Str) = some (.int (h : Int)) := by
  unfold maF
  rw [lookup_putF, if_neg maE3, lookup_putF, if_pos rfl]
theorem maF_w (t : Addr) (h w : Nat) : (maF t h w).lookup ("width" : Str) = some (.int (w : Int)) := by
  unfold maF
  rw [lookup_putF, if_pos rfl]
theorem maF_no (t : Addr) (h w : Nat) {m : Str} (h1 : ¬ m = "rows") (h2 : ¬ m = "height") (h3 : ¬ m = "width") : (maF t h w).lookup m = none := by
  unfold maF
  rw [lookup_putF, if_neg h3, lookup_putF, if_neg h2, lookup_putF, if_neg h1] <;> rfl
/-- a matrix of h rows and w columns stands at a, its items are f i k -/
structure MatAt (C : Addr) (H : Hp) (a : Addr) (h w : Nat) (f : Nat → Nat → Int) : Prop where
  ob : ∃ dx t vs, H a = some (.ins C dx (maF t h w)) ∧ H t = some (.tup vs) ∧ vs.length = h ∧ ∀ i, i < h → ∃ q, vs[i]? = some (.ref q) ∧ H q = some (.tup ((rngN w (f i)).map V.int))
  h1 : 1 ≤ h
  h2 : h ≤ 40
  w1 : 1 ≤ w
  w2 : w ≤ 40
theorem MatAt.same {C : Addr} {H H' : Hp} {a : Addr} {h w : Nat} {f : Nat → Nat → Int} (m : MatAt C H a h w f) (s : Same H H') : MatAt C H' a h w f := by
  obtain ⟨dx, t, vs, o1, o2, o3, o4⟩ := m.ob
  exact ⟨⟨dx, t, vs, s _ _ o1, s _ _ o2, o3, fun i hi => by
    obtain ⟨q, q1, q2⟩ := o4 i hi
    exact ⟨q, q1, s _ _ q2⟩⟩, m.h1, m.h2, m.w1, m.w2⟩
theorem rngN_congr {n : Nat} {f g : Nat → Int} (h : ∀ k, k < n → f k = g k) : rngN n f = rngN n g := by
  unfold rngN
  exact List.map_congr_left fun k hk => h k (List.mem_range.mp hk)
theorem MatAt.congr {C : Addr} {H : Hp} {a : Addr} {h w : Nat} {f g : Nat → Nat → Int} (m : MatAt C H a h w f) (e : ∀ i k, i < h → k < w → f i k = g i k) : MatAt C H a h w g := by
  obtain ⟨dx, t, vs, o1, o2, o3, o4⟩ := m.ob
  exact ⟨⟨dx, t, vs, o1, o2, o3, fun i hi => by
    obtain ⟨q, q1, q2⟩ := o4 i hi
    exact ⟨q, q1, by rw [← rngN_congr fun k hk => e i k hi hk]; exact q2⟩⟩, m.h1, m.h2, m.w1, m.w2⟩
/-- what is told of the class -/
structure MaT (K : PySem.W.Frag) (mg : Str → Option Value) (C : Addr) : Prop where
  g : mg "Matrix" = some (.ref C)
  cl : Cls K C
  nR : NoAttr K C "rows"
  nH : NoAttr K C "height"
  nW : NoAttr K C "width"
  sf : PySem.W.selfFirst K C = true
  isC : C8.InsC K C
/-- rows that are passed: lists or tuples -/
def RowS (H : Hp) (v : V) (r : List Int) : Prop := ∃ q, v = .ref q ∧ (H q = some (.lst (r.map V.int)) ∨ H q = some (.tup (r.map V.int)))
def RowsIn (H : Hp) (vs : List V) (rs : List (List Int)) : Prop := vs.length = rs.length ∧ ∀ (i : Nat) (r : List Int), rs[i]? = some r → ∃ v, vs[i]? = some v ∧ RowS H v r
theorem RowS.same {H H' : Hp} {v : V} {r : List Int} (h : RowS H v r) (s : Same H H') : RowS H' v r := by
  obtain ⟨q, e, h⟩ := h
  exact ⟨q, e, h.elim (fun h => .inl (s _ _ h)) fun h => .inr (s _ _ h)⟩
theorem RowsIn.same {H H' : Hp} {vs : List V} {rs : List (List Int)} (h : RowsIn H vs rs) (s : Same H H') : RowsIn H' vs rs := ⟨h.1, fun i r hr => by
  obtain ⟨v, hv, k⟩ := h.2 i r hr
  exact ⟨v, hv, k.same s⟩⟩
/-- a store in an instance leaves rows -/
theorem sqL_ins {H : Hp} {x a C dx : Addr} {fs : List (Str × V)} {o : HO} {xs : List V} (hx : H x = some (.ins C dx fs)) (h : SqL K H a xs) : SqL K (upd H x o) a xs := by
  rcases h with (h | ⟨o', h⟩) | h
  · exact .inl (.inl (by rw [upd_ne (fun e => by rw [e, hx] at h; cases h)]; exact h))
  · exact .inl (.inr ⟨o', by rw [upd_ne (fun e => by rw [e, hx] at h; cases h)]; exact h⟩)
  · exact .inr h
theorem sqT_insM {H : Hp} {x a C dx : Addr} {fs : List (Str × V)} {o : HO} {xs : List V} (hx : H x = some (.ins C dx fs)) (h : SqT K H a xs) : SqT K (upd H x o) a xs := by
  rcases h with (h | ⟨o', h⟩) | h
  · exact .inl (.inl (by rw [upd_ne (fun e => by rw [e, hx] at h; cases h)]; exact h))
  · exact .inl (.inr ⟨o', by rw [upd_ne (fun e => by rw [e, hx] at h; cases h)]; exact h⟩)
  · exact .inr h
def ent (rs : List (List Int)) (i k : Nat) : Int := (rs.getD i []).getD k 0
def lenAt (rs : List (List Int)) (i : Nat) : Nat := (rs.getD i []).length
theorem row_rng {r : List Int} {w : Nat} (h : r.length = w) : r = rngN w fun k => r.getD k 0 := by
  refine List.ext_getElem? fun k => ?_
  by_cases c : k < w
  · rw [rngN_at c, getD_at (by omega)]
  · rw [List.getElem?_eq_none (by omega), List.getElem?_eq_none (by rw [rngN_len]; omega)]
theorem getDr {rs : List (List Int)} {i : Nat} {r : List Int} (h : rs[i]? = some r) : rs.getD i [] = r := by
  rw [List.getD_eq_getElem?_getD, h] <;> rfl
theorem atDr {rs : List (List Int)} {i : Nat} (h : i < rs.length) : rs[i]? = some (rs.getD i []) := by
  rw [List.getD_eq_getElem?_getD, List.getElem?_eq_getElem h] <;> rfl
abbrev s_minit : Stmt := inClass (top 14) 0
theorem sc_minit : FnScope ["self", "rows", "at", "row"] ["self", "rows"] (defScope s_minit) := ⟨rfl, rfl, rfl, by decide +kernel, rfl, by decide +kernel, by decide +kernel⟩
def spMI (C CB : Addr) (tup : Bool) (K : PySem.W.Frag) : Sp := fun vs H Q E => ∃ (x dx a : Addr) (us : List V) (rs : List (List Int)), vs = [.ref x, .ref a] ∧ H x = some (.ins C dx []) ∧ (if tup = true then SqT K H a us else SqL K H a us) ∧ RowsIn H us rs ∧ 1 ≤ rs.length ∧ rs.length ≤ 40 ∧
  (∀ i, i < rs.length → lenAt rs i ≤ 40) ∧ 1 ≤ lenAt rs 0 ∧
  ((∀ i, i < rs.length → lenAt rs i = lenAt rs 0) → ∀ H', MatAt C H' x rs.length (lenAt rs 0) (ent rs) → (∀ b o, H b = some o → b ≠ x → H' b = some o) → Q .non H') ∧
  (∀ i, i < rs.length → lenAt rs i ≠ lenAt rs 0 → (∀ j, j < i → lenAt rs j = lenAt rs 0) → ∀ d H', Same H H' → H' d = some (.xd [("at", .int (i : Int))]) → E (.ref CB) (some d) H')
theorem ne_of_none' {H : Hp} {t x : Addr} {o : HO} (nt : H t = none) (hx : H x = some o) : t ≠ x := fun e => by
  rw [e, hx] at nt
  cases nt
theorem ok_minit {f C CB : Addr} {fd : FuncData} (tup : Bool) (TT : Txt mg) (henum : mg "enumerate" = none) (T : MaT K mg C) (F : Fun K "__init__" "Matrix.__init__" s_minit f fd) (x_br : ErP P w K mg base "BadRow" "at" CB okNat) : FnOk P w K mg base (L2N.CX P w) 3 f fd ["self", "rows"] (spMI C CB tup K) := by
  refine okN F sc_minit (fun vs H Q E h => ?_) (fun cdv A outer s H vs Q E hr0 h => ?_)
  · obtain ⟨x, dx, a, us, rs, rfl, _⟩ := h
    rfl
  · obtain ⟨x, dx, a, us, rs, rfl, hx, hS, hr, n1, n2, l2, l1, q, qe⟩ := h
    cases tup with
    | false =>
      have hS' : SqL K H a us := hS
      refine ⟨_, (pss_cons (ps_for (passes_of rfl) rfl (pi_enum rfl henum (pa_cons (pv 1) pa_nil)) (pg_tup rfl (pgs_cons (pg_name (i := 2) sc_minit.nd rfl (Or.inl rfl)) (pgs_cons (pg_name (i := 3) sc_minit.nd rfl (Or.inl rfl)) pgs_nil))) (pss_one (ps_if (pt_cmpR op_ne (pe_callB call_len_seq (by rfl) TT.len PySem.boot_len (pa_cons (pv 3) pa_nil)) (pe_callB call_len_seq (by rfl) TT.len PySem.boot_len (pa_cons (pe_ix ix_list (pv 1) pe_int (fun _ _ => rfl)) pa_nil)) (nomark _)) (pss_one (ps_raiseP x_br hr0 (L2N.takes_of rfl rfl rfl rfl) (pa_cons (pv 2) pa_nil))) pss_nil)))
 (pss_cons (ps_fld (pv 0) (pe_tupleOf (by rfl) TT.tuple (pe_lc (own := [("row", 3)]) (g := (gName 3)) (tt := tYes) rfl sc_minit.nd (pi_list (pv 1)) (blkOk_by (N := ["self", "rows", "at", "row"]) (sc := defScope s_minit) (by decide +kernel)) (fun _ _ _ _ _ => (pg_name (i := 3) sc_minit.nd rfl (Or.inl rfl))) (fun _ _ _ _ _ => pts_nil) (fun _ _ _ _ _ => (pe_tupleOfK (K := K) rfl (by rfl) TT.tuple (pv 3))))) rfl)
 (pss_cons (ps_fld (pv 0) (pe_callB call_len_seq (by rfl) TT.len PySem.boot_len (pa_cons (pv 1) pa_nil)) rfl)
 (pss_one (ps_fld (pv 0) (pe_callB call_len_seq (by rfl) TT.len PySem.boot_len (pa_cons (pe_ix ix_list (pv 1) pe_int (fun _ _ => rfl)) pa_nil)) rfl))))), ?_⟩
      refine ⟨_, rfl, a, us, rfl, hS', for_it walk_enum (fun i σ H' => Same H H' ∧ (∀ j, j < i → lenAt rs j = lenAt rs 0) ∧ ∃ y2 y3, σ = [some (.ref x), some (.ref a), y2, y3]) ⟨Same.refl H, fun j h => absurd h (Nat.not_lt_zero j), none, none, rfl⟩ (fun i σ H' _ h => (h.1.seq hS')) ?_ ?_⟩
      · rintro i v σ H1 H2 hi ⟨s1, good, y2, y3, rfl⟩ ⟨Tp, x1, v1, rfl, nT, rfl, hx1, hv1⟩
        cases hx1
        rw [hr.1] at hi
        obtain ⟨v', hv', q', rfl, hq'⟩ := hr.2 i _ (atDr hi)
        have ev : v1 = .ref q' := Option.some.inj (hv1.symm.trans hv')
        subst ev
        have s2 := s1.trans (same_upd (o := .tup [.int (i : Nat), .ref q']) nT)
        obtain ⟨v0, hv0, q0, rfl, hq0⟩ := hr.2 0 _ (atDr (show 0 < rs.length by omega))
        refine ⟨Tp, _, rfl, SqT.of upd_same, rfl, _, _, rfl, _, _, rfl, rfl, ?_⟩
        refine ⟨_, rfl, q', _, rfl, hq'.elim (fun h => .inl (SqL.of (s2 _ _ h))) (fun h => .inr (SqT.of (s2 _ _ h))), _, rfl, a, _, _, _, rfl, rfl, (s2.seq hS'), (atI_nat (j := 0) hv0), q0, _, rfl, hq0.elim (fun h => .inl (SqL.of (s2 _ _ h))) (fun h => .inr (SqT.of (s2 _ _ h))), rfl, _, rfl, ?_⟩
        rw [List.length_map, List.length_map]
        by_cases c : lenAt rs i = lenAt rs 0
        · have e : (rs.getD i []).length = (rs.getD 0 []).length := c
          refine if_neg_of (by rw [e]; simp) ?_
          refine ⟨s2, fun j hj => ?_, _, _, rfl⟩
          by_cases ej : j = i
          · rw [ej]
            exact c
          · exact good j (by omega)
        · refine if_pos_of ?_ ?_
          · have e : ¬ (rs.getD i []).length = (rs.getD 0 []).length := c
            simp only [Bool.not_eq_true', decide_eq_false_iff_not, ne_eq]
            intro e2
            exact e (by have := V.int.inj e2; omega)
          · refine ⟨_, rfl, ?_⟩
            exact mkP ⟨i, rfl, by omega⟩ fun d H3 s3 _ hd => qe i hi c good d H3 (s2.trans s3) hd
      · rintro σ H1 ⟨s1, good, y2, y3, rfl⟩
        rw [hr.1] at good
        have hS1 := (s1.seq hS')
        have hr1 := hr.same s1
        refine ⟨_, rfl, a, rfl, ⟨_, hS1⟩, fun D nD => lcObj walk_list (RT fun i => rs.getD i []) nD (fun H s => (s.seq hS1)) ?_ ?_⟩
        · rintro i v H2 _ hi p2 ⟨rfl, hv⟩
          rw [hr.1] at hi
          obtain ⟨v', hv', q', rfl, hq'⟩ := (hr1.same p2.1).2 i _ (atDr hi)
          have ev : v = .ref q' := Option.some.inj (hv.symm.trans hv')
          subst ev
          obtain ⟨acc, hacc, _⟩ := p2.2
          refine ⟨rfl, _, rfl, ?_⟩
          rcases hq' with h | h
          · refine .inl ⟨q', _, rfl, SqL.of h, fun t nt => ?_⟩
            exact objEnd stab_RT nD p2 (same_upd nt) (by omega) (ref_ne nt hacc) ⟨t, rfl, upd_same⟩
          · refine .inr ⟨q', _, rfl, SqT.of h, ?_⟩
            exact objEnd stab_RT nD p2 (Same.refl _) (by omega) (ref_ne2 h hacc) ⟨q', rfl, h⟩
        · intro H2 acc s2 hacc hl hel
          refine .inl ⟨D, _, rfl, SqL.of hacc, fun t nt => ?_⟩
          have hx2 := s2 _ _ (s1 _ _ hx)
          have s3 := same_upd (o := .tup acc) nt
          have hx3 := s3 _ _ hx2
          refine ⟨_, rfl, x, C, dx, [], rfl, hx3, T.cl, T.nR, (by show 0 < 1000; decide), ?_⟩
          have ntx : t ≠ x := ne_of_none' nt hx2
          have hS3 := sqL_ins (o := .ins C dx (putF "rows" (.ref t) [])) hx3 (s3.seq ((s2.seq hS1)))
          refine ⟨_, rfl, a, _, rfl, .inl hS3, _, rfl, x, C, dx, _, rfl, upd_same, T.cl, T.nH, (by show 1 < 1000; decide), ?_⟩
          have hS4 := sqL_ins (o := .ins C dx (putF "height" (.int (us.length : Int)) (putF "rows" (.ref t) []))) upd_same hS3
          obtain ⟨v0, hv0, q0, rfl, hq0⟩ := hr.2 0 _ (atDr (show 0 < rs.length by omega))
          have sAll := (s1.trans s2).trans s3
          have hq4 : SqL K (upd (upd (upd H2 t (.tup acc)) x (.ins C dx (putF "rows" (.ref t) []))) x (.ins C dx (putF "height" (.int (us.length : Int)) (putF "rows" (.ref t) [])))) q0 ((rs.getD 0 []).map V.int) ∨ SqT K (upd (upd (upd H2 t (.tup acc)) x (.ins C dx (putF "rows" (.ref t) []))) x (.ins C dx (putF "height" (.int (us.length : Int)) (putF "rows" (.ref t) [])))) q0 ((rs.getD 0 []).map V.int) := by
            rcases hq0 with h | h
            · exact .inl (sqL_ins upd_same (sqL_ins hx3 (SqL.of (sAll _ _ h))))
            · exact .inr (sqT_insM upd_same (sqT_insM hx3 (SqT.of (sAll _ _ h))))
          refine ⟨_, rfl, a, _, _, _, rfl, rfl, hS4, (atI_nat (j := 0) hv0), q0, _, rfl, hq4, _, rfl, x, C, dx, _, rfl, upd_same, T.cl, T.nW, (by show 2 < 1000; decide), ?_⟩
          rw [List.length_map, hr.1]
          have keep : ∀ b o, H b = some o → b ≠ x → (upd (upd (upd (upd H2 t (.tup acc)) x (.ins C dx (putF "rows" (.ref t) []))) x (.ins C dx (putF "height" (.int (rs.length : Int)) (putF "rows" (.ref t) [])))) x (.ins C dx (putF "width" (.int ((rs.getD 0 []).length : Int)) (putF "height" (.int (rs.length : Int)) (putF "rows" (.ref t) []))))) b = some o := fun b o hb hbx => by
            rw [upd_ne hbx, upd_ne hbx, upd_ne hbx]
            exact sAll _ _ hb
          refine q good _ ⟨⟨dx, t, acc, upd_same, ?_, by rw [hl, hr.1], fun i hi => ?_⟩, n1, n2, l1, by exact l2 0 (by omega)⟩ keep
          · rw [upd_ne ntx, upd_ne ntx, upd_ne ntx]
            exact upd_same
          · have hi2 : i < acc.length := by rw [hl, hr.1]; exact hi
            obtain ⟨nv, q', e, hq'⟩ := hel i _ (List.getElem?_eq_getElem hi2)
            refine ⟨q', by rw [List.getElem?_eq_getElem hi2, e], ?_⟩
            have er : rs.getD i [] = rngN (lenAt rs 0) (ent rs i) := row_rng (good i hi)
            have hq2 : H2 q' = some (.tup ((rs.getD i []).map V.int)) := hq'
            rw [er] at hq2
            have nqx : q' ≠ x := fun e => by rw [e, hx2] at hq2; cases hq2
            rw [upd_ne nqx, upd_ne nqx, upd_ne nqx]
            exact s3 _ _ hq2
    | true =>
      have hS' : SqT K H a us := hS
      refine ⟨_, (pss_cons (ps_for (passes_of rfl) rfl (pi_enumT rfl henum (pa_cons (pv 1) pa_nil)) (pg_tup rfl (pgs_cons (pg_name (i := 2) sc_minit.nd rfl (Or.inl rfl)) (pgs_cons (pg_name (i := 3) sc_minit.nd rfl (Or.inl rfl)) pgs_nil))) (pss_one (ps_if (pt_cmpR op_ne (pe_callB call_len_seq (by rfl) TT.len PySem.boot_len (pa_cons (pv 3) pa_nil)) (pe_callB call_len_seq (by rfl) TT.len PySem.boot_len (pa_cons (pe_ix ix_tup (pv 1) pe_int (fun _ _ => rfl)) pa_nil)) (nomark _)) (pss_one (ps_raiseP x_br hr0 (L2N.takes_of rfl rfl rfl rfl) (pa_cons (pv 2) pa_nil))) pss_nil)))
 (pss_cons (ps_fld (pv 0) (pe_tupleOf (by rfl) TT.tuple (pe_lc (own := [("row", 3)]) (g := (gName 3)) (tt := tYes) rfl sc_minit.nd (pi_tup (pv 1)) (blkOk_by (N := ["self", "rows", "at", "row"]) (sc := defScope s_minit) (by decide +kernel)) (fun _ _ _ _ _ => (pg_name (i := 3) sc_minit.nd rfl (Or.inl rfl))) (fun _ _ _ _ _ => pts_nil) (fun _ _ _ _ _ => (pe_tupleOfK (K := K) rfl (by rfl) TT.tuple (pv 3))))) rfl)
 (pss_cons (ps_fld (pv 0) (pe_callB call_len_seq (by rfl) TT.len PySem.boot_len (pa_cons (pv 1) pa_nil)) rfl)
 (pss_one (ps_fld (pv 0) (pe_callB call_len_seq (by rfl) TT.len PySem.boot_len (pa_cons (pe_ix ix_tup (pv 1) pe_int (fun _ _ => rfl)) pa_nil)) rfl))))), ?_⟩
      refine ⟨_, rfl, a, us, rfl, hS', for_it walk_enumT (fun i σ H' => Same H H' ∧ (∀ j, j < i → lenAt rs j = lenAt rs 0) ∧ ∃ y2 y3, σ = [some (.ref x), some (.ref a), y2, y3]) ⟨Same.refl H, fun j h => absurd h (Nat.not_lt_zero j), none, none, rfl⟩ (fun i σ H' _ h => (Evl.ex_t h.1 hS')) ?_ ?_⟩
      · rintro i v σ H1 H2 hi ⟨s1, good, y2, y3, rfl⟩ ⟨Tp, x1, v1, rfl, nT, rfl, hx1, hv1⟩
        cases hx1
        rw [hr.1] at hi
        obtain ⟨v', hv', q', rfl, hq'⟩ := hr.2 i _ (atDr hi)
        have ev : v1 = .ref q' := Option.some.inj (hv1.symm.trans hv')
        subst ev
        have s2 := s1.trans (same_upd (o := .tup [.int (i : Nat), .ref q']) nT)
        obtain ⟨v0, hv0, q0, rfl, hq0⟩ := hr.2 0 _ (atDr (show 0 < rs.length by omega))
        refine ⟨Tp, _, rfl, SqT.of upd_same, rfl, _, _, rfl, _, _, rfl, rfl, ?_⟩
        refine ⟨_, rfl, q', _, rfl, hq'.elim (fun h => .inl (SqL.of (s2 _ _ h))) (fun h => .inr (SqT.of (s2 _ _ h))), _, rfl, a, _, _, _, rfl, rfl, (Evl.ex_t s2 hS'), (atI_nat (j := 0) hv0), q0, _, rfl, hq0.elim (fun h => .inl (SqL.of (s2 _ _ h))) (fun h => .inr (SqT.of (s2 _ _ h))), rfl, _, rfl, ?_⟩
        rw [List.length_map, List.length_map]
        by_cases c : lenAt rs i = lenAt rs 0
        · have e : (rs.getD i []).length = (rs.getD 0 []).length := c
          refine if_neg_of (by rw [e]; simp) ?_
          refine ⟨s2, fun j hj => ?_, _, _, rfl⟩
          by_cases ej : j = i
          · rw [ej]
            exact c
          · exact good j (by omega)
        · refine if_pos_of ?_ ?_
          · have e : ¬ (rs.getD i []).length = (rs.getD 0 []).length := c
            simp only [Bool.not_eq_true', decide_eq_false_iff_not, ne_eq]
            intro e2
            exact e (by have := V.int.inj e2; omega)
          · refine ⟨_, rfl, ?_⟩
            exact mkP ⟨i, rfl, by omega⟩ fun d H3 s3 _ hd => qe i hi c good d H3 (s2.trans s3) hd
      · rintro σ H1 ⟨s1, good, y2, y3, rfl⟩
        rw [hr.1] at good
        have hS1 := (Evl.ex_t s1 hS')
        have hr1 := hr.same s1
        refine ⟨_, rfl, a, rfl, ⟨_, hS1⟩, fun D nD => lcObj walk_tup (RT fun i => rs.getD i []) nD (fun H s => (Evl.ex_t s hS1)) ?_ ?_⟩
        · rintro i v H2 _ hi p2 ⟨rfl, hv⟩
          rw [hr.1] at hi
          obtain ⟨v', hv', q', rfl, hq'⟩ := (hr1.same p2.1).2 i _ (atDr hi)
          have ev : v = .ref q' := Option.some.inj (hv.symm.trans hv')
          subst ev
          obtain ⟨acc, hacc, _⟩ := p2.2
          refine ⟨rfl, _, rfl, ?_⟩
          rcases hq' with h | h
          · refine .inl ⟨q', _, rfl, SqL.of h, fun t nt => ?_⟩
            exact objEnd stab_RT nD p2 (same_upd nt) (by omega) (ref_ne nt hacc) ⟨t, rfl, upd_same⟩
          · refine .inr ⟨q', _, rfl, SqT.of h, ?_⟩
            exact objEnd stab_RT nD p2 (Same.refl _) (by omega) (ref_ne2 h hacc) ⟨q', rfl, h⟩
        · intro H2 acc s2 hacc hl hel
          refine .inl ⟨D, _, rfl, SqL.of hacc, fun t nt => ?_⟩
          have hx2 := s2 _ _ (s1 _ _ hx)
          have s3 := same_upd (o := .tup acc) nt
          have hx3 := s3 _ _ hx2
          refine ⟨_, rfl, x, C, dx, [], rfl, hx3, T.cl, T.nR, (by show 0 < 1000; decide), ?_⟩
          have ntx : t ≠ x := ne_of_none' nt hx2
          have hS3 := sqT_insM (o := .ins C dx (putF "rows" (.ref t) [])) hx3 (Evl.ex_t s3 ((Evl.ex_t s2 hS1)))
          refine ⟨_, rfl, a, _, rfl, .inr hS3, _, rfl, x, C, dx, _, rfl, upd_same, T.cl, T.nH, (by show 1 < 1000; decide), ?_⟩
          have hS4 := sqT_insM (o := .ins C dx (putF "height" (.int (us.length : Int)) (putF "rows" (.ref t) []))) upd_same hS3
          obtain ⟨v0, hv0, q0, rfl, hq0⟩ := hr.2 0 _ (atDr (show 0 < rs.length by omega))
          have sAll := (s1.trans s2).trans s3
          have hq4 : SqL K (upd (upd (upd H2 t (.tup acc)) x (.ins C dx (putF "rows" (.ref t) []))) x (.ins C dx (putF "height" (.int (us.length : Int)) (putF "rows" (.ref t) [])))) q0 ((rs.getD 0 []).map V.int) ∨ SqT K (upd (upd (upd H2 t (.tup acc)) x (.ins C dx (putF "rows" (.ref t) []))) x (.ins C dx (putF "height" (.int (us.length : Int)) (putF "rows" (.ref t) [])))) q0 ((rs.getD 0 []).map V.int) := by
            rcases hq0 with h | h
            · exact .inl (sqL_ins upd_same (sqL_ins hx3 (SqL.of (sAll _ _ h))))
            · exact .inr (sqT_insM upd_same (sqT_insM hx3 (SqT.of (sAll _ _ h))))
          refine ⟨_, rfl, a, _, _, _, rfl, rfl, hS4, (atI_nat (j := 0) hv0), q0, _, rfl, hq4, _, rfl, x, C, dx, _, rfl, upd_same, T.cl, T.nW, (by show 2 < 1000; decide), ?_⟩
          rw [List.length_map, hr.1]
          have keep : ∀ b o, H b = some o → b ≠ x → (upd (upd (upd (upd H2 t (.tup acc)) x (.ins C dx (putF "rows" (.ref t) []))) x (.ins C dx (putF "height" (.int (rs.length : Int)) (putF "rows" (.ref t) [])))) x (.ins C dx (putF "width" (.int ((rs.getD 0 []).length : Int)) (putF "height" (.int (rs.length : Int)) (putF "rows" (.ref t) []))))) b = some o := fun b o hb hbx => by
            rw [upd_ne hbx, upd_ne hbx, upd_ne hbx]
            exact sAll _ _ hb
          refine q good _ ⟨⟨dx, t, acc, upd_same, ?_, by rw [hl, hr.1], fun i hi => ?_⟩, n1, n2, l1, by exact l2 0 (by omega)⟩ keep
          · rw [upd_ne ntx, upd_ne ntx, upd_ne ntx]
            exact upd_same
          · have hi2 : i < acc.length := by rw [hl, hr.1]; exact hi
            obtain ⟨nv, q', e, hq'⟩ := hel i _ (List.getElem?_eq_getElem hi2)
            refine ⟨q', by rw [List.getElem?_eq_getElem hi2, e], ?_⟩
            have er : rs.getD i [] = rngN (lenAt rs 0) (ent rs i) := row_rng (good i hi)
            have hq2 : H2 q' = some (.tup ((rs.getD i []).map V.int)) := hq'
            rw [er] at hq2
            have nqx : q' ≠ x := fun e => by rw [e, hx2] at hq2; cases hq2
            rw [upd_ne nqx, upd_ne nqx, upd_ne nqx]
            exact s3 _ _ hq2
-- part matm
/-! matrices: made of rows; the methods -/
def mrows (h w : Nat) (f : Nat → Nat → Int) : List (List Int) := (List.range h).map fun i => rngN w (f i)
theorem mrows_len (h w : Nat) (f : Nat → Nat → Int) : (mrows h w f).length = h := by
  unfold mrows
  rw [List.length_map, List.length_range]
theorem mrows_at {h w : Nat} {f : Nat → Nat → Int} {i : Nat} (hi : i < h) : (mrows h w f)[i]? = some (rngN w (f i)) := by
  unfold mrows
  rw [List.getElem?_map, List.getElem?_range hi]
  rfl
theorem mrows_lenAt {h w : Nat} {f : Nat → Nat → Int} {i : Nat} (hi : i < h) : lenAt (mrows h w f) i = w := by
  unfold lenAt
  rw [getDr (mrows_at hi), rngN_len]
theorem mrows_ent {h w : Nat} {f : Nat → Nat → Int} {i k : Nat} (hi : i < h) (hk : k < w) : ent (mrows h w f) i k = f i k := by
  unfold ent
  rw [getDr (mrows_at hi), rngN_get, if_pos hk]
/-- a matrix is made at x, what follows is any word -/
theorem make_maA {C CB x dx : Addr} {tup : Bool} {H1 : Hp} {a : Addr} {us : List V} {h w : Nat} {f : Nat → Nat → Int} {R : VK} (hx : H1 x = none) (hdx : H1 dx = none) (hS : if tup = true then SqT K H1 a us else SqL K H1 a us) (hr : RowsIn H1 us (mrows h w f)) (h1 : 1 ≤ h) (h2 : h ≤ 40) (w1 : 1 ≤ w) (w2 : w ≤ 40)
    (k : ∀ (H2 : Hp), MatAt C H2 x h w f → Same H1 H2 → R .non H2) : spMI C CB tup K (.ref x :: ([.ref a] ++ [])) (upd (upd H1 dx (.own x)) x (.ins C dx [])) R E0 := by
  have s1 : Same H1 (upd (upd H1 dx (.own x)) x (.ins C dx [])) := fun b o eb => by
    rw [upd_ne (ne_of_none eb hx), upd_ne (ne_of_none eb hdx)]
    exact eb
  have l0 : lenAt (mrows h w f) 0 = w := mrows_lenAt (by omega)
  refine ⟨x, dx, a, us, mrows h w f, rfl, upd_same, ?_, hr.same s1, by rw [mrows_len]; exact h1, by rw [mrows_len]; exact h2, fun i hi => ?_, by rw [l0]; exact w1, fun _ H' m keep => ?_, fun i hi ne _ => ?_⟩
  · cases tup with
    | true =>
      have h : SqT K H1 a us := hS
      exact Evl.ex_t s1 h
    | false =>
      have h : SqL K H1 a us := hS
      exact s1.seq h
  · rw [mrows_len] at hi
    rw [mrows_lenAt hi]
    exact w2
  · rw [mrows_len, l0] at m
    refine k H' (m.congr fun i j hi hj => mrows_ent hi hj) fun b o eb => keep b o (s1 b o eb) (ne_of_none eb hx)
  · rw [mrows_len] at hi
    rw [mrows_lenAt hi, l0] at ne
    exact absurd rfl ne
theorem rows_of {H : Hp} {D : Addr} {acc : List V} {h w : Nat} {f : Nat → Nat → Int} (hl : acc.length = h) (hel : ∀ j v, acc[j]? = some v → v ≠ .ref D ∧ RL w f j v H) : RowsIn H acc (mrows h w f) := by
  refine ⟨by rw [hl, mrows_len], fun i r hr => ?_⟩
  have hi : i < h := by
    have := (List.getElem?_eq_some_iff.mp hr).1
    rw [mrows_len] at this
    exact this
  rw [mrows_at hi] at hr
  obtain rfl := Option.some.inj hr
  have ha : acc[i]? = some acc[i] := List.getElem?_eq_getElem (by omega)
  obtain ⟨_, q, e, hq⟩ := hel i _ ha
  exact ⟨_, ha, q, e, .inl hq⟩
theorem rows_ofT {H : Hp} {D : Addr} {acc : List V} {h w : Nat} {f : Nat → Nat → Int} (hl : acc.length = h) (hel : ∀ j v, acc[j]? = some v → v ≠ .ref D ∧ RT (fun i => rngN w (f i)) j v H) : RowsIn H acc (mrows h w f) := by
  refine ⟨by rw [hl, mrows_len], fun i r hr => ?_⟩
  have hi : i < h := by
    have := (List.getElem?_eq_some_iff.mp hr).1
    rw [mrows_len] at this
    exact this
  rw [mrows_at hi] at hr
  obtain rfl := Option.some.inj hr
  have ha : acc[i]? = some acc[i] := List.getElem?_eq_getElem (by omega)
  obtain ⟨_, q, e, hq⟩ := hel i _ ha
  exact ⟨_, ha, q, e, .inr hq⟩
abbrev s_shape : Stmt := top 13
theorem sc_shape : FnScope ["matrix"] ["matrix"] (defScope s_shape) := ⟨rfl, rfl, rfl, by decide +kernel, rfl, by decide +kernel, by decide +kernel⟩
def spShape (C : Addr) : Sp := fun vs H Q _ => ∃ (a : Addr) (h w : Nat) (f : Nat → Nat → Int), vs = [.ref a] ∧ MatAt C H a h w f ∧ ∀ t, H t = none → Q (.ref t) (upd H t (.tup [.int (h : Int), .int (w : Int)]))
theorem ok_shape {f C : Addr} {fd : FuncData} (T : MaT K mg C) (F : Fun K "shape_of" "shape_of" s_shape f fd) : FnOk P w K mg base CX0 1 f fd ["matrix"] (spShape C) := by
  refine F.ok sc_shape (fun vs H Q E h => ?_) (fun cdv A outer s H vs Q E hr h => ?_)
  · obtain ⟨a, h, w, g, rfl, _⟩ := h
    rfl
  · obtain ⟨a, h, w, g, rfl, m, q⟩ := h
    obtain ⟨dx, t, us, o1, o2, o3, o4⟩ := m.ob
    refine ⟨_, (pss_one (ps_ret (pe_tup (pa_cons (pe_fld (pv 0) rfl) (pa_cons (pe_fld (pv 0) rfl) pa_nil))))), ?_⟩
    exact ⟨_, rfl, a, C, dx, _, _, rfl, o1, T.cl, T.nH, maF_h _ _ _, _, rfl, a, C, dx, _, _, rfl, o1, T.cl, T.nW, maF_w _ _ _, (by show 2 ≤ sizeLine; decide), q⟩
abbrev s_mscal : Stmt := inClass (top 14) 10
theorem sc_mscal : FnScope ["self", "n", "item", "row"] ["self", "n"] (defScope s_mscal) := ⟨rfl, rfl, rfl, by decide +kernel, rfl, by decide +kernel, by decide +kernel⟩
def spMsc (C : Addr) : Sp := fun vs H Q _ => ∃ (a : Addr) (h w : Nat) (f : Nat → Nat → Int) (n : Int), vs = [.ref a, .int n] ∧ MatAt C H a h w f ∧ n.natAbs < 2 ^ 60 ∧ ∀ r H', MatAt C H' r h w (fun i k => n * f i k) → Same H H' → Q (.ref r) H'
theorem ok_mscal {f C CB : Addr} {fd : FuncData} (T : MaT K mg C) (F : Fun K "scaled" "Matrix.scaled" s_mscal f fd) (c_mil : Ma P w K mg base 3 C (spMI C CB false K)) : FnOk P w K mg base CX0 5 f fd ["self", "n"] (spMsc C) := by
  refine F.ok sc_mscal (fun vs H Q E h => ?_) (fun cdv A outer s H vs Q E hr h => ?_)
  · obtain ⟨a, h, w, g, n, rfl, _⟩ := h
    rfl
  · obtain ⟨a, h, w, g, n, rfl, m, hn, q⟩ := h
    obtain ⟨dx, t, us, o1, o2, o3, o4⟩ := m.ob
    have h2 := m.h2
    have w2 := m.w2
    refine ⟨_, (pss_one (ps_ret (pe_ma c_mil hr T.g (pa_cons (pe_lc (own := [("row", 3)]) (g := (gName 3)) (tt := tYes) rfl sc_mscal.nd (pi_tup (pe_fld (pv 0) rfl)) (blkOk_by (N := ["self", "n", "item", "row"]) (sc := defScope s_mscal) (by decide +kernel)) (fun _ _ _ _ _ => (pg_name (i := 3) sc_mscal.nd rfl (Or.inl rfl))) (fun _ _ _ _ _ => pts_nil) (fun _ _ _ _ _ => (pe_lc (own := [("item", 2)]) (g := (gName 2)) (tt := tYes) rfl sc_mscal.nd (pi_tupK (K := K) rfl (pv 3)) (blkOk_by (N := ["self", "n", "item", "row"]) (sc := ({ kind := .function, names := [(".0", .local), ("row", .local), ("n", .cell)], isGenerator := false, isCoroutine := false, more := [] } : Scope)) (by decide +kernel)) (fun _ _ _ _ _ => (pg_name (i := 2) sc_mscal.nd rfl (Or.inl rfl))) (fun _ _ _ _ _ => pts_nil) (fun _ _ _ _ _ => (pe_op op_mul (pv 1) (pv 2)))))) pa_nil)))), ?_⟩
    refine ⟨_, rfl, a, C, dx, _, _, rfl, o1, T.cl, T.nR, maF_r _ _ _, t, rfl, ⟨_, SqT.of o2⟩, fun D nD => lcObj walk_tup (RL w (fun i k => n * g i k)) nD (fun H s => SqT.of (s _ _ o2)) ?_ ?_⟩
    · rintro i v H2 _ hi p2 ⟨rfl, hv⟩
      rw [o3] at hi
      obtain ⟨q', e, hq⟩ := o4 i hi
      have ev : v = .ref q' := Option.some.inj (hv.symm.trans e)
      subst ev
      have hq2 := p2.1 _ _ hq
      obtain ⟨acc, hacc, _⟩ := p2.2
      refine ⟨rfl, _, rfl, q', rfl, ⟨_, SqT.of hq2⟩, fun D2 nD2 => lcMap walk_tup ((rngN w fun k => n * g i k).map V.int) (by rw [List.length_map, List.length_map, rngN_len, rngN_len]) nD2 (fun H s => SqT.of (s _ _ hq2)) ?_ ?_⟩
      · rintro k y H3 _ hk s3 hL ⟨rfl, hy⟩
        rw [List.length_map, rngN_len] at hk
        obtain ⟨z, rfl, hz⟩ := item_int hy
        rw [rngN_at hk] at hz
        obtain rfl := Option.some.inj hz
        refine ⟨rfl, _, rfl, _, rfl, _, _, rfl, rfl, .inl ⟨by omega, by omega⟩, ?_⟩
        exact mapEnd nD2 (by rw [List.length_map, rngN_len]; omega) s3 hL (map_at (f := V.int) (rngN_at hk))
      · intro H3 s3 hL
        exact objEnd stab_RL nD p2 s3 (by omega) (ref_ne nD2 hacc) ⟨D2, rfl, hL⟩
    · intro H2 acc s2 hacc hl hel
      exact fun x dx' nx ndx _ => make_maA (tup := false) nx ndx (SqL.of hacc) (rows_of (by rw [hl, o3]) hel) m.h1 h2 m.w1 w2 fun H3 mr s3 => ⟨rfl, q x H3 mr (s2.trans s3)⟩
abbrev s_mneg : Stmt := inClass (top 14) 6
theorem sc_mneg : FnScope ["self"] ["self"] (defScope s_mneg) := ⟨rfl, rfl, rfl, by decide +kernel, rfl, by decide +kernel, by decide +kernel⟩
def spMneg (C : Addr) : Sp := fun vs H Q _ => ∃ (a : Addr) (h w : Nat) (f : Nat → Nat → Int), vs = [.ref a] ∧ MatAt C H a h w f ∧ ∀ r H', MatAt C H' r h w (fun i k => -f i k) → Same H H' → Q (.ref r) H'
theorem ok_mneg {f C : Addr} {fd : FuncData} (T : MaT K mg C) (F : Fun K "__neg__" "Matrix.__neg__" s_mneg f fd) (c_scal : Me P w K mg base 5 C "scaled" (spMsc C)) : FnOk P w K mg base CX0 6 f fd ["self"] (spMneg C) := by
  refine F.ok sc_mneg (fun vs H Q E h => ?_) (fun cdv A outer s H vs Q E hr h => ?_)
  · obtain ⟨a, h, w, g, rfl, _⟩ := h
    rfl
  · obtain ⟨a, h, w, g, rfl, m, q⟩ := h
    obtain ⟨dx, t, us, o1, o2, o3, o4⟩ := m.ob
    refine ⟨_, (pss_one (ps_ret (pe_me c_scal T.cl hr (pv 0) (pa_cons (pe_un un_neg pe_int) pa_nil)))), ?_⟩
    refine ⟨_, rfl, a, dx, _, rfl, o1, maF_no _ _ _ (by decide +kernel) (by decide +kernel) (by decide +kernel), _, rfl, a, h, w, g, -1, rfl, m, by decide, fun r H' mr s' => q r H' (mr.congr fun i k _ _ => by omega) s'⟩
-- part matn
theorem ix_tupK {X : Cx} {K : PySem.W.Frag} (hK : X.K = K) : IxR X (rIxT K) := by
  subst hK
  exact ix_tup
/-- the sum of the products of two rows -/
def dotN (w : Nat) (f g : Nat → Int) : Int := (rngN w fun k => f k * g k).sum
theorem rng_zip (w : Nat) (op : Int → Int → Int) (f g : Nat → Int) : List.zipWith op (rngN w f) (rngN w g) = rngN w fun k => op (f k) (g k) := by
  refine List.ext_getElem? fun k => ?_
  rw [List.getElem?_zipWith]
  by_cases c : k < w
  · rw [rngN_at c, rngN_at c, rngN_at c] <;> rfl
  · rw [List.getElem?_eq_none (by rw [rngN_len]; omega), List.getElem?_eq_none (l := rngN w fun k => op (f k) (g k)) (by rw [rngN_len]; omega)] <;> rfl
abbrev s_sop : Stmt := top 7
theorem sc_sop : FnScope ["first", "second", "m", "n"] ["first", "second"] (defScope s_sop) := ⟨rfl, rfl, rfl, by decide +kernel, rfl, by decide +kernel, by decide +kernel⟩
def spSop (K : PySem.W.Frag) : Sp := fun vs H Q _ => ∃ (a b : Addr) (w : Nat) (f g : Nat → Int), vs = [.ref a, .ref b] ∧ SqT K H a ((rngN w f).map V.int) ∧ SqT K H b ((rngN w g).map V.int) ∧ w ≤ 40 ∧ (∀ k, k < w → CMulW (f k) (g k)) ∧ ∀ H', Same H H' → Q (.int (dotN w f g)) H'
theorem ok_sop {f : Addr} {fd : FuncData} (T : Txt mg) (hsum : mg "sum" = none) (hzip : mg "zip" = none) (F : Fun K "sum_of_products" "sum_of_products" s_sop f fd) : FnOk P w K mg base CX0 1 f fd ["first", "second"] (spSop K) := by
  refine F.ok sc_sop (fun vs H Q E h => ?_) (fun cdv A outer s H vs Q E hr h => ?_)
  · obtain ⟨a, b, w, f, g, rfl, _⟩ := h
    rfl
  · obtain ⟨a, b, w, f', g', rfl, ha, hb, hw, hm, q⟩ := h
    refine ⟨_, (pss_one (ps_ret (pe_callB (cr_sum rfl) (by rfl) hsum (by decide +kernel) (pa_cons (pe_lc (own := [("m", 2), ("n", 3)]) (g := (gTup K 2 (gCons (gName 2) (gCons (gName 3) gNil)))) (tt := tYes) rfl sc_sop.nd (RZ.pi_zipA rfl hzip (pa_cons (pv 0) (pa_cons (pv 1) pa_nil))) (blkOk_by (N := ["first", "second", "m", "n"]) (sc := defScope s_sop) (by decide +kernel)) (fun _ _ _ _ _ => (pg_tup rfl (pgs_cons (pg_name (i := 2) sc_sop.nd rfl (Or.inl rfl)) (pgs_cons (pg_name (i := 3) sc_sop.nd rfl (Or.inl rfl)) pgs_nil)))) (fun _ _ _ _ _ => pts_nil) (fun _ _ _ _ _ => (pe_op op_mulW (pv 2) (pv 3)))) pa_nil)))), ?_⟩
    refine ⟨_, rfl, _, rfl, a, b, _, _, rfl, .inr ⟨ha, hb, fun D nD => lcMap (walk_zipT (n := w) (by rw [List.length_map, List.length_map, rngN_len, rngN_len, Nat.min_self])) ((rngN w fun k => f' k * g' k).map V.int) (by rw [List.length_map, rngN_len]) nD (fun H s => ⟨Evl.ex_t s ha, Evl.ex_t s hb⟩) ?_ ?_⟩⟩
    · rintro i x H4 H5 hi s4 hL ⟨Tp, x1, y1, rfl, nT, rfl, hx1, hy1⟩
      obtain ⟨z1, rfl, hz1⟩ := item_int hx1
      obtain ⟨z2, rfl, hz2⟩ := item_int hy1
      rw [rngN_at hi] at hz1 hz2
      obtain rfl := Option.some.inj hz1
      obtain rfl := Option.some.inj hz2
      refine ⟨Tp, _, rfl, SqT.of upd_same, rfl, _, _, rfl, _, _, rfl, rfl, rfl, _, rfl, _, rfl, _, _, rfl, rfl, hm i hi, ?_⟩
      have s5 := same_upd (o := .tup [.int (f' i), .int (g' i)]) nT
      exact mapEnd nD (by rw [List.length_map, rngN_len]; omega) (s4.trans s5) (s5 _ _ hL) (map_at (f := V.int) (rngN_at hi))
    · intro H4 s4 hL
      exact ⟨D, _, rfl, SqL.of hL, q H4 s4⟩
abbrev s_mtran : Stmt := inClass (top 14) 11
theorem sc_mtran : FnScope ["self", "row", "k"] ["self"] (defScope s_mtran) := ⟨rfl, rfl, rfl, by decide +kernel, rfl, by decide +kernel, by decide +kernel⟩
def spMtr (C : Addr) : Sp := fun vs H Q _ => ∃ (a : Addr) (h w : Nat) (f : Nat → Nat → Int), vs = [.ref a] ∧ MatAt C H a h w f ∧ ∀ r H', MatAt C H' r w h (fun i k => f k i) → Same H H' → Q (.ref r) H'
theorem ok_mtran {f C CB : Addr} {fd : FuncData} (TT : Txt mg) (T : MaT K mg C) (F : Fun K "transposed" "Matrix.transposed" s_mtran f fd) (c_mil : Ma P w K mg base 3 C (spMI C CB false K)) : FnOk P w K mg base CX0 5 f fd ["self"] (spMtr C) := by
  refine F.ok sc_mtran (fun vs H Q E h => ?_) (fun cdv A outer s H vs Q E hr h => ?_)
  · obtain ⟨a, h, w, g, rfl, _⟩ := h
    rfl
  · obtain ⟨a, h, w, g, rfl, m, q⟩ := h
    obtain ⟨dx, t, us, o1, o2, o3, o4⟩ := m.ob
    have h2 := m.h2
    have w2 := m.w2
    refine ⟨_, (pss_one (ps_ret (pe_ma c_mil hr T.g (pa_cons (pe_lc (own := [("k", 2)]) (g := (gName 2)) (tt := tYes) rfl sc_mtran.nd (pi_range1 rfl TT.range (pa_cons (pe_fld (pv 0) rfl) pa_nil)) (blkOk_by (N := ["self", "row", "k"]) (sc := defScope s_mtran) (by decide +kernel)) (fun _ _ _ _ _ => (pg_name (i := 2) sc_mtran.nd rfl (Or.inr rfl))) (fun _ _ _ _ _ => pts_nil) (fun _ _ _ _ _ => (pe_lc (own := [("row", 1)]) (g := (gName 1)) (tt := tYes) rfl sc_mtran.nd (pi_tupK (K := K) rfl (pe_fldK (K := K) rfl (pv 0) rfl)) (blkOk_by (N := ["self", "row", "k"]) (sc := ({ kind := .function, names := [(".0", .local), ("k", .cell), ("self", .cell)], isGenerator := false, isCoroutine := false, more := [] } : Scope)) (by decide +kernel)) (fun _ _ _ _ _ => (pg_name (i := 1) sc_mtran.nd rfl (Or.inl rfl))) (fun _ _ _ _ _ => pts_nil) (fun _ _ _ _ _ => (pe_ix (r := _) (by exact (ix_tupK (K := K) rfl)) (pv 1) (pv 2) (fun _ _ => rfl)))))) pa_nil)))), ?_⟩
    refine ⟨_, rfl, a, C, dx, _, _, rfl, o1, T.cl, T.nW, maF_w _ _ _, (w : Int), rfl, by omega, by omega, fun D nD => lcObj walk_range0 (RL h (fun i k => g k i)) nD (fun _ _ => trivial) ?_ ?_⟩
    · rintro i v H2 _ hi p2 ⟨rfl, rfl⟩
      rw [Int.toNat_natCast] at hi
      obtain ⟨acc, hacc, _⟩ := p2.2
      have s2 := p2.1
      refine ⟨rfl, _, rfl, a, C, dx, _, _, rfl, s2 _ _ o1, T.cl, T.nR, maF_r _ _ _, t, rfl, ⟨_, SqT.of (s2 _ _ o2)⟩, fun D2 nD2 => lcMap walk_tup ((rngN h fun k => g k i).map V.int) (by rw [List.length_map, rngN_len, o3]) nD2 (fun H s => SqT.of (s _ _ (s2 _ _ o2))) ?_ ?_⟩
      · rintro k y H3 _ hk s3 hL ⟨rfl, hy⟩
        rw [o3] at hk
        obtain ⟨q', e, hq⟩ := o4 k hk
        have ev : y = .ref q' := Option.some.inj (hy.symm.trans e)
        subst ev
        refine ⟨rfl, _, rfl, _, rfl, q', _, _, _, rfl, rfl, SqT.of (s3 _ _ (s2 _ _ hq)), atI_nat (map_at (f := V.int) (rngN_at hi)), ?_⟩
        exact mapEnd nD2 (by rw [List.length_map, rngN_len]; omega) s3 hL (map_at (f := V.int) (rngN_at hk))
      · intro H3 s3 hL
        exact objEnd stab_RL nD p2 s3 (by omega) (ref_ne nD2 hacc) ⟨D2, rfl, hL⟩
    · intro H2 acc s2 hacc hl hel
      exact fun x dx' nx ndx _ => make_maA (tup := false) nx ndx (SqL.of hacc) (rows_of (by rw [hl]; exact Int.toNat_natCast w) hel) m.w1 w2 m.h1 h2 fun H3 mr s3 => ⟨rfl, q x H3 mr (s2.trans s3)⟩
-- part mato
/-! the operators of two matrices -/
def spUs (CU : Addr) (K : PySem.W.Frag) (E : XK) (H : Hp) (h w h' w' : Nat) : Prop := ∀ d t1 t2 H', Same H H' → H' t1 = some (.tup [.int (h : Int), .int (w : Int)]) → H' t2 = some (.tup [.int (h' : Int), .int (w' : Int)]) → H' d = some (.xd [("second", .ref t2), ("first", .ref t1)]) → E (.ref CU) (some d) H'
theorem okTup_of {H : Hp} {t : Addr} {h w : Nat} (hh : h ≤ 40) (hw : w ≤ 40) (e : H t = some (.tup [.int (h : Int), .int (w : Int)])) : okTup K (.ref t) H := by
  refine ⟨t, [(h : Int), (w : Int)], rfl, SqT.of e, fun i hi => ?_, (by show 2 ≤ 10; decide)⟩
  rcases List.mem_cons.mp hi with rfl | hi
  · exact log_nat (by omega)
  · rw [List.mem_singleton.mp hi]
    exact log_nat (by omega)
abbrev s_madd : Stmt := inClass (top 14) 4
theorem sc_madd : FnScope ["self", "other", "m", "n", "mine", "others"] ["self", "other"] (defScope s_madd) := ⟨rfl, rfl, rfl, by decide +kernel, rfl, by decide +kernel, by decide +kernel⟩
def spMadd (C CU : Addr) (sg : Int → Int) (K : PySem.W.Frag) : Sp := fun vs H Q E => ∃ (a b : Addr) (h w h' w' : Nat) (f g : Nat → Nat → Int), vs = [.ref a, .ref b] ∧ MatAt C H a h w f ∧ MatAt C H b h' w' g ∧ (¬ (h = h' ∧ w = w') → spUs CU K E H h w h' w') ∧
  (h = h' ∧ w = w' → ∀ r H', MatAt C H' r h w (fun i k => f i k + sg (g i k)) → Same H H' → Q (.ref r) H')
theorem ok_madd {f C CB CU : Addr} {fd : FuncData} (hzip : mg "zip" = none) (T : MaT K mg C) (F : Fun K "__add__" "Matrix.__add__" s_madd f fd) (c_shape : Cl P w K mg base CX0 1 "shape_of" (spShape C)) (x_us : ErG P w K mg base "UnlikeShapes" CU (spInit2 CU "first" "second" (okTT K))) (c_mil : Ma P w K mg base 3 C (spMI C CB false K)) :
    FnOk P w K mg base (L2N.CX P w) 5 f fd ["self", "other"] (spMadd C CU (fun z => z) K) := by
  refine okN F sc_madd (fun vs H Q E h => ?_) (fun cdv A outer s H vs Q E hr h => ?_)
  · obtain ⟨a, b, _, _, _, _, _, _, rfl, _⟩ := h
    rfl
  · obtain ⟨a, b, h, w, h', w', g, g', rfl, m, m', qe, q⟩ := h
    obtain ⟨dx, t, us, o1, o2, o3, o4⟩ := m.ob
    obtain ⟨dy, u, ws, u1, u2, u3, u4⟩ := m'.ob
    have h2 := m.h2
    have w2 := m.w2
    have h2' := m'.h2
    have w2' := m'.w2
    refine ⟨_, (Evl.pss_cut (ps_if (pt_cmpR (op_neD (hu64 hr)) (pe_cl c_shape hr (pa_cons (pv 0) pa_nil)) (pe_cl c_shape hr (pa_cons (pv 1) pa_nil)) (nomark _)) (pss_one (ps_raiseG x_us hr (L2N.takes_of rfl rfl rfl rfl) (pa_cons (pe_cl c_shape hr (pa_cons (pv 0) pa_nil)) (pa_cons (pe_cl c_shape hr (pa_cons (pv 1) pa_nil)) pa_nil)))) pss_nil)
 (pss_one (ps_ret (pe_ma c_mil hr T.g (pa_cons (pe_lc (own := [("mine", 4), ("others", 5)]) (g := (gTup K 2 (gCons (gName 4) (gCons (gName 5) gNil)))) (tt := tYes) rfl sc_madd.nd (RZ.pi_zipA rfl hzip (pa_cons (pe_fld (pv 0) rfl) (pa_cons (pe_fld (pv 1) rfl) pa_nil))) (blkOk_by (N := ["self", "other", "m", "n", "mine", "others"]) (sc := defScope s_madd) (by decide +kernel)) (fun _ _ _ _ _ => (pg_tup rfl (pgs_cons (pg_name (i := 4) sc_madd.nd rfl (Or.inl rfl)) (pgs_cons (pg_name (i := 5) sc_madd.nd rfl (Or.inl rfl)) pgs_nil)))) (fun _ _ _ _ _ => pts_nil) (fun _ _ _ _ _ => (pe_lc (own := [("m", 2), ("n", 3)]) (g := (gTup K 2 (gCons (gName 2) (gCons (gName 3) gNil)))) (tt := tYes) rfl sc_madd.nd (pi_zipAK (K := K) rfl (by rfl) hzip (pa_cons (pv 4) (pa_cons (pv 5) pa_nil))) (blkOk_by (N := ["self", "other", "m", "n", "mine", "others"]) (sc := ({ kind := .function, names := [(".0", .local), ("mine", .local), ("others", .local), ("zip", .globalImplicit)], isGenerator := false, isCoroutine := false, more := [] } : Scope)) (by decide +kernel)) (fun _ _ _ _ _ => (pg_tup rfl (pgs_cons (pg_name (i := 2) sc_madd.nd rfl (Or.inl rfl)) (pgs_cons (pg_name (i := 3) sc_madd.nd rfl (Or.inl rfl)) pgs_nil)))) (fun _ _ _ _ _ => pts_nil) (fun _ _ _ _ _ => (pe_op op_add (pv 2) (pv 3)))))) pa_nil))))), ?_⟩
    refine ⟨fun σ H' => Same H H' ∧ h = h' ∧ w = w' ∧ σ = [some (.ref a), some (.ref b), none, none, none, none], ?_, ?_⟩
    · refine ⟨_, rfl, a, h, w, g, rfl, m, fun t1 n1 => ?_⟩
      have k1 := same_upd (o := .tup [.int (h : Int), .int (w : Int)]) n1
      refine ⟨_, rfl, b, h', w', g', rfl, m'.same k1, fun t2 n2 => ?_⟩
      have k2 := same_upd (o := .tup [.int (h' : Int), .int (w' : Int)]) n2
      refine ⟨_, _, dp_tup (l := [(h : Int), (w : Int)]) (SqT.of (k2 _ _ upd_same)), dp_tup (l := [(h' : Int), (w' : Int)]) (SqT.of upd_same), shaped_intsT _, shaped_intsT _, _, rfl, ?_⟩
      rw [eqv_intsT]
      by_cases c : h = h' ∧ w = w'
      · refine if_neg_of (by rw [c.1, c.2]; simp) ⟨k1.trans k2, c.1, c.2, rfl⟩
      · refine if_pos_of ?_ ?_
        · rw [decide_eq_false fun e => c ?_]
          · rfl
          · have e1 := (List.cons.inj e).1
            have e2 := (List.cons.inj (List.cons.inj e).2).1
            exact ⟨by omega, by omega⟩
        · have k12 := k1.trans k2
          refine ⟨_, rfl, a, h, w, g, rfl, m.same k12, fun t3 n3 => ?_⟩
          have k3 := same_upd (o := .tup [.int (h : Int), .int (w : Int)]) n3
          refine ⟨_, rfl, b, h', w', g', rfl, m'.same (k12.trans k3), fun t4 n4 => ?_⟩
          have k4 := same_upd (o := .tup [.int (h' : Int), .int (w' : Int)]) n4
          refine mk2 (fun e he => ?_) fun d H2 s5 _ hd => qe c d t3 t4 H2 ((k12.trans (k3.trans k4)).trans s5) (s5 _ _ (k4 _ _ upd_same)) (s5 _ _ upd_same) hd
          have k5 := same_upd (o := exo e CU none) he
          exact ⟨okTup_of h2 w2 (k5 _ _ (k4 _ _ upd_same)), okTup_of h2' w2' (k5 _ _ upd_same)⟩
    rintro σ H1 ⟨s1, eh, ew, rfl⟩
    subst eh
    subst ew
    refine ⟨_, rfl, a, C, dx, _, _, rfl, s1 _ _ o1, T.cl, T.nR, maF_r _ _ _, _, rfl, b, C, dy, _, _, rfl, s1 _ _ u1, T.cl, T.nR, maF_r _ _ _, t, u, us, ws, rfl, .inr ⟨SqT.of (s1 _ _ o2), SqT.of (s1 _ _ u2), fun D nD => lcObj (walk_zipT (n := h) (by rw [o3, u3, Nat.min_self])) (RL w (fun i k => g i k + g' i k)) nD (fun H s => ⟨SqT.of (s _ _ (s1 _ _ o2)), SqT.of (s _ _ (s1 _ _ u2))⟩) ?_ ?_⟩⟩
    · rintro i v H2 H2' hi p2 ⟨Tp, x1, y1, rfl, nT, rfl, hx1, hy1⟩
      obtain ⟨q1, e1, hq1⟩ := o4 i hi
      obtain ⟨q2, e2, hq2⟩ := u4 i hi
      have ev1 : x1 = .ref q1 := Option.some.inj (hx1.symm.trans e1)
      have ev2 : y1 = .ref q2 := Option.some.inj (hy1.symm.trans e2)
      subst ev1
      subst ev2
      obtain ⟨acc, hacc, _⟩ := p2.2
      have kT := same_upd (o := .tup [.ref q1, .ref q2]) nT
      have s12 := s1.trans (p2.1.trans kT)
      have z1 := s12 _ _ hq1
      have z2 := s12 _ _ hq2
      refine ⟨Tp, _, rfl, SqT.of upd_same, rfl, _, _, rfl, _, _, rfl, rfl, rfl, _, rfl, _, rfl, q1, q2, _, _, rfl, .inr ⟨SqT.of z1, SqT.of z2, fun D2 nD2 => lcMap (walk_zipT (n := w) (by rw [List.length_map, List.length_map, rngN_len, rngN_len, Nat.min_self])) ((rngN w fun k => g i k + g' i k).map V.int) (by rw [List.length_map, rngN_len]) nD2 (fun H s => ⟨SqT.of (s _ _ z1), SqT.of (s _ _ z2)⟩) ?_ ?_⟩⟩
      · rintro k x H4 H5 hk s4 hL ⟨Tp2, x2, y2, rfl, nT2, rfl, hx2, hy2⟩
        obtain ⟨n1, rfl, hz1⟩ := item_int hx2
        obtain ⟨n2, rfl, hz2⟩ := item_int hy2
        rw [rngN_at hk] at hz1 hz2
        obtain rfl := Option.some.inj hz1
        obtain rfl := Option.some.inj hz2
        refine ⟨Tp2, _, rfl, SqT.of upd_same, rfl, _, _, rfl, _, _, rfl, rfl, rfl, _, rfl, _, rfl, _, _, rfl, rfl, ?_⟩
        have s5 := same_upd (o := .tup [.int (g i k), .int (g' i k)]) nT2
        exact mapEnd nD2 (by rw [List.length_map, rngN_len]; omega) (s4.trans s5) (s5 _ _ hL) (map_at (f := V.int) (rngN_at hk))
      · intro H4 s4 hL
        exact objEnd stab_RL nD p2 (kT.trans s4) (by omega) (ref_ne nD2 (kT _ _ hacc)) ⟨D2, rfl, hL⟩
    · intro H2 acc s2 hacc hl hel
      exact fun x dx' nx ndx _ => make_maA (tup := false) nx ndx (SqL.of hacc) (rows_of hl hel) m.h1 h2 m.w1 w2 fun H3 mr s3 => ⟨rfl, q ⟨rfl, rfl⟩ x H3 mr (s1.trans (s2.trans s3))⟩
abbrev s_msub : Stmt := inClass (top 14) 5
theorem sc_msub : FnScope ["self", "other"] ["self", "other"] (defScope s_msub) := ⟨rfl, rfl, rfl, by decide +kernel, rfl, by decide +kernel, by decide +kernel⟩
theorem spMadd_len {C CU : Addr} {sg : Int → Int} {vs : List V} {H : Hp} {Q : VK} {E : XK} (h : spMadd C CU sg K vs H Q E) : vs.length = 2 := by
  obtain ⟨a, b, _, _, _, _, _, _, rfl, _⟩ := h
  rfl
theorem ok_msub {f C CU : Addr} {fd : FuncData} (T : MaT K mg C) (F : Fun K "__sub__" "Matrix.__sub__" s_msub f fd) (c_add : MeN P w K mg base 5 C "__add__" (spMadd C CU (fun z => z) K)) (c_neg : Me P w K mg base 6 C "__neg__" (spMneg C)) :
    FnOk P w K mg base (L2N.CX P w) 7 f fd ["self", "other"] (spMadd C CU (fun z => -z) K) := by
  refine okN F sc_msub (fun vs H Q E h => spMadd_len h) (fun cdv A outer s H vs Q E hr h => ?_)
  obtain ⟨a, b, h, w, h', w', g, g', rfl, m, m', qe, q⟩ := h
  refine ⟨_, (pss_one (ps_ret (pe_op2X c_add hr (L2N.takes_of rfl rfl rfl rfl) T.sf (pv 0) (pe_un (un_neg1 c_neg hr) (pv 1))))), ?_⟩
  obtain ⟨dx, t, us, o1, o2, o3, o4⟩ := m.ob
  obtain ⟨dy, u, ws, u1, u2, u3, u4⟩ := m'.ob
  refine ⟨_, rfl, _, rfl, b, dy, _, rfl, u1, b, h', w', g', rfl, m', fun r H1 mr s1 => ?_⟩
  obtain ⟨dr, v, rs, r1, r2, r3, r4⟩ := mr.ob
  exact ⟨a, r, dx, dr, _, _, rfl, rfl, s1 _ _ o1, r1, a, r, h, w, h', w', g, _, rfl, m.same s1, mr, fun c d t1 t2 H2 s2 e1 e2 hd => qe c d t1 t2 H2 (s1.trans s2) e1 e2 hd, fun c x H2 mx s2 => q c x H2 mx (s1.trans s2)⟩
abbrev s_mmul : Stmt := inClass (top 14) 7
theorem sc_mmul : FnScope ["self", "other", "columns", "column", "row"] ["self", "other"] (defScope s_mmul) := ⟨rfl, rfl, rfl, by decide +kernel, rfl, by decide +kernel, by decide +kernel⟩
def spMmul (C CU : Addr) (K : PySem.W.Frag) : Sp := fun vs H Q E => ∃ (a b : Addr) (h w h' w' : Nat) (f g : Nat → Nat → Int), vs = [.ref a, .ref b] ∧ MatAt C H a h w f ∧ MatAt C H b h' w' g ∧ (¬ w = h' → spUs CU K E H h w h' w') ∧
  (w = h' → (∀ i j k, i < h → j < w' → k < w → CMulW (f i k) (g k j)) ∧ ∀ r H', MatAt C H' r h w' (fun i j => dotN w (f i) fun k => g k j) → Same H H' → Q (.ref r) H')
theorem ok_mmul {f C CB CU : Addr} {fd : FuncData} (T : MaT K mg C) (F : Fun K "__mul__" "Matrix.__mul__" s_mmul f fd) (c_shape : Cl P w K mg base CX0 1 "shape_of" (spShape C)) (c_sop : Cl P w K mg base CX0 1 "sum_of_products" (spSop K)) (x_us : ErG P w K mg base "UnlikeShapes" CU (spInit2 CU "first" "second" (okTT K))) (c_mil : Ma P w K mg base 3 C (spMI C CB false K)) (c_tran : Me P w K mg base 5 C "transposed" (spMtr C)) :
    FnOk P w K mg base (L2N.CX P w) 6 f fd ["self", "other"] (spMmul C CU K) := by
  refine okN F sc_mmul (fun vs H Q E h => ?_) (fun cdv A outer s H vs Q E hr h => ?_)
  · obtain ⟨a, b, _, _, _, _, _, _, rfl, _⟩ := h
    rfl
  · obtain ⟨a, b, h, w, h', w', g, g', rfl, m, m', qe, q⟩ := h
    obtain ⟨dx, t, us, o1, o2, o3, o4⟩ := m.ob
    obtain ⟨dy, u, ws, u1, u2, u3, u4⟩ := m'.ob
    have h2 := m.h2
    have w2 := m.w2
    have h2' := m'.h2
    have w2' := m'.w2
    refine ⟨_, (Evl.pss_cut (ps_if (pt_cmpR op_ne (pe_fld (pv 0) rfl) (pe_fld (pv 1) rfl) (nomark _)) (pss_one (ps_raiseG x_us hr (L2N.takes_of rfl rfl rfl rfl) (pa_cons (pe_cl c_shape hr (pa_cons (pv 0) pa_nil)) (pa_cons (pe_cl c_shape hr (pa_cons (pv 1) pa_nil)) pa_nil)))) pss_nil)
 (Evl.pss_cut (ps_set (i := 2) sc_mmul.nd rfl (Or.inr rfl) (pe_fld (pe_me0 c_tran T.cl hr (pv 1) ) rfl))
 (pss_one (ps_ret (pe_ma c_mil hr T.g (pa_cons (pe_lc (own := [("row", 4)]) (g := (gName 4)) (tt := tYes) rfl sc_mmul.nd (pi_tup (pe_fld (pv 0) rfl)) (blkOk_by (N := ["self", "other", "columns", "column", "row"]) (sc := defScope s_mmul) (by decide +kernel)) (fun _ _ _ _ _ => (pg_name (i := 4) sc_mmul.nd rfl (Or.inr rfl))) (fun _ _ _ _ _ => pts_nil) (fun _ _ _ _ _ => (pe_lc (own := [("column", 3)]) (g := (gName 3)) (tt := tYes) rfl sc_mmul.nd (pi_tupK (K := K) rfl (pv 2)) (blkOk_by (N := ["self", "other", "columns", "column", "row"]) (sc := ({ kind := .function, names := [(".0", .local), ("row", .cell), ("columns", .cell)], isGenerator := false, isCoroutine := false, more := [] } : Scope)) (by decide +kernel)) (fun _ _ _ _ _ => (pg_name (i := 3) sc_mmul.nd rfl (Or.inl rfl))) (fun _ _ _ _ _ => pts_nil) (fun _ _ _ _ _ => (pe_cl c_sop (by exact hr) (pa_cons (pv 4) (pa_cons (pv 3) pa_nil))))))) pa_nil)))))), ?_⟩
    refine ⟨fun σ H' => H = H' ∧ w = h' ∧ σ = [some (.ref a), some (.ref b), none, none, none], ?_, ?_⟩
    · refine ⟨_, rfl, a, C, dx, _, _, rfl, o1, T.cl, T.nW, maF_w _ _ _, _, rfl, b, C, dy, _, _, rfl, u1, T.cl, T.nH, maF_h _ _ _, rfl, _, rfl, ?_⟩
      by_cases c : w = h'
      · refine if_neg_of (by rw [c]; simp) ⟨rfl, c, rfl⟩
      · refine if_pos_of (by rw [decide_eq_false fun e => c (by have := V.int.inj e; omega)]; rfl) ?_
        refine ⟨_, rfl, a, h, w, g, rfl, m, fun t3 n3 => ?_⟩
        have k3 := same_upd (o := .tup [.int (h : Int), .int (w : Int)]) n3
        refine ⟨_, rfl, b, h', w', g', rfl, m'.same k3, fun t4 n4 => ?_⟩
        have k4 := same_upd (o := .tup [.int (h' : Int), .int (w' : Int)]) n4
        refine mk2 (fun e he => ?_) fun d H2 s5 _ hd => qe c d t3 t4 H2 ((k3.trans k4).trans s5) (s5 _ _ (k4 _ _ upd_same)) (s5 _ _ upd_same) hd
        have k5 := same_upd (o := exo e CU none) he
        exact ⟨okTup_of h2 w2 (k5 _ _ (k4 _ _ upd_same)), okTup_of h2' w2' (k5 _ _ upd_same)⟩
    rintro σ _ ⟨rfl, c, rfl⟩
    obtain ⟨qm, qk⟩ := q c
    subst c
    -- the columns
    refine ⟨fun σ H' => Same H H' ∧ ∃ (v : Addr) (rs : List V), H' v = some (.tup rs) ∧ rs.length = w' ∧ (∀ i, i < w' → ∃ q, rs[i]? = some (.ref q) ∧ H' q = some (.tup ((rngN w fun k => g' k i).map V.int))) ∧ σ = [some (.ref a), some (.ref b), some (.ref v), none, none], ?_, ?_⟩
    · refine ⟨_, rfl, b, dy, _, rfl, u1, maF_no _ _ _ (by decide +kernel) (by decide +kernel) (by decide +kernel), b, _, _, _, rfl, m', fun r H1 mr s1 => ?_⟩
      obtain ⟨dr, v, rs, r1, r2, r3, r4⟩ := mr.ob
      exact ⟨r, C, dr, _, _, rfl, r1, T.cl, T.nR, maF_r _ _ _, s1, v, rs, r2, r3, r4, rfl⟩
    rintro σ H1 ⟨s1, v, rs, v2, v3, v4, rfl⟩
    refine ⟨_, rfl, a, C, dx, _, _, rfl, s1 _ _ o1, T.cl, T.nR, maF_r _ _ _, t, rfl, ⟨_, SqT.of (s1 _ _ o2)⟩, fun D nD => lcObj walk_tup (RL w' (fun i j => dotN w (g i) fun k => g' k j)) nD (fun H s => SqT.of (s _ _ (s1 _ _ o2))) ?_ ?_⟩
    · rintro i x H2 _ hi p2 ⟨rfl, hx⟩
      rw [o3] at hi
      obtain ⟨q1, e1, hq1⟩ := o4 i hi
      have ev1 : x = .ref q1 := Option.some.inj (hx.symm.trans e1)
      subst ev1
      obtain ⟨acc, hacc, _⟩ := p2.2
      have s2 := p2.1
      have z1 := s2 _ _ (s1 _ _ hq1)
      refine ⟨rfl, _, rfl, v, rfl, ⟨_, SqT.of (s2 _ _ v2)⟩, fun D2 nD2 => lcMap walk_tup ((rngN w' fun j => dotN w (g i) fun k => g' k j).map V.int) (by rw [List.length_map, rngN_len, v3]) nD2 (fun H s => SqT.of (s _ _ (s2 _ _ v2))) ?_ ?_⟩
      · rintro j y H3 _ hj s3 hL ⟨rfl, hy⟩
        rw [v3] at hj
        obtain ⟨q2, e2, hq2⟩ := v4 j hj
        have ev2 : y = .ref q2 := Option.some.inj (hy.symm.trans e2)
        subst ev2
        refine ⟨rfl, _, rfl, _, rfl, q1, q2, w, g i, (fun k => g' k j), rfl, SqT.of (s3 _ _ z1), SqT.of (s3 _ _ (s2 _ _ hq2)), w2, fun k hk => qm i j k hi hj hk, fun H4 s4 => ?_⟩
        exact mapEnd nD2 (by rw [List.length_map, rngN_len]; omega) (s3.trans s4) (s4 _ _ hL) (map_at (f := V.int) (rngN_at hj))
      · intro H3 s3 hL
        exact objEnd stab_RL nD p2 s3 (by omega) (ref_ne nD2 hacc) ⟨D2, rfl, hL⟩
    · intro H2 acc s2 hacc hl hel
      exact fun x dx' nx ndx _ => make_maA (tup := false) nx ndx (SqL.of hacc) (rows_of (by rw [hl, o3]) hel) m.h1 h2 m'.w1 w2' fun H3 mr s3 => ⟨rfl, qk x H3 mr (s1.trans (s2.trans s3))⟩
theorem op_catTK {X : Cx} {K : PySem.W.Frag} (hK : X.K = K) : OpR X (binaryOp .Add) (rCatT K) := by
  subst hK
  exact op_catT
theorem rng_app (w w' : Nat) (f g : Nat → Int) : rngN w f ++ rngN w' g = rngN (w + w') fun k => if k < w then f k else g (k - w) := by
  refine List.ext_getElem? fun k => ?_
  by_cases c : k < w
  · rw [List.getElem?_append_left (by rw [rngN_len]; exact c), rngN_at c, rngN_at (show k < w + w' by omega), if_pos c]
  · rw [List.getElem?_append_right (by rw [rngN_len]; omega), rngN_len]
    by_cases d : k < w + w'
    · rw [rngN_at (show k - w < w' by omega), rngN_at d, if_neg c]
    · rw [List.getElem?_eq_none (by rw [rngN_len]; omega), List.getElem?_eq_none (by rw [rngN_len]; omega)]
abbrev s_mbes : Stmt := inClass (top 14) 13
theorem sc_mbes : FnScope ["self", "other", "mine", "others"] ["self", "other"] (defScope s_mbes) := ⟨rfl, rfl, rfl, by decide +kernel, rfl, by decide +kernel, by decide +kernel⟩
def spMbe (C CU : Addr) (K : PySem.W.Frag) : Sp := fun vs H Q E => ∃ (a b : Addr) (h w h' w' : Nat) (f g : Nat → Nat → Int), vs = [.ref a, .ref b] ∧ MatAt C H a h w f ∧ MatAt C H b h' w' g ∧ w + w' ≤ 40 ∧ (¬ h = h' → spUs CU K E H h w h' w') ∧
  (h = h' → ∀ r H', MatAt C H' r h (w + w') (fun i k => if k < w then f i k else g i (k - w)) → Same H H' → Q (.ref r) H')
theorem ok_mbes {f C CB CU : Addr} {fd : FuncData} (hzip : mg "zip" = none) (T : MaT K mg C) (F : Fun K "beside" "Matrix.beside" s_mbes f fd) (c_shape : Cl P w K mg base CX0 1 "shape_of" (spShape C)) (x_us : ErG P w K mg base "UnlikeShapes" CU (spInit2 CU "first" "second" (okTT K))) (c_mil : Ma P w K mg base 3 C (spMI C CB false K)) :
    FnOk P w K mg base (L2N.CX P w) 5 f fd ["self", "other"] (spMbe C CU K) := by
  refine okN F sc_mbes (fun vs H Q E h => ?_) (fun cdv A outer s H vs Q E hr h => ?_)
  · obtain ⟨a, b, _, _, _, _, _, _, rfl, _⟩ := h
    rfl
  · obtain ⟨a, b, h, w, h', w', g, g', rfl, m, m', few, qe, q⟩ := h
    obtain ⟨dx, t, us, o1, o2, o3, o4⟩ := m.ob
    obtain ⟨dy, u, ws, u1, u2, u3, u4⟩ := m'.ob
    have h2 := m.h2
    have w2 := m.w2
    have h2' := m'.h2
    have w2' := m'.w2
    refine ⟨_, (Evl.pss_cut (ps_if (pt_cmpR op_ne (pe_fld (pv 0) rfl) (pe_fld (pv 1) rfl) (nomark _)) (pss_one (ps_raiseG x_us hr (L2N.takes_of rfl rfl rfl rfl) (pa_cons (pe_cl c_shape hr (pa_cons (pv 0) pa_nil)) (pa_cons (pe_cl c_shape hr (pa_cons (pv 1) pa_nil)) pa_nil)))) pss_nil)
 (pss_one (ps_ret (pe_ma c_mil hr T.g (pa_cons (pe_lc (own := [("mine", 2), ("others", 3)]) (g := (gTup K 2 (gCons (gName 2) (gCons (gName 3) gNil)))) (tt := tYes) rfl sc_mbes.nd (RZ.pi_zipA rfl hzip (pa_cons (pe_fld (pv 0) rfl) (pa_cons (pe_fld (pv 1) rfl) pa_nil))) (blkOk_by (N := ["self", "other", "mine", "others"]) (sc := defScope s_mbes) (by decide +kernel)) (fun _ _ _ _ _ => (pg_tup rfl (pgs_cons (pg_name (i := 2) sc_mbes.nd rfl (Or.inl rfl)) (pgs_cons (pg_name (i := 3) sc_mbes.nd rfl (Or.inl rfl)) pgs_nil)))) (fun _ _ _ _ _ => pts_nil) (fun _ _ _ _ _ => (pe_op (op_catTK (K := K) rfl) (pv 2) (pv 3)))) pa_nil))))), ?_⟩
    refine ⟨fun σ H' => H = H' ∧ h = h' ∧ σ = [some (.ref a), some (.ref b), none, none], ?_, ?_⟩
    · refine ⟨_, rfl, a, C, dx, _, _, rfl, o1, T.cl, T.nH, maF_h _ _ _, _, rfl, b, C, dy, _, _, rfl, u1, T.cl, T.nH, maF_h _ _ _, rfl, _, rfl, ?_⟩
      by_cases c : h = h'
      · refine if_neg_of (by rw [c]; simp) ⟨rfl, c, rfl⟩
      · refine if_pos_of (by rw [decide_eq_false fun e => c (by have := V.int.inj e; omega)]; rfl) ?_
        refine ⟨_, rfl, a, h, w, g, rfl, m, fun t3 n3 => ?_⟩
        have k3 := same_upd (o := .tup [.int (h : Int), .int (w : Int)]) n3
        refine ⟨_, rfl, b, h', w', g', rfl, m'.same k3, fun t4 n4 => ?_⟩
        have k4 := same_upd (o := .tup [.int (h' : Int), .int (w' : Int)]) n4
        refine mk2 (fun e he => ?_) fun d H2 s5 _ hd => qe c d t3 t4 H2 ((k3.trans k4).trans s5) (s5 _ _ (k4 _ _ upd_same)) (s5 _ _ upd_same) hd
        have k5 := same_upd (o := exo e CU none) he
        exact ⟨okTup_of h2 w2 (k5 _ _ (k4 _ _ upd_same)), okTup_of h2' w2' (k5 _ _ upd_same)⟩
    rintro σ _ ⟨rfl, c, rfl⟩
    have qk := q c
    subst c
    have w1 := m.w1
    refine ⟨_, rfl, a, C, dx, _, _, rfl, o1, T.cl, T.nR, maF_r _ _ _, _, rfl, b, C, dy, _, _, rfl, u1, T.cl, T.nR, maF_r _ _ _, t, u, us, ws, rfl, .inr ⟨SqT.of o2, SqT.of u2, fun D nD => lcObj (walk_zipT (n := h) (by rw [o3, u3, Nat.min_self])) (RT fun i => rngN (w + w') fun k => if k < w then g i k else g' i (k - w)) nD (fun H s => ⟨SqT.of (s _ _ o2), SqT.of (s _ _ u2)⟩) ?_ ?_⟩⟩
    · rintro i v H2 H2' hi p2 ⟨Tp, x1, y1, rfl, nT, rfl, hx1, hy1⟩
      obtain ⟨q1, e1, hq1⟩ := o4 i hi
      obtain ⟨q2, e2, hq2⟩ := u4 i hi
      have ev1 : x1 = .ref q1 := Option.some.inj (hx1.symm.trans e1)
      have ev2 : y1 = .ref q2 := Option.some.inj (hy1.symm.trans e2)
      subst ev1
      subst ev2
      obtain ⟨acc, hacc, _⟩ := p2.2
      have kT := same_upd (o := .tup [.ref q1, .ref q2]) nT
      have s12 := p2.1.trans kT
      refine ⟨Tp, _, rfl, SqT.of upd_same, rfl, _, _, rfl, _, _, rfl, rfl, rfl, _, rfl, _, rfl, q1, q2, _, _, rfl, rfl, SqT.of (s12 _ _ hq1), SqT.of (s12 _ _ hq2), ?_, ?_, ?_⟩
      · intro e
        have := congrArg List.length e
        rw [List.length_map, rngN_len] at this
        have : w = 0 := this
        omega
      · rw [List.length_map, List.length_map, rngN_len, rngN_len, sizeLine_eq]
        omega
      · have w1' := m'.w1
        refine ⟨fun e => ?_, fun _ p np => ?_⟩
        · have := congrArg List.length e
          rw [List.length_map, rngN_len] at this
          have : w' = 0 := this
          omega
        · rw [← List.map_append, rng_app]
          exact objEnd stab_RT nD p2 (kT.trans (same_upd np)) (by omega) (ref_ne np (kT _ _ hacc)) ⟨p, rfl, upd_same⟩
    · intro H2 acc s2 hacc hl hel
      exact fun x dx' nx ndx _ => make_maA (tup := false) nx ndx (SqL.of hacc) (rows_ofT hl hel) m.h1 h2 (by omega) few fun H3 mr s3 => ⟨rfl, qk x H3 mr (s2.trans s3)⟩
-- part matp
/-! equality of matrices; parts -/
def rowD (r : List Int) : PyData := .tuple (r.map PyData.int)
theorem dpAll_rows {H : Hp} : ∀ (vs : List V) (rs : List (List Int)), vs.length = rs.length → (∀ (i : Nat) (v : V) (r : List Int), vs[i]? = some v → rs[i]? = some r → ∃ q, v = .ref q ∧ H q = some (.tup (r.map V.int))) → DpAll K H vs (rs.map rowD)
  | [], [], _, _ => .nil
  | [], _ :: _, h, _ => by cases h
  | _ :: _, [], h, _ => by cases h
  | v :: vs, r :: rs, hl, h => by
    obtain ⟨q, rfl, hq⟩ := h 0 v r rfl rfl
    exact .cons (dp_tup (SqT.of hq)) (dpAll_rows vs rs (Nat.succ.inj hl) fun i v r hv hr => h (i + 1) v r hv hr)
theorem eqvAll_rows : ∀ l m : List (List Int), PyData.eqvAll (l.map rowD) (m.map rowD) = decide (l = m)
  | [], [] => by rw [List.map_nil, PyData.eqvAll]; rfl
  | [], b :: m => by rw [List.map_nil, List.map_cons, PyData.eqvAll] <;> first | (exact (decide_eq_false (by simp)).symm) | skip
  | a :: l, [] => by rw [List.map_nil, List.map_cons, PyData.eqvAll] <;> first | (exact (decide_eq_false (by simp)).symm) | skip
  | a :: l, b :: m => by
    rw [List.map_cons, List.map_cons, PyData.eqvAll, show rowD a = .tuple (a.map PyData.int) from rfl, show rowD b = .tuple (b.map PyData.int) from rfl, eqv_intsT, eqvAll_rows l m]
    by_cases c : a = b
    · subst c
      by_cases d : l = m
      · subst d
        simp
      · simp [d]
    · simp [c]
theorem canLay_rows : ∀ l : List (List Int), PyData.canLayAll0 (l.map rowD) = true
  | [] => by rw [List.map_nil, PyData.canLayAll0]
  | a :: l => by rw [List.map_cons, PyData.canLayAll0, canLay_rows l, show rowD a = .tuple (a.map PyData.int) from rfl, PyData.canLay0, canLay_ints]; rfl
theorem depth_rows : ∀ l : List (List Int), PyData.depthAll (l.map rowD) ≤ 1
  | [] => by rw [List.map_nil, PyData.depthAll]; exact Nat.zero_le 1
  | a :: l => by
    rw [List.map_cons, PyData.depthAll, show rowD a = .tuple (a.map PyData.int) from rfl, PyData.depth, depth_ints]
    exact Nat.max_le.mpr ⟨Nat.le_refl 1, depth_rows l⟩
theorem shaped_rows (l : List (List Int)) : SeqAt.shaped (.tuple (l.map rowD)) = true := by
  unfold SeqAt.shaped
  have d := depth_rows l
  rw [PyData.canLay0, canLay_rows, PyData.depth, Bool.true_and]
  exact decide_eq_true (by omega)
theorem MatAt.dp {C : Addr} {H : Hp} {a : Addr} {h w : Nat} {f : Nat → Nat → Int} (m : MatAt C H a h w f) : ∃ dx t, H a = some (.ins C dx (maF t h w)) ∧ Dp K H (.ref t) (.tuple ((mrows h w f).map rowD)) := by
  obtain ⟨dx, t, us, o1, o2, o3, o4⟩ := m.ob
  refine ⟨dx, t, o1, .tup (SqT.of o2) (dpAll_rows us _ (by rw [o3, mrows_len]) fun i v r hv hr => ?_)⟩
  have hi : i < h := by
    have := (List.getElem?_eq_some_iff.mp hv).1
    omega
  rw [mrows_at hi] at hr
  obtain rfl := Option.some.inj hr
  obtain ⟨q, e, hq⟩ := o4 i hi
  exact ⟨q, Option.some.inj (hv.symm.trans e), hq⟩
abbrev s_meqm : Stmt := inClass (top 14) 8
theorem sc_meqm : FnScope ["self", "other"] ["self", "other"] (defScope s_meqm) := ⟨rfl, rfl, rfl, by decide +kernel, rfl, by decide +kernel, by decide +kernel⟩
def spMeq (C : Addr) : Sp := fun vs H Q _ => ∃ (a b : Addr) (h w h' w' : Nat) (f g : Nat → Nat → Int), vs = [.ref a, .ref b] ∧ MatAt C H a h w f ∧ MatAt C H b h' w' g ∧ Q (.bl (decide (mrows h w f = mrows h' w' g))) H
theorem ok_meqm {f C : Addr} {fd : FuncData} (TT : Txt mg) (T : MaT K mg C) (F : Fun K "__eq__" "Matrix.__eq__" s_meqm f fd) : FnOk P w K mg base CX0 1 f fd ["self", "other"] (spMeq C) := by
  refine F.ok sc_meqm (fun vs H Q E h => ?_) (fun cdv A outer s H vs Q E hr h => ?_)
  · obtain ⟨a, b, _, _, _, _, _, _, rfl, _⟩ := h
    rfl
  · obtain ⟨a, b, h, w, h', w', g, g', rfl, m, m', q⟩ := h
    obtain ⟨dx, t, o1, d1⟩ := m.dp (K := K)
    obtain ⟨dy, u, u1, d2⟩ := m'.dp (K := K)
    refine ⟨_, (pss_one (ps_ret (pe_and (pe_callB (C8.call_isC T.isC) (by rfl) TT.isinstance boot_isinstance (pa_cons (pv 1) (pa_cons (pe_glob (v := .ref C) (by rfl) T.g rfl) pa_nil))) (pe_one (pe_cmpR (op_eqD (hu64 hr)) (pe_fld (pv 0) rfl) (pe_fld (pv 1) rfl) (nomark _)))))), ?_⟩
    refine ⟨_, rfl, b, dy, _, rfl, u1, _, rfl, if_pos_of rfl ?_⟩
    refine ⟨_, rfl, a, C, dx, _, _, rfl, o1, T.cl, T.nR, maF_r _ _ _, _, rfl, b, C, dy, _, _, rfl, u1, T.cl, T.nR, maF_r _ _ _, _, _, d1, d2, shaped_rows _, shaped_rows _, ?_⟩
    rw [PyData.eqv, eqvAll_rows]
    exact q
abbrev s_mpart : Stmt := inClass (top 14) 12
theorem sc_mpart : FnScope ["self", "rows", "columns", "k", "i"] ["self", "rows", "columns"] (defScope s_mpart) := ⟨rfl, rfl, rfl, by decide +kernel, rfl, by decide +kernel, by decide +kernel⟩
/-- rows and columns are passed as lists of places -/
def spMpart (C : Addr) (K : PySem.W.Frag) : Sp := fun vs H Q _ => ∃ (a p q : Addr) (h w : Nat) (f : Nat → Nat → Int) (rs cs : List Nat), vs = [.ref a, .ref p, .ref q] ∧ MatAt C H a h w f ∧ SqL K H p (rs.map fun (k : Nat) => V.int (k : Int)) ∧ SqL K H q (cs.map fun (k : Nat) => V.int (k : Int)) ∧ 1 ≤ rs.length ∧ rs.length ≤ 40 ∧ 1 ≤ cs.length ∧ cs.length ≤ 40 ∧
  (∀ i ∈ rs, i < h) ∧ (∀ k ∈ cs, k < w) ∧ ∀ r H', MatAt C H' r rs.length cs.length (fun i k => f (rs.getD i 0) (cs.getD k 0)) → Same H H' → Q (.ref r) H'
theorem ok_mpart {f C CB : Addr} {fd : FuncData} (T : MaT K mg C) (F : Fun K "part" "Matrix.part" s_mpart f fd) (c_mil : Ma P w K mg base 3 C (spMI C CB false K)) : FnOk P w K mg base CX0 5 f fd ["self", "rows", "columns"] (spMpart C K) := by
  refine F.ok sc_mpart (fun vs H Q E h => ?_) (fun cdv A outer s H vs Q E hr h => ?_)
  · obtain ⟨a, p, q, _, _, _, _, _, rfl, _⟩ := h
    rfl
  · obtain ⟨a, p, q', h, w, g, rs, cs, rfl, m, hp, hq, r1, r2, c1, c2, ri, ci, q⟩ := h
    obtain ⟨dx, t, us, o1, o2, o3, o4⟩ := m.ob
    refine ⟨_, (pss_one (ps_ret (pe_ma c_mil hr T.g (pa_cons (pe_lc (own := [("i", 4)]) (g := (gName 4)) (tt := tYes) rfl sc_mpart.nd (pi_list (pv 1)) (blkOk_by (N := ["self", "rows", "columns", "k", "i"]) (sc := defScope s_mpart) (by decide +kernel)) (fun _ _ _ _ _ => (pg_name (i := 4) sc_mpart.nd rfl (Or.inr rfl))) (fun _ _ _ _ _ => pts_nil) (fun _ _ _ _ _ => (pe_lc (own := [("k", 3)]) (g := (gName 3)) (tt := tYes) rfl sc_mpart.nd (pi_listK (K := K) rfl (pv 2)) (blkOk_by (N := ["self", "rows", "columns", "k", "i"]) (sc := ({ kind := .function, names := [(".0", .local), ("i", .cell), ("columns", .cell), ("self", .cell)], isGenerator := false, isCoroutine := false, more := [] } : Scope)) (by decide +kernel)) (fun _ _ _ _ _ => (pg_name (i := 3) sc_mpart.nd rfl (Or.inl rfl))) (fun _ _ _ _ _ => pts_nil) (fun _ _ _ _ _ => (pe_ix (ix_tupK (K := K) rfl) (pe_ix (ix_tupK (K := K) rfl) (pe_fldK (K := K) rfl (pv 0) rfl) (pv 4) (fun _ _ => rfl)) (pv 3) (fun _ _ => rfl)))))) pa_nil)))), ?_⟩
    have natAt : ∀ {l : List Nat} {i : Nat} {v : V}, (l.map fun (k : Nat) => V.int (k : Int))[i]? = some v → v = .int ((l.getD i 0 : Nat) : Int) ∧ l.getD i 0 ∈ l := fun {l i v} e => by
      rw [List.getElem?_map] at e
      obtain ⟨k, hk, rfl⟩ := Option.map_eq_some_iff.mp e
      rw [List.getD_eq_getElem?_getD, hk]
      exact ⟨rfl, List.mem_of_getElem? hk⟩
    refine ⟨_, rfl, p, rfl, ⟨_, hp⟩, fun D nD => lcObj walk_list (RL cs.length (fun i k => g (rs.getD i 0) (cs.getD k 0))) nD (fun H s => s.seq hp) ?_ ?_⟩
    · rintro i x H2 _ hi p2 ⟨rfl, hx⟩
      rw [List.length_map] at hi
      obtain ⟨rfl, mi⟩ := natAt hx
      have li := ri _ mi
      obtain ⟨q1, e1, hq1⟩ := o4 _ li
      obtain ⟨acc, hacc, _⟩ := p2.2
      have s2 := p2.1
      refine ⟨rfl, _, rfl, q', rfl, ⟨_, s2.seq hq⟩, fun D2 nD2 => lcMap walk_list ((rngN cs.length fun k => g (rs.getD i 0) (cs.getD k 0)).map V.int) (by rw [List.length_map, List.length_map, rngN_len]) nD2 (fun H s => s.seq (s2.seq hq)) ?_ ?_⟩
      · rintro k y H3 _ hk s3 hL ⟨rfl, hy⟩
        rw [List.length_map] at hk
        obtain ⟨rfl, mk⟩ := natAt hy
        have lk := ci _ mk
        have s23 := s2.trans s3
        refine ⟨rfl, _, rfl, a, C, dx, _, _, rfl, s23 _ _ o1, T.cl, T.nR, maF_r _ _ _, _, rfl, t, _, _, _, rfl, rfl, SqT.of (s23 _ _ o2), atI_nat e1, _, rfl, q1, _, _, _, rfl, rfl, SqT.of (s23 _ _ hq1), atI_nat (map_at (f := V.int) (rngN_at lk)), ?_⟩
        exact mapEnd nD2 (by rw [List.length_map, rngN_len]; omega) s3 hL (map_at (f := V.int) (rngN_at hk))
      · intro H3 s3 hL
        exact objEnd stab_RL nD p2 s3 (by omega) (ref_ne nD2 hacc) ⟨D2, rfl, hL⟩
    · intro H2 acc s2 hacc hl hel
      exact fun x dx' nx ndx _ => make_maA (tup := false) nx ndx (SqL.of hacc) (rows_of (by rw [hl, List.length_map]) hel) r1 r2 c1 c2 fun H3 mr s3 => ⟨rfl, q x H3 mr (s2.trans s3)⟩
-- part matq
/-! lists of new rows, each at a place of its own -/
def PvD (H1 : Hp) (D : Addr) (w : Nat) (f : Nat → Nat → Int) (i : Nat) (H : Hp) : Prop := Same H1 H ∧ ∃ acc : List Addr, H D = some (.lst (acc.map V.ref)) ∧ acc.length = i ∧ acc.Nodup ∧ D ∉ acc ∧ (∀ q ∈ acc, H1 q = none) ∧ ∀ (j : Nat) (q : Addr), acc[j]? = some q → H q = some (.lst ((rngN w (f j)).map V.int))
theorem PvD.zero {H1 : Hp} {D : Addr} {w : Nat} {f : Nat → Nat → Int} (hD : H1 D = none) : PvD H1 D w f 0 (upd H1 D (.lst [])) :=
  ⟨same_upd hD, [], upd_same, rfl, List.nodup_nil, fun h => (nomatch h), fun _ h => (nomatch h), fun j q h => by cases h⟩
theorem dEnd {H1 H H4 : Hp} {D q : Addr} {w : Nat} {f : Nat → Nat → Int} {i : Nat} (hD : H1 D = none) (p : PvD H1 D w f i H) (s4 : Same H H4) (few : i < 1000) (nq : H q = none) (hq : H4 q = some (.lst ((rngN w (f i)).map V.int))) :
    ∃ acc, H4 D = some (.lst acc) ∧ acc.length < sizeLine ∧ PvD H1 D w f (i + 1) (upd H4 D (.lst (acc ++ [.ref q]))) := by
  obtain ⟨s, acc, ha, hl, nd, nD, fr, hr⟩ := p
  have qD : q ≠ D := fun e => by rw [e, ha] at nq; cases nq
  have qn : q ∉ acc := fun m => by
    obtain ⟨j, hj⟩ := List.getElem?_of_mem m
    rw [hr j q hj] at nq
    cases nq
  have q1 : H1 q = none := by
    cases h : H1 q with
    | none => rfl
    | some o => rw [s _ _ h] at nq; cases nq
  refine ⟨acc.map V.ref, s4 _ _ ha, small1000 (by rw [List.length_map]; omega), fun b o eb => ?_, acc ++ [q], by rw [List.map_append]; exact upd_same, by rw [List.length_append, hl]; rfl, ?_, ?_, ?_, ?_⟩
  · rw [upd_ne (ne_of_none eb hD)]
    exact s4 b o (s b o eb)
  · rw [List.nodup_append]
    refine ⟨nd, List.nodup_cons.mpr ⟨fun h => (nomatch h), List.nodup_nil⟩, fun a ha' b hb e => ?_⟩
    rw [List.mem_singleton.mp hb] at e
    exact qn (e ▸ ha')
  · intro m
    rcases List.mem_append.mp m with h | h
    · exact nD h
    · exact qD (List.mem_singleton.mp h).symm
  · intro z hz
    rcases List.mem_append.mp hz with h | h
    · exact fr z h
    · rw [List.mem_singleton.mp h]
      exact q1
  · intro j z hz
    by_cases c : j < acc.length
    · rw [List.getElem?_append_left c] at hz
      have zD : z ≠ D := fun e => nD (e ▸ List.mem_of_getElem? hz)
      rw [upd_ne zD]
      exact s4 _ _ (hr j z hz)
    · rw [List.getElem?_append_right (by omega)] at hz
      have e : j = i := by
        by_cases e : j - acc.length = 0
        · omega
        · rw [List.getElem?_eq_none (by show 1 ≤ j - acc.length; omega)] at hz
          cases hz
      subst e
      rw [hl, Nat.sub_self] at hz
      obtain rfl := Option.some.inj hz
      rw [upd_ne qD]
      exact hq
section
variable {J : It} {n : Nat} {G : Hp → Prop} {Y : Nat → Hp → V → Hp → Prop}
theorem lcD (wk : Walk J n G Y) {g : TG} {tt : TT} {te : TE} {vs : List Nat} {σ : L2.St} {H1 : Hp} {D : Addr} {Qd : Hp → Prop} (w : Nat) (f : Nat → Nat → Int) (hD : H1 D = none) (hG : ∀ H, Same H1 H → G H)
    (hs : ∀ i x H H', i < n → PvD H1 D w f i H → Y i H x H' → g x (wipe σ vs) H' fun σ2 H2 => wipe σ2 vs = wipe σ vs ∧ tt σ2 H2 fun b H3 =>
      if b = true then te σ2 H3 fun y H4 => ∃ acc, H4 D = some (.lst acc) ∧ acc.length < sizeLine ∧ PvD H1 D w f (i + 1) (upd H4 D (.lst (acc ++ [y]))) else PvD H1 D w f (i + 1) H3)
    (hd : ∀ H, PvD H1 D w f n H → Qd H) :
    ∃ W : Nat → Nat → Hp → Prop, (∃ m, W 0 m (upd H1 D (.lst []))) ∧ ∀ i m H, W i m H →
      (J.stop i H ∧ Qd H) ∨ (J.go i H ∧ ∃ Nx : Hp → Prop, (∀ H', Nx H' → ∃ m', m' < m ∧ W (i + 1) m' H') ∧ ∀ x H', J.yld i H x H' → g x (wipe σ vs) H' fun σ2 H2 => wipe σ2 vs = wipe σ vs ∧ tt σ2 H2 fun b H3 =>
        if b = true then te σ2 H3 fun y H4 => ∃ acc, H4 D = some (.lst acc) ∧ acc.length < sizeLine ∧ Nx (upd H4 D (.lst (acc ++ [y]))) else Nx H3) :=
  lc_it wk (PvD H1 D w f) (PvD.zero hD) (fun _ H _ h => hG H h.1) hs hd
end
theorem set_rng (w : Nat) (f : Nat → Int) (i : Nat) (z : Int) : ((rngN w f).map V.int).set i (V.int z) = (rngN w fun k => if i = k then z else f k).map V.int := by
  refine List.ext_getElem? fun k => ?_
  rw [List.getElem?_set]
  by_cases c : k < w
  · rw [map_at (f := V.int) (rngN_at c), map_at (f := V.int) (rngN_at c)]
    by_cases e : i = k
    · rw [if_pos e, if_pos (by rw [List.length_map, rngN_len]; omega), if_pos e]
    · rw [if_neg e, if_neg e]
  · have l1 : ((rngN w f).map V.int)[k]? = none := List.getElem?_eq_none (by rw [List.length_map, rngN_len]; omega)
    have l2 : ((rngN w fun k => if i = k then z else f k).map V.int)[k]? = none := List.getElem?_eq_none (by rw [List.length_map, rngN_len]; omega)
    rw [l1, l2]
    by_cases e : i = k
    · rw [if_pos e, if_neg (by rw [List.length_map, rngN_len]; omega)]
    · rw [if_neg e]
abbrev s_mdiag : Stmt := inClass (top 14) 2
theorem sc_mdiag : FnScope ["cls", "numbers", "height", "width", "rows", "_", "k", "n"] ["cls", "numbers", "height", "width"] (defScope s_mdiag) := ⟨rfl, rfl, rfl, by decide +kernel, rfl, by decide +kernel, by decide +kernel⟩
/-- numbers in a list, at most as many as there are rows and columns -/
def spMdiag (C : Addr) (K : PySem.W.Frag) : Sp := fun vs H Q _ => ∃ (p : Addr) (ns : List Int) (h w : Nat), vs = [.ref C, .ref p, .int (h : Int), .int (w : Int)] ∧ SqL K H p (ns.map V.int) ∧ ns.length ≤ h ∧ ns.length ≤ w ∧ 1 ≤ h ∧ h ≤ 40 ∧ 1 ≤ w ∧ w ≤ 40 ∧
  ∀ r H', MatAt C H' r h w (fun i k => if i = k then ns.getD i 0 else 0) → Same H H' → Q (.ref r) H'
theorem ok_mdiag {f C CB : Addr} {fd : FuncData} (TT : Txt mg) (henum : mg "enumerate" = none) (T : MaT K mg C) (F : Fun K "diagonal" "Matrix.diagonal" s_mdiag f fd) (c_mil : Ma P w K mg base 3 C (spMI C CB false K)) : FnOk P w K mg base CX0 5 f fd ["cls", "numbers", "height", "width"] (spMdiag C K) := by
  refine F.ok sc_mdiag (fun vs H Q E h => ?_) (fun cdv A outer s H vs Q E hr h => ?_)
  · obtain ⟨p, ns, h, w, rfl, _⟩ := h
    rfl
  · obtain ⟨p, ns, h, w, rfl, hp, lh, lw, h1, h2, w1, w2, q⟩ := h
    refine ⟨_, (Evl.pss_cut (ps_setLc (i := 4) (own := [("_", 5)]) (g := (gName 5)) (tt := tYes) rfl sc_mdiag.nd rfl rfl (sw_true rfl rfl rfl (by decide +kernel)) (pi_range1 rfl TT.range (pa_cons (pv 2) pa_nil)) (blkOk_by (N := ["cls", "numbers", "height", "width", "rows", "_", "k", "n"]) (sc := defScope s_mdiag) (by decide +kernel)) (fun _ _ _ _ _ => (pg_name (i := 5) sc_mdiag.nd rfl (Or.inl rfl))) (fun _ _ _ _ _ => pts_nil) (fun _ _ _ _ _ => (pe_op op_rep (pe_lst (pa_cons pe_int pa_nil)) (pv 3))))
 (Evl.pss_cut (ps_for PassesOwn.never rfl (pi_enum rfl henum (pa_cons (pv 1) pa_nil)) (pg_tup rfl (pgs_cons (pg_name (i := 6) sc_mdiag.nd rfl (Or.inl rfl)) (pgs_cons (pg_name (i := 7) sc_mdiag.nd rfl (Or.inl rfl)) pgs_nil))) (pss_one (ps_asg (pv 7) (pg_sub (pe_ix ix_list (pv 4) (pv 6) (fun _ _ => rfl)) (pv 6) set_list))))
 (pss_one (ps_ret (pe_maL (i := 0) c_mil hr rfl (pa_cons (pv 4) pa_nil)))))), ?_⟩
    have noneOf : ∀ {G G' : Hp} {x : Addr}, Same G G' → G' x = none → G x = none := fun {G G' x} s n => by
      cases e : G x with
      | none => rfl
      | some o => rw [s _ _ e] at n; cases n
    have zeros : List.replicate (w : Int).toNat (V.int 0) = (rngN w fun _ => 0).map V.int := by
      unfold rngN
      rw [Int.toNat_natCast, List.map_map]
      refine List.ext_getElem? fun k => ?_
      by_cases c : k < w
      · rw [List.getElem?_replicate, if_pos c, List.getElem?_map, List.getElem?_range c] <;> rfl
      · rw [List.getElem?_eq_none (by rw [List.length_replicate]; omega), List.getElem?_eq_none (by rw [List.length_map, List.length_range]; omega)]
    refine ⟨fun σ H' => ∃ (D : Addr) (x5 : Option V), H D = none ∧ PvD H D w (fun _ _ => 0) h H' ∧ σ = [some (.ref C), some (.ref p), some (.int (h : Int)), some (.int (w : Int)), some (.ref D), x5, none, none], ?_, ?_⟩
    · refine ⟨_, rfl, (h : Int), rfl, by omega, by omega, fun D nD => lcD walk_range0 w (fun _ _ => 0) nD (fun _ _ => trivial) ?_ ?_⟩
      · rintro i x H2 H2' hi p2 ⟨rfl, rfl⟩
        rw [Int.toNat_natCast] at hi
        refine ⟨rfl, (by show 1 ≤ sizeLine; decide), fun b nb => ?_⟩
        have g1 := same_upd (o := .lst [.int 0]) nb
        refine ⟨_, rfl, b, _, _, rfl, rfl, upd_same, by omega, by omega, (by show 1 * (w : Int).toNat ≤ sizeLine; rw [sizeLine_eq]; omega), fun c nc => ?_⟩
        rw [flat_rep, zeros]
        have g2 := same_upd (o := .lst ((rngN w fun _ => 0).map V.int)) nc
        exact dEnd nD p2 (g1.trans g2) (by omega) (noneOf g1 nc) upd_same
      · intro H2 pv
        rw [Int.toNat_natCast] at pv
        exact ⟨D, _, nD, pv, rfl⟩
    rintro σ H1 ⟨D, x5, nD, ⟨s1, acc, hD, hl, nd, Dn, fr, rows⟩, rfl⟩
    -- the numbers
    refine ⟨fun σ H' => Same H H' ∧ H' D = some (.lst (acc.map V.ref)) ∧ (∀ (j : Nat) (q : Addr), acc[j]? = some q → H' q = some (.lst ((rngN w fun k => if j = k then ns.getD j 0 else 0).map V.int))) ∧ ∃ x6 x7, σ = [some (.ref C), some (.ref p), some (.int (h : Int)), some (.int (w : Int)), some (.ref D), x5, x6, x7], ?_, ?_⟩
    · refine ⟨_, rfl, p, _, rfl, s1.seq hp, for_it walk_enum (fun i σ H' => Same H H' ∧ H' D = some (.lst (acc.map V.ref)) ∧ (∀ (j : Nat) (q : Addr), acc[j]? = some q → H' q = some (.lst ((rngN w fun k => if j = k ∧ j < i then ns.getD j 0 else 0).map V.int))) ∧ ∃ x6 x7, σ = [some (.ref C), some (.ref p), some (.int (h : Int)), some (.int (w : Int)), some (.ref D), x5, x6, x7])
        ⟨s1, hD, fun j q hq => ?_, none, none, rfl⟩ (fun i σ H' _ hh => hh.1.seq hp) ?_ ?_⟩
      · rw [rows j q hq, rngN_congr fun k _ => (if_neg (c := j = k ∧ j < 0) (fun e => absurd e.2 (Nat.not_lt_zero j))).symm]
      · rintro i x σ H2 H3 hi ⟨s2, hD2, rows2, x6, x7, rfl⟩ ⟨Tp, x1, y1, rfl, nT, rfl, hx1, hy1⟩
        cases hx1
        rw [List.length_map] at hi
        obtain ⟨z, rfl, hz⟩ := item_int hy1
        have kT := same_upd (o := .tup [.int (i : Nat), .int z]) nT
        have hia : i < acc.length := by omega
        have ha : acc[i]? = some acc[i] := List.getElem?_eq_getElem hia
        have hq := rows2 i _ ha
        have fq := fr _ (List.getElem_mem hia)
        refine ⟨Tp, _, rfl, SqT.of upd_same, rfl, _, _, rfl, _, _, rfl, rfl, ?_⟩
        refine ⟨_, rfl, _, rfl, _, rfl, D, _, _, _, rfl, rfl, SqL.of (kT _ _ hD2), atI_nat (map_at (f := V.ref) ha), _, rfl, acc[i], _, _, i, rfl, rfl, kT _ _ hq, ?_, ?_⟩
        · exact Evl.ixN_nat (by rw [List.length_map, rngN_len]; omega)
        · refine ⟨fun b o eb => ?_, ?_, fun j q hj => ?_, _, _, rfl⟩
          · rw [upd_ne (ne_of_none eb fq)]
            exact kT _ _ (s2 b o eb)
          · have : D ≠ acc[i] := fun e => Dn (e ▸ List.getElem_mem hia)
            rw [upd_ne this]
            exact kT _ _ hD2
          · by_cases e : j = i
            · subst e
              obtain rfl := Option.some.inj (hj.symm.trans ha)
              rw [upd_same, set_rng, rngN_congr fun k _ => ?_]
              by_cases c : j = k
              · rw [if_pos c, if_pos ⟨c, by omega⟩]
                exact (getD_of hz).symm
              · rw [if_neg c, if_neg fun e => c e.1, if_neg fun e => c e.1]
            · have ne : q ≠ acc[i] := fun e2 => e ((List.getElem?_inj (List.getElem?_eq_some_iff.mp hj).1 nd).mp (by rw [hj, ha, e2]))
              rw [upd_ne ne, kT _ _ (rows2 j q hj), rngN_congr fun k _ => ?_]
              by_cases c : j = k ∧ j < i
              · rw [if_pos c, if_pos ⟨c.1, by omega⟩]
              · rw [if_neg c, if_neg fun c2 => c ⟨c2.1, by omega⟩]
      · rintro σ H2 ⟨s2, hD2, rows2, x6, x7, rfl⟩
        refine ⟨s2, hD2, fun j q hq => ?_, x6, x7, rfl⟩
        rw [rows2 j q hq, rngN_congr fun k _ => ?_]
        rw [List.length_map]
        by_cases c : j = k
        · by_cases d : j < ns.length
          · rw [if_pos ⟨c, d⟩, if_pos c]
          · rw [if_neg fun e => d e.2, if_pos c, getD_ge (by omega)]
        · rw [if_neg fun e => c e.1, if_neg c]
    rintro σ H2 ⟨s2, hD2, rows2, x6, x7, rfl⟩
    refine ⟨rfl, _, rfl, fun x dx nx ndx _ => make_maA (tup := false) (h := h) (w := w) nx ndx (SqL.of hD2) ⟨by rw [List.length_map, mrows_len, hl], fun i r hr => ?_⟩ h1 h2 w1 w2 fun H3 mr s3 => ⟨rfl, q x H3 mr (s2.trans s3)⟩⟩
    have hi : i < h := by
      have := (List.getElem?_eq_some_iff.mp hr).1
      rw [mrows_len] at this
      exact this
    rw [mrows_at hi] at hr
    obtain rfl := Option.some.inj hr
    have ha : acc[i]? = some acc[i] := List.getElem?_eq_getElem (by omega)
    exact ⟨.ref acc[i], map_at (f := V.ref) ha, _, rfl, .inl (rows2 i _ ha)⟩
abbrev s_munit : Stmt := inClass (top 14) 1
theorem sc_munit : FnScope ["cls", "n"] ["cls", "n"] (defScope s_munit) := ⟨rfl, rfl, rfl, by decide +kernel, rfl, by decide +kernel, by decide +kernel⟩
def spMunit (C : Addr) : Sp := fun vs H Q _ => ∃ n : Nat, vs = [.ref C, .int (n : Int)] ∧ 1 ≤ n ∧ n ≤ 40 ∧ ∀ r H', MatAt C H' r n n (fun i k => if i = k then 1 else 0) → Same H H' → Q (.ref r) H'
theorem ok_munit {f C : Addr} {fd : FuncData} (F : Fun K "unit" "Matrix.unit" s_munit f fd) (c_diag : Cm P w K mg base 5 C "diagonal" (spMdiag C K)) : FnOk P w K mg base CX0 6 f fd ["cls", "n"] (spMunit C) := by
  refine F.ok sc_munit (fun vs H Q E h => ?_) (fun cdv A outer s H vs Q E hr h => ?_)
  · obtain ⟨n, rfl, _⟩ := h
    rfl
  · obtain ⟨n, rfl, n1, n2, q⟩ := h
    refine ⟨_, (pss_one (ps_ret (pe_cm c_diag hr (pv 0) (pa_cons (pe_op op_rep (pe_lst (pa_cons pe_int pa_nil)) (pv 1)) (pa_cons (pv 1) (pa_cons (pv 1) pa_nil)))))), ?_⟩
    refine ⟨_, rfl, rfl, (by show 1 ≤ sizeLine; decide), fun b nb => ?_⟩
    refine ⟨_, rfl, b, _, _, rfl, rfl, upd_same, by omega, by omega, (by show 1 * (n : Int).toNat ≤ sizeLine; rw [sizeLine_eq]; omega), fun c nc => ?_⟩
    rw [flat_rep]
    have g1 := same_upd (o := .lst [.int 1]) nb
    have g2 := same_upd (o := .lst (List.replicate (n : Int).toNat (V.int 1))) nc
    have el : List.replicate (n : Int).toNat (V.int 1) = (List.replicate n (1 : Int)).map V.int := by rw [List.map_replicate, Int.toNat_natCast]
    refine ⟨_, rfl, _, rfl, c, List.replicate n 1, n, n, rfl, SqL.of (by rw [← el]; exact upd_same), by rw [List.length_replicate]; exact Nat.le_refl n, by rw [List.length_replicate]; exact Nat.le_refl n, n1, n2, n1, n2, fun r H' mr s' => q r H' (mr.congr fun i k hi _ => ?_) (g1.trans (g2.trans s'))⟩
    by_cases e : i = k
    · rw [if_pos e, if_pos e, List.getD_eq_getElem?_getD, List.getElem?_replicate, if_pos hi]
      rfl
    · rw [if_neg e, if_neg e]
-- part lmat
/-! the laws' matrices, drawn from the pool -/
def RowL (w B : Nat) (H : Hp) (q : Addr) : Prop := ∃ row : List Int, H q = some (.lst (row.map V.int)) ∧ row.length = w ∧ ∀ z ∈ row, z.natAbs ≤ B
theorem last_intM {l : List Int} (h : 0 < l.length) : atI (l.map V.int) (-1) = some (V.int (l.getD (l.length - 1) 0)) := by
  have h1 : l.length - 1 < l.length := by omega
  have hl := getD_at h1
  have e : l = l.take (l.length - 1) ++ [l.getD (l.length - 1) 0] := by
    have := List.take_add_one (l := l) (i := l.length - 1)
    rw [hl, show l.length - 1 + 1 = l.length by omega, List.take_length] at this
    exact this
  have := atI_last ((l.take (l.length - 1)).map V.int) (V.int (l.getD (l.length - 1) 0))
  rw [show (l.take (l.length - 1)).map V.int ++ [V.int (l.getD (l.length - 1) 0)] = l.map V.int by
    conv => rhs; rw [e]
    rw [List.map_append]; rfl] at this
  exact this
/-- rows of their own, none of them the pool, the list at D, or there before -/
structure LRows (H1 : Hp) (p D : Addr) (w B : Nat) (H : Hp) (acc : List Addr) : Prop where
  at_ : H D = some (.lst (acc.map V.ref))
  nd : acc.Nodup
  nD : D ∉ acc
  np : p ∉ acc
  fr : ∀ q ∈ acc, H1 q = none
  row : ∀ q ∈ acc, RowL w B H q
theorem LRows.but {H1 H H' : Hp} {p D : Addr} {w B : Nat} {acc : List Addr} (L : LRows H1 p D w B H acc) (b : SameBut p H H') (Dp : D ≠ p) : LRows H1 p D w B H' acc :=
  ⟨b _ _ Dp L.at_, L.nd, L.nD, L.np, L.fr, fun q hq => by
    obtain ⟨row, h1, h2⟩ := L.row q hq
    exact ⟨row, b _ _ (fun e => L.np (e ▸ hq)) h1, h2⟩⟩
/-- one more new row -/
theorem LRows.push {H1 H H' : Hp} {p D q : Addr} {w B : Nat} {acc : List Addr} (L : LRows H1 p D w B H' acc) (Dp : D ≠ p) (qp : q ≠ p) (qD : q ≠ D) (qn : q ∉ acc) (fq : H1 q = none) (r : RowL w B H' q) : LRows H1 p D w B (upd H' D (.lst (acc.map V.ref ++ [.ref q]))) (acc ++ [q]) := by
  refine ⟨by rw [List.map_append]; exact upd_same, ?_, ?_, ?_, ?_, ?_⟩
  · rw [List.nodup_append]
    refine ⟨L.nd, List.nodup_cons.mpr ⟨fun h => (nomatch h), List.nodup_nil⟩, fun a ha b hb e => ?_⟩
    rw [List.mem_singleton.mp hb] at e
    exact qn (e ▸ ha)
  · intro m
    rcases List.mem_append.mp m with h | h
    · exact L.nD h
    · exact qD (List.mem_singleton.mp h).symm
  · intro m
    rcases List.mem_append.mp m with h | h
    · exact L.np h
    · exact qp (List.mem_singleton.mp h).symm
  · intro z hz
    rcases List.mem_append.mp hz with h | h
    · exact L.fr z h
    · rw [List.mem_singleton.mp h]
      exact fq
  · intro z hz
    have key : z ≠ D → RowL w B H' z → RowL w B (upd H' D (.lst (acc.map V.ref ++ [.ref q]))) z := fun ne ⟨row, a, b⟩ => ⟨row, by rw [upd_ne ne]; exact a, b⟩
    rcases List.mem_append.mp hz with h | h
    · exact key (fun e => L.nD (e ▸ h)) (L.row z h)
    · obtain rfl := List.mem_singleton.mp h
      exact key qD r
theorem nodup_set {acc : List Addr} {k : Nat} {q : Addr} (nd : acc.Nodup) (qn : q ∉ acc) : (acc.set k q).Nodup := by
  refine List.pairwise_iff_getElem.mpr fun i j hi hj ij e => ?_
  rw [List.length_set] at hi hj
  have old : ∀ a, a < acc.length → acc[a]? = some acc[a]! := fun a ha => by rw [getElem!_pos acc a ha]; exact List.getElem?_eq_getElem ha
  have e2 : (acc.set k q)[i]? = (acc.set k q)[j]? := by
    rw [List.getElem?_eq_getElem (by rw [List.length_set]; exact hi), List.getElem?_eq_getElem (by rw [List.length_set]; exact hj), e]
  rw [List.getElem?_set, List.getElem?_set] at e2
  by_cases ci : k = i
  · have cj : ¬ k = j := by omega
    rw [if_pos ci, if_pos (by omega), if_neg cj] at e2
    exact qn (List.mem_of_getElem? e2.symm)
  · rw [if_neg ci] at e2
    by_cases cj : k = j
    · rw [if_pos cj, if_pos (by omega)] at e2
      exact qn (List.mem_of_getElem? e2)
    · rw [if_neg cj] at e2
      have := (List.getElem?_inj hi nd).mp e2
      omega
/-- a row is replaced by a new one -/
theorem LRows.set {H1 H : Hp} {p D q : Addr} {w B : Nat} {acc : List Addr} {k : Nat} (L : LRows H1 p D w B H acc) (qp : q ≠ p) (qD : q ≠ D) (qn : q ∉ acc) (fq : H1 q = none) (r : RowL w B H q) : LRows H1 p D w B (upd H D (.lst ((acc.map V.ref).set k (.ref q)))) (acc.set k q) := by
  have key : ∀ z, z ≠ D → RowL w B H z → RowL w B (upd H D (.lst ((acc.map V.ref).set k (.ref q)))) z := fun z ne ⟨row, a, b⟩ => ⟨row, by rw [upd_ne ne]; exact a, b⟩
  refine ⟨by rw [List.map_set]; exact upd_same, nodup_set L.nd qn, fun m => ?_, fun m => ?_, fun z hz => ?_, fun z hz => ?_⟩
  · rcases List.mem_or_eq_of_mem_set m with h | h
    · exact L.nD h
    · exact qD h.symm
  · rcases List.mem_or_eq_of_mem_set m with h | h
    · exact L.np h
    · exact qp h.symm
  · rcases List.mem_or_eq_of_mem_set hz with h | h
    · exact L.fr z h
    · rw [h]
      exact fq
  · rcases List.mem_or_eq_of_mem_set hz with h | h
    · exact key z (fun e => L.nD (e ▸ h)) (L.row z h)
    · subst h
      exact key z qD r
theorem RowL.mono {w B B' : Nat} {H : Hp} {q : Addr} (r : RowL w B H q) (h : B ≤ B') : RowL w B' H q := by
  obtain ⟨row, a, b, c⟩ := r
  exact ⟨row, a, b, fun z hz => Nat.le_trans (c z hz) h⟩
theorem LRows.mono {H1 H : Hp} {p D : Addr} {w B B' : Nat} {acc : List Addr} (L : LRows H1 p D w B H acc) (h : B ≤ B') : LRows H1 p D w B' H acc := ⟨L.at_, L.nd, L.nD, L.np, L.fr, fun q hq => (L.row q hq).mono h⟩
abbrev s_lmat : Stmt := top 19
theorem sc_lmat : FnScope ["_law_pool_here", "_law_height", "_law_width", "_law_rows", "_law_j", "_law_i", "_law_which", "_law_item", "_law_factor", "_law_row"] ["_law_pool_here", "_law_height", "_law_width"] (defScope s_lmat) := ⟨rfl, rfl, rfl, by decide +kernel, rfl, by decide +kernel, by decide +kernel⟩
def spLmat : Sp := fun vs H Q _ => ∃ (p : Addr) (h w : Nat), vs = [.ref p, .int (h : Int), .int (w : Int)] ∧ PoolAt H p ∧ 1 ≤ h ∧ h ≤ 6 ∧ 1 ≤ w ∧ w ≤ 6 ∧
  ∀ D acc H', SameBut p H H' → PoolAt H' p → H D = none → D ≠ p → acc.length = h → LRows H p D w 700 H' acc → Q (.ref D) H'
theorem ok_lmat {f : Addr} {fd : FuncData} (T : Txt mg) (henum : mg "enumerate" = none) (F : Fun K "_law_matrix" "_law_matrix" s_lmat f fd) (c_take : Cl P w K mg base CX0 1 "_law_take" spTake) : FnOk P w K mg base CX0 2 f fd ["_law_pool_here", "_law_height", "_law_width"] spLmat := by
  refine F.ok sc_lmat (fun vs H Q E h => ?_) (fun cdv A outer s H vs Q E hr h => ?_)
  · obtain ⟨p, h, w, rfl, _⟩ := h
    rfl
  · obtain ⟨p, h, w, rfl, P0, h1, h2, w1, w2, q⟩ := h
    refine ⟨_, (Evl.pss_cut (ps_set (i := 3) sc_lmat.nd rfl (Or.inr rfl) (pe_lc (own := [("_law_i", 5)]) (g := (gName 5)) (tt := tYes) rfl sc_lmat.nd (pi_range1 rfl T.range (pa_cons (pv 1) pa_nil)) (blkOk_by (N := ["_law_pool_here", "_law_height", "_law_width", "_law_rows", "_law_j", "_law_i", "_law_which", "_law_item", "_law_factor", "_law_row"]) (sc := defScope s_lmat) (by decide +kernel)) (fun _ _ _ _ _ => (pg_name (i := 5) sc_lmat.nd rfl (Or.inl rfl))) (fun _ _ _ _ _ => pts_nil) (fun _ _ _ _ _ => (pe_lc (own := [("_law_j", 4)]) (g := (gName 4)) (tt := tYes) rfl sc_lmat.nd (pi_range1 rfl T.range (pa_cons (pv 2) pa_nil)) (blkOk_by (N := ["_law_pool_here", "_law_height", "_law_width", "_law_rows", "_law_j", "_law_i", "_law_which", "_law_item", "_law_factor", "_law_row"]) (sc := ({ kind := .function, names := [(".0", .local), ("_law_i", .local), ("range", .globalImplicit), ("_law_pool_here", .cell), ("_law_width", .cell)], isGenerator := false, isCoroutine := false, more := [] } : Scope)) (by decide +kernel)) (fun _ _ _ _ _ => (pg_name (i := 4) sc_lmat.nd rfl (Or.inl rfl))) (fun _ _ _ _ _ => pts_nil) (fun _ _ _ _ _ => (pe_op op_sub (pe_cl c_take (by exact hr) (pa_cons (pv 0) (pa_cons pe_int pa_nil))) pe_int))))))
 (Evl.pss_cut (ps_set (i := 6) sc_lmat.nd rfl (Or.inl rfl) (pe_cl c_take hr (pa_cons (pv 0) (pa_cons pe_int pa_nil))))
 (Evl.pss_cut (ps_if (pw_and (pt_cmpR op_eq (pv 6) pe_int (nomark _)) (pw_and1 (pt_cmpR op_gt (pv 1) pe_int (nomark _)))).pt (pss_one (ps_asg (pe_lc (own := [("_law_j", 4), ("_law_item", 7)]) (g := (gTup K 2 (gCons (gName 4) (gCons (gName 7) gNil)))) (tt := tYes) rfl sc_lmat.nd (pi_enum rfl henum (pa_cons (pe_ix ix_list (pv 3) (pe_op op_fdivW (pe_op op_sub (pv 1) pe_int) pe_int) (fun _ _ => rfl)) pa_nil)) (blkOk_by (N := ["_law_pool_here", "_law_height", "_law_width", "_law_rows", "_law_j", "_law_i", "_law_which", "_law_item", "_law_factor", "_law_row"]) (sc := defScope s_lmat) (by decide +kernel)) (fun _ _ _ _ _ => (pg_tup rfl (pgs_cons (pg_name (i := 4) sc_lmat.nd rfl (Or.inl rfl)) (pgs_cons (pg_name (i := 7) sc_lmat.nd rfl (Or.inl rfl)) pgs_nil)))) (fun _ _ _ _ _ => pts_nil) (fun _ _ _ _ _ => (pe_op op_add (pv 7) (pe_ix (r := rIxL K) (by exact ix_list) (pe_ix (r := rIxL K) (by exact ix_list) (pv 3) pe_int (fun _ _ => rfl)) (pv 4) (fun _ _ => rfl))))) (pg_sub (pv 3) (pe_un un_neg pe_int) set_list))) pss_nil)
 (Evl.pss_cut (ps_if (pt_cmpR op_eq (pv 6) pe_int (nomark _)) (pss_cons (ps_set (i := 8) sc_lmat.nd rfl (Or.inr rfl) (pe_ix ix_list (pe_lst (pa_cons pe_int (pa_cons pe_int (pa_cons pe_int (pa_cons pe_int (pa_cons pe_int pa_nil)))))) (pe_cl c_take hr (pa_cons (pv 0) (pa_cons pe_int pa_nil))) (fun _ _ => rfl)))
 (pss_one (ps_asg (pe_lc (own := [("_law_item", 7)]) (g := (gName 7)) (tt := tYes) rfl sc_lmat.nd (pi_list (pe_ix ix_list (pv 3) pe_int (fun _ _ => rfl))) (blkOk_by (N := ["_law_pool_here", "_law_height", "_law_width", "_law_rows", "_law_j", "_law_i", "_law_which", "_law_item", "_law_factor", "_law_row"]) (sc := defScope s_lmat) (by decide +kernel)) (fun _ _ _ _ _ => (pg_name (i := 7) sc_lmat.nd rfl (Or.inl rfl))) (fun _ _ _ _ _ => pts_nil) (fun _ _ _ _ _ => (pe_op op_mul (pv 8) (pv 7)))) (pg_sub (pv 3) pe_int set_list)))) pss_nil)
 (Evl.pss_cut (ps_if (pt_cmpR op_eq (pv 6) pe_int (nomark _)) (pss_cons (ps_set (i := 8) sc_lmat.nd rfl (Or.inr rfl) (pe_ix ix_list (pe_lst (pa_cons pe_int (pa_cons pe_int (pa_cons pe_int pa_nil)))) (pe_cl c_take hr (pa_cons (pv 0) (pa_cons pe_int pa_nil))) (fun _ _ => rfl)))
 (pss_one (ps_set (i := 3) sc_lmat.nd rfl (Or.inr rfl) (pe_lc (own := [("_law_row", 9)]) (g := (gName 9)) (tt := tYes) rfl sc_lmat.nd (pi_list (pv 3)) (blkOk_by (N := ["_law_pool_here", "_law_height", "_law_width", "_law_rows", "_law_j", "_law_i", "_law_which", "_law_item", "_law_factor", "_law_row"]) (sc := defScope s_lmat) (by decide +kernel)) (fun _ _ _ _ _ => (pg_name (i := 9) sc_lmat.nd rfl (Or.inl rfl))) (fun _ _ _ _ _ => pts_nil) (fun _ _ _ _ _ => (pe_lc (own := [("_law_item", 7)]) (g := (gName 7)) (tt := tYes) rfl sc_lmat.nd (pi_listK (K := K) rfl (pv 9)) (blkOk_by (N := ["_law_pool_here", "_law_height", "_law_width", "_law_rows", "_law_j", "_law_i", "_law_which", "_law_item", "_law_factor", "_law_row"]) (sc := ({ kind := .function, names := [(".0", .local), ("_law_row", .local), ("_law_factor", .cell)], isGenerator := false, isCoroutine := false, more := [] } : Scope)) (by decide +kernel)) (fun _ _ _ _ _ => (pg_name (i := 7) sc_lmat.nd rfl (Or.inl rfl))) (fun _ _ _ _ _ => pts_nil) (fun _ _ _ _ _ => (pe_op op_mul (pv 8) (pv 7))))))))) pss_nil)
 (Evl.pss_cut (ps_if (pt_cmpR op_eq (pv 6) pe_int (nomark _)) (pss_one (ps_for PassesOwn.never rfl (pi_list (pv 3)) (pg_name (i := 9) sc_lmat.nd rfl (Or.inl rfl)) (pss_one (ps_asg (pe_op op_add (pe_ix ix_list (pv 9) pe_int (fun _ _ => rfl)) (pe_op op_mul pe_int (pe_ix ix_list (pv 9) (pe_un un_neg pe_int) (fun _ _ => rfl)))) (pg_sub (pv 9) (pe_un un_neg pe_int) set_list))))) pss_nil)
 (pss_one (ps_ret (pv 3))))))))), ?_⟩
    refine ⟨fun σ H' => ∃ (D : Addr) (acc : List Addr) (x4 x5 : Option V), SameBut p H H' ∧ PoolAt H' p ∧ H D = none ∧ D ≠ p ∧ acc.length = h ∧ LRows H p D w 3 H' acc ∧ σ = [some (.ref p), some (.int (h : Int)), some (.int (w : Int)), some (.ref D), x4, x5, none, none, none, none], ?_, ?_⟩
    · refine ⟨_, rfl, (h : Int), rfl, by omega, by omega, fun D nD => ?_⟩
      have Dp := P0.new nD
      refine lc_range (lo := 0) (n := (h : Int).toNat) (fun i H' => SameBut p H H' ∧ PoolAt H' p ∧ ∃ acc : List Addr, acc.length = i ∧ LRows H p D w 3 H' acc)
        ⟨sbut (same_upd nD), P0.same (same_upd nD), [], rfl, upd_same, List.nodup_nil, fun h => (nomatch h), fun h => (nomatch h), fun _ h => (nomatch h), fun _ h => (nomatch h)⟩ ?_ ?_
      · rintro i H4 hi ⟨b4, P4, acc, hl, L⟩
        rw [Int.toNat_natCast] at hi
        refine ⟨rfl, _, rfl, (w : Int), rfl, by omega, by omega, fun D2 nD2 => ?_⟩
        have D2p := P4.new nD2
        have D2D : D2 ≠ D := fun e => by
          have := L.at_
          rw [← e, nD2] at this
          cases this
        have D2n : D2 ∉ acc := fun m => by
          obtain ⟨row, h1, _⟩ := L.row D2 m
          rw [nD2] at h1
          cases h1
        have fD2 : H D2 = none := by
          cases e : H D2 with
          | none => rfl
          | some o => rw [b4 _ _ D2p e] at nD2; cases nD2
        refine lc_range (lo := 0) (n := (w : Int).toNat) (fun k H' => SameBut p H4 H' ∧ PoolAt H' p ∧ ∃ zs : List Int, H' D2 = some (.lst (zs.map V.int)) ∧ zs.length = k ∧ ∀ z ∈ zs, z.natAbs ≤ 3)
          ⟨sbut (same_upd nD2), P4.same (same_upd nD2), [], upd_same, rfl, fun _ h => (nomatch h)⟩ ?_ ?_
        · rintro k H5 hk ⟨b5, P5, zs, hz, hlz, bz⟩
          rw [Int.toNat_natCast] at hk
          refine ⟨rfl, _, rfl, p, 7, rfl, P5, by decide, by decide, fun u H6 u0 u1 e6 P6 => ?_⟩
          have hz6 : H6 D2 = some (.lst (zs.map V.int)) := by
            rw [e6 D2 D2p]
            exact hz
          refine ⟨_, _, rfl, rfl, zs.map V.int, hz6, small1000 (by rw [List.length_map]; omega), fun b o hb eb => ?_, ?_, zs ++ [u - 3], ?_, ?_, ?_⟩
          · have hbD : b ≠ D2 := ne_of_none eb nD2
            rw [upd_ne hbD, e6 b hb]
            exact b5 b o hb eb
          · obtain ⟨a1, a2, a3, a4⟩ := P6
            exact ⟨a1, a2, a3, by rw [upd_ne D2p.symm]; exact a4⟩
          · rw [List.map_append]
            exact upd_same
          · rw [List.length_append, hlz]
            rfl
          · intro y hy
            rcases List.mem_append.mp hy with h | h
            · exact bz y h
            · rw [List.mem_singleton.mp h]
              omega
        · rintro H5 ⟨b5, P5, zs, hz, hlz, bz⟩
          rw [Int.toNat_natCast] at hlz
          have L5 := L.but b5 Dp
          refine ⟨_, L5.at_, small1000 (by rw [List.length_map]; omega), fun b o hb eb => ?_, ?_, acc ++ [D2], by rw [List.length_append, hl]; rfl, L5.push (H := H) Dp D2p D2D D2n fD2 ⟨zs, hz, hlz, bz⟩⟩
          · rw [upd_ne (ne_of_none eb nD)]
            exact b5 b o hb (b4 b o hb eb)
          · obtain ⟨a1, a2, a3, a4⟩ := P5
            exact ⟨a1, a2, a3, by rw [upd_ne Dp.symm]; exact a4⟩
      · rintro H4 ⟨b4, P4, acc, hl, L⟩
        rw [Int.toNat_natCast] at hl
        exact ⟨D, acc, _, _, b4, P4, nD, Dp, hl, L, rfl⟩
    rintro σ H1 ⟨D, acc, x4, x5, b1, P1, nD, Dp, hl, L, rfl⟩
    -- which
    refine ⟨fun σ H' => ∃ v : Int, SameBut p H H' ∧ PoolAt H' p ∧ LRows H p D w 3 H' acc ∧ σ = [some (.ref p), some (.int (h : Int)), some (.int (w : Int)), some (.ref D), x4, x5, some (.int v), none, none, none], ?_, ?_⟩
    · refine ⟨_, rfl, p, 6, rfl, P1, by decide, by decide, fun u H2 u0 u1 e2 P2 => ?_⟩
      have b2 : SameBut p H1 H2 := SameBut.of e2
      exact ⟨u, b1.trans b2, P2, L.but b2 Dp, rfl⟩
    rintro σ H2 ⟨v, b2, P2, L2', rfl⟩
    have atRow : ∀ {G : Hp} {B : Nat} {ac : List Addr} {k : Nat}, LRows H p D w B G ac → k < ac.length → ∃ (q : Addr) (row : List Int), ac[k]? = some q ∧ atI (ac.map V.ref) (k : Int) = some (.ref q) ∧ G q = some (.lst (row.map V.int)) ∧ row.length = w ∧ ∀ z ∈ row, z.natAbs ≤ B := fun {G B ac k} L hk => by
      have e : ac[k]? = some ac[k] := List.getElem?_eq_getElem hk
      obtain ⟨row, h1, h2, h3⟩ := L.row _ (List.getElem_mem hk)
      exact ⟨ac[k], row, e, atI_nat (map_at (f := V.ref) e), h1, h2, h3⟩
    -- fresh rows
    have fresh : ∀ {G : Hp} {B : Nat} {ac : List Addr} {x : Addr}, SameBut p H G → PoolAt G p → LRows H p D w B G ac → G x = none → x ≠ p ∧ x ≠ D ∧ x ∉ ac ∧ H x = none := fun {G B ac x} b P L n => by
      have xp := P.new n
      refine ⟨xp, fun e => ?_, fun m => ?_, ?_⟩
      · have := L.at_
        rw [← e, n] at this
        cases this
      · obtain ⟨row, h1, _⟩ := L.row x m
        rw [n] at h1
        cases h1
      · cases e : H x with
        | none => rfl
        | some o => rw [b _ _ xp e] at n; cases n
    refine ⟨fun σ H' => ∃ (acc : List Addr) (x4 x7 : Option V), SameBut p H H' ∧ PoolAt H' p ∧ acc.length = h ∧ LRows H p D w 6 H' acc ∧ σ = [some (.ref p), some (.int (h : Int)), some (.int (w : Int)), some (.ref D), x4, x5, some (.int v), x7, none, none], ?_, ?_⟩
    · refine ⟨_, rfl, rfl, _, rfl, ?_⟩
      by_cases c0 : v = 0
      · refine if_pos_of (decide_eq_true (by rw [c0])) ⟨_, rfl, _, _, rfl, rfl, _, rfl, ?_⟩
        by_cases c1 : 1 < h
        · refine if_pos_of (decide_eq_true (by omega)) ?_
          obtain ⟨q1, row1, a1, i1, g1, l1, bd1⟩ := atRow (k := (h - 1) / 2) L2' (by omega)
          obtain ⟨q0, row0, a0, i0, g0, l0, bd0⟩ := atRow (k := 0) L2' (by omega)
          have ek : ((h : Int) - 1) / 2 = (((h - 1) / 2 : Nat) : Int) := by omega
          refine ⟨_, rfl, _, rfl, _, _, rfl, rfl, _, _, rfl, rfl, ?_, D, _, _, _, rfl, rfl, SqL.of L2'.at_, by rw [ek]; exact i1, q1, _, rfl, SqL.of g1, fun D2 nD2 => lcMap walk_enum ((List.zipWith (· + ·) row1 row0).map V.int) (by rw [List.length_map, List.length_map, List.length_zipWith]; omega) nD2 (fun H s => SqL.of (s _ _ g1)) ?_ ?_⟩
          · exact ⟨by decide, by decide⟩
          · rintro i x H4 H5 hi s4 hL ⟨Tp, x1, y1, rfl, nT, rfl, hx1, hy1⟩
            cases hx1
            rw [List.length_map] at hi
            obtain ⟨z1, rfl, hz1⟩ := item_int hy1
            have s5 := s4.trans (same_upd (o := .tup [.int (i : Nat), .int z1]) nT)
            have hz0 : row0[i]? = some (row0.getD i 0) := getD_at (by omega)
            refine ⟨Tp, _, rfl, SqT.of upd_same, rfl, _, _, rfl, _, _, rfl, rfl, rfl, _, rfl, _, rfl, D, _, _, _, rfl, rfl, SqL.of (s5 _ _ L2'.at_), i0, _, rfl, q0, _, _, _, rfl, rfl, SqL.of (s5 _ _ g0), atI_nat (map_at (f := V.int) hz0), _, _, rfl, rfl, ?_⟩
            exact mapEnd nD2 (by rw [List.length_map, List.length_zipWith]; omega) s5 ((same_upd (o := .tup [.int (i : Nat), .int z1]) nT) _ _ hL) (map_at (f := V.int) (by rw [List.getElem?_zipWith, hz1, hz0] <;> rfl))
          · intro H4 s4 hL
            obtain ⟨f1, f2, f3, f4⟩ := fresh b2 P2 L2' nD2
            have L4 := (L2'.but (sbut s4) Dp).mono (show 3 ≤ 6 by decide)
            refine ⟨_, rfl, _, rfl, D, _, _, h - 1, rfl, rfl, L4.at_, ?_, acc.set (h - 1) D2, _, _, ?_, ?_, ?_, L4.set f1 f2 f3 f4 ⟨_, hL, by rw [List.length_zipWith]; omega, fun z hz => ?_⟩, rfl⟩
            · unfold ixN
              rw [if_neg (by decide), if_pos (by rw [List.length_map]; omega), List.length_map]
              congr 1
              omega
            · exact fun b o hb eb => by
                rw [upd_ne (ne_of_none eb nD)]
                exact s4 b o (b2 b o hb eb)
            · obtain ⟨a1, a2, a3, a4⟩ := P2
              exact ⟨a1, a2, a3, by rw [upd_ne Dp.symm]; exact s4 _ _ a4⟩
            · rw [List.length_set, hl]
            · obtain ⟨k, hk⟩ := List.getElem?_of_mem hz
              rw [List.getElem?_zipWith] at hk
              cases e1 : row1[k]? with
              | none => rw [e1] at hk; cases hk
              | some y1 =>
                cases e2 : row0[k]? with
                | none => rw [e1, e2] at hk; cases hk
                | some y0 =>
                  rw [e1, e2] at hk
                  obtain rfl := Option.some.inj hk
                  have t1 := bd1 y1 (List.mem_of_getElem? e1)
                  have t0 := bd0 y0 (List.mem_of_getElem? e2)
                  omega
        · exact if_neg_of (decide_eq_false (by omega)) ⟨acc, x4, none, b2, P2, hl, L2'.mono (by decide), rfl⟩
      · exact if_neg_of (decide_eq_false fun e => c0 (V.int.inj e)) (if_neg_of rfl ⟨acc, x4, none, b2, P2, hl, L2'.mono (by decide), rfl⟩)
    rintro σ H3 ⟨acc3, x4', x7, b3, P3, hl3, L3, rfl⟩
    have ix0 : ∀ {n : Nat}, 0 < n → ixN n (0 : Int) = some 0 := fun {n} hn => Evl.ixN_nat (j := 0) hn
    have keepP : ∀ {G G' : Hp} {xs : List V}, PoolAt G p → Same G G' → PoolAt (upd G' D (.lst xs)) p := fun {G G' xs} P s => by
      obtain ⟨a1, a2, a3, a4⟩ := P
      exact ⟨a1, a2, a3, by rw [upd_ne Dp.symm]; exact s _ _ a4⟩
    have keepB : ∀ {G G' : Hp} {xs : List V}, SameBut p H G → Same G G' → SameBut p H (upd G' D (.lst xs)) := fun {G G' xs} b s x o hx ex => by
      rw [upd_ne (ne_of_none ex nD)]
      exact s x o (b x o hx ex)
    refine ⟨fun σ H' => ∃ (acc : List Addr) (x4 x7 x8 : Option V), SameBut p H H' ∧ PoolAt H' p ∧ acc.length = h ∧ LRows H p D w 36 H' acc ∧ σ = [some (.ref p), some (.int (h : Int)), some (.int (w : Int)), some (.ref D), x4, x5, some (.int v), x7, x8, none], ?_, ?_⟩
    · refine ⟨_, rfl, rfl, _, rfl, ?_⟩
      by_cases c0 : v = 1
      · refine if_pos_of (decide_eq_true (by rw [c0])) ?_
        refine ⟨(by show 5 ≤ sizeLine; decide), fun m nm => ?_⟩
        have km := same_upd (o := .lst [.int 2, .int 3, .int 6, .int 5, .int 4]) nm
        refine ⟨_, rfl, p, 5, rfl, P3.same km, by decide, by decide, fun u H4 u0 u1 e4 P4 => ?_⟩
        have mp := P3.new nm
        have hm4 : H4 m = some (.lst [.int 2, .int 3, .int 6, .int 5, .int 4]) := by
          rw [e4 m mp]
          exact upd_same
        have pick : ∃ fa : Int, atI ([.int 2, .int 3, .int 6, .int 5, .int 4] : List V) u = some (.int fa) ∧ fa.natAbs ≤ 6 := by
          have : u = 0 ∨ u = 1 ∨ u = 2 ∨ u = 3 ∨ u = 4 := by omega
          rcases this with rfl | rfl | rfl | rfl | rfl
          · exact ⟨2, rfl, by decide⟩
          · exact ⟨3, rfl, by decide⟩
          · exact ⟨6, rfl, by decide⟩
          · exact ⟨5, rfl, by decide⟩
          · exact ⟨4, rfl, by decide⟩
        obtain ⟨fa, hfa, bfa⟩ := pick
        have b34 : SameBut p H3 H4 := (sbut km).trans (SameBut.of e4)
        have L4 := L3.but b34 Dp
        obtain ⟨q0, row0, a0, i0, g0, l0, bd0⟩ := atRow (k := 0) L4 (by omega)
        refine ⟨m, _, _, _, rfl, rfl, SqL.of hm4, hfa, ?_⟩
        refine ⟨_, rfl, D, _, _, _, rfl, rfl, SqL.of L4.at_, i0, q0, rfl, ⟨_, SqL.of g0⟩, fun D2 nD2 => lcMap walk_list ((row0.map (fa * ·)).map V.int) (by rw [List.length_map, List.length_map, List.length_map]) nD2 (fun H s => SqL.of (s _ _ g0)) ?_ ?_⟩
        · rintro i x H5 _ hi s5 hL ⟨rfl, hx⟩
          obtain ⟨z, rfl, hz⟩ := item_int hx
          refine ⟨rfl, _, rfl, _, rfl, _, _, rfl, rfl, .inl ⟨by omega, by omega⟩, ?_⟩
          exact mapEnd nD2 (by rw [List.length_map, List.length_map]; omega) s5 hL (map_at (f := V.int) (by rw [List.getElem?_map, hz] <;> rfl))
        · intro H5 s5 hL
          have b4 := b3.trans b34
          obtain ⟨f1, f2, f3, f4⟩ := fresh b4 P4 L4 nD2
          have L5 := (L4.but (sbut s5) Dp).mono (show 6 ≤ 36 by decide)
          refine ⟨_, rfl, D, _, _, 0, rfl, rfl, L5.at_, ix0 (by rw [List.length_map]; omega), acc3.set 0 D2, _, _, _, keepB b4 s5, keepP P4 s5, by rw [List.length_set, hl3], L5.set f1 f2 f3 f4 ⟨_, hL, by rw [List.length_map]; exact l0, fun z hz => ?_⟩, rfl⟩
          obtain ⟨y, hy, rfl⟩ := List.mem_map.mp hz
          have := bd0 y hy
          rw [Int.natAbs_mul]
          exact Nat.le_trans (Nat.mul_le_mul bfa this) (by decide)
      · exact if_neg_of (decide_eq_false fun e => c0 (V.int.inj e)) ⟨acc3, x4', x7, none, b3, P3, hl3, L3.mono (by decide), rfl⟩
    rintro σ H4 ⟨acc4, x4'', x7', x8, b4, P4, hl4, L4, rfl⟩
    have nil_none : ∀ {G : Hp} {x : Addr}, SameBut p H G → x ≠ p → G x = none → H x = none := fun {G x} b xp n => by
      cases e : H x with
      | none => rfl
      | some o => rw [b _ _ xp e] at n; cases n
    refine ⟨fun σ H' => ∃ (D : Addr) (acc : List Addr) (x4 x7 x8 x9 : Option V), SameBut p H H' ∧ PoolAt H' p ∧ H D = none ∧ D ≠ p ∧ acc.length = h ∧ LRows H p D w 216 H' acc ∧ σ = [some (.ref p), some (.int (h : Int)), some (.int (w : Int)), some (.ref D), x4, x5, some (.int v), x7, x8, x9], ?_, ?_⟩
    · refine ⟨_, rfl, rfl, _, rfl, ?_⟩
      by_cases c0 : v = 2
      · refine if_pos_of (decide_eq_true (by rw [c0])) ?_
        refine ⟨(by show 3 ≤ sizeLine; decide), fun m nm => ?_⟩
        have km := same_upd (o := .lst [.int 2, .int 3, .int 6]) nm
        refine ⟨_, rfl, p, 3, rfl, P4.same km, by decide, by decide, fun u H5 u0 u1 e5 P5 => ?_⟩
        have mp := P4.new nm
        have hm5 : H5 m = some (.lst [.int 2, .int 3, .int 6]) := by
          rw [e5 m mp]
          exact upd_same
        have pick : ∃ fa : Int, atI ([.int 2, .int 3, .int 6] : List V) u = some (.int fa) ∧ fa.natAbs ≤ 6 := by
          have : u = 0 ∨ u = 1 ∨ u = 2 := by omega
          rcases this with rfl | rfl | rfl
          · exact ⟨2, rfl, by decide⟩
          · exact ⟨3, rfl, by decide⟩
          · exact ⟨6, rfl, by decide⟩
        obtain ⟨fa, hfa, bfa⟩ := pick
        have b45 : SameBut p H4 H5 := (sbut km).trans (SameBut.of e5)
        have b5 := b4.trans b45
        have L5 := L4.but b45 Dp
        refine ⟨m, _, _, _, rfl, rfl, SqL.of hm5, hfa, ?_⟩
        refine ⟨_, rfl, D, rfl, ⟨_, SqL.of L5.at_⟩, fun E nE => ?_⟩
        have Ep := P5.new nE
        have fE := nil_none b5 Ep nE
        refine lc_it walk_list (fun i H' => Same H5 H' ∧ ∃ ac : List Addr, ac.length = i ∧ LRows H p E w 216 H' ac)
          ⟨same_upd nE, [], rfl, upd_same, List.nodup_nil, fun h => (nomatch h), fun h => (nomatch h), fun _ h => (nomatch h), fun _ h => (nomatch h)⟩ (fun i H' _ hh => SqL.of (hh.1 _ _ L5.at_)) ?_ ?_
        · rintro i x H6 _ hi ⟨s6, ac, hla, LE⟩ ⟨rfl, hx⟩
          rw [List.length_map] at hi
          have hxa : acc4[i]? = some acc4[i] := List.getElem?_eq_getElem hi
          have ex : x = .ref acc4[i] := Option.some.inj (hx.symm.trans (map_at (f := V.ref) hxa))
          subst ex
          obtain ⟨row, g0, l0, bd0⟩ := L5.row _ (List.getElem_mem hi)
          have g6 := s6 _ _ g0
          refine ⟨rfl, _, rfl, acc4[i], rfl, ⟨_, SqL.of g6⟩, fun D2 nD2 => lcMap walk_list ((row.map (fa * ·)).map V.int) (by rw [List.length_map, List.length_map, List.length_map]) nD2 (fun H s => SqL.of (s _ _ g6)) ?_ ?_⟩
          · rintro k y H7 _ hk s7 hL ⟨rfl, hy⟩
            obtain ⟨z, rfl, hz⟩ := item_int hy
            refine ⟨rfl, _, rfl, _, rfl, _, _, rfl, rfl, .inl ⟨by omega, by omega⟩, ?_⟩
            exact mapEnd nD2 (by rw [List.length_map, List.length_map]; omega) s7 hL (map_at (f := V.int) (by rw [List.getElem?_map, hz] <;> rfl))
          · intro H7 s7 hL
            have D2p := (P5.same s6).new nD2
            have D2E : D2 ≠ E := fun e => by
              have := LE.at_
              rw [← e, nD2] at this
              cases this
            have D2n : D2 ∉ ac := fun mm => by
              obtain ⟨row', h1, _⟩ := LE.row D2 mm
              rw [nD2] at h1
              cases h1
            have LE7 := LE.but (sbut s7) Ep
            refine ⟨_, LE7.at_, small1000 (by rw [List.length_map]; omega), fun b o eb => ?_, ac ++ [D2], by rw [List.length_append, hla]; rfl, LE7.push (H := H) Ep D2p D2E D2n (nil_none (b5.trans (sbut s6)) D2p nD2) ⟨_, hL, by rw [List.length_map]; exact l0, fun z hz => ?_⟩⟩
            · rw [upd_ne (ne_of_none eb nE)]
              exact s7 _ _ (s6 b o eb)
            · obtain ⟨y, hy, rfl⟩ := List.mem_map.mp hz
              have := bd0 y hy
              rw [Int.natAbs_mul]
              exact Nat.le_trans (Nat.mul_le_mul bfa this) (by decide)
        · rintro H6 ⟨s6, ac, hla, LE⟩
          rw [List.length_map] at hla
          exact ⟨E, ac, _, _, _, _, b5.trans (sbut s6), P5.same s6, fE, Ep, by rw [hla, hl4], LE, rfl⟩
      · exact if_neg_of (decide_eq_false fun e => c0 (V.int.inj e)) ⟨D, acc4, x4'', x7', x8, none, b4, P4, nD, Dp, hl4, L4.mono (by decide), rfl⟩
    rintro σ H5 ⟨D', acc5, y4, y7, y8, y9, b5, P5, nD', Dp', hl5, L5, rfl⟩
    have ixL : ∀ {n : Nat}, 0 < n → ixN n (-1 : Int) = some (n - 1) := fun {n} hn => by
      unfold ixN
      rw [if_neg (by decide), if_pos (by omega)]
      congr 1
      omega
    refine ⟨fun σ H' => SameBut p H H' ∧ PoolAt H' p ∧ LRows H p D' w 700 H' acc5 ∧ ∃ x9, σ = [some (.ref p), some (.int (h : Int)), some (.int (w : Int)), some (.ref D'), y4, x5, some (.int v), y7, y8, x9], ?_, ?_⟩
    · refine ⟨_, rfl, rfl, _, rfl, ?_⟩
      by_cases c0 : v = 3
      · refine if_pos_of (decide_eq_true (by rw [c0])) ?_
        refine ⟨_, rfl, D', rfl, ⟨_, SqL.of L5.at_⟩, for_list (K := K) (a := D') (xs := acc5.map V.ref) (fun i σ H' => SameBut p H H' ∧ PoolAt H' p ∧ H' D' = some (.lst (acc5.map V.ref)) ∧ (∀ (j : Nat) (q : Addr), acc5[j]? = some q → RowL w (if j < i then 700 else 216) H' q) ∧ ∃ x9, σ = [some (.ref p), some (.int (h : Int)), some (.int (w : Int)), some (.ref D'), y4, x5, some (.int v), y7, y8, x9])
          ⟨b5, P5, L5.at_, fun j q hq => (L5.row q (List.mem_of_getElem? hq)).mono (by split <;> decide), y9, rfl⟩ (fun i σ H' _ hh => SqL.of hh.2.2.1) ?_ ?_⟩
        · rintro i y σ H6 hi ⟨b6, P6, hD6, rows6, x9, rfl⟩
          have hil : i < acc5.length := by
            have := (List.getElem?_eq_some_iff.mp hi).1
            rw [List.length_map] at this
            exact this
          have hxa : acc5[i]? = some acc5[i] := List.getElem?_eq_getElem hil
          have ex : y = .ref acc5[i] := Option.some.inj (hi.symm.trans (map_at (f := V.ref) hxa))
          subst ex
          obtain ⟨row, g0, l0, bd0⟩ := rows6 i _ hxa
          rw [if_neg (Nat.lt_irrefl i)] at bd0
          have mem := List.getElem_mem hil
          have qD : acc5[i] ≠ D' := fun e => L5.nD (e ▸ mem)
          have qp : acc5[i] ≠ p := fun e => L5.np (e ▸ mem)
          have fq := L5.fr _ mem
          have hl0 : row[0]? = some (row.getD 0 0) := getD_at (by omega)
          have hll : row[row.length - 1]? = some (row.getD (row.length - 1) 0) := getD_at (by omega)
          have t0 := bd0 _ (List.mem_of_getElem? hl0)
          have t1 := bd0 _ (List.mem_of_getElem? hll)
          refine ⟨_, rfl, acc5[i], _, _, _, rfl, rfl, SqL.of g0, atI_nat (j := 0) (map_at (f := V.int) hl0), _, rfl, _, rfl, acc5[i], _, _, _, rfl, rfl, SqL.of g0, last_intM (by omega), _, _, rfl, rfl, .inl ⟨by omega, by omega⟩, _, _, rfl, rfl, ?_⟩
          refine ⟨_, rfl, _, rfl, acc5[i], _, _, _, rfl, rfl, g0, ixL (by rw [List.length_map]; omega), ?_⟩
          rw [← List.map_set (f := V.int)]
          refine ⟨fun b o hb eb => ?_, ?_, ?_, fun j q hj => ?_, _, rfl⟩
          · rw [upd_ne (ne_of_none eb fq)]
            exact b6 b o hb eb
          · obtain ⟨a1, a2, a3, a4⟩ := P6
            exact ⟨a1, a2, a3, by rw [upd_ne qp.symm]; exact a4⟩
          · rw [upd_ne qD.symm]
            exact hD6
          · by_cases e : j = i
            · subst e
              obtain rfl := Option.some.inj (hj.symm.trans hxa)
              rw [if_pos (Nat.lt_succ_self j)]
              refine ⟨_, upd_same, by rw [List.length_set]; exact l0, fun z hz => ?_⟩
              rcases List.mem_or_eq_of_mem_set hz with h | h
              · exact Nat.le_trans (bd0 z h) (by decide)
              · rw [h]
                omega
            · have ne : q ≠ acc5[i] := fun e2 => e ((List.getElem?_inj (List.getElem?_eq_some_iff.mp hj).1 L5.nd).mp (by rw [hj, hxa, e2]))
              obtain ⟨row', r1, r2, r3⟩ := rows6 j q hj
              refine ⟨row', by rw [upd_ne ne]; exact r1, r2, fun z hz => Nat.le_trans (r3 z hz) ?_⟩
              by_cases c : j < i
              · rw [if_pos c, if_pos (by omega)]
                exact Nat.le_refl _
              · rw [if_neg c, if_neg (by omega)]
                exact Nat.le_refl _
        · rintro σ H6 ⟨b6, P6, hD6, rows6, x9, rfl⟩
          refine ⟨b6, P6, ⟨hD6, L5.nd, L5.nD, L5.np, L5.fr, fun q hq => ?_⟩, x9, rfl⟩
          obtain ⟨j, hj⟩ := List.getElem?_of_mem hq
          exact (rows6 j q hj).mono (by split <;> decide)
      · exact if_neg_of (decide_eq_false fun e => c0 (V.int.inj e)) ⟨b5, P5, L5.mono (by decide), y9, rfl⟩
    rintro σ H6 ⟨b6, P6, L6, x9, rfl⟩
    exact ⟨_, rfl, q D' acc5 H6 b6 P6 nD' Dp' hl5 L6⟩
-- part lmade
/-- a row is changed where it stands -/
theorem LRows.put {H1 H : Hp} {p D q : Addr} {w B : Nat} {acc : List Addr} {row : List Int} (L : LRows H1 p D w B H acc) (hq : q ∈ acc) (hl : row.length = w) (hb : ∀ z ∈ row, z.natAbs ≤ B) : LRows H1 p D w B (upd H q (.lst (row.map V.int))) acc := by
  have qD : D ≠ q := fun e => L.nD (e ▸ hq)
  refine ⟨by rw [upd_ne qD]; exact L.at_, L.nd, L.nD, L.np, L.fr, fun z hz => ?_⟩
  by_cases e : z = q
  · rw [e]
    exact ⟨row, upd_same, hl, hb⟩
  · obtain ⟨r, a, b, c⟩ := L.row z hz
    exact ⟨r, by rw [upd_ne e]; exact a, b, c⟩
abbrev s_lshape : Stmt := top 20
theorem sc_lshape : FnScope ["_law_pool_here"] ["_law_pool_here"] (defScope s_lshape) := ⟨rfl, rfl, rfl, by decide +kernel, rfl, by decide +kernel, by decide +kernel⟩
def spLshape : Sp := fun vs H Q _ => ∃ p : Addr, vs = [.ref p] ∧ PoolAt H p ∧ ∀ (r : Addr) (a b : Nat) (H' : Hp), SameBut p H H' → PoolAt H' p → r ≠ p → H r = none → H' r = some (.lst [.int (a : Int), .int (b : Int)]) → 1 ≤ a → a ≤ 4 → 1 ≤ b → b ≤ 4 → Q (.ref r) H'
theorem ok_lshape {f : Addr} {fd : FuncData} (F : Fun K "_law_shape" "_law_shape" s_lshape f fd) (c_take : Cl P w K mg base CX0 1 "_law_take" spTake) : FnOk P w K mg base CX0 2 f fd ["_law_pool_here"] spLshape := by
  refine F.ok sc_lshape (fun vs H Q E h => ?_) (fun cdv A outer s H vs Q E hr h => ?_)
  · obtain ⟨p, rfl, _⟩ := h
    rfl
  · obtain ⟨p, rfl, P0, q⟩ := h
    refine ⟨_, (pss_one (ps_ret (pe_lst (pa_cons (pe_op op_add pe_int (pe_cl c_take hr (pa_cons (pv 0) (pa_cons pe_int pa_nil)))) (pa_cons (pe_op op_add pe_int (pe_cl c_take hr (pa_cons (pv 0) (pa_cons pe_int pa_nil)))) pa_nil))))), ?_⟩
    refine ⟨_, rfl, p, 4, rfl, P0, by decide, by decide, fun u H1 u0 u1 e1 P1 => ⟨_, _, rfl, rfl, ?_⟩⟩
    refine ⟨_, rfl, p, 4, rfl, P1, by decide, by decide, fun v H2 v0 v1 e2 P2 => ⟨_, _, rfl, rfl, (by show 2 ≤ sizeLine; decide), fun r nr => ?_⟩⟩
    have b2 : SameBut p H H2 := (SameBut.of e1).trans (SameBut.of e2)
    have rp := P2.new nr
    have nil : H r = none := by
      cases e : H r with
      | none => rfl
      | some o => rw [b2 _ _ rp e] at nr; cases nr
    refine q r (1 + u).toNat (1 + v).toNat _ (b2.trans (sbut (same_upd nr))) (P2.same (same_upd nr)) rp nil ?_ (by omega) (by omega) (by omega) (by omega)
    rw [upd_same, Int.toNat_of_nonneg (show 0 ≤ 1 + u by omega), Int.toNat_of_nonneg (show 0 ≤ 1 + v by omega)]
abbrev s_lmade : Stmt := top 25
theorem sc_lmade : FnScope ["_law_pool_here", "_law_height", "_law_width", "_law_rows"] ["_law_pool_here", "_law_height", "_law_width"] (defScope s_lmade) := ⟨rfl, rfl, rfl, by decide +kernel, rfl, by decide +kernel, by decide +kernel⟩
def spLmade : Sp := fun vs H Q _ => ∃ (p : Addr) (h w : Nat), vs = [.ref p, .int (h : Int), .int (w : Int)] ∧ PoolAt H p ∧ 1 ≤ h ∧ h ≤ 6 ∧ 1 ≤ w ∧ w ≤ 6 ∧
  ∀ D acc H', SameBut p H H' → PoolAt H' p → H D = none → D ≠ p → acc.length = h → LRows H p D w (10 ^ 30) H' acc → Q (.ref D) H'
theorem ok_lmade {f : Addr} {fd : FuncData} (F : Fun K "_law_made" "_law_made" s_lmade f fd) (c_take : Cl P w K mg base CX0 1 "_law_take" spTake) (c_lmat : Cl P w K mg base CX0 2 "_law_matrix" spLmat) : FnOk P w K mg base CX0 3 f fd ["_law_pool_here", "_law_height", "_law_width"] spLmade := by
  refine F.ok sc_lmade (fun vs H Q E h => ?_) (fun cdv A outer s H vs Q E hr h => ?_)
  · obtain ⟨p, h, w, rfl, _⟩ := h
    rfl
  · obtain ⟨p, h, w, rfl, P0, h1, h2, w1, w2, q⟩ := h
    refine ⟨_, (pss_cons (ps_set (i := 3) sc_lmade.nd rfl (Or.inl rfl) (pe_cl c_lmat hr (pa_cons (pv 0) (pa_cons (pv 1) (pa_cons (pv 2) pa_nil)))))
 (Evl.pss_cut (ps_if (pt_cmpR op_eq (pe_cl c_take hr (pa_cons (pv 0) (pa_cons pe_int pa_nil))) pe_int (nomark _)) (pss_one (ps_asg (pe_op op_sub (pe_cl c_take hr (pa_cons (pv 0) (pa_cons (pe_op op_pow pe_int pe_int) pa_nil))) (pe_op op_pow pe_int pe_int)) (pg_sub (pe_ix ix_list (pv 3) pe_int (fun _ _ => rfl)) pe_int set_list))) pss_nil)
 (pss_one (ps_ret (pv 3))))), ?_⟩
    refine ⟨_, rfl, _, rfl, _, rfl, p, h, w, rfl, P0, h1, h2, w1, w2, fun D acc H1 b1 P1 nD Dp hl L => ?_⟩
    refine ⟨fun σ H' => SameBut p H H' ∧ PoolAt H' p ∧ LRows H p D w (10 ^ 30) H' acc ∧ σ = [some (.ref p), some (.int (h : Int)), some (.int (w : Int)), some (.ref D)], ?_, ?_⟩
    · refine ⟨_, rfl, p, 5, rfl, P1, by decide, by decide, fun u H2 u0 u1 e2 P2 => ⟨rfl, _, rfl, ?_⟩⟩
      have b2 : SameBut p H1 H2 := SameBut.of e2
      have L2' := (L.but b2 Dp).mono (show 700 ≤ 10 ^ 30 by decide)
      by_cases c : u = 1
      · refine if_pos_of (decide_eq_true (by rw [c])) ?_
        refine ⟨_, rfl, _, _, rfl, rfl, ⟨by decide, by decide, by decide⟩, p, 10 ^ (30 : Int).toNat, rfl, P2, by decide, by decide, fun z H3 z0 z1 e3 P3 => ⟨_, _, rfl, rfl, ⟨by decide, by decide, by decide⟩, _, _, rfl, rfl, ?_⟩⟩
        have b3 : SameBut p H2 H3 := SameBut.of e3
        have L3 := L2'.but b3 Dp
        have hm : acc[0]? = some (acc[0]'(by omega)) := List.getElem?_eq_getElem (by omega)
        have mem : acc[0]'(by omega) ∈ acc := List.getElem_mem (by omega)
        obtain ⟨row, g0, l0, bd⟩ := L3.row _ mem
        refine ⟨_, rfl, D, _, _, _, rfl, rfl, SqL.of L3.at_, atI_nat (j := 0) (map_at (f := V.ref) hm), acc[0]'(by omega), _, _, 0, rfl, rfl, g0, Evl.ixN_nat (j := 0) (by rw [List.length_map]; omega), ?_⟩
        rw [← List.map_set (f := V.int)]
        have e30 : (10 : Int) ^ (30 : Int).toNat = 1000000000000000000000000000000 := by decide
        have e29 : (10 : Int) ^ (29 : Int).toNat = 100000000000000000000000000000 := by decide
        have n30 : (10 : Nat) ^ 30 = 1000000000000000000000000000000 := by decide
        rw [e30] at z1
        refine ⟨fun x o hx ex => ?_, ?_, L3.put mem (by rw [List.length_set]; exact l0) (fun y hy => ?_), rfl⟩
        · rw [upd_ne (ne_of_none ex (L.fr _ mem))]
          exact b3 x o hx (b2 x o hx (b1 x o hx ex))
        · obtain ⟨a1, a2, a3, a4⟩ := P3
          exact ⟨a1, a2, a3, by rw [upd_ne (show p ≠ acc[0]'(by omega) from fun e => L.np (by rw [e]; exact mem))]; exact a4⟩
        · rcases List.mem_or_eq_of_mem_set hy with h | h
          · exact bd y h
          · rw [h, n30, e29]
            omega
      · exact if_neg_of (decide_eq_false fun e => c (V.int.inj e)) ⟨b1.trans b2, P2, L2', rfl⟩
    rintro σ H3 ⟨b3, P3, L3, rfl⟩
    exact ⟨_, rfl, q D acc H3 b3 P3 nD Dp hl L3⟩
-- part lism
abbrev s_lism : Stmt := top 23
theorem sc_lism : FnScope ["_law_told", "_law_rows", "_law_row"] ["_law_told", "_law_rows"] (defScope s_lism) := ⟨rfl, rfl, rfl, by decide +kernel, rfl, by decide +kernel, by decide +kernel⟩
def spLism (C : Addr) (K : PySem.W.Frag) : Sp := fun vs H Q _ => ∃ (a r : Addr) (us : List V) (h w : Nat) (f : Nat → Nat → Int), vs = [.ref a, .ref r] ∧ MatAt C H a h w f ∧ SqL K H r us ∧ RowsIn H us (mrows h w f) ∧ ∀ H', Same H H' → Q (.bl true) H'
theorem ok_lism {f C CB : Addr} {fd : FuncData} (TT : Txt mg) (T : MaT K mg C) (F : Fun K "_law_is" "_law_is" s_lism f fd) (c_mil : Ma P w K mg base 3 C (spMI C CB false K)) (c_eq : Me P w K mg base 1 C "__eq__" (spMeq C)) : FnOk P w K mg base CX0 5 f fd ["_law_told", "_law_rows"] (spLism C K) := by
  refine F.ok sc_lism (fun vs H Q E h => ?_) (fun cdv A outer s H vs Q E hr0 h => ?_)
  · obtain ⟨a, r, us, h, w, g, rfl, _⟩ := h
    rfl
  · obtain ⟨a, r, us, h, w, g, rfl, m, hS, hr, q⟩ := h
    obtain ⟨dx, t, o1, d1⟩ := m.dp (K := K)
    have h1 := m.h1
    have h2 := m.h2
    have lus : us.length = h := by rw [hr.1, mrows_len]
    refine ⟨_, (Evl.pss_cut (ps_if (pw_or (pt_not (pt_val (pe_callB (C8.call_isC T.isC) (by rfl) TT.isinstance boot_isinstance (pa_cons (pv 0) (pa_cons (pe_glob (v := .ref C) (by rfl) T.g rfl) pa_nil))))) (pw_or1 (pt_cmpR (op_neD (hu64 hr0)) (pe_fld (pv 0) rfl) (pe_tupleOf (by rfl) TT.tuple (pe_lc (own := [("_law_row", 2)]) (g := (gName 2)) (tt := tYes) rfl sc_lism.nd (pi_list (pv 1)) (blkOk_by (N := ["_law_told", "_law_rows", "_law_row"]) (sc := defScope s_lism) (by decide +kernel)) (fun _ _ _ _ _ => (pg_name (i := 2) sc_lism.nd rfl (Or.inl rfl))) (fun _ _ _ _ _ => pts_nil) (fun _ _ _ _ _ => (pe_tupleOfK (K := K) rfl (by rfl) TT.tuple (pv 2))))) (nomark _)))).pt (pss_one (ps_ret pe_bl)) pss_nil)
 (Evl.pss_cut (ps_if (pt_cmpR op_ne (pe_fld (pv 0) rfl) (pe_callB call_len_seq (by rfl) TT.len PySem.boot_len (pa_cons (pv 1) pa_nil)) (nomark _)) (pss_one (ps_ret pe_bl)) pss_nil)
 (Evl.pss_cut (ps_if (pt_cmpR op_ne (pe_fld (pv 0) rfl) (pe_callB call_len_seq (by rfl) TT.len PySem.boot_len (pa_cons (pe_ix ix_list (pv 1) pe_int (fun _ _ => rfl)) pa_nil)) (nomark _)) (pss_one (ps_ret pe_bl)) pss_nil)
 (pss_one (ps_ret (pe_cmpR (op_eq_own c_eq hr0) (pv 0) (pe_ma c_mil hr0 T.g (pa_cons (pv 1) pa_nil)) (nomark _))))))), ?_⟩
    refine ⟨fun σ H' => Same H H' ∧ ∃ x2, σ = [some (.ref a), some (.ref r), x2], ?_, ?_⟩
    · refine ⟨_, rfl, a, dx, _, rfl, o1, _, rfl, iteF ?_⟩
      refine ⟨_, rfl, a, C, dx, _, _, rfl, o1, T.cl, T.nR, maF_r _ _ _, _, rfl, r, rfl, ⟨_, hS⟩, fun D nD => lcObj walk_list (RT fun i => rngN w (g i)) nD (fun H s => s.seq hS) ?_ ?_⟩
      · rintro i v H2 _ hi p2 ⟨rfl, hv⟩
        rw [lus] at hi
        obtain ⟨v', hv', q', rfl, hq'⟩ := (hr.same p2.1).2 i _ (mrows_at hi)
        have ev : v = .ref q' := Option.some.inj (hv.symm.trans hv')
        subst ev
        obtain ⟨acc, hacc, _⟩ := p2.2
        refine ⟨rfl, _, rfl, ?_⟩
        rcases hq' with h | h
        · refine .inl ⟨q', _, rfl, SqL.of h, fun t nt => ?_⟩
          exact objEnd stab_RT nD p2 (same_upd nt) (by omega) (ref_ne nt hacc) ⟨t, rfl, upd_same⟩
        · refine .inr ⟨q', _, rfl, SqT.of h, ?_⟩
          exact objEnd stab_RT nD p2 (Same.refl _) (by omega) (ref_ne2 h hacc) ⟨q', rfl, h⟩
      · intro H2 acc s2 hacc hl hel
        refine .inl ⟨D, _, rfl, SqL.of hacc, fun t2 nt => ?_⟩
        have s3 := s2.trans (same_upd (o := .tup acc) nt)
        obtain ⟨dx', t', o1', d1'⟩ := (m.same s3).dp (K := K)
        rw [s3 _ _ o1] at o1'
        cases o1'
        refine ⟨_, _, d1', .tup (SqT.of upd_same) (dpAll_rows acc (mrows h w g) (by rw [hl, lus, mrows_len]) fun i v row hv hrow => ?_), shaped_rows _, shaped_rows _, _, rfl, if_neg_of ?_ ⟨s3, _, rfl⟩⟩
        · have hi : i < h := by
            have := (List.getElem?_eq_some_iff.mp hv).1
            omega
          rw [mrows_at hi] at hrow
          obtain rfl := Option.some.inj hrow
          obtain ⟨_, q', e, hq'⟩ := hel i v hv
          exact ⟨q', e, (same_upd (o := .tup acc) nt) _ _ hq'⟩
        · rw [PyData.eqv, eqvAll_rows, decide_eq_true rfl]
          rfl
    rintro σ H1 ⟨s1, x2, rfl⟩
    obtain ⟨dx1, t1, us1, o1, o2, o3, o4⟩ := (m.same s1).ob
    have hS1 := s1.seq hS
    have hr1 := hr.same s1
    refine ⟨fun σ H' => H1 = H' ∧ σ = [some (.ref a), some (.ref r), x2], ?_, ?_⟩
    · refine ⟨_, rfl, a, C, dx1, _, _, rfl, o1, T.cl, T.nH, maF_h _ _ _, _, rfl, r, _, rfl, .inl hS1, rfl, _, rfl, ?_⟩
      rw [lus]
      exact if_neg_of (by simp) ⟨rfl, rfl⟩
    rintro σ _ ⟨rfl, rfl⟩
    refine ⟨fun σ H' => H1 = H' ∧ σ = [some (.ref a), some (.ref r), x2], ?_, ?_⟩
    · obtain ⟨v0, hv0, q0, rfl, hq0⟩ := hr1.2 0 _ (mrows_at (show 0 < h by omega))
      refine ⟨_, rfl, a, C, dx1, _, _, rfl, o1, T.cl, T.nW, maF_w _ _ _, _, rfl, r, _, _, _, rfl, rfl, hS1, atI_nat (j := 0) hv0, q0, _, rfl, hq0.elim (fun h => .inl (SqL.of h)) (fun h => .inr (SqT.of h)), rfl, _, rfl, ?_⟩
      rw [List.length_map, rngN_len]
      exact if_neg_of (by simp) ⟨rfl, rfl⟩
    rintro σ _ ⟨rfl, rfl⟩
    refine ⟨_, rfl, _, rfl, fun x dx' nx ndx _ => make_maA (tup := false) nx ndx hS1 hr1 m.h1 m.h2 m.w1 m.w2 fun H3 mr s3 => ⟨rfl, ?_⟩⟩
    obtain ⟨dy, u, us2, u1, _⟩ := mr.ob
    refine ⟨a, x, _, _, _, _, rfl, rfl, s3 _ _ o1, u1, a, x, h, w, h, w, g, g, rfl, (m.same s1).same s3, mr, ?_⟩
    rw [decide_eq_true rfl]
    exact q H3 (s1.trans s3)
-- part lprd
/-! rows of a law's matrix, at an address -/
structure LM (H : Hp) (r : Addr) (h w : Nat) (f : Nat → Nat → Int) : Prop where
  ob : ∃ us : List V, H r = some (.lst us) ∧ us.length = h ∧ ∀ i, i < h → ∃ q, us[i]? = some (.ref q) ∧ H q = some (.lst ((rngN w (f i)).map V.int))
theorem rngN_succ (n : Nat) (f : Nat → Int) : rngN (n + 1) f = rngN n f ++ [f n] := by
  unfold rngN
  rw [List.range_succ, List.map_append]
  rfl
theorem LM.same {H H' : Hp} {r : Addr} {h w : Nat} {f : Nat → Nat → Int} (m : LM H r h w f) (s : Same H H') : LM H' r h w f := by
  obtain ⟨acc, a, b, c⟩ := m.ob
  exact ⟨acc, s _ _ a, b, fun i hi => by
    obtain ⟨q, q1, q2⟩ := c i hi
    exact ⟨q, q1, s _ _ q2⟩⟩
theorem LM.congr {H : Hp} {r : Addr} {h w : Nat} {f g : Nat → Nat → Int} (m : LM H r h w f) (e : ∀ i k, i < h → k < w → f i k = g i k) : LM H r h w g := by
  obtain ⟨acc, a, b, c⟩ := m.ob
  exact ⟨acc, a, b, fun i hi => by
    obtain ⟨q, q1, q2⟩ := c i hi
    exact ⟨q, q1, by rw [← rngN_congr fun k hk => e i k hi hk]; exact q2⟩⟩
theorem LM.rowsIn {H : Hp} {r : Addr} {h w : Nat} {f : Nat → Nat → Int} (m : LM H r h w f) : ∃ us, H r = some (.lst us) ∧ us.length = h ∧ RowsIn H us (mrows h w f) ∧ ∀ i, i < h → ∃ q, us[i]? = some (.ref q) ∧ H q = some (.lst ((rngN w (f i)).map V.int)) := by
  obtain ⟨us, a, b, key⟩ := m.ob
  refine ⟨us, a, b, ⟨by rw [b, mrows_len], fun i r' hr => ?_⟩, key⟩
  have hi : i < h := by
    have := (List.getElem?_eq_some_iff.mp hr).1
    rw [mrows_len] at this
    exact this
  rw [mrows_at hi] at hr
  obtain rfl := Option.some.inj hr
  obtain ⟨q, q1, q2⟩ := key i hi
  exact ⟨_, q1, q, rfl, .inl q2⟩
/-- of a list of new rows -/
theorem LM.of_rl {H : Hp} {D : Addr} {acc : List V} {h w : Nat} {f : Nat → Nat → Int} (hD : H D = some (.lst acc)) (hl : acc.length = h) (hel : ∀ j v, acc[j]? = some v → v ≠ .ref D ∧ RL w f j v H) : LM H D h w f :=
  ⟨acc, hD, hl, fun i hi => by
    have e : acc[i]? = some acc[i] := List.getElem?_eq_getElem (by omega)
    obtain ⟨_, q, e2, hq⟩ := hel i _ e
    exact ⟨q, by rw [e, e2], hq⟩⟩
theorem LM.of_lr {H1 H : Hp} {p D : Addr} {w B : Nat} {acc : List Addr} (L : LRows H1 p D w B H acc) : ∃ f : Nat → Nat → Int, LM H D acc.length w f ∧ ∀ i k, i < acc.length → k < w → (f i k).natAbs ≤ B := by
  have h1 : ∀ i : Nat, ∃ row : List Int, ∀ hi : i < acc.length, H acc[i] = some (.lst (row.map V.int)) ∧ row.length = w ∧ ∀ z ∈ row, z.natAbs ≤ B := fun i => by
    by_cases hi : i < acc.length
    · obtain ⟨row, r⟩ := L.row _ (List.getElem_mem hi)
      exact ⟨row, fun _ => r⟩
    · exact ⟨[], fun h => absurd h hi⟩
  refine ⟨fun i k => (Classical.choose (h1 i)).getD k 0, ⟨acc.map V.ref, L.at_, List.length_map .., fun i hi => ⟨acc[i], map_at (f := V.ref) (List.getElem?_eq_getElem hi), ?_⟩⟩, fun i k hi hk => ?_⟩
  · obtain ⟨a, b, c⟩ := Classical.choose_spec (h1 i) hi
    rw [← row_rng b]
    exact a
  · obtain ⟨a, b, c⟩ := Classical.choose_spec (h1 i) hi
    exact c _ (List.mem_of_getElem? (getD_at (by rw [b]; exact hk)))
abbrev s_lprd : Stmt := top 22
theorem sc_lprd : FnScope ["_law_first", "_law_second", "_law_found", "_law_row", "_law_j", "_law_k"] ["_law_first", "_law_second"] (defScope s_lprd) := ⟨rfl, rfl, rfl, by decide +kernel, rfl, by decide +kernel, by decide +kernel⟩
def spLprd : Sp := fun vs H Q _ => ∃ (a b : Addr) (h w d : Nat) (f g : Nat → Nat → Int), vs = [.ref a, .ref b] ∧ LM H a h w f ∧ LM H b w d g ∧ 1 ≤ w ∧ h ≤ 40 ∧ w ≤ 40 ∧ d ≤ 40 ∧ (∀ i k j, i < h → k < w → j < d → CMulW (f i k) (g k j)) ∧
  ∀ r H', Same H H' → LM H' r h d (fun i j => dotN w (f i) fun k => g k j) → Q (.ref r) H'
theorem ok_lprd {f : Addr} {fd : FuncData} (T : Txt mg) (hsum : mg "sum" = none) (F : Fun K "_law_product" "_law_product" s_lprd f fd) : FnOk P w K mg base CX0 1 f fd ["_law_first", "_law_second"] spLprd := by
  refine F.ok sc_lprd (fun vs H Q E h => ?_) (fun cdv A outer s H vs Q E hr h => ?_)
  · obtain ⟨a, b, h, w, d, f, g, rfl, _⟩ := h
    rfl
  · obtain ⟨a, b, h, w, d, f', g', rfl, m1, m2, w1, h40, w40, d40, hm, q⟩ := h
    refine ⟨_, (pss_cons (ps_set (i := 2) sc_lprd.nd rfl (Or.inl rfl) (pe_lst pa_nil))
 (pss_cons (ps_for PassesOwn.never rfl (pi_list (pv 0)) (pg_name (i := 3) sc_lprd.nd rfl (Or.inr rfl)) (Evl.pss_cut (ps_expr (pe_bm PySem.F.plainAttrs_list PySem.F.slot_list_append PySem.F.type_list_append mt_append (pv 2) (pa_cons (pe_lst pa_nil) pa_nil)))
 (pss_one (ps_for PassesOwn.never rfl (pi_range1 rfl T.range (pa_cons (pe_callB call_len_seq (by rfl) T.len PySem.boot_len (pa_cons (pe_ix ix_list (pv 1) pe_int (fun _ _ => rfl)) pa_nil)) pa_nil)) (pg_name (i := 4) sc_lprd.nd rfl (Or.inr rfl)) (pss_one (ps_expr (pe_bm PySem.F.plainAttrs_list PySem.F.slot_list_append PySem.F.type_list_append mt_append (pe_ix ix_list (pv 2) (pe_un un_neg pe_int) (fun _ _ => rfl)) (pa_cons (pe_callB (cr_sum rfl) (by rfl) hsum (by decide +kernel) (pa_cons (pe_lc (own := [("_law_k", 5)]) (g := (gName 5)) (tt := tYes) rfl sc_lprd.nd (pi_range1 rfl T.range (pa_cons (pe_callB call_len_seq (by rfl) T.len PySem.boot_len (pa_cons (pv 1) pa_nil)) pa_nil)) (blkOk_by (N := ["_law_first", "_law_second", "_law_found", "_law_row", "_law_j", "_law_k"]) (sc := defScope s_lprd) (by decide +kernel)) (fun _ _ _ _ _ => (pg_name (i := 5) sc_lprd.nd rfl (Or.inl rfl))) (fun _ _ _ _ _ => pts_nil) (fun _ _ _ _ _ => (pe_op op_mulW (pe_ix (r := rIxL K) (by exact ix_list) (pv 3) (pv 5) (fun _ _ => rfl)) (pe_ix (r := rIxL K) (by exact ix_list) (pe_ix (r := rIxL K) (by exact ix_list) (pv 1) (pv 5) (fun _ _ => rfl)) (pv 4) (fun _ _ => rfl))))) pa_nil)) pa_nil))))))))
 (pss_one (ps_ret (pv 2))))), ?_⟩
    obtain ⟨us1, a1, l1, _, k1⟩ := m1.rowsIn
    obtain ⟨us2, a2, l2, _, k2⟩ := m2.rowsIn
    refine ⟨(by show 0 ≤ sizeLine; decide), fun D nD => ?_⟩
    refine ⟨_, rfl, a, rfl, ⟨_, SqL.of ((same_upd nD) _ _ a1)⟩, for_list (K := K) (a := a) (xs := us1) (fun i σ H' => Same H H' ∧ (∃ acc : List V, H' D = some (.lst acc) ∧ acc.length = i ∧ ∀ j v, acc[j]? = some v → v ≠ .ref D ∧ RL d (fun i j => dotN w (f' i) fun k => g' k j) j v H') ∧ ∃ x3 x4, σ = [some (.ref a), some (.ref b), some (.ref D), x3, x4, none])
      ⟨same_upd nD, ⟨[], upd_same, rfl, fun j v h => by cases h⟩, _, _, rfl⟩ (fun i σ H' _ hh => SqL.of (hh.1 _ _ a1)) ?_ ?_⟩
    · rintro i y σ H1 hi ⟨s1, ⟨acc, hacc, hl, hel⟩, x3, x4, rfl⟩
      have hil : i < h := by
        have := (List.getElem?_eq_some_iff.mp hi).1
        omega
      obtain ⟨q1, e1, r1⟩ := k1 i hil
      obtain rfl := Option.some.inj (hi.symm.trans e1)
      refine ⟨fun σ H' => ∃ D2, H1 D2 = none ∧ Same H1 (upd H' D (.lst acc)) ∧ H' D2 = some (.lst []) ∧ H' D = some (.lst (acc ++ [.ref D2])) ∧ σ = [some (.ref a), some (.ref b), some (.ref D), some (.ref q1), x4, none], ?_, ?_⟩
      · refine ⟨_, rfl, .inl ⟨rfl, _, SqL.of hacc⟩, (by show 0 ≤ sizeLine; decide), fun D2 nD2 => ?_⟩
        have ne : D ≠ D2 := ne_of_none hacc nD2
        refine ⟨D, acc, _, rfl, rfl, by rw [upd_ne ne]; exact hacc, small1000 (by omega), D2, nD2, fun b o eb => ?_, ?_, upd_same, rfl⟩
        · by_cases e : b = D
          · subst e
            rw [hacc] at eb
            rw [upd_same, ← eb]
          · rw [upd_ne e, upd_ne e, upd_ne (ne_of_none eb nD2)]
            exact eb
        · rw [upd_ne ne.symm]
          exact upd_same
      rintro σ H2 ⟨D2, nD2, b2, h2, hD2, rfl⟩
      have ne : D ≠ D2 := ne_of_none hacc nD2
      have old : ∀ x o, H1 x = some o → x ≠ D → H2 x = some o := fun x o hx e => by
        have := b2 x o hx
        rw [upd_ne e] at this
        exact this
      have first : ∀ {x : Addr} {o : HO}, H x = some o → x ≠ D := fun hx => ne_of_none hx nD
      have A2 : H2 b = some (.lst us2) := old _ _ (s1 _ _ a2) (first a2)
      obtain ⟨q20, e20, r20⟩ := k2 0 (by omega)
      refine ⟨_, rfl, b, _, _, _, rfl, rfl, SqL.of A2, atI_nat (j := 0) e20, q20, _, rfl, .inl (SqL.of (old _ _ (s1 _ _ r20) (first r20))), ?_⟩
      rw [List.length_map, rngN_len]
      refine ⟨(d : Int), rfl, by omega, by omega, ?_⟩
      refine for_range (lo := 0) (n := (d : Int).toNat) (fun j σ H' => (∀ x o, H2 x = some o → x ≠ D2 → H' x = some o) ∧ H' D2 = some (.lst ((rngN j fun j => dotN w (f' i) fun k => g' k j).map V.int)) ∧ ∃ x4, σ = [some (.ref a), some (.ref b), some (.ref D), some (.ref q1), x4, none])
        ⟨fun x o hx _ => hx, h2, x4, rfl⟩ ?_ ?_
      · rintro j σ H3 hj ⟨b3, h3, x4', rfl⟩
        rw [Int.toNat_natCast] at hj
        rw [Int.zero_add]
        have hD3 := b3 _ _ hD2 ne
        have keep : ∀ {x : Addr} {o : HO}, H x = some o → H3 x = some o := fun {x o} hx => b3 _ _ (old _ _ (s1 _ _ hx) (first hx)) fun e => by
          have := s1 _ _ hx
          rw [e, nD2] at this
          cases this
        refine ⟨_, rfl, _, rfl, D, _, _, _, rfl, rfl, SqL.of hD3, atI_last acc _, .inl ⟨rfl, _, SqL.of h3⟩, ?_⟩
        refine ⟨_, rfl, b, _, rfl, .inl (SqL.of (keep a2)), (w : Int), by rw [l2], by omega, by omega, fun E nE => lcMap walk_range0 ((rngN w fun k => f' i k * g' k j).map V.int) (by rw [List.length_map, rngN_len, Int.toNat_natCast]) nE (fun _ _ => trivial) ?_ ?_⟩
        · rintro k _ H4 _ hk s4 hL ⟨rfl, rfl⟩
          rw [Int.toNat_natCast] at hk
          obtain ⟨q2, e2, r2⟩ := k2 k hk
          refine ⟨rfl, _, rfl, _, rfl, q1, _, _, _, rfl, rfl, SqL.of (s4 _ _ (keep r1)), atI_nat (map_at (f := V.int) (rngN_at hk)), _, rfl, _, rfl, b, _, _, _, rfl, rfl, SqL.of (s4 _ _ (keep a2)), atI_nat e2, _, rfl, q2, _, _, _, rfl, rfl, SqL.of (s4 _ _ (keep r2)), atI_nat (map_at (f := V.int) (rngN_at hj)), _, _, rfl, rfl, hm i k j hil hk hj, ?_⟩
          exact mapEnd nE (by rw [List.length_map, rngN_len]; omega) s4 hL (map_at (f := V.int) (rngN_at hk))
        · intro H4 s4 hL
          refine ⟨E, _, rfl, SqL.of hL, D2, _, _, rfl, rfl, s4 _ _ h3, small1000 (by rw [List.length_map, rngN_len]; omega), fun x o hx hne => ?_, ?_, _, rfl⟩
          · rw [upd_ne hne]
            exact s4 _ _ (b3 x o hx hne)
          · rw [upd_same, rngN_succ, List.map_append]
            rfl
      · rintro σ H3 ⟨b3, h3, x4', rfl⟩
        rw [Int.toNat_natCast] at h3
        have keep : ∀ {x : Addr} {o : HO}, H x = some o → H3 x = some o := fun {x o} hx => b3 _ _ (old _ _ (s1 _ _ hx) (first hx)) fun e => by
          have := s1 _ _ hx
          rw [e, nD2] at this
          cases this
        refine ⟨fun x o hx => keep hx, ⟨acc ++ [.ref D2], b3 _ _ hD2 ne, by rw [List.length_append, hl]; rfl, fun j v hv => ?_⟩, _, _, rfl⟩
        by_cases c : j < acc.length
        · rw [List.getElem?_append_left c] at hv
          obtain ⟨nv, q', rfl, hq'⟩ := hel j v hv
          refine ⟨nv, q', rfl, b3 _ _ (old _ _ hq' fun e => nv (by rw [e])) fun e => ?_⟩
          rw [e, nD2] at hq'
          cases hq'
        · rw [List.getElem?_append_right (by omega)] at hv
          have e : j = i := by
            by_cases e : j - acc.length = 0
            · omega
            · rw [List.getElem?_eq_none (by show 1 ≤ j - acc.length; omega)] at hv
              cases hv
          subst e
          rw [hl, Nat.sub_self] at hv
          cases hv
          exact ⟨fun e => ne (V.ref.inj e).symm, D2, rfl, h3⟩
    · rintro σ H1 ⟨s1, ⟨acc, hacc, hl, hel⟩, x3, x4, rfl⟩
      rw [l1] at hl
      exact ⟨_, rfl, q D H1 s1 (.of_rl hacc hl hel)⟩
-- part lrefm
abbrev s_lrefm : Stmt := top 24
theorem sc_lrefm : FnScope ["_law_rows", "e"] ["_law_rows"] (defScope s_lrefm) := ⟨rfl, rfl, rfl, by decide +kernel, rfl, by decide +kernel, by decide +kernel⟩
def spLrefm (K : PySem.W.Frag) : Sp := fun vs H Q _ => ∃ (a : Addr) (us : List V) (rs : List (List Int)) (i : Nat), vs = [.ref a] ∧ SqL K H a us ∧ RowsIn H us rs ∧ 1 ≤ rs.length ∧ rs.length ≤ 40 ∧ (∀ i, i < rs.length → lenAt rs i ≤ 40) ∧ 1 ≤ lenAt rs 0 ∧
  i < rs.length ∧ lenAt rs i ≠ lenAt rs 0 ∧ (∀ j, j < i → lenAt rs j = lenAt rs 0) ∧ ∀ H', Same H H' → Q (.int (i : Int)) H'
theorem ok_lrefm {f C CB fI : Addr} {fd : FuncData} (T : MaT K mg C) (TB : ErrC K mg "BadRow" "at" CB fI) (F : Fun K "_law_refused" "_law_refused" s_lrefm f fd) (c_mil : Ma P w K mg base 3 C (spMI C CB false K)) : FnOk P w K mg base CX0 5 f fd ["_law_rows"] (spLrefm K) := by
  refine F.ok sc_lrefm (fun vs H Q E h => ?_) (fun cdv A outer s H vs Q E hr h => ?_)
  · obtain ⟨a, _, _, _, rfl, _⟩ := h
    rfl
  · obtain ⟨a, us, rs, i, rfl, hS, hr', n1, n2, l2, l1, hi, ne, min, q⟩ := h
    refine ⟨_, (pss_cons (L2N.ps_try_as (i := 1) rfl rfl sc_lrefm.nd rfl rfl ⟨rfl, by decide, Or.inl TB.g⟩ takes0N
  (fun W pn xe tk _ => (pss_one (ps_expr (pe_maX c_mil hr tk T.g (pa_cons (pv 0) pa_nil)))))
  (fun a oe cls d pn hz hf => (pss_one (ps_ret (pe_xf TB.xf TB.no hz.zc hf (pv 1))))))
 (pss_one (ps_ret pe_non))), ?_⟩
    refine ⟨_, rfl, fun x dx hx hdx hne => ?_⟩
    have s1 : Same H (upd (upd H dx (.own x)) x (.ins C dx [])) := fun b o eb => by
      rw [upd_ne (ne_of_none eb hx), upd_ne (ne_of_none eb hdx)]
      exact eb
    refine ⟨x, dx, a, us, rs, rfl, upd_same, s1.seq hS, hr'.same s1, n1, n2, l2, l1, fun h => absurd (h i hi) ne, fun i' hi' ne' min' d H' s2 hd => ?_⟩
    have ei : i' = i := by
      rcases Nat.lt_trichotomy i' i with h | h | h
      · exact absurd (min i' h) ne'
      · exact h
      · exact absurd (min' i h) ne
    subst ei
    exact ⟨true, TB.te, fun _ y _ => ⟨_, rfl, rfl, rfl, d, _, _, rfl, hd, rfl, q H' (s1.trans s2)⟩, fun z => Bool.noConfusion z⟩
-- part lpairs
/-! a list of new rows that grows at P; av: addresses that are no rows -/
structure GL (H : Hp) (av : List Addr) (P : Addr) (w : Nat) (f : Nat → Nat → Int) (i : Nat) : Prop where
  ob : ∃ acc, H P = some (.lst acc) ∧ acc.length = i ∧ ∀ j v, acc[j]? = some v → ∃ q, v = .ref q ∧ q ∉ av ∧ H q = some (.lst ((rngN w (f j)).map V.int))
theorem GL.zero {H : Hp} {av : List Addr} {P : Addr} {w : Nat} {f : Nat → Nat → Int} (h : H P = some (.lst [])) : GL H av P w f 0 := ⟨[], h, rfl, fun j v h => by cases h⟩
theorem GL.but {H H' : Hp} {av : List Addr} {P : Addr} {w : Nat} {f : Nat → Nat → Int} {i : Nat} (g : GL H av P w f i) (k : ∀ x o, x ∉ av → H x = some o → H' x = some o) (e : H' P = H P) : GL H' av P w f i := by
  obtain ⟨acc, a, b, c⟩ := g.ob
  exact ⟨acc, by rw [e]; exact a, b, fun j v hv => by
    obtain ⟨q, q1, q2, q3⟩ := c j v hv
    exact ⟨q, q1, q2, k _ _ q2 q3⟩⟩
theorem GL.same {H H' : Hp} {av : List Addr} {P : Addr} {w : Nat} {f : Nat → Nat → Int} {i : Nat} (g : GL H av P w f i) (s : Same H H') : GL H' av P w f i := by
  obtain ⟨acc, a, b, c⟩ := g.ob
  exact ⟨acc, s _ _ a, b, fun j v hv => by
    obtain ⟨q, q1, q2, q3⟩ := c j v hv
    exact ⟨q, q1, q2, s _ _ q3⟩⟩
theorem GL.push {H : Hp} {av : List Addr} {P q : Addr} {w : Nat} {f : Nat → Nat → Int} {i : Nat} (g : GL H av P w f i) (hP : P ∈ av) (hq : q ∉ av) (e : H q = some (.lst ((rngN w (f i)).map V.int))) : ∃ acc, H P = some (.lst acc) ∧ acc.length = i ∧ GL (upd H P (.lst (acc ++ [.ref q]))) av P w f (i + 1) := by
  obtain ⟨acc, a, b, c⟩ := g.ob
  have ne : ∀ {x}, x ∉ av → x ≠ P := fun hx e => hx (e ▸ hP)
  refine ⟨acc, a, b, ⟨acc ++ [.ref q], upd_same, by rw [List.length_append, b]; rfl, fun j v hv => ?_⟩⟩
  by_cases cj : j < acc.length
  · rw [List.getElem?_append_left cj] at hv
    obtain ⟨q', q1, q2, q3⟩ := c j v hv
    exact ⟨q', q1, q2, by rw [upd_ne (ne q2)]; exact q3⟩
  · rw [List.getElem?_append_right (by omega)] at hv
    have ej : j = i := by
      by_cases e : j - acc.length = 0
      · omega
      · rw [List.getElem?_eq_none (by show 1 ≤ j - acc.length; omega)] at hv
        cases hv
    subst ej
    rw [b, Nat.sub_self] at hv
    cases hv
    exact ⟨q, rfl, hq, by rw [upd_ne (ne hq)]; exact e⟩
theorem GL.lm {H : Hp} {av : List Addr} {P : Addr} {w : Nat} {f : Nat → Nat → Int} {h : Nat} (g : GL H av P w f h) : LM H P h w f := by
  obtain ⟨acc, a, b, c⟩ := g.ob
  refine ⟨acc, a, b, fun i hi => ?_⟩
  have e : acc[i]? = some acc[i] := List.getElem?_eq_getElem (by omega)
  obtain ⟨q, q1, _, q3⟩ := c i _ e
  exact ⟨q, by rw [e, q1], q3⟩
abbrev s_lpairs : Stmt := top 26
theorem sc_lpairs : FnScope ["_law_one", "_law_two", "_law_first", "_law_second", "_law_plus", "_law_less", "_law_i", "_law_a", "_law_b"] ["_law_one", "_law_two", "_law_first", "_law_second"] (defScope s_lpairs) := ⟨rfl, rfl, rfl, by decide +kernel, rfl, by decide +kernel, by decide +kernel⟩
def spLpairs (C : Addr) : Sp := fun vs H Q _ => ∃ (a b r1 r2 : Addr) (h w : Nat) (f g : Nat → Nat → Int), vs = [.ref a, .ref b, .ref r1, .ref r2] ∧ MatAt C H a h w f ∧ MatAt C H b h w g ∧ LM H r1 h w f ∧ LM H r2 h w g ∧ w ≤ 20 ∧ ∀ H', Same H H' → Q (.bl true) H'
theorem ok_lpairs {f C CU : Addr} {fd : FuncData} (TT : Txt mg) (hzip : mg "zip" = none) (T : MaT K mg C) (F : Fun K "_law_pairs_fit" "_law_pairs_fit" s_lpairs f fd) (c_add : MeN P w K mg base 5 C "__add__" (spMadd C CU (fun z => z) K)) (c_sub : MeN P w K mg base 7 C "__sub__" (spMadd C CU (fun z => -z) K)) (c_bes : MeN P w K mg base 5 C "beside" (spMbe C CU K))
    (c_lis : Cl P w K mg base CX0 5 "_law_is" (spLism C K)) : FnOk P w K mg base CX0 8 f fd ["_law_one", "_law_two", "_law_first", "_law_second"] (spLpairs C) := by
  refine F.ok sc_lpairs (fun vs H Q E h => ?_) (fun cdv A outer s H vs Q E hr h => ?_)
  · obtain ⟨a, b, r1, r2, _, _, _, _, rfl, _⟩ := h
    rfl
  · obtain ⟨a, b, r1, r2, h, w, f', g', rfl, ma, mb, m1, m2, w20, q⟩ := h
    have h1 := ma.h1
    have h2 := ma.h2
    have w1 := ma.w1
    refine ⟨_, (pss_cons (ps_set (i := 4) sc_lpairs.nd rfl (Or.inl rfl) (pe_lst pa_nil))
 (pss_cons (ps_set (i := 5) sc_lpairs.nd rfl (Or.inl rfl) (pe_lst pa_nil))
 (Evl.pss_cut (ps_for PassesOwn.never rfl (pi_range1 rfl TT.range (pa_cons (pe_callB call_len_seq (by rfl) TT.len PySem.boot_len (pa_cons (pv 2) pa_nil)) pa_nil)) (pg_name (i := 6) sc_lpairs.nd rfl (Or.inl rfl)) (Evl.pss_cut (ps_expr (pe_bm PySem.F.plainAttrs_list PySem.F.slot_list_append PySem.F.type_list_append mt_append (pv 4) (pa_cons (pe_lc (own := [("_law_a", 7), ("_law_b", 8)]) (g := (gTup K 2 (gCons (gName 7) (gCons (gName 8) gNil)))) (tt := tYes) rfl sc_lpairs.nd (RZ.pi_zipA rfl hzip (pa_cons (pe_ix ix_list (pv 2) (pv 6) (fun _ _ => rfl)) (pa_cons (pe_ix ix_list (pv 3) (pv 6) (fun _ _ => rfl)) pa_nil))) (blkOk_by (N := ["_law_one", "_law_two", "_law_first", "_law_second", "_law_plus", "_law_less", "_law_i", "_law_a", "_law_b"]) (sc := defScope s_lpairs) (by decide +kernel)) (fun _ _ _ _ _ => (pg_tup rfl (pgs_cons (pg_name (i := 7) sc_lpairs.nd rfl (Or.inl rfl)) (pgs_cons (pg_name (i := 8) sc_lpairs.nd rfl (Or.inl rfl)) pgs_nil)))) (fun _ _ _ _ _ => pts_nil) (fun _ _ _ _ _ => (pe_op op_add (pv 7) (pv 8)))) pa_nil)))
 (pss_one (ps_expr (pe_bm PySem.F.plainAttrs_list PySem.F.slot_list_append PySem.F.type_list_append mt_append (pv 5) (pa_cons (pe_lc (own := [("_law_a", 7), ("_law_b", 8)]) (g := (gTup K 2 (gCons (gName 7) (gCons (gName 8) gNil)))) (tt := tYes) rfl sc_lpairs.nd (RZ.pi_zipA rfl hzip (pa_cons (pe_ix ix_list (pv 2) (pv 6) (fun _ _ => rfl)) (pa_cons (pe_ix ix_list (pv 3) (pv 6) (fun _ _ => rfl)) pa_nil))) (blkOk_by (N := ["_law_one", "_law_two", "_law_first", "_law_second", "_law_plus", "_law_less", "_law_i", "_law_a", "_law_b"]) (sc := defScope s_lpairs) (by decide +kernel)) (fun _ _ _ _ _ => (pg_tup rfl (pgs_cons (pg_name (i := 7) sc_lpairs.nd rfl (Or.inl rfl)) (pgs_cons (pg_name (i := 8) sc_lpairs.nd rfl (Or.inl rfl)) pgs_nil)))) (fun _ _ _ _ _ => pts_nil) (fun _ _ _ _ _ => (pe_op op_sub (pv 7) (pv 8)))) pa_nil))))))
 (Evl.pss_cut (ps_if (pw_or (pt_not (pt_val (pe_cl c_lis hr (pa_cons (pe_op (op_own2N c_add hr T.sf) (pv 0) (pv 1)) (pa_cons (pv 4) pa_nil))))) (pw_or1 (pt_not (pt_val (pe_cl c_lis hr (pa_cons (pe_op (op_own2N c_sub hr T.sf) (pv 0) (pv 1)) (pa_cons (pv 5) pa_nil))))))).pt (pss_one (ps_ret pe_bl)) pss_nil)
 (pss_one (ps_ret (pe_cl c_lis hr (pa_cons (pe_meN c_bes T.cl hr (pv 0) (pa_cons (pv 1) pa_nil)) (pa_cons (pe_lc (own := [("_law_i", 6)]) (g := (gName 6)) (tt := tYes) rfl sc_lpairs.nd (pi_range1 rfl TT.range (pa_cons (pe_callB call_len_seq (by rfl) TT.len PySem.boot_len (pa_cons (pv 2) pa_nil)) pa_nil)) (blkOk_by (N := ["_law_one", "_law_two", "_law_first", "_law_second", "_law_plus", "_law_less", "_law_i", "_law_a", "_law_b"]) (sc := defScope s_lpairs) (by decide +kernel)) (fun _ _ _ _ _ => (pg_name (i := 6) sc_lpairs.nd rfl (Or.inl rfl))) (fun _ _ _ _ _ => pts_nil) (fun _ _ _ _ _ => (pe_op op_cat (pe_ix (r := rIxL K) (by exact ix_list) (pv 2) (pv 6) (fun _ _ => rfl)) (pe_ix (r := rIxL K) (by exact ix_list) (pv 3) (pv 6) (fun _ _ => rfl))))) pa_nil))))))))), ?_⟩
    obtain ⟨us1, a1, l1, _, k1⟩ := m1.rowsIn
    obtain ⟨us2, a2, l2, _, k2⟩ := m2.rowsIn
    obtain ⟨da, ta, va, oa, _⟩ := ma.ob
    obtain ⟨db, tb, vb, ob, _⟩ := mb.ob
    refine ⟨(by show 0 ≤ sizeLine; decide), fun X nX => ⟨(by show 0 ≤ sizeLine; decide), fun Y nY => ?_⟩⟩
    have sX := same_upd (o := .lst []) nX
    have sY := same_upd (o := .lst []) nY
    have s0 := sX.trans sY
    have XY : X ≠ Y := ne_of_none upd_same nY
    have new : ∀ {x : Addr} {o : HO}, H x = some o → x ∉ [X, Y] := fun {x o} hx m => by
      rcases List.mem_cons.mp m with e | m
      · rw [e, nX] at hx
        cases hx
      · rw [List.mem_singleton.mp m] at hx
        have := sX _ _ hx
        rw [nY] at this
        cases this
    refine ⟨fun σ H' => Same H H' ∧ LM H' X h w (fun i k => f' i k + g' i k) ∧ LM H' Y h w (fun i k => f' i k - g' i k) ∧ ∃ x6, σ = [some (.ref a), some (.ref b), some (.ref r1), some (.ref r2), some (.ref X), some (.ref Y), x6, none, none], ?_, ?_⟩
    · refine ⟨_, rfl, r1, _, rfl, .inl (SqL.of (s0 _ _ a1)), (h : Int), by rw [l1], by omega, by omega, ?_⟩
      refine for_range (lo := 0) (n := (h : Int).toNat) (fun i σ H' => Same H H' ∧ GL H' [X, Y] X w (fun i k => f' i k + g' i k) i ∧ GL H' [X, Y] Y w (fun i k => f' i k - g' i k) i ∧ ∃ x6, σ = [some (.ref a), some (.ref b), some (.ref r1), some (.ref r2), some (.ref X), some (.ref Y), x6, none, none])
        ⟨s0, .zero (by rw [upd_ne XY]; exact upd_same), .zero upd_same, none, rfl⟩ ?_ ?_
      · rintro i σ H1 hi ⟨s1, gX, gY, x6, rfl⟩
        rw [Int.toNat_natCast] at hi
        rw [Int.zero_add]
        obtain ⟨p1, e1, c1⟩ := k1 i hi
        obtain ⟨p2, e2, c2⟩ := k2 i hi
        have out : ∀ {G : Hp} {D : Addr}, Same H1 G → G D = none → D ∉ [X, Y] := fun {G D} s n m => by
          obtain ⟨accX, hX, _⟩ := gX.ob
          obtain ⟨accY, hY, _⟩ := gY.ob
          rcases List.mem_cons.mp m with e | m
          · rw [e, s _ _ hX] at n
            cases n
          · rw [List.mem_singleton.mp m, s _ _ hY] at n
            cases n
        refine ⟨fun σ H' => Same H H' ∧ GL H' [X, Y] X w (fun i k => f' i k + g' i k) (i + 1) ∧ GL H' [X, Y] Y w (fun i k => f' i k - g' i k) i ∧ σ = [some (.ref a), some (.ref b), some (.ref r1), some (.ref r2), some (.ref X), some (.ref Y), some (.int (i : Int)), none, none], ?_, ?_⟩
        · refine ⟨_, rfl, .inl ⟨rfl, _, SqL.of gX.ob.choose_spec.1⟩, _, rfl, _, rfl, r1, _, _, _, rfl, rfl, SqL.of (s1 _ _ a1), atI_nat e1, _, rfl, _, rfl, r2, _, _, _, rfl, rfl, SqL.of (s1 _ _ a2), atI_nat e2, p1, p2, _, _, rfl, .inl ⟨SqL.of (s1 _ _ c1), SqL.of (s1 _ _ c2), fun D nD => lcMap (walk_zip (n := w) (by rw [List.length_map, List.length_map, rngN_len, rngN_len, Nat.min_self])) ((rngN w fun k => f' i k + g' i k).map V.int) (by rw [List.length_map, rngN_len]) nD (fun H s => ⟨SqL.of (s _ _ (s1 _ _ c1)), SqL.of (s _ _ (s1 _ _ c2))⟩) ?_ ?_⟩⟩
          · rintro k x H4 H5 hk s4 hL ⟨Tp2, x2, y2, rfl, nT2, rfl, hx2, hy2⟩
            obtain ⟨n1, rfl, hz1⟩ := item_int hx2
            obtain ⟨n2, rfl, hz2⟩ := item_int hy2
            rw [rngN_at hk] at hz1 hz2
            obtain rfl := Option.some.inj hz1
            obtain rfl := Option.some.inj hz2
            refine ⟨Tp2, _, rfl, SqT.of upd_same, rfl, _, _, rfl, _, _, rfl, rfl, rfl, _, rfl, _, rfl, _, _, rfl, rfl, ?_⟩
            have s5 := same_upd (o := .tup [.int (f' i k), .int (g' i k)]) nT2
            exact mapEnd nD (by rw [List.length_map, rngN_len]; omega) (s4.trans s5) (s5 _ _ hL) (map_at (f := V.int) (rngN_at hk))
          · intro H4 s4 hL
            obtain ⟨acc, hacc, lacc, g2⟩ := (gX.same s4).push List.mem_cons_self (out (Same.refl _) nD) hL
            refine ⟨X, acc, _, rfl, rfl, hacc, small1000 (by omega), fun x o hx => ?_, g2, (gY.same s4).but (fun x o hx e => ?_) ?_, rfl⟩
            · rw [upd_ne (fun e => new hx (by rw [e]; exact List.mem_cons_self))]
              exact s4 _ _ (s1 _ _ hx)
            · rw [upd_ne (fun e => hx (by rw [e]; exact List.mem_cons_self))]
              exact e
            · rw [upd_ne XY.symm]
        rintro σ H2 ⟨s2, gX2, gY2, rfl⟩
        have out2 : ∀ {D : Addr}, H2 D = none → D ∉ [X, Y] := fun {D} n m => by
          obtain ⟨accX, hX, _⟩ := gX2.ob
          obtain ⟨accY, hY, _⟩ := gY2.ob
          rcases List.mem_cons.mp m with e | m
          · rw [e, hX] at n
            cases n
          · rw [List.mem_singleton.mp m, hY] at n
            cases n
        refine ⟨_, rfl, .inl ⟨rfl, _, SqL.of gY2.ob.choose_spec.1⟩, _, rfl, _, rfl, r1, _, _, _, rfl, rfl, SqL.of (s2 _ _ a1), atI_nat e1, _, rfl, _, rfl, r2, _, _, _, rfl, rfl, SqL.of (s2 _ _ a2), atI_nat e2, p1, p2, _, _, rfl, .inl ⟨SqL.of (s2 _ _ c1), SqL.of (s2 _ _ c2), fun D nD => lcMap (walk_zip (n := w) (by rw [List.length_map, List.length_map, rngN_len, rngN_len, Nat.min_self])) ((rngN w fun k => f' i k - g' i k).map V.int) (by rw [List.length_map, rngN_len]) nD (fun H s => ⟨SqL.of (s _ _ (s2 _ _ c1)), SqL.of (s _ _ (s2 _ _ c2))⟩) ?_ ?_⟩⟩
        · rintro k x H4 H5 hk s4 hL ⟨Tp2, x2, y2, rfl, nT2, rfl, hx2, hy2⟩
          obtain ⟨n1, rfl, hz1⟩ := item_int hx2
          obtain ⟨n2, rfl, hz2⟩ := item_int hy2
          rw [rngN_at hk] at hz1 hz2
          obtain rfl := Option.some.inj hz1
          obtain rfl := Option.some.inj hz2
          refine ⟨Tp2, _, rfl, SqT.of upd_same, rfl, _, _, rfl, _, _, rfl, rfl, rfl, _, rfl, _, rfl, _, _, rfl, rfl, ?_⟩
          have s5 := same_upd (o := .tup [.int (f' i k), .int (g' i k)]) nT2
          exact mapEnd nD (by rw [List.length_map, rngN_len]; omega) (s4.trans s5) (s5 _ _ hL) (map_at (f := V.int) (rngN_at hk))
        · intro H4 s4 hL
          obtain ⟨acc, hacc, lacc, g2⟩ := (gY2.same s4).push (List.mem_cons_of_mem _ List.mem_cons_self) (out2 nD) hL
          refine ⟨Y, acc, _, rfl, rfl, hacc, small1000 (by omega), fun x o hx => ?_, (gX2.same s4).but (fun x o hx e => ?_) ?_, g2, _, rfl⟩
          · rw [upd_ne (fun e => new hx (by rw [e]; exact List.mem_cons_of_mem _ List.mem_cons_self))]
            exact s4 _ _ (s2 _ _ hx)
          · rw [upd_ne (fun e => hx (by rw [e]; exact List.mem_cons_of_mem _ List.mem_cons_self))]
            exact e
          · rw [upd_ne XY]
      · rintro σ H1 ⟨s1, gX, gY, x6, rfl⟩
        rw [Int.toNat_natCast] at gX gY
        exact ⟨s1, gX.lm, gY.lm, x6, rfl⟩
    rintro σ H1 ⟨s1, mX, mY, x6, rfl⟩
    refine ⟨fun σ H' => Same H H' ∧ σ = [some (.ref a), some (.ref b), some (.ref r1), some (.ref r2), some (.ref X), some (.ref Y), x6, none, none], ?_, ?_⟩
    · obtain ⟨uX, aX, lX, rX, _⟩ := mX.rowsIn
      obtain ⟨uY, aY, lY, rY, _⟩ := mY.rowsIn
      refine ⟨_, rfl, _, rfl, a, b, da, db, _, _, rfl, rfl, s1 _ _ oa, s1 _ _ ob, a, b, h, w, h, w, f', g', rfl, ma.same s1, mb.same s1, fun c => absurd ⟨rfl, rfl⟩ c, fun _ z H2 mz s2 => ?_⟩
      refine ⟨_, rfl, z, X, uX, h, w, _, rfl, mz, SqL.of (s2 _ _ aX), rX.same s2, fun H3 s3 => ⟨_, rfl, iteF ?_⟩⟩
      have s13 := s1.trans (s2.trans s3)
      refine ⟨_, rfl, _, rfl, a, b, da, db, _, _, rfl, rfl, s13 _ _ oa, s13 _ _ ob, a, b, h, w, h, w, f', g', rfl, ma.same s13, mb.same s13, fun c => absurd ⟨rfl, rfl⟩ c, fun _ z' H4 mz' s4 => ?_⟩
      have s24 := s2.trans (s3.trans s4)
      refine ⟨_, rfl, z', Y, uY, h, w, _, rfl, mz'.congr fun i k _ _ => Int.sub_eq_add_neg.symm, SqL.of (s24 _ _ aY), rY.same s24, fun H5 s5 => ⟨_, rfl, if_neg_of rfl ⟨s13.trans (s4.trans s5), rfl⟩⟩⟩
    rintro σ H2 ⟨s2, rfl⟩
    refine ⟨_, rfl, a, da, _, rfl, s2 _ _ oa, maF_no _ _ _ (by decide +kernel) (by decide +kernel) (by decide +kernel), _, rfl, a, b, h, w, h, w, f', g', rfl, ma.same s2, mb.same s2, by omega, fun c => absurd rfl c, fun _ z H3 mz s3 => ?_⟩
    have s23 := s2.trans s3
    refine ⟨_, rfl, r1, _, rfl, .inl (SqL.of (s23 _ _ a1)), (h : Int), by rw [l1], by omega, by omega, fun D nD => lcObj walk_range0 (RL (w + w) fun i k => if k < w then f' i k else g' i (k - w)) nD (fun _ _ => trivial) ?_ ?_⟩
    · rintro i _ H4 _ hi p4 ⟨rfl, rfl⟩
      rw [Int.toNat_natCast] at hi
      obtain ⟨p1, e1, c1⟩ := k1 i hi
      obtain ⟨p2, e2, c2⟩ := k2 i hi
      obtain ⟨acc, hacc, _⟩ := p4.2
      have s4 := s23.trans p4.1
      refine ⟨rfl, _, rfl, _, rfl, r1, _, _, _, rfl, rfl, SqL.of (s4 _ _ a1), atI_nat e1, _, rfl, _, rfl, r2, _, _, _, rfl, rfl, SqL.of (s4 _ _ a2), atI_nat e2, p1, p2, _, _, rfl, rfl, s4 _ _ c1, s4 _ _ c2, by rw [List.length_map, List.length_map, rngN_len, rngN_len, sizeLine_eq]; omega, fun t nt => ?_⟩
      rw [← List.map_append, rng_app]
      exact objEnd stab_RL nD p4 (same_upd nt) (by omega) (ref_ne nt hacc) ⟨t, rfl, upd_same⟩
    · intro H4 acc s4 hacc hl hel
      rw [Int.toNat_natCast] at hl
      obtain ⟨us, aus, lus, rus, _⟩ := (LM.of_rl (h := h) hacc hl hel).rowsIn
      exact ⟨z, D, us, h, w + w, _, rfl, mz.same s4, SqL.of aus, rus, fun H5 s5 => q H5 (s23.trans (s4.trans s5))⟩
-- part lturned
abbrev s_lturned : Stmt := top 27
theorem sc_lturned : FnScope ["_law_one", "_law_first", "_law_n", "_law_width", "_law_item", "_law_row", "_law_j"] ["_law_one", "_law_first", "_law_n"] (defScope s_lturned) := ⟨rfl, rfl, rfl, by decide +kernel, rfl, by decide +kernel, by decide +kernel⟩
def spLturned (C : Addr) : Sp := fun vs H Q _ => ∃ (a r1 : Addr) (n : Int) (h w : Nat) (f : Nat → Nat → Int), vs = [.ref a, .ref r1, .int n] ∧ MatAt C H a h w f ∧ LM H r1 h w f ∧ n.natAbs ≤ 100 ∧ ∀ H', Same H H' → Q (.bl true) H'
theorem ok_lturned {f C : Addr} {fd : FuncData} (TT : Txt mg) (T : MaT K mg C) (F : Fun K "_law_turned_fit" "_law_turned_fit" s_lturned f fd) (c_neg : Me P w K mg base 6 C "__neg__" (spMneg C)) (c_scal : Me P w K mg base 5 C "scaled" (spMsc C)) (c_tran : Me P w K mg base 5 C "transposed" (spMtr C))
    (c_lis : Cl P w K mg base CX0 5 "_law_is" (spLism C K)) : FnOk P w K mg base CX0 7 f fd ["_law_one", "_law_first", "_law_n"] (spLturned C) := by
  refine F.ok sc_lturned (fun vs H Q E h => ?_) (fun cdv A outer s H vs Q E hr h => ?_)
  · obtain ⟨a, r1, n, _, _, _, rfl, _⟩ := h
    rfl
  · obtain ⟨a, r1, n, h, w, f', rfl, ma, m1, hn, q⟩ := h
    have h1 := ma.h1
    have h2 := ma.h2
    have w1 := ma.w1
    have w2 := ma.w2
    refine ⟨_, (pss_cons (ps_set (i := 3) sc_lturned.nd rfl (Or.inl rfl) (pe_callB call_len_seq (by rfl) TT.len PySem.boot_len (pa_cons (pe_ix ix_list (pv 1) pe_int (fun _ _ => rfl)) pa_nil)))
 (Evl.pss_cut (ps_if (pt_not (pt_val (pe_cl c_lis hr (pa_cons (pe_un (un_neg1 c_neg hr) (pv 0)) (pa_cons (pe_lc (own := [("_law_row", 5)]) (g := (gName 5)) (tt := tYes) rfl sc_lturned.nd (pi_list (pv 1)) (blkOk_by (N := ["_law_one", "_law_first", "_law_n", "_law_width", "_law_item", "_law_row", "_law_j"]) (sc := defScope s_lturned) (by decide +kernel)) (fun _ _ _ _ _ => (pg_name (i := 5) sc_lturned.nd rfl (Or.inl rfl))) (fun _ _ _ _ _ => pts_nil) (fun _ _ _ _ _ => (pe_lc (own := [("_law_item", 4)]) (g := (gName 4)) (tt := tYes) rfl sc_lturned.nd (pi_listK (K := K) rfl (pv 5)) (blkOk_by (N := ["_law_one", "_law_first", "_law_n", "_law_width", "_law_item", "_law_row", "_law_j"]) (sc := ({ kind := .function, names := [(".0", .local), ("_law_row", .local)], isGenerator := false, isCoroutine := false, more := [] } : Scope)) (by decide +kernel)) (fun _ _ _ _ _ => (pg_name (i := 4) sc_lturned.nd rfl (Or.inl rfl))) (fun _ _ _ _ _ => pts_nil) (fun _ _ _ _ _ => (pe_un un_neg (pv 4)))))) pa_nil))))) (pss_one (ps_ret pe_bl)) pss_nil)
 (Evl.pss_cut (ps_if (pt_not (pt_val (pe_cl c_lis hr (pa_cons (pe_me c_scal T.cl hr (pv 0) (pa_cons (pv 2) pa_nil)) (pa_cons (pe_lc (own := [("_law_row", 5)]) (g := (gName 5)) (tt := tYes) rfl sc_lturned.nd (pi_list (pv 1)) (blkOk_by (N := ["_law_one", "_law_first", "_law_n", "_law_width", "_law_item", "_law_row", "_law_j"]) (sc := defScope s_lturned) (by decide +kernel)) (fun _ _ _ _ _ => (pg_name (i := 5) sc_lturned.nd rfl (Or.inl rfl))) (fun _ _ _ _ _ => pts_nil) (fun _ _ _ _ _ => (pe_lc (own := [("_law_item", 4)]) (g := (gName 4)) (tt := tYes) rfl sc_lturned.nd (pi_listK (K := K) rfl (pv 5)) (blkOk_by (N := ["_law_one", "_law_first", "_law_n", "_law_width", "_law_item", "_law_row", "_law_j"]) (sc := ({ kind := .function, names := [(".0", .local), ("_law_row", .local), ("_law_n", .cell)], isGenerator := false, isCoroutine := false, more := [] } : Scope)) (by decide +kernel)) (fun _ _ _ _ _ => (pg_name (i := 4) sc_lturned.nd rfl (Or.inl rfl))) (fun _ _ _ _ _ => pts_nil) (fun _ _ _ _ _ => (pe_op op_mul (pv 2) (pv 4)))))) pa_nil))))) (pss_one (ps_ret pe_bl)) pss_nil)
 (pss_one (ps_ret (pe_cl c_lis hr (pa_cons (pe_me0 c_tran T.cl hr (pv 0) ) (pa_cons (pe_lc (own := [("_law_j", 6)]) (g := (gName 6)) (tt := tYes) rfl sc_lturned.nd (pi_range1 rfl TT.range (pa_cons (pv 3) pa_nil)) (blkOk_by (N := ["_law_one", "_law_first", "_law_n", "_law_width", "_law_item", "_law_row", "_law_j"]) (sc := defScope s_lturned) (by decide +kernel)) (fun _ _ _ _ _ => (pg_name (i := 6) sc_lturned.nd rfl (Or.inr rfl))) (fun _ _ _ _ _ => pts_nil) (fun _ _ _ _ _ => (pe_lc (own := [("_law_row", 5)]) (g := (gName 5)) (tt := tYes) rfl sc_lturned.nd (pi_listK (K := K) rfl (pv 1)) (blkOk_by (N := ["_law_one", "_law_first", "_law_n", "_law_width", "_law_item", "_law_row", "_law_j"]) (sc := ({ kind := .function, names := [(".0", .local), ("_law_j", .cell), ("_law_first", .cell)], isGenerator := false, isCoroutine := false, more := [] } : Scope)) (by decide +kernel)) (fun _ _ _ _ _ => (pg_name (i := 5) sc_lturned.nd rfl (Or.inl rfl))) (fun _ _ _ _ _ => pts_nil) (fun _ _ _ _ _ => (pe_ix (r := rIxL K) (by exact ix_list) (pv 5) (pv 6) (fun _ _ => rfl)))))) pa_nil)))))))), ?_⟩
    obtain ⟨us1, a1, l1, _, k1⟩ := m1.rowsIn
    obtain ⟨da, ta, va, oa, _⟩ := ma.ob
    obtain ⟨q0, e0, c0⟩ := k1 0 (by omega)
    refine ⟨_, rfl, r1, _, _, _, rfl, rfl, SqL.of a1, atI_nat (j := 0) e0, q0, _, rfl, .inl (SqL.of c0), ?_⟩
    rw [List.length_map, rngN_len]
    refine ⟨fun σ H' => Same H H' ∧ σ = [some (.ref a), some (.ref r1), some (.int n), some (.int (w : Int)), none, none, none], ?_, ?_⟩
    · refine ⟨_, rfl, a, da, _, rfl, oa, a, h, w, f', rfl, ma, fun z H2 mz s2 => ?_⟩
      refine ⟨_, rfl, r1, rfl, ⟨_, SqL.of (s2 _ _ a1)⟩, fun D nD => lcObj walk_list (RL w fun i k => -f' i k) nD (fun H s => SqL.of (s _ _ (s2 _ _ a1))) ?_ ?_⟩
      · rintro i v H3 _ hi p3 ⟨rfl, hv⟩
        rw [l1] at hi
        obtain ⟨p1, e1, c1⟩ := k1 i hi
        obtain rfl := Option.some.inj (hv.symm.trans e1)
        obtain ⟨acc, hacc, _⟩ := p3.2
        have g1 := p3.1 _ _ (s2 _ _ c1)
        refine ⟨rfl, _, rfl, p1, rfl, ⟨_, SqL.of g1⟩, fun D2 nD2 => lcMap walk_list ((rngN w fun k => -f' i k).map V.int) (by rw [List.length_map, List.length_map, rngN_len, rngN_len]) nD2 (fun H s => SqL.of (s _ _ g1)) ?_ ?_⟩
        · rintro k y H4 _ hk s4 hL ⟨rfl, hy⟩
          rw [List.length_map, rngN_len] at hk
          obtain ⟨y, rfl, hz⟩ := item_int hy
          rw [rngN_at hk] at hz
          obtain rfl := Option.some.inj hz
          refine ⟨rfl, _, rfl, _, rfl, ?_⟩
          exact mapEnd nD2 (by rw [List.length_map, rngN_len]; omega) s4 hL (map_at (f := V.int) (rngN_at hk))
        · intro H4 s4 hL
          exact objEnd stab_RL nD p3 s4 (by omega) (ref_ne nD2 hacc) ⟨D2, rfl, hL⟩
      · intro H3 acc s3 hacc hl hel
        obtain ⟨us, aus, lus, rus, _⟩ := (LM.of_rl (h := h) hacc (by rw [hl, l1]) hel).rowsIn
        exact ⟨z, D, us, h, w, _, rfl, mz.same s3, SqL.of aus, rus, fun H5 s5 => ⟨_, rfl, if_neg_of rfl ⟨s2.trans (s3.trans s5), rfl⟩⟩⟩
    rintro σ H1 ⟨s1, rfl⟩
    refine ⟨fun σ H' => Same H H' ∧ σ = [some (.ref a), some (.ref r1), some (.int n), some (.int (w : Int)), none, none, none], ?_, ?_⟩
    · refine ⟨_, rfl, a, da, _, rfl, s1 _ _ oa, maF_no _ _ _ (by decide +kernel) (by decide +kernel) (by decide +kernel), _, rfl, a, h, w, f', n, rfl, ma.same s1, by omega, fun z H2 mz s2' => ?_⟩
      have s2 := s1.trans s2'
      refine ⟨_, rfl, r1, rfl, ⟨_, SqL.of (s2 _ _ a1)⟩, fun D nD => lcObj walk_list (RL w fun i k => n * f' i k) nD (fun H s => SqL.of (s _ _ (s2 _ _ a1))) ?_ ?_⟩
      · rintro i v H3 _ hi p3 ⟨rfl, hv⟩
        rw [l1] at hi
        obtain ⟨p1, e1, c1⟩ := k1 i hi
        obtain rfl := Option.some.inj (hv.symm.trans e1)
        obtain ⟨acc, hacc, _⟩ := p3.2
        have g1 := p3.1 _ _ (s2 _ _ c1)
        refine ⟨rfl, _, rfl, p1, rfl, ⟨_, SqL.of g1⟩, fun D2 nD2 => lcMap walk_list ((rngN w fun k => n * f' i k).map V.int) (by rw [List.length_map, List.length_map, rngN_len, rngN_len]) nD2 (fun H s => SqL.of (s _ _ g1)) ?_ ?_⟩
        · rintro k y H4 _ hk s4 hL ⟨rfl, hy⟩
          rw [List.length_map, rngN_len] at hk
          obtain ⟨y, rfl, hz⟩ := item_int hy
          rw [rngN_at hk] at hz
          obtain rfl := Option.some.inj hz
          refine ⟨rfl, _, rfl, _, rfl, _, _, rfl, rfl, .inl ⟨by omega, by omega⟩, ?_⟩
          exact mapEnd nD2 (by rw [List.length_map, rngN_len]; omega) s4 hL (map_at (f := V.int) (rngN_at hk))
        · intro H4 s4 hL
          exact objEnd stab_RL nD p3 s4 (by omega) (ref_ne nD2 hacc) ⟨D2, rfl, hL⟩
      · intro H3 acc s3 hacc hl hel
        obtain ⟨us, aus, lus, rus, _⟩ := (LM.of_rl (h := h) hacc (by rw [hl, l1]) hel).rowsIn
        exact ⟨z, D, us, h, w, _, rfl, mz.same s3, SqL.of aus, rus, fun H5 s5 => ⟨_, rfl, if_neg_of rfl ⟨s2.trans (s3.trans s5), rfl⟩⟩⟩
    rintro σ H1 ⟨s1, rfl⟩
    refine ⟨_, rfl, a, da, _, rfl, s1 _ _ oa, maF_no _ _ _ (by decide +kernel) (by decide +kernel) (by decide +kernel), a, h, w, f', rfl, ma.same s1, fun z H2 mz s2' => ?_⟩
    have s2 := s1.trans s2'
    refine ⟨_, rfl, (w : Int), rfl, by omega, by omega, fun D nD => lcObj walk_range0 (RL h fun i k => f' k i) nD (fun _ _ => trivial) ?_ ?_⟩
    · rintro j _ H3 _ hj p3 ⟨rfl, rfl⟩
      rw [Int.toNat_natCast] at hj
      obtain ⟨acc, hacc, _⟩ := p3.2
      have A3 := p3.1 _ _ (s2 _ _ a1)
      refine ⟨rfl, _, rfl, r1, rfl, ⟨_, SqL.of A3⟩, fun D2 nD2 => lcMap walk_list ((rngN h fun k => f' k j).map V.int) (by rw [List.length_map, rngN_len, l1]) nD2 (fun H s => SqL.of (s _ _ A3)) ?_ ?_⟩
      · rintro k y H4 _ hk s4 hL ⟨rfl, hy⟩
        rw [l1] at hk
        obtain ⟨p1, e1, c1⟩ := k1 k hk
        obtain rfl := Option.some.inj (hy.symm.trans e1)
        have g1 := s4 _ _ (p3.1 _ _ (s2 _ _ c1))
        refine ⟨rfl, _, rfl, _, rfl, p1, _, _, _, rfl, rfl, SqL.of g1, atI_nat (map_at (f := V.int) (rngN_at hj)), ?_⟩
        exact mapEnd nD2 (by rw [List.length_map, rngN_len]; omega) s4 hL (map_at (f := V.int) (rngN_at hk))
      · intro H4 s4 hL
        exact objEnd stab_RL nD p3 s4 (by omega) (ref_ne nD2 hacc) ⟨D2, rfl, hL⟩
    · intro H3 acc s3 hacc hl hel
      rw [Int.toNat_natCast] at hl
      obtain ⟨us, aus, lus, rus, _⟩ := (LM.of_rl (h := w) hacc hl hel).rowsIn
      exact ⟨z, D, us, w, h, _, rfl, mz.same s3, SqL.of aus, rus, fun H5 s5 => q H5 (s2.trans (s3.trans s5))⟩
-- part lparts
/-! what the pool's changes leave -/
theorem log_small {z : Int} (h : z.natAbs < 2 ^ 62) : z.natAbs.log2 < 9000 := by
  by_cases c : z.natAbs = 0
  · rw [c]
    decide
  · have := (Nat.log2_lt c).mpr h
    omega
theorem ints_np {H : Hp} {p q : Addr} {l : List Int} (P : PoolAt H p) (h : H q = some (.lst (l.map V.int))) : q ≠ p := fun e => by
  obtain ⟨c, n, b, hp⟩ := P
  rw [e, hp] at h
  have h2 : [V.int c, V.int n, V.bl b] = l.map V.int := by injection h with h; injection h
  have m : V.bl b ∈ l.map V.int := by rw [← h2]; simp
  obtain ⟨z, _, hz⟩ := List.mem_map.mp m
  cases hz
theorem tup_np {H : Hp} {p q : Addr} {xs : List V} (P : PoolAt H p) (h : H q = some (.tup xs)) : q ≠ p := fun e => by
  obtain ⟨c, n, b, hp⟩ := P
  rw [e, hp] at h
  cases h
theorem ins_np {H : Hp} {p q C dx : Addr} {fs : List (Str × V)} (P : PoolAt H p) (h : H q = some (.ins C dx fs)) : q ≠ p := fun e => by
  obtain ⟨c, n, b, hp⟩ := P
  rw [e, hp] at h
  cases h
theorem refs_np {H : Hp} {p q z : Addr} {xs : List V} {i : Nat} (P : PoolAt H p) (h : H q = some (.lst xs)) (hi : xs[i]? = some (.ref z)) : q ≠ p := fun e => by
  obtain ⟨c, n, b, hp⟩ := P
  rw [e, hp] at h
  have h2 : [V.int c, V.int n, V.bl b] = xs := by injection h with h; injection h
  rw [← h2] at hi
  have m := List.mem_of_getElem? hi
  simp at m
theorem MatAt.but {C : Addr} {H H' : Hp} {p a : Addr} {h w : Nat} {f : Nat → Nat → Int} (m : MatAt C H a h w f) (P : PoolAt H p) (b : SameBut p H H') : MatAt C H' a h w f := by
  obtain ⟨dx, t, vs, o1, o2, o3, o4⟩ := m.ob
  exact ⟨⟨dx, t, vs, b _ _ (ins_np P o1) o1, b _ _ (tup_np P o2) o2, o3, fun i hi => by
    obtain ⟨q, q1, q2⟩ := o4 i hi
    exact ⟨q, q1, b _ _ (tup_np P q2) q2⟩⟩, m.h1, m.h2, m.w1, m.w2⟩
theorem LM.but {H H' : Hp} {p r : Addr} {h w : Nat} {f : Nat → Nat → Int} (m : LM H r h w f) (h1 : 1 ≤ h) (P : PoolAt H p) (b : SameBut p H H') : LM H' r h w f := by
  obtain ⟨us, o1, o2, o3⟩ := m.ob
  obtain ⟨q0, e0, _⟩ := o3 0 (by omega)
  exact ⟨us, b _ _ (refs_np P o1 e0) o1, o2, fun i hi => by
    obtain ⟨q, q1, q2⟩ := o3 i hi
    exact ⟨q, q1, b _ _ (ints_np P q2) q2⟩⟩
/-- a list of numbers below n -/
def NL (H : Hp) (D : Addr) (ks : List Nat) : Prop := H D = some (.lst (ks.map fun (k : Nat) => V.int (k : Int)))
theorem NL.np {H : Hp} {p D : Addr} {ks : List Nat} (P : PoolAt H p) (h : NL H D ks) : D ≠ p := by
  have e : (ks.map fun (k : Nat) => V.int (k : Int)) = (ks.map fun (k : Nat) => (k : Int)).map V.int := by rw [List.map_map] <;> rfl
  unfold NL at h
  rw [e] at h
  exact ints_np P h
theorem natAtM {l : List Nat} {i : Nat} {v : V} (e : (l.map fun (k : Nat) => V.int (k : Int))[i]? = some v) : v = .int ((l.getD i 0 : Nat) : Int) ∧ l.getD i 0 ∈ l := by
  rw [List.getElem?_map] at e
  obtain ⟨k, hk, rfl⟩ := Option.map_eq_some_iff.mp e
  rw [List.getD_eq_getElem?_getD, hk]
  exact ⟨rfl, List.mem_of_getElem? hk⟩
theorem zeros_rng (w : Nat) : List.replicate (w : Int).toNat (V.int 0) = (rngN w fun _ => 0).map V.int := by
  unfold rngN
  rw [Int.toNat_natCast, List.map_map]
  refine List.ext_getElem? fun k => ?_
  by_cases c : k < w
  · rw [List.getElem?_replicate, if_pos c, List.getElem?_map, List.getElem?_range c] <;> rfl
  · rw [List.getElem?_eq_none (by rw [List.length_replicate]; omega), List.getElem?_eq_none (by rw [List.length_map, List.length_range]; omega)]
abbrev s_lparts : Stmt := top 28
theorem sc_lparts : FnScope ["_law_pool_here", "_law_one", "_law_first", "_law_n", "_law_height", "_law_width", "_law_lines", "_law_k", "_law_columns", "_law_j", "_law_i", "_law_corner"] ["_law_pool_here", "_law_one", "_law_first", "_law_n"] (defScope s_lparts) := ⟨rfl, rfl, rfl, by decide +kernel, rfl, by decide +kernel, by decide +kernel⟩
def spLparts (C : Addr) : Sp := fun vs H Q _ => ∃ (p a r1 : Addr) (n : Int) (h w : Nat) (f : Nat → Nat → Int), vs = [.ref p, .ref a, .ref r1, .int n] ∧ PoolAt H p ∧ MatAt C H a h w f ∧ LM H r1 h w f ∧ h ≤ 10 ∧ w ≤ 10 ∧ ∀ H', SameBut p H H' → PoolAt H' p → Q (.bl true) H'
theorem ok_lparts {f C : Addr} {fd : FuncData} (TT : Txt mg) (T : MaT K mg C) (F : Fun K "_law_parts_fit" "_law_parts_fit" s_lparts f fd) (c_take : Cl P w K mg base CX0 1 "_law_take" spTake) (c_part : Me P w K mg base 5 C "part" (spMpart C K)) (c_unit : Cm P w K mg base 6 C "unit" (spMunit C)) (c_diag : Cm P w K mg base 5 C "diagonal" (spMdiag C K))
    (c_lis : Cl P w K mg base CX0 5 "_law_is" (spLism C K)) : FnOk P w K mg base CX0 7 f fd ["_law_pool_here", "_law_one", "_law_first", "_law_n"] (spLparts C) := by
  refine F.ok sc_lparts (fun vs H Q E h => ?_) (fun cdv A outer s H vs Q E hr h => ?_)
  · obtain ⟨p, a, r1, n, _, _, _, rfl, _⟩ := h
    rfl
  · obtain ⟨p, a, r1, n, h, w, f', rfl, P0, ma, m1, h10, w10, q⟩ := h
    have h1 := ma.h1
    have w1 := ma.w1
    refine ⟨_, (pss_cons (ps_set (i := 4) sc_lparts.nd rfl (Or.inr rfl) (pe_callB call_len_seq (by rfl) TT.len PySem.boot_len (pa_cons (pv 2) pa_nil)))
 (pss_cons (ps_set (i := 5) sc_lparts.nd rfl (Or.inr rfl) (pe_callB call_len_seq (by rfl) TT.len PySem.boot_len (pa_cons (pe_ix ix_list (pv 2) pe_int (fun _ _ => rfl)) pa_nil)))
 (Evl.pss_cut (ps_setLc (i := 6) (own := [("_law_k", 7)]) (g := (gName 7)) (tt := tYes) rfl sc_lparts.nd rfl rfl (sw_true rfl rfl rfl (by decide +kernel)) (pi_range1 rfl TT.range (pa_cons (pe_op op_add pe_int (pe_cl c_take hr (pa_cons (pv 0) (pa_cons pe_int pa_nil)))) pa_nil)) (blkOk_by (N := ["_law_pool_here", "_law_one", "_law_first", "_law_n", "_law_height", "_law_width", "_law_lines", "_law_k", "_law_columns", "_law_j", "_law_i", "_law_corner"]) (sc := defScope s_lparts) (by decide +kernel)) (fun _ _ _ _ _ => (pg_name (i := 7) sc_lparts.nd rfl (Or.inl rfl))) (fun _ _ _ _ _ => pts_nil) (fun _ _ _ _ _ => (pe_cl c_take (by exact hr) (pa_cons (pv 0) (pa_cons (pv 4) pa_nil)))))
 (Evl.pss_cut (ps_set (i := 8) sc_lparts.nd rfl (Or.inr rfl) (pe_lst (pa_cons (pe_cl c_take hr (pa_cons (pv 0) (pa_cons (pv 5) pa_nil))) (pa_cons pe_int pa_nil))))
 (Evl.pss_cut (ps_if (pt_not (pt_val (pe_cl c_lis hr (pa_cons (pe_me c_part T.cl hr (pv 1) (pa_cons (pv 6) (pa_cons (pv 8) pa_nil))) (pa_cons (pe_lc (own := [("_law_i", 10)]) (g := (gName 10)) (tt := tYes) rfl sc_lparts.nd (pi_list (pv 6)) (blkOk_by (N := ["_law_pool_here", "_law_one", "_law_first", "_law_n", "_law_height", "_law_width", "_law_lines", "_law_k", "_law_columns", "_law_j", "_law_i", "_law_corner"]) (sc := defScope s_lparts) (by decide +kernel)) (fun _ _ _ _ _ => (pg_name (i := 10) sc_lparts.nd rfl (Or.inr rfl))) (fun _ _ _ _ _ => pts_nil) (fun _ _ _ _ _ => (pe_lc (own := [("_law_j", 9)]) (g := (gName 9)) (tt := tYes) rfl sc_lparts.nd (pi_listK (K := K) rfl (pv 8)) (blkOk_by (N := ["_law_pool_here", "_law_one", "_law_first", "_law_n", "_law_height", "_law_width", "_law_lines", "_law_k", "_law_columns", "_law_j", "_law_i", "_law_corner"]) (sc := ({ kind := .function, names := [(".0", .local), ("_law_i", .cell), ("_law_columns", .cell), ("_law_first", .cell)], isGenerator := false, isCoroutine := false, more := [] } : Scope)) (by decide +kernel)) (fun _ _ _ _ _ => (pg_name (i := 9) sc_lparts.nd rfl (Or.inl rfl))) (fun _ _ _ _ _ => pts_nil) (fun _ _ _ _ _ => (pe_ix (r := rIxL K) (by exact ix_list) (pe_ix (r := rIxL K) (by exact ix_list) (pv 2) (pv 10) (fun _ _ => rfl)) (pv 9) (fun _ _ => rfl)))))) pa_nil))))) (pss_one (ps_ret pe_bl)) pss_nil)
 (Evl.pss_cut (ps_if (pt_not (pt_val (pe_cl c_lis hr (pa_cons (pe_cm c_unit hr (pe_glob (v := .ref C) (by rfl) T.g rfl) (pa_cons (pv 5) pa_nil)) (pa_cons (pe_lc (own := [("_law_i", 10)]) (g := (gName 10)) (tt := tYes) rfl sc_lparts.nd (pi_range1 rfl TT.range (pa_cons (pv 5) pa_nil)) (blkOk_by (N := ["_law_pool_here", "_law_one", "_law_first", "_law_n", "_law_height", "_law_width", "_law_lines", "_law_k", "_law_columns", "_law_j", "_law_i", "_law_corner"]) (sc := defScope s_lparts) (by decide +kernel)) (fun _ _ _ _ _ => (pg_name (i := 10) sc_lparts.nd rfl (Or.inr rfl))) (fun _ _ _ _ _ => pts_nil) (fun _ _ _ _ _ => (pe_lc (own := [("_law_j", 9)]) (g := (gName 9)) (tt := tYes) rfl sc_lparts.nd (pi_range1 rfl TT.range (pa_cons (pv 5) pa_nil)) (blkOk_by (N := ["_law_pool_here", "_law_one", "_law_first", "_law_n", "_law_height", "_law_width", "_law_lines", "_law_k", "_law_columns", "_law_j", "_law_i", "_law_corner"]) (sc := ({ kind := .function, names := [(".0", .local), ("_law_i", .cell), ("range", .globalImplicit), ("_law_width", .cell)], isGenerator := false, isCoroutine := false, more := [] } : Scope)) (by decide +kernel)) (fun _ _ _ _ _ => (pg_name (i := 9) sc_lparts.nd rfl (Or.inl rfl))) (fun _ _ _ _ _ => pts_nil) (fun _ _ _ _ _ => (pe_callTy call_int1 (by rfl) TT.int boot_int (pa_cons (pe_cmpR op_eq (pv 10) (pv 9) (nomark _)) pa_nil)))))) pa_nil))))) (pss_one (ps_ret pe_bl)) pss_nil)
 (pss_cons (ps_setLc (i := 11) (own := [("_law_i", 10)]) (g := (gName 10)) (tt := tYes) rfl sc_lparts.nd rfl rfl (sw_true rfl rfl rfl (by decide +kernel)) (pi_range1 rfl TT.range (pa_cons (pv 4) pa_nil)) (blkOk_by (N := ["_law_pool_here", "_law_one", "_law_first", "_law_n", "_law_height", "_law_width", "_law_lines", "_law_k", "_law_columns", "_law_j", "_law_i", "_law_corner"]) (sc := defScope s_lparts) (by decide +kernel)) (fun _ _ _ _ _ => (pg_name (i := 10) sc_lparts.nd rfl (Or.inl rfl))) (fun _ _ _ _ _ => pts_nil) (fun _ _ _ _ _ => (pe_op op_rep (pe_lst (pa_cons pe_int pa_nil)) (pv 5))))
 (pss_cons (ps_asg (pv 3) (pg_sub (pe_ix ix_list (pv 11) pe_int (fun _ _ => rfl)) pe_int set_list))
 (pss_one (ps_ret (pe_cl c_lis hr (pa_cons (pe_cm c_diag hr (pe_glob (v := .ref C) (by rfl) T.g rfl) (pa_cons (pe_lst (pa_cons (pv 3) pa_nil)) (pa_cons (pv 4) (pa_cons (pv 5) pa_nil)))) (pa_cons (pv 11) pa_nil))))))))))))), ?_⟩
    obtain ⟨us1, a1, l1, _, k1⟩ := m1.rowsIn
    obtain ⟨q0, e0, c0⟩ := k1 0 (by omega)
    refine ⟨_, rfl, r1, _, rfl, .inl (SqL.of a1), ?_⟩
    rw [l1]
    refine ⟨_, rfl, r1, _, _, _, rfl, rfl, SqL.of a1, atI_nat (j := 0) e0, q0, _, rfl, .inl (SqL.of c0), ?_⟩
    rw [List.length_map, rngN_len]
    -- the lines
    refine ⟨fun σ H' => SameBut p H H' ∧ PoolAt H' p ∧ ∃ (L : Addr) (rs : List Nat) (x7 : Option V), NL H' L rs ∧ 1 ≤ rs.length ∧ rs.length ≤ 3 ∧ (∀ i ∈ rs, i < h) ∧ σ = [some (.ref p), some (.ref a), some (.ref r1), some (.int n), some (.int (h : Int)), some (.int (w : Int)), some (.ref L), x7, none, none, none, none], ?_, ?_⟩
    · refine ⟨_, rfl, p, 3, rfl, P0, by decide, by decide, fun u H1 u0 u1 e1 P1 => ⟨_, _, rfl, rfl, 1 + u, rfl, by omega, by omega, fun D nD => ?_⟩⟩
      have b1 : SameBut p H H1 := SameBut.of e1
      have Dp := P1.new nD
      refine lc_range (lo := 0) (n := (1 + u).toNat) (fun i H' => SameBut p H H' ∧ PoolAt H' p ∧ ∃ rs : List Nat, NL H' D rs ∧ rs.length = i ∧ ∀ i ∈ rs, i < h)
        ⟨b1.trans (sbut (same_upd nD)), P1.same (same_upd nD), [], upd_same, rfl, fun _ h => (nomatch h)⟩ ?_ ?_
      · rintro i H2 hi ⟨b2, P2, rs, hrs, hl, bd⟩
        refine ⟨rfl, _, rfl, _, rfl, p, (h : Int), rfl, P2, by omega, log_small (by omega), fun v H3 v0 v1 e3 P3 => ?_⟩
        have b3 : SameBut p H2 H3 := SameBut.of e3
        have h3 := b3 _ _ Dp hrs
        refine ⟨_, h3, small1000 (by rw [List.length_map]; omega), fun b o hb eb => ?_, ?_, rs ++ [v.toNat], ?_, by rw [List.length_append, hl]; rfl, ?_⟩
        · have hbD : b ≠ D := fun e => by
            rw [e] at eb
            have := b1 _ _ Dp eb
            rw [nD] at this
            cases this
          rw [upd_ne hbD]
          exact b3 b o hb (b2 b o hb eb)
        · obtain ⟨a1, a2, a3, a4⟩ := P3
          exact ⟨a1, a2, a3, by rw [upd_ne Dp.symm]; exact a4⟩
        · unfold NL
          rw [upd_same, List.map_append]
          show some (HO.lst (_ ++ [V.int v])) = some (HO.lst (_ ++ [V.int ((v.toNat : Nat) : Int)]))
          rw [Int.toNat_of_nonneg v0]
        · intro y hy
          rcases List.mem_append.mp hy with h | h
          · exact bd y h
          · rw [List.mem_singleton.mp h]
            omega
      · rintro H2 ⟨b2, P2, rs, hrs, hl, bd⟩
        exact ⟨b2, P2, D, rs, none, hrs, by omega, by omega, bd, rfl⟩
    rintro σ H1 ⟨b1, P1, L, rs, x7, hL, rs1, rs3, rsh, rfl⟩
    -- the columns
    refine ⟨fun σ H' => SameBut p H H' ∧ PoolAt H' p ∧ NL H' L rs ∧ ∃ (M : Addr) (cs : List Nat), NL H' M cs ∧ cs.length = 2 ∧ (∀ i ∈ cs, i < w) ∧ σ = [some (.ref p), some (.ref a), some (.ref r1), some (.int n), some (.int (h : Int)), some (.int (w : Int)), some (.ref L), x7, some (.ref M), none, none, none], ?_, ?_⟩
    · refine ⟨_, rfl, _, rfl, p, (w : Int), rfl, P1, by omega, log_small (by omega), fun v H2 v0 v1 e2 P2 => ⟨(by show 2 ≤ sizeLine; decide), fun M nM => ?_⟩⟩
      have b2 : SameBut p H1 H2 := SameBut.of e2
      have k := same_upd (o := .lst [.int v, .int 0]) nM
      refine ⟨b1.trans (b2.trans (sbut k)), P2.same k, k _ _ (b2 _ _ (NL.np P1 hL) hL), M, [v.toNat, 0], ?_, rfl, fun y hy => ?_, rfl⟩
      · show upd H2 M _ M = some (HO.lst [V.int ((v.toNat : Nat) : Int), .int 0])
        rw [upd_same, Int.toNat_of_nonneg v0]
      · rcases List.mem_cons.mp hy with h | h
        · rw [h]
          omega
        · rw [List.mem_singleton.mp h]
          omega
    rintro σ H2 ⟨b2, P2, hL2, M, cs, hM, cs2, csw, rfl⟩
    have ma2 := ma.but P0 b2
    have m12 := m1.but h1 P0 b2
    obtain ⟨da, ta, va, oa, _⟩ := ma2.ob
    obtain ⟨us2, a2, l2, _, k2⟩ := m12.rowsIn
    refine ⟨fun σ H' => Same H2 H' ∧ σ = [some (.ref p), some (.ref a), some (.ref r1), some (.int n), some (.int (h : Int)), some (.int (w : Int)), some (.ref L), x7, some (.ref M), none, none, none], ?_, ?_⟩
    · refine ⟨_, rfl, a, da, _, rfl, oa, maF_no _ _ _ (by decide +kernel) (by decide +kernel) (by decide +kernel), _, rfl, _, rfl, a, L, M, h, w, f', rs, cs, rfl, ma2, SqL.of hL2, SqL.of hM, rs1, by omega, by omega, by omega, rsh, csw, fun z H3 mz s3 => ?_⟩
      refine ⟨_, rfl, L, rfl, ⟨_, SqL.of (s3 _ _ hL2)⟩, fun D nD => lcObj walk_list (RL cs.length fun i k => f' (rs.getD i 0) (cs.getD k 0)) nD (fun H s => SqL.of (s _ _ (s3 _ _ hL2))) ?_ ?_⟩
      · rintro i x H4 _ hi p4 ⟨rfl, hx⟩
        rw [List.length_map] at hi
        obtain ⟨rfl, mi⟩ := natAtM hx
        obtain ⟨q1, e1, c1⟩ := k2 _ (rsh _ mi)
        obtain ⟨acc, hacc, _⟩ := p4.2
        have s4 := s3.trans p4.1
        refine ⟨rfl, _, rfl, M, rfl, ⟨_, SqL.of (s4 _ _ hM)⟩, fun D2 nD2 => lcMap walk_list ((rngN cs.length fun k => f' (rs.getD i 0) (cs.getD k 0)).map V.int) (by rw [List.length_map, List.length_map, rngN_len]) nD2 (fun H s => SqL.of (s _ _ (s4 _ _ hM))) ?_ ?_⟩
        · rintro k y H5 _ hk s5 hL5 ⟨rfl, hy⟩
          rw [List.length_map] at hk
          obtain ⟨rfl, mk⟩ := natAtM hy
          have s45 := s4.trans s5
          refine ⟨rfl, _, rfl, _, rfl, r1, _, _, _, rfl, rfl, SqL.of (s45 _ _ a2), atI_nat e1, _, rfl, q1, _, _, _, rfl, rfl, SqL.of (s45 _ _ c1), atI_nat (map_at (f := V.int) (rngN_at (csw _ mk))), ?_⟩
          exact mapEnd nD2 (by rw [List.length_map, rngN_len]; omega) s5 hL5 (map_at (f := V.int) (rngN_at hk))
        · intro H5 s5 hL5
          exact objEnd stab_RL nD p4 s5 (by omega) (ref_ne nD2 hacc) ⟨D2, rfl, hL5⟩
      · intro H4 acc s4 hacc hl hel
        rw [List.length_map] at hl
        obtain ⟨us, aus, lus, rus, _⟩ := (LM.of_rl (h := rs.length) hacc hl hel).rowsIn
        exact ⟨z, D, us, rs.length, cs.length, _, rfl, mz.same s4, SqL.of aus, rus, fun H5 s5 => ⟨_, rfl, if_neg_of rfl ⟨s3.trans (s4.trans s5), rfl⟩⟩⟩
    rintro σ H3 ⟨s3, rfl⟩
    refine ⟨fun σ H' => Same H2 H' ∧ σ = [some (.ref p), some (.ref a), some (.ref r1), some (.int n), some (.int (h : Int)), some (.int (w : Int)), some (.ref L), x7, some (.ref M), none, none, none], ?_, ?_⟩
    · refine ⟨rfl, _, rfl, w, rfl, w1, by omega, fun z H4 mz s4 => ?_⟩
      refine ⟨_, rfl, (w : Int), rfl, by omega, by omega, fun D nD => lcObj walk_range0 (RL w fun i k => if i = k then 1 else 0) nD (fun _ _ => trivial) ?_ ?_⟩
      · rintro i _ H5 _ hi p5 ⟨rfl, rfl⟩
        rw [Int.toNat_natCast] at hi
        obtain ⟨acc, hacc, _⟩ := p5.2
        refine ⟨rfl, _, rfl, (w : Int), rfl, by omega, by omega, fun D2 nD2 => lcMap walk_range0 ((rngN w fun k => if i = k then 1 else 0).map V.int) (by rw [List.length_map, rngN_len, Int.toNat_natCast]) nD2 (fun _ _ => trivial) ?_ ?_⟩
        · rintro k _ H6 _ hk s6 hL6 ⟨rfl, rfl⟩
          rw [Int.toNat_natCast] at hk
          refine ⟨rfl, _, rfl, _, rfl, rfl, .inr ⟨_, rfl, ?_⟩⟩
          refine mapEnd nD2 (by rw [List.length_map, rngN_len]; omega) s6 hL6 (map_at (f := V.int) ((rngN_at hk).trans ?_))
          by_cases c : i = k
          · rw [if_pos c, if_pos (by rw [c]; simp)]
          · rw [if_neg c, if_neg (by simp; omega)]
        · intro H6 s6 hL6
          exact objEnd stab_RL nD p5 s6 (by omega) (ref_ne nD2 hacc) ⟨D2, rfl, hL6⟩
      · intro H5 acc s5 hacc hl hel
        rw [Int.toNat_natCast] at hl
        obtain ⟨us, aus, lus, rus, _⟩ := (LM.of_rl (h := w) hacc hl hel).rowsIn
        exact ⟨z, D, us, w, w, _, rfl, mz.same s5, SqL.of aus, rus, fun H6 s6 => ⟨_, rfl, if_neg_of rfl ⟨s3.trans (s4.trans (s5.trans s6)), rfl⟩⟩⟩
    rintro σ H4 ⟨s4, rfl⟩
    -- the corner
    refine ⟨_, rfl, (h : Int), rfl, by omega, by omega, fun D nD => lcD walk_range0 w (fun _ _ => 0) nD (fun _ _ => trivial) ?_ ?_⟩
    · rintro i x H5 H5' hi p5 ⟨rfl, rfl⟩
      rw [Int.toNat_natCast] at hi
      refine ⟨rfl, (by show 1 ≤ sizeLine; decide), fun b nb => ?_⟩
      have g1 := same_upd (o := .lst [.int 0]) nb
      refine ⟨_, rfl, b, _, _, rfl, rfl, upd_same, by omega, by omega, (by show 1 * (w : Int).toNat ≤ sizeLine; rw [sizeLine_eq]; omega), fun c nc => ?_⟩
      rw [flat_rep, zeros_rng]
      have g2 := same_upd (o := .lst ((rngN w fun _ => 0).map V.int)) nc
      refine dEnd nD p5 (g1.trans g2) (by omega) ?_ upd_same
      cases e : H5' c with
      | none => rfl
      | some o => rw [g1 _ _ e] at nc; cases nc
    · intro H5 pv
      rw [Int.toNat_natCast] at pv
      obtain ⟨s5, acc, hD, hl, nd, Dn, fr, rows⟩ := pv
      have ha : acc[0]? = some acc[0] := List.getElem?_eq_getElem (by omega)
      have mem : acc[0] ∈ acc := List.getElem_mem (by omega)
      have hq := rows 0 _ ha
      have qD : D ≠ acc[0] := fun e => Dn (e ▸ mem)
      refine ⟨_, rfl, _, rfl, D, _, _, _, rfl, rfl, SqL.of hD, atI_nat (j := 0) (map_at (f := V.ref) ha), acc[0], _, _, 0, rfl, rfl, hq, Evl.ixN_nat (j := 0) (by rw [List.length_map, rngN_len]; omega), ?_⟩
      rw [set_rng]
      have keep : ∀ x o, H4 x = some o → upd H5 acc[0] (.lst ((rngN w fun k => if 0 = k then n else 0).map V.int)) x = some o := fun x o hx => by
        rw [upd_ne (ne_of_none hx (fr _ mem))]
        exact s5 _ _ hx
      have lm : LM (upd H5 acc[0] (.lst ((rngN w fun k => if 0 = k then n else 0).map V.int))) D h w fun i k => if i = k then ([n] : List Int).getD i 0 else 0 := by
        refine ⟨_, by rw [upd_ne qD]; exact hD, by rw [List.length_map, hl], fun i hi => ?_⟩
        have hi2 : acc[i]? = some acc[i] := List.getElem?_eq_getElem (by omega)
        refine ⟨acc[i], map_at (f := V.ref) hi2, ?_⟩
        by_cases c : i = 0
        · subst c
          rw [upd_same]
          congr 3
        · have ne : acc[i] ≠ acc[0] := fun e => c ((List.getElem?_inj (by omega) nd).mp (by rw [hi2, ha, e]))
          rw [upd_ne ne, rows i _ hi2]
          congr 3
          refine rngN_congr fun k _ => ?_
          by_cases c2 : i = k
          · rw [if_pos c2]
            match i, c with
            | i + 1, _ => rfl
          · rw [if_neg c2]
      obtain ⟨us, aus, lus, rus, _⟩ := lm.rowsIn
      refine ⟨rfl, _, rfl, (by show 1 ≤ sizeLine; decide), fun N nN => ⟨_, rfl, _, rfl, N, [n], h, w, rfl, SqL.of upd_same, h1, w1, h1, by omega, w1, by omega, fun z H6 mz s6 => ?_⟩⟩
      have sN := (same_upd (o := .lst [.int n]) nN).trans s6
      exact ⟨_, rfl, z, D, us, h, w, _, rfl, mz, SqL.of (sN _ _ aus), rus.same sN, fun H7 s7 => q H7 (b2.trans (sbut (s4.trans (Same.trans keep (sN.trans s7))))) (P2.same (s4.trans (Same.trans keep (sN.trans s7))))⟩
-- part ownxg
/-! == of an instance and another value -/
/-- == with a value that is no instance -/
inductive OthT (H : Hp) : V → String → Prop
  | int (i : Int) : OthT H (.int i) "int"
  | str (z : Str) : OthT H (.str z) "str"
  | lst {b : Addr} {zs : List V} (h : H b = some (.lst zs)) : OthT H (.ref b) "list"
  | tup {b : Addr} {zs : List V} (h : H b = some (.tup zs)) : OthT H (.ref b) "tuple"
section
variable {X : Cx} {C : Addr} {sp : Sp} {k j : Nat}
/-- x == y, y no instance -/
def rOwnX (K : PySem.W.Frag) (C : Addr) (sp : Sp) : R2 := fun x y H Q => ∃ a dx fs t, x = .ref a ∧ H a = some (.ins C dx fs) ∧ OthT H y t ∧ PySem.W.subIn K (.type t) (.ref C) = some false ∧ sp [x, y] H Q E0
theorem op_eq_ownX (c : Me X.prog X.w X.K X.mg X.base k C "__eq__" sp) (hr : Room j X.A) (hk : k ≤ j := by decide) : OpR X (compareOp .Eq) (rOwnX X.K C sp) := by
  obtain ⟨f, fd, ps, M, F, b⟩ := c.ex
  intro pins s σ H x y v u Q I rx ry h
  obtain ⟨a, dx, fs, t, rfl, ha, ho, nf, q⟩ := h
  cases (show v = Value.ref a from rx)
  obtain ⟨ox, od, J⟩ := inst_of I ha
  obtain ⟨mm, hF⟩ := I.fr
  have run := run_fn (us := [.ref a, u]) (vs := [.ref a, y]) F (hr.mono hk) b .nil pass0 I (.cons rfl (.cons ry .nil)) q
  have looks : PySem.W.Looks (model X.prog X.w) s.heap (typeOf u) (.type t) := by
    cases ho with
    | int i =>
      obtain ⟨t, rfl⟩ := ry
      exact fun A Q E s k q => wpAny_pure q
    | str z =>
      obtain ⟨t, rfl⟩ := ry
      exact fun A Q E s k q => wpAny_pure q
    | @lst b' zs h =>
      cases (show u = Value.ref b' from ry)
      obtain ⟨_, its, n, _, e⟩ := (show ObjOk X.prog X.w H s.heap b' (.lst zs) from I.hok b' _ h)
      exact fun A Q E s k q => wpAny_typeOf_ref (k _ _ e) q
    | @tup b' zs h =>
      cases (show u = Value.ref b' from ry)
      obtain ⟨_, _, _, o, h1, h2, _⟩ := (show ObjOk X.prog X.w H s.heap b' (.tup zs) from I.hok b' _ h)
      exact fun A Q E s k q => wpAny_typeOf_ref (k _ _ h1) (by rw [h2]; exact q)
  show wpAny _ _ (richCompare .Eq (.ref a) u) _ _ _
  refine PySem.W.cmp_K (op := .Eq) (tb := .type t) hr.units0 hF I.ok.mod.kin J looks (by unfold PySem.W.notFirst; rw [nf]; simp) M.at_ M.fn ?_
  refine wpAny_mono run (fun u' s' z => ?_) fun _ _ x => x
  obtain ⟨z', H', I', rz, qz⟩ := z
  exact SlX.cmpback rz ⟨z', H', I', rz, qz⟩
end
-- part mateq
/-! lists of lists compared; a matrix and another value -/
def rowL (r : List Int) : PyData := .list (r.map PyData.int)
theorem dpAll_rowsL {H : Hp} : ∀ (vs : List V) (rs : List (List Int)), vs.length = rs.length → (∀ (i : Nat) (v : V) (r : List Int), vs[i]? = some v → rs[i]? = some r → ∃ q, v = .ref q ∧ H q = some (.lst (r.map V.int))) → DpAll K H vs (rs.map rowL)
  | [], [], _, _ => .nil
  | [], _ :: _, h, _ => by cases h
  | _ :: _, [], h, _ => by cases h
  | v :: vs, r :: rs, hl, h => by
    obtain ⟨q, rfl, hq⟩ := h 0 v r rfl rfl
    exact .cons (dp_lst (SqL.of hq)) (dpAll_rowsL vs rs (Nat.succ.inj hl) fun i v r hv hr => h (i + 1) v r hv hr)
theorem eqvAll_rowsL : ∀ l m : List (List Int), PyData.eqvAll (l.map rowL) (m.map rowL) = decide (l = m)
  | [], [] => by rw [List.map_nil, PyData.eqvAll]; rfl
  | [], b :: m => by rw [List.map_nil, List.map_cons, PyData.eqvAll] <;> first | (exact (decide_eq_false (by simp)).symm) | skip
  | a :: l, [] => by rw [List.map_nil, List.map_cons, PyData.eqvAll] <;> first | (exact (decide_eq_false (by simp)).symm) | skip
  | a :: l, b :: m => by
    rw [List.map_cons, List.map_cons, PyData.eqvAll, show rowL a = .list (a.map PyData.int) from rfl, show rowL b = .list (b.map PyData.int) from rfl, eqv_ints, eqvAll_rowsL l m]
    by_cases c : a = b
    · subst c
      by_cases d : l = m
      · subst d
        simp
      · simp [d]
    · simp [c]
theorem canLay_rowsL : ∀ l : List (List Int), PyData.canLayAll0 (l.map rowL) = true
  | [] => by rw [List.map_nil, PyData.canLayAll0]
  | a :: l => by rw [List.map_cons, PyData.canLayAll0, canLay_rowsL l, show rowL a = .list (a.map PyData.int) from rfl, PyData.canLay0, canLay_ints]; rfl
theorem depth_rowsL : ∀ l : List (List Int), PyData.depthAll (l.map rowL) ≤ 1
  | [] => by rw [List.map_nil, PyData.depthAll]; exact Nat.zero_le 1
  | a :: l => by
    rw [List.map_cons, PyData.depthAll, show rowL a = .list (a.map PyData.int) from rfl, PyData.depth, depth_ints]
    exact Nat.max_le.mpr ⟨Nat.le_refl 1, depth_rowsL l⟩
theorem shaped_rowsL (l : List (List Int)) : SeqAt.shaped (.list (l.map rowL)) = true := by
  unfold SeqAt.shaped
  have d := depth_rowsL l
  rw [PyData.canLay0, canLay_rowsL, PyData.depth, Bool.true_and]
  exact decide_eq_true (by omega)
theorem LM.dp {H : Hp} {r : Addr} {h w : Nat} {f : Nat → Nat → Int} (m : LM H r h w f) : Dp K H (.ref r) (.list ((mrows h w f).map rowL)) := by
  obtain ⟨us, o1, o2, o3⟩ := m.ob
  refine .lst (SqL.of o1) (dpAll_rowsL us _ (by rw [o2, mrows_len]) fun i v r hv hr => ?_)
  have hi : i < h := by
    have := (List.getElem?_eq_some_iff.mp hv).1
    omega
  rw [mrows_at hi] at hr
  obtain rfl := Option.some.inj hr
  obtain ⟨q, e, hq⟩ := o3 i hi
  exact ⟨q, Option.some.inj (hv.symm.trans e), hq⟩
theorem eqv_rowsL (l m : List (List Int)) : PyData.eqv (.list (l.map rowL)) (.list (m.map rowL)) = decide (l = m) := by
  rw [PyData.eqv]
  exact eqvAll_rowsL l m
abbrev s_meqx : Stmt := inClass (top 14) 8
theorem sc_meqx : FnScope ["self", "other"] ["self", "other"] (defScope s_meqx) := ⟨rfl, rfl, rfl, by decide +kernel, rfl, by decide +kernel, by decide +kernel⟩
def spMeqX (C : Addr) (K : PySem.W.Frag) : Sp := fun vs H Q _ => ∃ (a : Addr) (y : V) (t : String), vs = [.ref a, y] ∧ OthT H y t ∧ PySem.W.kitOne K (.type t) (.ref C) = some false ∧ Q (.bl false) H
theorem ok_meqX {f C : Addr} {fd : FuncData} (TT : Txt mg) (T : MaT K mg C) (F : Fun K "__eq__" "Matrix.__eq__" s_meqx f fd) : FnOk P w K mg base CX0 1 f fd ["self", "other"] (spMeqX C K) := by
  refine F.ok sc_meqx (fun vs H Q E h => ?_) (fun cdv A outer s H vs Q E hr h => ?_)
  · obtain ⟨a, _, _, rfl, _⟩ := h
    rfl
  · obtain ⟨a, y, t, rfl, ho, kt, q⟩ := h
    refine ⟨_, (pss_one (ps_ret (pe_and (pe_callB call_isi (by rfl) TT.isinstance boot_isinstance (pa_cons (pv 1) (pa_cons (pe_glob (v := .ref C) (by rfl) T.g rfl) pa_nil))) (pe_one (pe_cmpR (op_eqD (hu64 hr)) (pe_fld (pv 0) rfl) (pe_fld (pv 1) rfl) (nomark _)))))), ?_⟩
    cases ho with
    | int i => exact ⟨_, rfl, _, _, _, _, false, rfl, .own C, .base (.int _), kt, _, rfl, if_neg_of rfl q⟩
    | str z => exact ⟨_, rfl, _, _, _, _, false, rfl, .own C, .base (.str _), kt, _, rfl, if_neg_of rfl q⟩
    | lst hb => exact ⟨_, rfl, _, _, _, _, false, rfl, .own C, .base (.lst hb), kt, _, rfl, if_neg_of rfl q⟩
    | tup hb => exact ⟨_, rfl, _, _, _, _, false, rfl, .own C, .base (.tup hb), kt, _, rfl, if_neg_of rfl q⟩
theorem useMeqX {C : Addr} {H : Hp} {a : Addr} {h w : Nat} {f : Nat → Nat → Int} {y : V} {t : String} {Q : VK} (ic : PySem.W.isClsIn K C = true) (ty : PySem.W.typeIn K (.ref C) = some (.type "type")) (m : MatAt C H a h w f) (ho : OthT H y t) (nf : PySem.W.subIn K (.type t) (.ref C) = some false) (q : Q (.bl false) H) : rOwnX K C (spMeqX C K) (.ref a) y H Q := by
  obtain ⟨dx, u, us, h1, _⟩ := m.ob
  exact ⟨a, dx, _, t, rfl, h1, ho, nf, a, y, t, rfl, ho, kit_ownF ic ty nf, q⟩
theorem same_of_but {p : Addr} {H H' : Hp} (n : H p = none) (b : SameBut p H H') : Same H H' := fun x o e => b x o (ne_of_none e n) e
theorem same_via {p : Addr} {H H1 H2 : Hp} (n : H p = none) (s : Same H H1) (b : SameBut p H1 H2) : Same H H2 := fun x o e => b x o (ne_of_none e n) (s x o e)
-- part cutd
theorem cut_drop1 (xs : List V) : cutV xs (some 1) none = xs.drop 1 := by
  show (xs.drop (HT.sIx xs.length 0 (some ((1 : Nat) : Int)))).take (xs.length - HT.sIx xs.length 0 (some ((1 : Nat) : Int))) = _
  rw [HT.sIx_nat]
  by_cases c : 1 ≤ xs.length
  · rw [Nat.min_eq_left c, List.take_of_length_le (by rw [List.length_drop]; exact Nat.le_refl _)]
  · have : xs = [] := List.length_eq_zero_iff.mp (by omega)
    subst this
    rfl
-- part lk
theorem call_list_ofK {X : Cx} {K : PySem.W.Frag} (hK : X.K = K) : CallR X (.type "list") (fun xs H Q => ∃ p ys, xs = [.ref p] ∧ (SqL K H p ys ∨ SqT K H p ys) ∧ ∀ l, H l = none → Q (.ref l) (upd H l (.lst ys))) := by
  subst hK
  exact call_list_of
theorem log_30 {z : Int} (h : z.natAbs ≤ 10 ^ 30) : z.natAbs.log2 < 200 := by
  by_cases c : z.natAbs = 0
  · rw [c]
    decide
  · refine (Nat.log2_lt c).mpr (Nat.lt_of_le_of_lt h (by decide))
theorem mulw_small {x y : Int} (h : x.natAbs ≤ 10 ^ 30) (h' : y.natAbs ≤ 10 ^ 30) : CMulW x y := by
  have a := log_30 h
  have b := log_30 h'
  unfold CMulW
  omega
/-! rows of which one has another length -/
theorem lenAt_rep {z i : Nat} (h : i < z) (r r1 r2 : List Int) : lenAt (List.replicate z r ++ [r1, r2]) i = r.length := by
  unfold lenAt
  rw [List.getD_eq_getElem?_getD, List.getElem?_append_left (by rw [List.length_replicate]; exact h), List.getElem?_replicate, if_pos h]
  rfl
theorem lenAt_rep1 (z : Nat) (r r1 r2 : List Int) : lenAt (List.replicate z r ++ [r1, r2]) z = r1.length := by
  unfold lenAt
  rw [List.getD_eq_getElem?_getD, List.getElem?_append_right (by rw [List.length_replicate]; exact Nat.le_refl _), List.length_replicate, Nat.sub_self]
  rfl
theorem lenAt_rep2 (z : Nat) (r r1 r2 : List Int) : lenAt (List.replicate z r ++ [r1, r2]) (z + 1) = r2.length := by
  unfold lenAt
  rw [List.getD_eq_getElem?_getD, List.getElem?_append_right (by rw [List.length_replicate]; omega), List.length_replicate, show z + 1 - z = 1 by omega]
  rfl
theorem rows_bad {H : Hp} {q q1 q2 : Addr} {r r1 r2 : List Int} (z : Nat) (h : H q = some (.lst (r.map V.int))) (h1 : H q1 = some (.lst (r1.map V.int))) (h2 : H q2 = some (.lst (r2.map V.int))) : RowsIn H (List.replicate z (V.ref q) ++ [.ref q1, .ref q2]) (List.replicate z r ++ [r1, r2]) := by
  refine ⟨by simp, fun i r' hr => ?_⟩
  have hi := (List.getElem?_eq_some_iff.mp hr).1
  have hl : (List.replicate z r ++ [r1, r2]).length = z + 2 := by simp
  rw [hl] at hi
  by_cases c : i < z
  · rw [List.getElem?_append_left (by rw [List.length_replicate]; exact c), List.getElem?_replicate, if_pos c] at hr
    obtain rfl := Option.some.inj hr
    exact ⟨.ref q, by rw [List.getElem?_append_left (by rw [List.length_replicate]; exact c), List.getElem?_replicate, if_pos c], q, rfl, .inl h⟩
  · rw [List.getElem?_append_right (by rw [List.length_replicate]; omega), List.length_replicate] at hr
    by_cases d : i = z
    · subst d
      rw [Nat.sub_self] at hr
      obtain rfl := Option.some.inj hr
      exact ⟨.ref q1, by rw [List.getElem?_append_right (by rw [List.length_replicate]; omega), List.length_replicate, Nat.sub_self]; rfl, q1, rfl, .inl h1⟩
    · rw [show i - z = 1 by omega] at hr
      obtain rfl := Option.some.inj hr
      exact ⟨.ref q2, by rw [List.getElem?_append_right (by rw [List.length_replicate]; omega), List.length_replicate, show i - z = 1 by omega]; rfl, q2, rfl, .inl h2⟩
-- part law_k41
abbrev s_law : Stmt := top 29
theorem sc_law : FnScope ["_law_script", "_law_pool_here", "_law_height", "_law_width", "_law_depth", "_law_first", "_law_second", "_law_third", "_law_passed", "_law_row", "_law_one", "_law_two", "_law_last", "_law_n", "_law_turn", "_law_at"] ["_law_script"] (defScope s_law) := ⟨rfl, rfl, rfl, by decide +kernel, rfl, by decide +kernel, by decide +kernel⟩
theorem ok_law {f C CB CU : Addr} {fd : FuncData} (TT : Txt mg) (T : MaT K mg C) (ic : PySem.W.isClsIn K C = true) (ty : PySem.W.typeIn K (.ref C) = some (.type "type")) (nf : PySem.W.subIn K (.type "list") (.ref C) = some false) (F : Fun K "law" "law" s_law f fd)
    (c_pool : Cl P w K mg base CX0 1 "_law_pool" spPool) (c_cell : Cl P w K mg base CX0 1 "_law_cell" (spCellL K)) (c_take : Cl P w K mg base CX0 1 "_law_take" spTake) (c_shape : Cl P w K mg base CX0 2 "_law_shape" spLshape) (c_made : Cl P w K mg base CX0 3 "_law_made" spLmade)
    (c_pairs : Cl P w K mg base CX0 8 "_law_pairs_fit" (spLpairs C)) (c_turned : Cl P w K mg base CX0 7 "_law_turned_fit" (spLturned C)) (c_parts : Cl P w K mg base CX0 7 "_law_parts_fit" (spLparts C)) (c_prd : Cl P w K mg base CX0 1 "_law_product" spLprd) (c_lis : Cl P w K mg base CX0 5 "_law_is" (spLism C K)) (c_ref : Cl P w K mg base CX0 5 "_law_refused" (spLrefm K))
    (c_mil : Ma P w K mg base 3 C (spMI C CB false K)) (c_mit : Ma P w K mg base 3 C (spMI C CB true K)) (c_mul : MeN P w K mg base 6 C "__mul__" (spMmul C CU K)) (c_eq : Me P w K mg base 1 C "__eq__" (spMeq C)) (c_eqX : Me P w K mg base 1 C "__eq__" (spMeqX C K)) :
    FnOk P w K mg base CX0 9 f fd ["_law_script"] (spLaw K) := by
  refine F.ok sc_law (fun vs H Q E h => ?_) (fun cdv A outer s H vs Q E hr h => ?_)
  · obtain ⟨a, ns, rfl, _⟩ := h
    rfl
  · obtain ⟨sc, ns, rfl, hS, hlen, q⟩ := h
    refine ⟨_, (Evl.pss_cut (ps_set (i := 1) sc_law.nd rfl (Or.inl rfl) (pe_cl c_pool hr (pa_cons (pe_cl c_cell hr (pa_cons (pv 0) (pa_cons pe_int pa_nil))) pa_nil)))
 (Evl.pss_cut (ps_asg (pe_cl c_shape hr (pa_cons (pv 1) pa_nil)) (pg_unl rfl (pgs_cons (pg_name (i := 2) sc_law.nd rfl (Or.inl rfl)) (pgs_cons (pg_name (i := 3) sc_law.nd rfl (Or.inl rfl)) pgs_nil))))
 (Evl.pss_cut (ps_set (i := 4) sc_law.nd rfl (Or.inl rfl) (pe_op op_add pe_int (pe_cl c_take hr (pa_cons (pv 1) (pa_cons pe_int pa_nil)))))
 (Evl.pss_cut (ps_set (i := 5) sc_law.nd rfl (Or.inl rfl) (pe_cl c_made hr (pa_cons (pe_cl c_pool hr (pa_cons (pe_cl c_cell hr (pa_cons (pv 0) (pa_cons pe_int pa_nil))) pa_nil)) (pa_cons (pv 2) (pa_cons (pv 3) pa_nil)))))
 (Evl.pss_cut (ps_set (i := 6) sc_law.nd rfl (Or.inl rfl) (pe_cl c_made hr (pa_cons (pe_cl c_pool hr (pa_cons (pe_cl c_cell hr (pa_cons (pv 0) (pa_cons pe_int pa_nil))) pa_nil)) (pa_cons (pv 2) (pa_cons (pv 3) pa_nil)))))
 (Evl.pss_cut (ps_set (i := 7) sc_law.nd rfl (Or.inl rfl) (pe_cl c_made hr (pa_cons (pe_cl c_pool hr (pa_cons (pe_cl c_cell hr (pa_cons (pv 0) (pa_cons pe_int pa_nil))) pa_nil)) (pa_cons (pv 3) (pa_cons (pv 4) pa_nil)))))
 (Evl.pss_cut (ps_setLc (i := 8) (own := [("_law_row", 9)]) (g := (gName 9)) (tt := tYes) rfl sc_law.nd rfl rfl (sw_true rfl rfl rfl (by decide +kernel)) (pi_list (pv 5)) (blkOk_by (N := ["_law_script", "_law_pool_here", "_law_height", "_law_width", "_law_depth", "_law_first", "_law_second", "_law_third", "_law_passed", "_law_row", "_law_one", "_law_two", "_law_last", "_law_n", "_law_turn", "_law_at"]) (sc := defScope s_law) (by decide +kernel)) (fun _ _ _ _ _ => (pg_name (i := 9) sc_law.nd rfl (Or.inl rfl))) (fun _ _ _ _ _ => pts_nil) (fun _ _ _ _ _ => (pe_callTy (call_list_ofK (K := K) rfl) (by rfl) TT.list boot_list (pa_cons (pv 9) pa_nil))))
 (Evl.pss_cut (ps_set (i := 10) sc_law.nd rfl (Or.inl rfl) (pe_ma c_mil hr T.g (pa_cons (pv 8) pa_nil)))
 (Evl.pss_cut (ps_if (pt_cmpR (op_neD (hu64 hr)) (pv 8) (pv 5) (nomark _)) (pss_one (ps_ret pe_bl)) pss_nil)
 (Evl.pss_cut (ps_asg (pe_op op_add (pe_ix ix_list (pe_ix ix_list (pv 8) pe_int (fun _ _ => rfl)) pe_int (fun _ _ => rfl)) pe_int) (pg_sub (pe_ix ix_list (pv 8) pe_int (fun _ _ => rfl)) pe_int set_list))
 (Evl.pss_cut (ps_set (i := 11) sc_law.nd rfl (Or.inl rfl) (pe_ma c_mit hr T.g (pa_cons (pe_tupleOf (by rfl) TT.tuple (pe_op op_cat (pe_lst (pa_cons (pe_tupleOf (by rfl) TT.tuple (pe_ix ix_list (pv 6) pe_int (fun _ _ => rfl))) pa_nil)) (pe_slice sl_list (pv 6) (po_some pe_int) po_none))) pa_nil)))
 (Evl.pss_cut (ps_set (i := 12) sc_law.nd rfl (Or.inl rfl) (pe_ma c_mil hr T.g (pa_cons (pe_lc (own := [("_law_row", 9)]) (g := (gName 9)) (tt := tYes) rfl sc_law.nd (pi_list (pv 7)) (blkOk_by (N := ["_law_script", "_law_pool_here", "_law_height", "_law_width", "_law_depth", "_law_first", "_law_second", "_law_third", "_law_passed", "_law_row", "_law_one", "_law_two", "_law_last", "_law_n", "_law_turn", "_law_at"]) (sc := defScope s_law) (by decide +kernel)) (fun _ _ _ _ _ => (pg_name (i := 9) sc_law.nd rfl (Or.inl rfl))) (fun _ _ _ _ _ => pts_nil) (fun _ _ _ _ _ => (pe_tupleOfK (K := K) rfl (by rfl) TT.tuple (pv 9)))) pa_nil)))
 (Evl.pss_cut (ps_set (i := 13) sc_law.nd rfl (Or.inl rfl) (pe_op op_sub (pe_cl c_take hr (pa_cons (pv 1) (pa_cons pe_int pa_nil))) pe_int))
 (Evl.pss_cut (ps_for PassesOwn.never rfl (pi_range1 rfl TT.range (pa_cons pe_int pa_nil)) (pg_name (i := 14) sc_law.nd rfl (Or.inl rfl)) (Evl.pss_cut (ps_if (pw_or (pt_not (pt_val (pe_cl c_pairs hr (pa_cons (pv 10) (pa_cons (pv 11) (pa_cons (pv 5) (pa_cons (pv 6) pa_nil))))))) (pw_or1 (pt_not (pt_val (pe_cl c_turned hr (pa_cons (pv 10) (pa_cons (pv 5) (pa_cons (pv 13) pa_nil)))))))).pt (pss_one (ps_ret pe_bl)) pss_nil)
 (pss_one (ps_if (pt_not (pt_val (pe_cl c_lis hr (pa_cons (pe_op (op_own2N c_mul hr T.sf) (pv 10) (pv 12)) (pa_cons (pe_cl c_prd hr (pa_cons (pv 5) (pa_cons (pv 7) pa_nil))) pa_nil))))) (pss_one (ps_ret pe_bl)) pss_nil))))
 (Evl.pss_cut (ps_if (pw_or (pt_not (pt_val (pe_cl c_parts hr (pa_cons (pv 1) (pa_cons (pv 10) (pa_cons (pv 5) (pa_cons (pv 13) pa_nil))))))) (pw_or1 (pt_cmpR (op_eq_ownX c_eqX hr) (pv 10) (pv 5) (nomark _)))).pt (pss_one (ps_ret pe_bl)) pss_nil)
 (Evl.pss_cut (ps_if (pw_or (pt_cmpR op_ne (pe_cmpR (op_eq_own c_eq hr) (pv 10) (pv 11) (nomark _)) (pe_cmpR (op_eqD (hu64 hr)) (pv 5) (pv 6) (nomark _)) (nomark _)) (pw_or1 (pt_not (pt_val (pe_cl c_lis hr (pa_cons (pv 10) (pa_cons (pv 5) pa_nil))))))).pt (pss_one (ps_ret pe_bl)) pss_nil)
 (Evl.pss_cut (ps_if (pw_or (pt_not (pt_val (pe_cl c_lis hr (pa_cons (pv 11) (pa_cons (pv 6) pa_nil))))) (pw_or1 (pt_not (pt_val (pe_cl c_lis hr (pa_cons (pv 12) (pa_cons (pv 7) pa_nil))))))).pt (pss_one (ps_ret pe_bl)) pss_nil)
 (Evl.pss_cut (ps_set (i := 15) sc_law.nd rfl (Or.inl rfl) (pe_op op_add pe_int (pe_cl c_take hr (pa_cons (pv 1) (pa_cons pe_int pa_nil)))))
 (Evl.pss_cut (ps_if (pt_cmpR op_ne (pe_cl c_ref hr (pa_cons (pe_op op_cat (pe_op op_rep (pe_lst (pa_cons (pe_lst (pa_cons pe_int (pa_cons pe_int pa_nil))) pa_nil)) (pv 15)) (pe_lst (pa_cons (pe_lst (pa_cons pe_int (pa_cons pe_int (pa_cons pe_int pa_nil)))) (pa_cons (pe_lst (pa_cons pe_int pa_nil)) pa_nil)))) pa_nil)) (pv 15) (nomark _)) (pss_one (ps_ret pe_bl)) pss_nil)
 (pss_one (ps_ret (pe_cmpR op_eq (pe_cl c_ref hr (pa_cons (pe_op op_cat (pe_op op_rep (pe_lst (pa_cons (pe_lst (pa_cons pe_int (pa_cons pe_int pa_nil))) pa_nil)) (pv 15)) (pe_lst (pa_cons (pe_lst (pa_cons pe_int pa_nil)) (pa_cons (pe_lst (pa_cons pe_int (pa_cons pe_int pa_nil))) pa_nil)))) pa_nil)) (pv 15) (nomark _))))))))))))))))))))))), ?_⟩
    -- pool
    refine ⟨fun σ H' => ∃ p, H p = none ∧ Same H H' ∧ PoolAt H' p ∧ σ = [some (.ref sc), some (.ref p), none, none, none, none, none, none, none, none, none, none, none, none, none, none], ?_, ?_⟩
    · exact ⟨_, rfl, sc, ns, 0, rfl, hS, fun c => ⟨c, rfl, fun p H' np s' P' => ⟨p, np, s', P', rfl⟩⟩⟩
    rintro σ H1 ⟨p, np, s1, P1, rfl⟩
    -- shape
    refine ⟨fun σ H' => ∃ h w : Nat, Same H H' ∧ PoolAt H' p ∧ 1 ≤ h ∧ h ≤ 4 ∧ 1 ≤ w ∧ w ≤ 4 ∧ σ = [some (.ref sc), some (.ref p), some (.int (h : Int)), some (.int (w : Int)), none, none, none, none, none, none, none, none, none, none, none, none], ?_, ?_⟩
    · refine ⟨_, rfl, p, rfl, P1, fun r h w H2 b2 P2 rp nr hr h1 h4 w1 w4 => ?_⟩
      exact ⟨r, _, rfl, SqL.of hr, rfl, _, _, rfl, _, _, rfl, rfl, h, w, same_via np s1 b2, P2, h1, h4, w1, w4, rfl⟩
    rintro σ H2 ⟨h, w, s2, P2, h1, h4, w1, w4, rfl⟩
    -- depth
    refine ⟨fun σ H' => ∃ d : Nat, Same H H' ∧ PoolAt H' p ∧ 1 ≤ d ∧ d ≤ 4 ∧ σ = [some (.ref sc), some (.ref p), some (.int (h : Int)), some (.int (w : Int)), some (.int (d : Int)), none, none, none, none, none, none, none, none, none, none, none], ?_, ?_⟩
    · refine ⟨_, rfl, p, 4, rfl, P2, by decide, by decide, fun u H3 u0 u1 e3 P3 => ⟨_, _, rfl, rfl, (1 + u).toNat, same_via np s2 (SameBut.of e3), P3, by omega, by omega, ?_⟩⟩
      rw [Int.toNat_of_nonneg (show 0 ≤ 1 + u by omega)]
      rfl
    rintro σ H3 ⟨d, s3, P3, d1, d4, rfl⟩
    -- first
    refine ⟨fun σ H' => ∃ (D1 : Addr) (f : Nat → Nat → Int), Same H3 H' ∧ PoolAt H' p ∧ LM H' D1 h w f ∧ (∀ i k, i < h → k < w → (f i k).natAbs ≤ 10 ^ 30) ∧ σ = [some (.ref sc), some (.ref p), some (.int (h : Int)), some (.int (w : Int)), some (.int (d : Int)), some (.ref D1), none, none, none, none, none, none, none, none, none, none], ?_, ?_⟩
    · refine ⟨_, rfl, sc, ns, 1, rfl, s3.seq hS, fun c => ⟨c, rfl, fun p1 Ha n1 sa Pa => ⟨_, rfl, _, rfl, p1, h, w, rfl, Pa, h1, by omega, w1, by omega, fun D acc Hb bb Pb nD Dp hl L => ?_⟩⟩⟩
      obtain ⟨f, lm, bd⟩ := LM.of_lr L
      rw [hl] at lm bd
      exact ⟨D, f, same_via n1 sa bb, P3.same (same_via n1 sa bb), lm, bd, rfl⟩
    rintro σ H4 ⟨D1, f1, t4, P4, m1, bd1, rfl⟩
    have s4 := s3.trans t4
    -- second
    refine ⟨fun σ H' => ∃ (D2 : Addr) (f : Nat → Nat → Int), Same H4 H' ∧ PoolAt H' p ∧ LM H' D2 h w f ∧ (∀ i k, i < h → k < w → (f i k).natAbs ≤ 10 ^ 30) ∧ σ = [some (.ref sc), some (.ref p), some (.int (h : Int)), some (.int (w : Int)), some (.int (d : Int)), some (.ref D1), some (.ref D2), none, none, none, none, none, none, none, none, none], ?_, ?_⟩
    · refine ⟨_, rfl, sc, ns, 2, rfl, s4.seq hS, fun c => ⟨c, rfl, fun p1 Ha n1 sa Pa => ⟨_, rfl, _, rfl, p1, h, w, rfl, Pa, h1, by omega, w1, by omega, fun D acc Hb bb Pb nD Dp hl L => ?_⟩⟩⟩
      obtain ⟨f, lm, bd⟩ := LM.of_lr L
      rw [hl] at lm bd
      exact ⟨D, f, same_via n1 sa bb, P4.same (same_via n1 sa bb), lm, bd, rfl⟩
    rintro σ H5 ⟨D2, f2, t5, P5, m2, bd2, rfl⟩
    have s5 := s4.trans t5
    replace m1 := m1.same t5
    -- third
    refine ⟨fun σ H' => ∃ (D3 : Addr) (f : Nat → Nat → Int), Same H5 H' ∧ PoolAt H' p ∧ LM H' D3 w d f ∧ (∀ i k, i < w → k < d → (f i k).natAbs ≤ 10 ^ 30) ∧ σ = [some (.ref sc), some (.ref p), some (.int (h : Int)), some (.int (w : Int)), some (.int (d : Int)), some (.ref D1), some (.ref D2), some (.ref D3), none, none, none, none, none, none, none, none], ?_, ?_⟩
    · refine ⟨_, rfl, sc, ns, 3, rfl, s5.seq hS, fun c => ⟨c, rfl, fun p1 Ha n1 sa Pa => ⟨_, rfl, _, rfl, p1, w, d, rfl, Pa, w1, by omega, d1, by omega, fun D acc Hb bb Pb nD Dp hl L => ?_⟩⟩⟩
      obtain ⟨f, lm, bd⟩ := LM.of_lr L
      rw [hl] at lm bd
      exact ⟨D, f, same_via n1 sa bb, P5.same (same_via n1 sa bb), lm, bd, rfl⟩
    rintro σ H6 ⟨D3, f3, t6, P6, m3, bd3, rfl⟩
    have s6 := s5.trans t6
    replace m1 := m1.same t6
    replace m2 := m2.same t6
    obtain ⟨us1, a1, l1, ri1, k1⟩ := m1.rowsIn
    obtain ⟨us2, a2, l2, ri2, k2⟩ := m2.rowsIn
    obtain ⟨us3, a3, l3, ri3, k3⟩ := m3.rowsIn
    -- passed
    refine ⟨fun σ H' => ∃ E, H6 E = none ∧ PvD H6 E w f1 h H' ∧ σ = [some (.ref sc), some (.ref p), some (.int (h : Int)), some (.int (w : Int)), some (.int (d : Int)), some (.ref D1), some (.ref D2), some (.ref D3), some (.ref E), none, none, none, none, none, none, none], ?_, ?_⟩
    · refine ⟨_, rfl, D1, rfl, ⟨_, SqL.of a1⟩, fun E nE => lcD walk_list w f1 nE (fun H s => SqL.of (s _ _ a1)) ?_ ?_⟩
      · rintro i v H7 _ hi p7 ⟨rfl, hv⟩
        rw [l1] at hi
        obtain ⟨q1, e1, c1⟩ := k1 i hi
        obtain rfl := Option.some.inj (hv.symm.trans e1)
        refine ⟨rfl, _, rfl, q1, _, rfl, .inl (SqL.of (p7.1 _ _ c1)), fun l nl => ?_⟩
        exact dEnd nE p7 (same_upd nl) (by omega) nl upd_same
      · intro H7 pv
        rw [l1] at pv
        exact ⟨E, nE, pv, rfl⟩
    rintro σ H7 ⟨E, nE, ⟨s67, acc, hE, hlE, nd, nEm, fr, rows⟩, rfl⟩
    have mE : LM H7 E h w f1 := ⟨_, hE, by rw [List.length_map, hlE], fun i hi => ⟨acc[i], map_at (f := V.ref) (List.getElem?_eq_getElem (by omega)), rows i _ (List.getElem?_eq_getElem (by omega))⟩⟩
    obtain ⟨usE, aE, lE, riE, kE⟩ := mE.rowsIn
    -- one
    refine ⟨fun σ H' => ∃ o1, Same H7 H' ∧ MatAt C H' o1 h w f1 ∧ σ = [some (.ref sc), some (.ref p), some (.int (h : Int)), some (.int (w : Int)), some (.int (d : Int)), some (.ref D1), some (.ref D2), some (.ref D3), some (.ref E), none, some (.ref o1), none, none, none, none, none], ?_, ?_⟩
    · exact ⟨_, rfl, fun x dx nx ndx _ => make_maA (tup := false) nx ndx (SqL.of aE) riE h1 (by omega) w1 (by omega) fun H8 mo s8 => ⟨rfl, x, s8, mo, rfl⟩⟩
    rintro σ H8 ⟨o1, s78, mo1, rfl⟩
    have s68 := s67.trans s78
    -- passed stays
    refine ⟨fun σ H' => H8 = H' ∧ σ = [some (.ref sc), some (.ref p), some (.int (h : Int)), some (.int (w : Int)), some (.int (d : Int)), some (.ref D1), some (.ref D2), some (.ref D3), some (.ref E), none, some (.ref o1), none, none, none, none, none], ?_, ?_⟩
    · refine ⟨_, rfl, _, rfl, _, _, (mE.same s78).dp, (m1.same s68).dp, shaped_rowsL _, shaped_rowsL _, _, rfl, ?_⟩
      rw [eqv_rowsL]
      exact if_neg_of (by simp) ⟨rfl, rfl⟩
    rintro σ _ ⟨rfl, rfl⟩
    -- passed changes
    have ha0 : acc[0]? = some acc[0] := List.getElem?_eq_getElem (by omega)
    have mem0 : acc[0] ∈ acc := List.getElem_mem (by omega)
    have g0 := s78 _ _ (rows 0 _ ha0)
    refine ⟨fun σ H' => Same H6 H' ∧ MatAt C H' o1 h w f1 ∧ σ = [some (.ref sc), some (.ref p), some (.int (h : Int)), some (.int (w : Int)), some (.int (d : Int)), some (.ref D1), some (.ref D2), some (.ref D3), some (.ref E), none, some (.ref o1), none, none, none, none, none], ?_, ?_⟩
    · refine ⟨_, rfl, E, _, _, _, rfl, rfl, SqL.of (s78 _ _ hE), atI_nat (j := 0) (map_at (f := V.ref) ha0), acc[0], _, _, _, rfl, rfl, SqL.of g0, atI_nat (j := 0) (map_at (f := V.int) (rngN_at (show 0 < w by omega))), _, _, rfl, rfl, ?_⟩
      refine ⟨_, rfl, E, _, _, _, rfl, rfl, SqL.of (s78 _ _ hE), atI_nat (j := 0) (map_at (f := V.ref) ha0), acc[0], _, _, 0, rfl, rfl, g0, Evl.ixN_nat (j := 0) (by rw [List.length_map, rngN_len]; omega), ?_⟩
      refine ⟨fun x o hx => ?_, ?_, rfl⟩
      · rw [upd_ne (ne_of_none hx (fr _ mem0))]
        exact s68 _ _ hx
      · obtain ⟨dx, t, vs, z1, z2, z3, z4⟩ := mo1.ob
        refine ⟨⟨dx, t, vs, ?_, ?_, z3, fun i hi => ?_⟩, mo1.h1, mo1.h2, mo1.w1, mo1.w2⟩
        · rw [upd_ne (fun e => by rw [e, g0] at z1; cases z1)]
          exact z1
        · rw [upd_ne (fun e => by rw [e, g0] at z2; cases z2)]
          exact z2
        · obtain ⟨q, y1, y2⟩ := z4 i hi
          refine ⟨q, y1, ?_⟩
          rw [upd_ne (fun e => by rw [e, g0] at y2; cases y2)]
          exact y2
    rintro σ H9 ⟨s69, mo1', rfl⟩
    clear mo1
    have mo1 := mo1'
    replace m1 := m1.same s69
    replace m2 := m2.same s69
    replace m3 := m3.same s69
    have P9 := P6.same s69
    -- two
    refine ⟨fun σ H' => ∃ o2, Same H9 H' ∧ MatAt C H' o2 h w f2 ∧ σ = [some (.ref sc), some (.ref p), some (.int (h : Int)), some (.int (w : Int)), some (.int (d : Int)), some (.ref D1), some (.ref D2), some (.ref D3), some (.ref E), none, some (.ref o1), some (.ref o2), none, none, none, none], ?_, ?_⟩
    · obtain ⟨q0, e0, c0⟩ := k2 0 (by omega)
      refine ⟨_, rfl, D2, _, _, _, rfl, rfl, SqL.of (s69 _ _ a2), atI_nat (j := 0) e0, .inl ⟨q0, _, rfl, SqL.of (s69 _ _ c0), fun t nt => ⟨(by show 1 ≤ sizeLine; decide), fun l nl => ?_⟩⟩⟩
      have kt := same_upd (o := .tup ((rngN w (f2 0)).map V.int)) nt
      have kl := same_upd (o := .lst [.ref t]) nl
      refine ⟨_, rfl, _, rfl, D2, _, rfl, SqL.of (kl _ _ (kt _ _ (s69 _ _ a2))), fun m nm => ?_⟩
      rw [cut_drop1]
      have km := same_upd (o := .lst (us2.drop 1)) nm
      refine ⟨l, m, _, _, rfl, rfl, km _ _ upd_same, upd_same, (by show 1 + (us2.drop 1).length ≤ sizeLine; rw [List.length_drop, l2, sizeLine_eq]; omega), fun n nn => ?_⟩
      have kn := same_upd (o := .lst ([.ref t] ++ us2.drop 1)) nn
      refine .inl ⟨n, _, rfl, SqL.of upd_same, fun z nz => ?_⟩
      have kz := same_upd (o := .tup ([.ref t] ++ us2.drop 1)) nz
      have kk := kl.trans (km.trans (kn.trans kz))
      refine fun x dx nx ndx _ => make_maA (tup := true) (h := h) (w := w) (f := f2) nx ndx (SqT.of upd_same) ⟨?_, fun i r hr => ?_⟩ h1 (by omega) w1 (by omega) fun H10 mo s10 => ⟨rfl, x, kt.trans (kk.trans s10), mo, rfl⟩
      · rw [mrows_len]
        rw [List.length_append, List.length_drop, l2]
        show 1 + (h - 1) = h
        omega
      · have hi : i < h := by
          have := (List.getElem?_eq_some_iff.mp hr).1
          rw [mrows_len] at this
          exact this
        rw [mrows_at hi] at hr
        obtain rfl := Option.some.inj hr
        match i, hi with
        | 0, _ => exact ⟨.ref t, rfl, t, rfl, .inr (kk _ _ upd_same)⟩
        | i + 1, hi =>
          obtain ⟨q, e1, c1⟩ := k2 (i + 1) hi
          refine ⟨.ref q, ?_, q, rfl, .inl (kk _ _ (kt _ _ (s69 _ _ c1)))⟩
          show (us2.drop 1)[i]? = _
          rw [List.getElem?_drop, Nat.add_comm]
          exact e1
    rintro σ H10 ⟨o2, s910, mo2, rfl⟩
    replace mo1 := mo1.same s910
    have s610 := s69.trans s910
    -- last
    refine ⟨fun σ H' => ∃ o3, Same H10 H' ∧ MatAt C H' o3 w d f3 ∧ σ = [some (.ref sc), some (.ref p), some (.int (h : Int)), some (.int (w : Int)), some (.int (d : Int)), some (.ref D1), some (.ref D2), some (.ref D3), some (.ref E), none, some (.ref o1), some (.ref o2), some (.ref o3), none, none, none], ?_, ?_⟩
    · refine ⟨_, rfl, D3, rfl, ⟨_, SqL.of (s610 _ _ a3)⟩, fun D nD => lcObj walk_list (RT fun i => rngN d (f3 i)) nD (fun H s => SqL.of (s _ _ (s610 _ _ a3))) ?_ ?_⟩
      · rintro i v H11 _ hi p2 ⟨rfl, hv⟩
        rw [l3] at hi
        obtain ⟨q1, e1, c1⟩ := k3 i hi
        obtain rfl := Option.some.inj (hv.symm.trans e1)
        obtain ⟨ac, hacc, _⟩ := p2.2
        refine ⟨rfl, _, rfl, .inl ⟨q1, _, rfl, SqL.of (p2.1 _ _ (s610 _ _ c1)), fun t nt => ?_⟩⟩
        exact objEnd stab_RT nD p2 (same_upd nt) (by omega) (ref_ne nt hacc) ⟨t, rfl, upd_same⟩
      · intro H11 ac s11 hacc hl hel
        exact fun x dx nx ndx _ => make_maA (tup := false) nx ndx (SqL.of hacc) (rows_ofT (by rw [hl, l3]) hel) w1 (by omega) d1 (by omega) fun H12 mr s12 => ⟨rfl, x, s11.trans s12, mr, rfl⟩
    rintro σ H11 ⟨o3, s1011, mo3, rfl⟩
    have s911 := s910.trans s1011
    replace mo1 := mo1.same s1011
    replace mo2 := mo2.same s1011
    replace m1 := m1.same s911
    replace m2 := m2.same s911
    replace m3 := m3.same s911
    have P11 := P9.same s911
    have s611 := s610.trans s1011
    -- n
    refine ⟨fun σ H' => ∃ n : Int, SameBut p H11 H' ∧ PoolAt H' p ∧ n.natAbs ≤ 20 ∧ σ = [some (.ref sc), some (.ref p), some (.int (h : Int)), some (.int (w : Int)), some (.int (d : Int)), some (.ref D1), some (.ref D2), some (.ref D3), some (.ref E), none, some (.ref o1), some (.ref o2), some (.ref o3), some (.int n), none, none], ?_, ?_⟩
    · exact ⟨_, rfl, p, 41, rfl, P11, by decide, by decide, fun u H12 u0 u1 e12 P12 => ⟨_, _, rfl, rfl, u - 20, SameBut.of e12, P12, by omega, rfl⟩⟩
    rintro σ H12 ⟨n, b12, P12, hn, rfl⟩
    replace mo1 := mo1.but P11 b12
    replace mo2 := mo2.but P11 b12
    replace mo3 := mo3.but P11 b12
    replace m1 := m1.but h1 P11 b12
    replace m2 := m2.but h1 P11 b12
    replace m3 := m3.but w1 P11 b12
    -- the turns
    refine ⟨fun σ H' => Same H12 H' ∧ ∃ x14, σ = [some (.ref sc), some (.ref p), some (.int (h : Int)), some (.int (w : Int)), some (.int (d : Int)), some (.ref D1), some (.ref D2), some (.ref D3), some (.ref E), none, some (.ref o1), some (.ref o2), some (.ref o3), some (.int n), x14, none], ?_, ?_⟩
    · refine ⟨2, rfl, by decide, by decide, for_range (lo := 0) (n := 2) (fun _ σ H' => Same H12 H' ∧ ∃ x14, σ = [some (.ref sc), some (.ref p), some (.int (h : Int)), some (.int (w : Int)), some (.int (d : Int)), some (.ref D1), some (.ref D2), some (.ref D3), some (.ref E), none, some (.ref o1), some (.ref o2), some (.ref o3), some (.int n), x14, none]) ⟨Same.refl _, _, rfl⟩ ?_ ?_⟩
      · rintro i σ H13 hi ⟨s13, x14, rfl⟩
        refine ⟨fun σ H' => Same H12 H' ∧ ∃ x14, σ = [some (.ref sc), some (.ref p), some (.int (h : Int)), some (.int (w : Int)), some (.int (d : Int)), some (.ref D1), some (.ref D2), some (.ref D3), some (.ref E), none, some (.ref o1), some (.ref o2), some (.ref o3), some (.int n), x14, none], ?_, ?_⟩
        · refine ⟨_, rfl, _, rfl, _, rfl, _, rfl, o1, o2, D1, D2, h, w, f1, f2, rfl, mo1.same s13, mo2.same s13, m1.same s13, m2.same s13, by omega, fun H14 s14 => ⟨_, rfl, iteF ?_⟩⟩
          have s1 := s13.trans s14
          exact ⟨_, rfl, _, rfl, _, rfl, o1, D1, n, h, w, f1, rfl, mo1.same s1, m1.same s1, by omega, fun H15 s15 => ⟨_, rfl, if_neg_of rfl ⟨s1.trans s15, _, rfl⟩⟩⟩
        rintro σ H14 ⟨s14, x14, rfl⟩
        have M1 := mo1.same s14
        have M3 := mo3.same s14
        obtain ⟨da, ta, va, oa, _⟩ := M1.ob
        obtain ⟨db, tb, vb, ob, _⟩ := M3.ob
        have cm : ∀ i k j, i < h → k < w → j < d → CMulW (f1 i k) (f3 k j) := fun i k j hi hk hj => mulw_small (bd1 i k hi hk) (bd3 k j hk hj)
        refine ⟨_, rfl, _, rfl, o1, o3, da, db, _, _, rfl, rfl, oa, ob, o1, o3, h, w, w, d, f1, f3, rfl, M1, M3, fun c => absurd rfl c, fun _ => ⟨fun i j k hi hj hk => cm i k j hi hk hj, fun z H15 mz s15 => ?_⟩⟩
        refine ⟨_, rfl, _, rfl, D1, D3, h, w, d, f1, f3, rfl, (m1.same s14).same s15, (m3.same s14).same s15, w1, by omega, by omega, by omega, cm, fun r H16 s16 mr => ?_⟩
        obtain ⟨us, aus, lus, rus, _⟩ := mr.rowsIn
        exact ⟨z, r, us, h, d, _, rfl, mz.same s16, SqL.of aus, rus, fun H17 s17 => ⟨_, rfl, if_neg_of rfl ⟨s14.trans (s15.trans (s16.trans s17)), _, rfl⟩⟩⟩
      · exact fun σ H13 hh => hh
    rintro σ H13 ⟨s13, x14, rfl⟩
    have P13 := P12.same s13
    -- parts
    refine ⟨fun σ H' => SameBut p H13 H' ∧ PoolAt H' p ∧ σ = [some (.ref sc), some (.ref p), some (.int (h : Int)), some (.int (w : Int)), some (.int (d : Int)), some (.ref D1), some (.ref D2), some (.ref D3), some (.ref E), none, some (.ref o1), some (.ref o2), some (.ref o3), some (.int n), x14, none], ?_, ?_⟩
    · refine ⟨_, rfl, _, rfl, _, rfl, _, rfl, p, o1, D1, n, h, w, f1, rfl, P13, mo1.same s13, m1.same s13, by omega, by omega, fun H14 b14 P14 => ⟨_, rfl, iteF ?_⟩⟩
      obtain ⟨u1, b1, _⟩ := ((m1.same s13).but h1 P13 b14).rowsIn
      exact ⟨_, rfl, _, rfl, useMeqX ic ty ((mo1.same s13).but P13 b14) (.lst b1) nf ⟨_, rfl, if_neg_of rfl ⟨b14, P14, rfl⟩⟩⟩
    rintro σ H14 ⟨b14, P14, rfl⟩
    replace mo1 := (mo1.same s13).but P13 b14
    replace mo2 := (mo2.same s13).but P13 b14
    replace mo3 := (mo3.same s13).but P13 b14
    replace m1 := (m1.same s13).but h1 P13 b14
    replace m2 := (m2.same s13).but h1 P13 b14
    replace m3 := (m3.same s13).but w1 P13 b14
    -- equal
    refine ⟨fun σ H' => Same H14 H' ∧ σ = [some (.ref sc), some (.ref p), some (.int (h : Int)), some (.int (w : Int)), some (.int (d : Int)), some (.ref D1), some (.ref D2), some (.ref D3), some (.ref E), none, some (.ref o1), some (.ref o2), some (.ref o3), some (.int n), x14, none], ?_, ?_⟩
    · obtain ⟨da, ta, va, oa, _⟩ := mo1.ob
      obtain ⟨db, tb, vb, ob, _⟩ := mo2.ob
      refine ⟨_, rfl, _, rfl, o1, o2, _, _, _, _, rfl, rfl, oa, ob, o1, o2, h, w, h, w, f1, f2, rfl, mo1, mo2, ?_⟩
      refine ⟨_, rfl, _, rfl, _, _, m1.dp, m2.dp, shaped_rowsL _, shaped_rowsL _, ?_⟩
      rw [eqv_rowsL]
      refine ⟨rfl, _, rfl, if_neg_of (by simp) ?_⟩
      · obtain ⟨u1, b1, _, r1, _⟩ := m1.rowsIn
        exact ⟨_, rfl, _, rfl, o1, D1, u1, h, w, f1, rfl, mo1, SqL.of b1, r1, fun H15 s15 => ⟨_, rfl, if_neg_of rfl ⟨s15, rfl⟩⟩⟩
    rintro σ H15 ⟨s15, rfl⟩
    refine ⟨fun σ H' => Same H14 H' ∧ σ = [some (.ref sc), some (.ref p), some (.int (h : Int)), some (.int (w : Int)), some (.int (d : Int)), some (.ref D1), some (.ref D2), some (.ref D3), some (.ref E), none, some (.ref o1), some (.ref o2), some (.ref o3), some (.int n), x14, none], ?_, ?_⟩
    · obtain ⟨u1, b1, _, r1, _⟩ := (m2.same s15).rowsIn
      refine ⟨_, rfl, _, rfl, o2, D2, u1, h, w, f2, rfl, mo2.same s15, SqL.of b1, r1, fun H16 s16 => ⟨_, rfl, iteF ?_⟩⟩
      have s2 := s15.trans s16
      obtain ⟨u3, b3, _, r3, _⟩ := (m3.same s2).rowsIn
      exact ⟨_, rfl, _, rfl, o3, D3, u3, w, d, f3, rfl, mo3.same s2, SqL.of b3, r3, fun H17 s17 => ⟨_, rfl, if_neg_of rfl ⟨s2.trans s17, rfl⟩⟩⟩
    rintro σ H16 ⟨s16, rfl⟩
    have P16 := P14.same s16
    -- at
    refine ⟨fun σ H' => ∃ z : Nat, 1 ≤ z ∧ z ≤ 3 ∧ σ = [some (.ref sc), some (.ref p), some (.int (h : Int)), some (.int (w : Int)), some (.int (d : Int)), some (.ref D1), some (.ref D2), some (.ref D3), some (.ref E), none, some (.ref o1), some (.ref o2), some (.ref o3), some (.int n), x14, some (.int (z : Int))], ?_, ?_⟩
    · refine ⟨_, rfl, p, 3, rfl, P16, by decide, by decide, fun u H17 u0 u1 e17 P17 => ⟨_, _, rfl, rfl, (1 + u).toNat, by omega, by omega, ?_⟩⟩
      rw [Int.toNat_of_nonneg (show 0 ≤ 1 + u by omega)]
      rfl
    rintro σ H17 ⟨z, z1, z3, rfl⟩
    have bad : ∀ (r1 r2 : List Int), r1.length ≠ 2 → r1.length ≤ 40 → r2.length ≤ 40 → ∀ (G : Hp) (q1 q2 q0 : Addr), G q0 = some (.lst (([1, 2] : List Int).map V.int)) → G q1 = some (.lst (r1.map V.int)) → G q2 = some (.lst (r2.map V.int)) →
        RowsIn G (List.replicate z (V.ref q0) ++ [.ref q1, .ref q2]) (List.replicate z [1, 2] ++ [r1, r2]) ∧ 1 ≤ (List.replicate z ([1, 2] : List Int) ++ [r1, r2]).length ∧ (List.replicate z ([1, 2] : List Int) ++ [r1, r2]).length ≤ 40 ∧ (∀ i, i < (List.replicate z ([1, 2] : List Int) ++ [r1, r2]).length → lenAt (List.replicate z [1, 2] ++ [r1, r2]) i ≤ 40) ∧
        1 ≤ lenAt (List.replicate z [1, 2] ++ [r1, r2]) 0 ∧ z < (List.replicate z ([1, 2] : List Int) ++ [r1, r2]).length ∧ lenAt (List.replicate z [1, 2] ++ [r1, r2]) z ≠ lenAt (List.replicate z [1, 2] ++ [r1, r2]) 0 ∧ ∀ j, j < z → lenAt (List.replicate z [1, 2] ++ [r1, r2]) j = lenAt (List.replicate z [1, 2] ++ [r1, r2]) 0 := fun r1 r2 ne b1 b2 G q1 q2 q0 h0 h1 h2 => by
      have hz : lenAt (List.replicate z [1, 2] ++ [r1, r2]) 0 = 2 := lenAt_rep (by omega) _ _ _
      have hl : (List.replicate z ([1, 2] : List Int) ++ [r1, r2]).length = z + 2 := by simp
      refine ⟨rows_bad z h0 h1 h2, by omega, by omega, fun i hi => ?_, by rw [hz]; decide, by omega, by rw [hz, lenAt_rep1]; exact ne, fun j hj => by rw [hz, lenAt_rep hj]; rfl⟩
      rw [hl] at hi
      by_cases c : i < z
      · rw [lenAt_rep c]
        decide
      · by_cases d : i = z
        · rw [d, lenAt_rep1]
          exact b1
        · rw [show i = z + 1 by omega, lenAt_rep2]
          exact b2
    -- the first list
    refine ⟨fun σ H' => σ = [some (.ref sc), some (.ref p), some (.int (h : Int)), some (.int (w : Int)), some (.int (d : Int)), some (.ref D1), some (.ref D2), some (.ref D3), some (.ref E), none, some (.ref o1), some (.ref o2), some (.ref o3), some (.int n), x14, some (.int (z : Int))], ?_, ?_⟩
    · refine ⟨(by show 2 ≤ sizeLine; decide), fun q0 n0 => ⟨(by show 1 ≤ sizeLine; decide), fun l nl => ?_⟩⟩
      have k0 := same_upd (o := .lst [.int 1, .int 2]) n0
      have kl := same_upd (o := .lst [.ref q0]) nl
      refine ⟨_, rfl, l, _, _, rfl, rfl, upd_same, by omega, by omega, (by show 1 * ((z : Int)).toNat ≤ sizeLine; rw [sizeLine_eq]; omega), fun m nm => ?_⟩
      rw [flat_rep, Int.toNat_natCast]
      have km := same_upd (o := .lst (List.replicate z (V.ref q0))) nm
      refine ⟨(by show 3 ≤ sizeLine; decide), fun q1 n1 => ⟨(by show 1 ≤ sizeLine; decide), fun q2 n2 => ⟨(by show 2 ≤ sizeLine; decide), fun l2 nl2 => ?_⟩⟩⟩
      have k1 := same_upd (o := .lst [.int 1, .int 2, .int 3]) n1
      have k2 := same_upd (o := .lst [.int 4]) n2
      have k3 := same_upd (o := .lst [.ref q1, .ref q2]) nl2
      refine ⟨m, l2, _, _, rfl, rfl, (k1.trans (k2.trans k3)) _ _ upd_same, upd_same, (by rw [List.length_replicate, sizeLine_eq]; show z + 2 ≤ _; omega), fun n nn => ?_⟩
      have kn := same_upd (o := .lst (List.replicate z (V.ref q0) ++ [.ref q1, .ref q2])) nn
      obtain ⟨b1, b2, b3, b4, b5, b6, b7, b8⟩ := bad [1, 2, 3] [4] (by decide) (by decide) (by decide) _ q1 q2 q0 ((kl.trans (km.trans (k1.trans (k2.trans (k3.trans kn))))) _ _ upd_same) ((k2.trans (k3.trans kn)) _ _ upd_same) ((k3.trans kn) _ _ upd_same)
      exact ⟨n, _, _, z, rfl, SqL.of upd_same, b1, b2, b3, b4, b5, b6, b7, b8, fun H' _ => ⟨_, rfl, rfl, _, rfl, if_neg_of (by simp) rfl⟩⟩
    rintro σ H18 rfl
    refine ⟨(by show 2 ≤ sizeLine; decide), fun q0 n0 => ⟨(by show 1 ≤ sizeLine; decide), fun l nl => ?_⟩⟩
    have k0 := same_upd (o := .lst [.int 1, .int 2]) n0
    have kl := same_upd (o := .lst [.ref q0]) nl
    refine ⟨_, rfl, l, _, _, rfl, rfl, upd_same, by omega, by omega, (by show 1 * ((z : Int)).toNat ≤ sizeLine; rw [sizeLine_eq]; omega), fun m nm => ?_⟩
    rw [flat_rep, Int.toNat_natCast]
    have km := same_upd (o := .lst (List.replicate z (V.ref q0))) nm
    refine ⟨(by show 1 ≤ sizeLine; decide), fun q1 n1 => ⟨(by show 2 ≤ sizeLine; decide), fun q2 n2 => ⟨(by show 2 ≤ sizeLine; decide), fun l2 nl2 => ?_⟩⟩⟩
    have k1 := same_upd (o := .lst [.int 1]) n1
    have k2 := same_upd (o := .lst [.int 1, .int 2]) n2
    have k3 := same_upd (o := .lst [.ref q1, .ref q2]) nl2
    refine ⟨m, l2, _, _, rfl, rfl, (k1.trans (k2.trans k3)) _ _ upd_same, upd_same, (by rw [List.length_replicate, sizeLine_eq]; show z + 2 ≤ _; omega), fun n nn => ?_⟩
    have kn := same_upd (o := .lst (List.replicate z (V.ref q0) ++ [.ref q1, .ref q2])) nn
    obtain ⟨b1, b2, b3, b4, b5, b6, b7, b8⟩ := bad [1] [1, 2] (by decide) (by decide) (by decide) _ q1 q2 q0 ((kl.trans (km.trans (k1.trans (k2.trans (k3.trans kn))))) _ _ upd_same) ((k2.trans (k3.trans kn)) _ _ upd_same) ((k3.trans kn) _ _ upd_same)
    refine ⟨n, _, _, z, rfl, SqL.of upd_same, b1, b2, b3, b4, b5, b6, b7, b8, fun H' _ => ⟨_, rfl, ?_⟩⟩
    refine ⟨rfl, ?_⟩
    rw [decide_eq_true rfl]
    exact q H'
-- part exct
/-! what is told of an own error class that stands directly below FieldError -/
structure ExcT (K : PySem.W.Frag) (CF C : Addr) : Prop where
  xC : ∃ nm q N bs sn sb ab co dd x0 x1 x2 x3 x5, K.lookup C = some (excClassObj nm q C N bs [.ref CF, .type "ValueError", .type "Exception", .type "BaseException", .type "object"] true sn sb ab co dd x0 x1 x2 x3 x5 "ValueError.__new__")
  sa : PySem.W.findIn K (.ref C) "__setattr__" = some (some (.builtin "object.__setattr__"))
  ga : PySem.W.findIn K (.ref C) "__getattribute__" = some (some (.builtin "BaseException.__getattribute__"))
  gg : PySem.W.findIn K (.ref C) "__getattr__" = some none
  kc : PySem.W.keepIn K (.ref C) = true
  tc : PySem.W.typeIn K (.ref C) = some (.type "type")
  ha : PySem.W.findIn K (.ref C) "__class__" = some (some (.builtin "object.__class__"))
  hn : PySem.W.specialIn K (.builtin "object.__class__") "__get__" = some (some (.builtin "getset_descriptor.__get__"))
  ht : PySem.W.takesIn K (.builtin "object.__class__") = some true
namespace ExcT
variable {K : PySem.W.Frag} {CF C D : Addr}
theorem cls (T : ExcT K CF C) : ∃ cd, PySem.W.clsIn K C = some cd ∧ cd.hasDict = true ∧ cd.mro = [.ref C, .ref CF, .type "ValueError", .type "Exception", .type "BaseException", .type "object"] := by
  obtain ⟨nm, q, N, bs, sn, sb, ab, co, dd, x0, x1, x2, x3, x5, h⟩ := T.xC
  refine ⟨{ name := nm, bases := bs, mro := .ref C :: [.ref CF, .type "ValueError", .type "Exception", .type "BaseException", .type "object"], ns := N, qualname := q, hasDict := true, slotNames := sn, subclasses := sb, abstract := ab, collection := co, hasDel := false }, ?_, rfl, rfl⟩
  unfold PySem.W.clsIn
  rw [h] <;> rfl
theorem sub (T : ExcT K CF C) (v : Value) : PySem.W.subIn K (.ref C) v = some (([.ref C, .ref CF, .type "ValueError", .type "Exception", .type "BaseException", .type "object"] : List Value).contains v) := by
  obtain ⟨cd, h1, _, h3⟩ := T.cls
  show PySem.W.mroIn K C v = _
  unfold PySem.W.mroIn
  rw [h1, Option.bind_some, h3]
  rfl
theorem ec (T : ExcT K CF C) : PySem.W.subIn K (.ref C) (.type "BaseException") = some true := by
  rw [T.sub]
  simp
theorem hd (T : ExcT K CF C) : PySem.W.hasDictIn K C = true := by
  obtain ⟨cd, h1, h2, _⟩ := T.cls
  unfold PySem.W.hasDictIn
  rw [h1]
  exact h2
theorem is (T : ExcT K CF C) : PySem.W.isClsIn K C = true := by
  obtain ⟨cd, h1, _⟩ := T.cls
  show (PySem.W.clsIn K C).isSome = true
  rw [h1] <;> rfl
theorem oex (T : ExcT K CF C) : OexC K C := by
  obtain ⟨nm, q, N, bs, sn, sb, ab, co, dd, x0, x1, x2, x3, x5, h⟩ := T.xC
  exact ⟨⟨_, _, _, _, _, _, _, _, _, _, _, _, _, _, _, h, rfl⟩, T.sa, T.ec, T.tc, T.kc⟩
theorem xf (T : ExcT K CF C) : XfC K C := ⟨T.ga, T.gg, T.ec, T.hd⟩
theorem exc (T : ExcT K CF C) : ExcC K C := ⟨T.ga, T.gg, T.ec, T.hd, T.ha, T.hn, T.ht, by
  have := T.sub (.type "object")
  rw [show PySem.W.subIn K (.ref C) (.type "object") = PySem.W.mroIn K C (.type "object") from rfl] at this
  rw [this]
  simp⟩
theorem kit_self (T : ExcT K CF C) : PySem.W.kitOne K (.ref C) (.ref C) = some true := by
  unfold PySem.W.kitOne
  exact if_pos (beq_self_eq_true _)
theorem kit_no (T : ExcT K CF C) (U : ExcT K CF D) (h1 : C ≠ D) (h2 : CF ≠ D) : PySem.W.kitOne K (.ref C) (.ref D) = some false := by
  have e2 : ((PySem.W.clsIn K D).isSome && PySem.W.typeIn K (.ref D) == some (.type "type")) = true := by
    rw [show (PySem.W.clsIn K D).isSome = true from U.is, U.tc] <;> rfl
  unfold PySem.W.kitOne
  rw [if_neg (by simp [h1])]
  show (if ((PySem.W.clsIn K D).isSome && PySem.W.typeIn K (.ref D) == some (.type "type")) = true then PySem.W.subIn K (.ref C) (.ref D) else none) = some false
  rw [if_pos e2, T.sub]
  have a : D ≠ C := h1.symm
  have b : D ≠ CF := h2.symm
  simp [a, b]
theorem kit_ve (T : ExcT K CF C) : PySem.W.kitOne K (.ref C) (.type "ValueError") = some true := by
  unfold PySem.W.kitOne
  rw [if_neg (by simp)]
  show (if PySem.W.kitMeta "ValueError" = true then PySem.W.subIn K (.ref C) (.type "ValueError") else none) = some true
  rw [if_pos (by decide +kernel), T.sub]
  simp
theorem exm_fe (T : ExcT K CF C) (h1 : PySem.W.subIn K (.ref CF) (.type "BaseException") = some true) (h2 : PySem.W.isClsIn K CF = true) (h3 : PySem.W.typeIn K (.ref CF) = some (.type "type")) : PySem.W.exmOne K (.ref C) (.ref CF) = some true := by
  have e2 : ((PySem.W.clsIn K CF).isSome && PySem.W.typeIn K (.ref CF) == some (.type "type")) = true := by
    rw [show (PySem.W.clsIn K CF).isSome = true from h2, h3] <;> rfl
  unfold PySem.W.exmOne
  rw [if_pos (by rw [h1]; rfl)]
  show (if ((PySem.W.clsIn K CF).isSome && PySem.W.typeIn K (.ref CF) == some (.type "type")) = true then PySem.W.subIn K (.ref C) (.ref CF) else none) = some true
  rw [if_pos e2, T.sub]
  simp
end ExcT
end
theorem all_mk {P : Program} {w : World} {K : PySem.W.Frag} {h : Heap} {mg : Str → Option Value} {fa : Addr} (X : K.In h) (G : h.Ns mainGlobals mg) (hfa : mg "law" = some (.ref fa))
    {f_sop : Addr} {od_sop an_sop : Option Addr} {sl_sop : Array (Option Value)} {oc_sop kV_sop dc_sop pm_sop cd_sop ct_sop : Value}
    {f_shape : Addr} {od_shape an_shape : Option Addr} {sl_shape : Array (Option Value)} {oc_shape kV_shape dc_shape pm_shape cd_shape ct_shape : Value}
    {f_pool : Addr} {od_pool an_pool : Option Addr} {sl_pool : Array (Option Value)} {oc_pool kV_pool dc_pool pm_pool cd_pool ct_pool : Value}
    {f_take : Addr} {od_take an_take : Option Addr} {sl_take : Array (Option Value)} {oc_take kV_take dc_take pm_take cd_take ct_take : Value}
    {f_cell : Addr} {od_cell an_cell : Option Addr} {sl_cell : Array (Option Value)} {oc_cell kV_cell dc_cell pm_cell cd_cell ct_cell : Value}
    {f_lmat : Addr} {od_lmat an_lmat : Option Addr} {sl_lmat : Array (Option Value)} {oc_lmat kV_lmat dc_lmat pm_lmat cd_lmat ct_lmat : Value}
    {f_lshape : Addr} {od_lshape an_lshape : Option Addr} {sl_lshape : Array (Option Value)} {oc_lshape kV_lshape dc_lshape pm_lshape cd_lshape ct_lshape : Value}
    {f_lmade : Addr} {od_lmade an_lmade : Option Addr} {sl_lmade : Array (Option Value)} {oc_lmade kV_lmade dc_lmade pm_lmade cd_lmade ct_lmade : Value}
    {f_lprd : Addr} {od_lprd an_lprd : Option Addr} {sl_lprd : Array (Option Value)} {oc_lprd kV_lprd dc_lprd pm_lprd cd_lprd ct_lprd : Value}
    {f_lism : Addr} {od_lism an_lism : Option Addr} {sl_lism : Array (Option Value)} {oc_lism kV_lism dc_lism pm_lism cd_lism ct_lism : Value}
    {f_lrefm : Addr} {od_lrefm an_lrefm : Option Addr} {sl_lrefm : Array (Option Value)} {oc_lrefm kV_lrefm dc_lrefm pm_lrefm cd_lrefm ct_lrefm : Value}
    {f_lpairs : Addr} {od_lpairs an_lpairs : Option Addr} {sl_lpairs : Array (Option Value)} {oc_lpairs kV_lpairs dc_lpairs pm_lpairs cd_lpairs ct_lpairs : Value}
    {f_lturned : Addr} {od_lturned an_lturned : Option Addr} {sl_lturned : Array (Option Value)} {oc_lturned kV_lturned dc_lturned pm_lturned cd_lturned ct_lturned : Value}
    {f_lparts : Addr} {od_lparts an_lparts : Option Addr} {sl_lparts : Array (Option Value)} {oc_lparts kV_lparts dc_lparts pm_lparts cd_lparts ct_lparts : Value}
    {f_law : Addr} {od_law an_law : Option Addr} {sl_law : Array (Option Value)} {oc_law kV_law dc_law pm_law cd_law ct_law : Value}
    {CF : Addr}
    {C_ibr f_ibr : Addr} {nm_ibr q_ibr : Str} {N_ibr : Addr} {bs_ibr sb_ibr : List Value} {sn_ibr : List Str} {ab_ibr : Bool} {co_ibr : Option Bool} {dd_ibr : Option Addr} {x0_ibr x1_ibr x2_ibr x3_ibr x5_ibr : Option Value} {od_ibr an_ibr : Option Addr} {sl_ibr : Array (Option Value)} {oc_ibr kV_ibr dc_ibr pm_ibr cd_ibr ct_ibr : Value}
    {C_us f_us : Addr} {nm_us q_us : Str} {N_us : Addr} {bs_us sb_us : List Value} {sn_us : List Str} {ab_us : Bool} {co_us : Option Bool} {dd_us : Option Addr} {x0_us x1_us x2_us x3_us x5_us : Option Value} {od_us an_us : Option Addr} {sl_us : Array (Option Value)} {oc_us kV_us dc_us pm_us cd_us ct_us : Value}
    {C_ma : Addr}
    {f_minit : Addr} {od_minit an_minit : Option Addr} {sl_minit : Array (Option Value)} {oc_minit kV_minit dc_minit pm_minit cd_minit ct_minit : Value}
    {f_mscal : Addr} {od_mscal an_mscal : Option Addr} {sl_mscal : Array (Option Value)} {oc_mscal kV_mscal dc_mscal pm_mscal cd_mscal ct_mscal : Value}
    {f_mneg : Addr} {od_mneg an_mneg : Option Addr} {sl_mneg : Array (Option Value)} {oc_mneg kV_mneg dc_mneg pm_mneg cd_mneg ct_mneg : Value}
    {f_mtran : Addr} {od_mtran an_mtran : Option Addr} {sl_mtran : Array (Option Value)} {oc_mtran kV_mtran dc_mtran pm_mtran cd_mtran ct_mtran : Value}
    {f_madd : Addr} {od_madd an_madd : Option Addr} {sl_madd : Array (Option Value)} {oc_madd kV_madd dc_madd pm_madd cd_madd ct_madd : Value}
    {f_msub : Addr} {od_msub an_msub : Option Addr} {sl_msub : Array (Option Value)} {oc_msub kV_msub dc_msub pm_msub cd_msub ct_msub : Value}
    {f_mmul : Addr} {od_mmul an_mmul : Option Addr} {sl_mmul : Array (Option Value)} {oc_mmul kV_mmul dc_mmul pm_mmul cd_mmul ct_mmul : Value}
    {f_mbes : Addr} {od_mbes an_mbes : Option Addr} {sl_mbes : Array (Option Value)} {oc_mbes kV_mbes dc_mbes pm_mbes cd_mbes ct_mbes : Value}
    {f_meqm : Addr} {od_meqm an_meqm : Option Addr} {sl_meqm : Array (Option Value)} {oc_meqm kV_meqm dc_meqm pm_meqm cd_meqm ct_meqm : Value}
    {f_mpart : Addr} {od_mpart an_mpart : Option Addr} {sl_mpart : Array (Option Value)} {oc_mpart kV_mpart dc_mpart pm_mpart cd_mpart ct_mpart : Value}
    {f_mdiag : Addr} {od_mdiag an_mdiag : Option Addr} {sl_mdiag : Array (Option Value)} {oc_mdiag kV_mdiag dc_mdiag pm_mdiag cd_mdiag ct_mdiag : Value}
    {p_mdiag : Addr} {r_mdiag : List Value}
    {f_munit : Addr} {od_munit an_munit : Option Addr} {sl_munit : Array (Option Value)} {oc_munit kV_munit dc_munit pm_munit cd_munit ct_munit : Value}
    {p_munit : Addr} {r_munit : List Value}
    (a_sop : PySem.W.nsIn K mainGlobals "sum_of_products" = some (some (.ref f_sop))) (l_sop : K.lookup f_sop = some ⟨oc_sop, od_sop, .func (PySem.W.fnOf "sum_of_products" "sum_of_products" (defArgs s_sop) (defBody s_sop) (defScope s_sop) .none kV_sop dc_sop pm_sop an_sop cd_sop ct_sop), sl_sop⟩) (c_sop : PySem.W.codeIn K cd_sop "sum_of_products" = true) (k_sop : PySem.W.keepIn K (.ref f_sop) = true)
    (a_shape : PySem.W.nsIn K mainGlobals "shape_of" = some (some (.ref f_shape))) (l_shape : K.lookup f_shape = some ⟨oc_shape, od_shape, .func (PySem.W.fnOf "shape_of" "shape_of" (defArgs s_shape) (defBody s_shape) (defScope s_shape) .none kV_shape dc_shape pm_shape an_shape cd_shape ct_shape), sl_shape⟩) (c_shape : PySem.W.codeIn K cd_shape "shape_of" = true) (k_shape : PySem.W.keepIn K (.ref f_shape) = true)
    (a_pool : PySem.W.nsIn K mainGlobals "_law_pool" = some (some (.ref f_pool))) (l_pool : K.lookup f_pool = some ⟨oc_pool, od_pool, .func (PySem.W.fnOf "_law_pool" "_law_pool" (defArgs s_pool) (defBody s_pool) (defScope s_pool) .none kV_pool dc_pool pm_pool an_pool cd_pool ct_pool), sl_pool⟩) (c_pool : PySem.W.codeIn K cd_pool "_law_pool" = true) (k_pool : PySem.W.keepIn K (.ref f_pool) = true)
    (a_take : PySem.W.nsIn K mainGlobals "_law_take" = some (some (.ref f_take))) (l_take : K.lookup f_take = some ⟨oc_take, od_take, .func (PySem.W.fnOf "_law_take" "_law_take" (defArgs s_take) (defBody s_take) (defScope s_take) .none kV_take dc_take pm_take an_take cd_take ct_take), sl_take⟩) (c_take : PySem.W.codeIn K cd_take "_law_take" = true) (k_take : PySem.W.keepIn K (.ref f_take) = true)
    (a_cell : PySem.W.nsIn K mainGlobals "_law_cell" = some (some (.ref f_cell))) (l_cell : K.lookup f_cell = some ⟨oc_cell, od_cell, .func (PySem.W.fnOf "_law_cell" "_law_cell" (defArgs s_cell) (defBody s_cell) (defScope s_cell) .none kV_cell dc_cell pm_cell an_cell cd_cell ct_cell), sl_cell⟩) (c_cell : PySem.W.codeIn K cd_cell "_law_cell" = true) (k_cell : PySem.W.keepIn K (.ref f_cell) = true)
    (a_lmat : PySem.W.nsIn K mainGlobals "_law_matrix" = some (some (.ref f_lmat))) (l_lmat : K.lookup f_lmat = some ⟨oc_lmat, od_lmat, .func (PySem.W.fnOf "_law_matrix" "_law_matrix" (defArgs s_lmat) (defBody s_lmat) (defScope s_lmat) .none kV_lmat dc_lmat pm_lmat an_lmat cd_lmat ct_lmat), sl_lmat⟩) (c_lmat : PySem.W.codeIn K cd_lmat "_law_matrix" = true) (k_lmat : PySem.W.keepIn K (.ref f_lmat) = true)
    (a_lshape : PySem.W.nsIn K mainGlobals "_law_shape" = some (some (.ref f_lshape))) (l_lshape : K.lookup f_lshape = some ⟨oc_lshape, od_lshape, .func (PySem.W.fnOf "_law_shape" "_law_shape" (defArgs s_lshape) (defBody s_lshape) (defScope s_lshape) .none kV_lshape dc_lshape pm_lshape an_lshape cd_lshape ct_lshape), sl_lshape⟩) (c_lshape : PySem.W.codeIn K cd_lshape "_law_shape" = true) (k_lshape : PySem.W.keepIn K (.ref f_lshape) = true)
    (a_lmade : PySem.W.nsIn K mainGlobals "_law_made" = some (some (.ref f_lmade))) (l_lmade : K.lookup f_lmade = some ⟨oc_lmade, od_lmade, .func (PySem.W.fnOf "_law_made" "_law_made" (defArgs s_lmade) (defBody s_lmade) (defScope s_lmade) .none kV_lmade dc_lmade pm_lmade an_lmade cd_lmade ct_lmade), sl_lmade⟩) (c_lmade : PySem.W.codeIn K cd_lmade "_law_made" = true) (k_lmade : PySem.W.keepIn K (.ref f_lmade) = true)
    (a_lprd : PySem.W.nsIn K mainGlobals "_law_product" = some (some (.ref f_lprd))) (l_lprd : K.lookup f_lprd = some ⟨oc_lprd, od_lprd, .func (PySem.W.fnOf "_law_product" "_law_product" (defArgs s_lprd) (defBody s_lprd) (defScope s_lprd) .none kV_lprd dc_lprd pm_lprd an_lprd cd_lprd ct_lprd), sl_lprd⟩) (c_lprd : PySem.W.codeIn K cd_lprd "_law_product" = true) (k_lprd : PySem.W.keepIn K (.ref f_lprd) = true)
    (a_lism : PySem.W.nsIn K mainGlobals "_law_is" = some (some (.ref f_lism))) (l_lism : K.lookup f_lism = some ⟨oc_lism, od_lism, .func (PySem.W.fnOf "_law_is" "_law_is" (defArgs s_lism) (defBody s_lism) (defScope s_lism) .none kV_lism dc_lism pm_lism an_lism cd_lism ct_lism), sl_lism⟩) (c_lism : PySem.W.codeIn K cd_lism "_law_is" = true) (k_lism : PySem.W.keepIn K (.ref f_lism) = true)
    (a_lrefm : PySem.W.nsIn K mainGlobals "_law_refused" = some (some (.ref f_lrefm))) (l_lrefm : K.lookup f_lrefm = some ⟨oc_lrefm, od_lrefm, .func (PySem.W.fnOf "_law_refused" "_law_refused" (defArgs s_lrefm) (defBody s_lrefm) (defScope s_lrefm) .none kV_lrefm dc_lrefm pm_lrefm an_lrefm cd_lrefm ct_lrefm), sl_lrefm⟩) (c_lrefm : PySem.W.codeIn K cd_lrefm "_law_refused" = true) (k_lrefm : PySem.W.keepIn K (.ref f_lrefm) = true)
    (a_lpairs : PySem.W.nsIn K mainGlobals "_law_pairs_fit" = some (some (.ref f_lpairs))) (l_lpairs : K.lookup f_lpairs = some ⟨oc_lpairs, od_lpairs, .func (PySem.W.fnOf "_law_pairs_fit" "_law_pairs_fit" (defArgs s_lpairs) (defBody s_lpairs) (defScope s_lpairs) .none kV_lpairs dc_lpairs pm_lpairs an_lpairs cd_lpairs ct_lpairs), sl_lpairs⟩) (c_lpairs : PySem.W.codeIn K cd_lpairs "_law_pairs_fit" = true) (k_lpairs : PySem.W.keepIn K (.ref f_lpairs) = true)
    (a_lturned : PySem.W.nsIn K mainGlobals "_law_turned_fit" = some (some (.ref f_lturned))) (l_lturned : K.lookup f_lturned = some ⟨oc_lturned, od_lturned, .func (PySem.W.fnOf "_law_turned_fit" "_law_turned_fit" (defArgs s_lturned) (defBody s_lturned) (defScope s_lturned) .none kV_lturned dc_lturned pm_lturned an_lturned cd_lturned ct_lturned), sl_lturned⟩) (c_lturned : PySem.W.codeIn K cd_lturned "_law_turned_fit" = true) (k_lturned : PySem.W.keepIn K (.ref f_lturned) = true)
    (a_lparts : PySem.W.nsIn K mainGlobals "_law_parts_fit" = some (some (.ref f_lparts))) (l_lparts : K.lookup f_lparts = some ⟨oc_lparts, od_lparts, .func (PySem.W.fnOf "_law_parts_fit" "_law_parts_fit" (defArgs s_lparts) (defBody s_lparts) (defScope s_lparts) .none kV_lparts dc_lparts pm_lparts an_lparts cd_lparts ct_lparts), sl_lparts⟩) (c_lparts : PySem.W.codeIn K cd_lparts "_law_parts_fit" = true) (k_lparts : PySem.W.keepIn K (.ref f_lparts) = true)
    (a_law : PySem.W.nsIn K mainGlobals "law" = some (some (.ref f_law))) (l_law : K.lookup f_law = some ⟨oc_law, od_law, .func (PySem.W.fnOf "law" "law" (defArgs s_law) (defBody s_law) (defScope s_law) .none kV_law dc_law pm_law an_law cd_law ct_law), sl_law⟩) (c_law : PySem.W.codeIn K cd_law "law" = true) (k_law : PySem.W.keepIn K (.ref f_law) = true)
    (aF : PySem.W.nsIn K mainGlobals "FieldError" = some (some (.ref CF))) (rF : PySem.W.readsIn K CF (.type "type") = true) (gF : PySem.W.specialIn K (.ref CF) "__getattribute__" = some (some (.builtin "type.__getattribute__"))) (iF : PySem.W.findCls K (.ref CF) (.type "type") "__init__" = some (.val (.builtin "ValueError.__init__")))
    (aC_ibr : PySem.W.nsIn K mainGlobals "BadRow" = some (some (.ref C_ibr))) (xC_ibr : K.lookup C_ibr = some (excClassObj nm_ibr q_ibr C_ibr N_ibr bs_ibr [.ref CF, .type "ValueError", .type "Exception", .type "BaseException", .type "object"] true sn_ibr sb_ibr ab_ibr co_ibr dd_ibr x0_ibr x1_ibr x2_ibr x3_ibr x5_ibr "ValueError.__new__")) (sa_ibr : PySem.W.findIn K (.ref C_ibr) "__setattr__" = some (some (.builtin "object.__setattr__"))) (ga_ibr : PySem.W.findIn K (.ref C_ibr) "__getattribute__" = some (some (.builtin "BaseException.__getattribute__"))) (gg_ibr : PySem.W.findIn K (.ref C_ibr) "__getattr__" = some none) (no_ibr : PySem.W.findIn K (.ref C_ibr) "at" = some none) (ic_ibr : PySem.W.findIn K (.ref C_ibr) "__init__" = some (some (.ref f_ibr))) (ti_ibr : PySem.W.typeIn K (.ref f_ibr) = some (.type "function")) (kc_ibr : PySem.W.keepIn K (.ref C_ibr) = true) (ec_ibr : PySem.W.subIn K (.ref C_ibr) (.type "BaseException") = some true) (tc_ibr : PySem.W.typeIn K (.ref C_ibr) = some (.type "type")) (hd_ibr : PySem.W.hasDictIn K C_ibr = true) (is_ibr : PySem.W.isClsIn K C_ibr = true) (sc_ibr : PySem.W.subIn K (.ref C_ibr) (.ref C_ibr) = some true) (l_ibr : K.lookup f_ibr = some ⟨oc_ibr, od_ibr, .func (PySem.W.fnOf "__init__" "BadRow.__init__" (defArgs s_ibr) (defBody s_ibr) (defScope s_ibr) .none kV_ibr dc_ibr pm_ibr an_ibr cd_ibr ct_ibr), sl_ibr⟩) (c_ibr : PySem.W.codeIn K cd_ibr "BadRow.__init__" = true) (k_ibr : PySem.W.keepIn K (.ref f_ibr) = true)
    (ecF : PySem.W.subIn K (.ref CF) (.type "BaseException") = some true) (isF : PySem.W.isClsIn K CF = true) (tcF : PySem.W.typeIn K (.ref CF) = some (.type "type")) (hnE : PySem.W.specialIn K (.builtin "object.__class__") "__get__" = some (some (.builtin "getset_descriptor.__get__"))) (htE : PySem.W.takesIn K (.builtin "object.__class__") = some true)
    (aC_us : PySem.W.nsIn K mainGlobals "UnlikeShapes" = some (some (.ref C_us))) (xC_us : K.lookup C_us = some (excClassObj nm_us q_us C_us N_us bs_us [.ref CF, .type "ValueError", .type "Exception", .type "BaseException", .type "object"] true sn_us sb_us ab_us co_us dd_us x0_us x1_us x2_us x3_us x5_us "ValueError.__new__")) (sa_us : PySem.W.findIn K (.ref C_us) "__setattr__" = some (some (.builtin "object.__setattr__"))) (ga_us : PySem.W.findIn K (.ref C_us) "__getattribute__" = some (some (.builtin "BaseException.__getattribute__"))) (gg_us : PySem.W.findIn K (.ref C_us) "__getattr__" = some none) (ha_us : PySem.W.findIn K (.ref C_us) "__class__" = some (some (.builtin "object.__class__"))) (ic_us : PySem.W.findIn K (.ref C_us) "__init__" = some (some (.ref f_us))) (ti_us : PySem.W.typeIn K (.ref f_us) = some (.type "function")) (kc_us : PySem.W.keepIn K (.ref C_us) = true) (tc_us : PySem.W.typeIn K (.ref C_us) = some (.type "type")) (l_us : K.lookup f_us = some ⟨oc_us, od_us, .func (PySem.W.fnOf "__init__" "UnlikeShapes.__init__" (defArgs s_ius) (defBody s_ius) (defScope s_ius) .none kV_us dc_us pm_us an_us cd_us ct_us), sl_us⟩) (c_us : PySem.W.codeIn K cd_us "UnlikeShapes.__init__" = true) (k_us : PySem.W.keepIn K (.ref f_us) = true) (no_first_us : PySem.W.findIn K (.ref C_us) "first" = some none) (no_second_us : PySem.W.findIn K (.ref C_us) "second" = some none)
    (M_aK : PySem.W.nsIn K mainGlobals "Matrix" = some (some (.ref C_ma)))
    (M_pg : PySem.W.plainGet K C_ma Str.empty = true)
    (M_hd : PySem.W.hasDictIn K C_ma = true)
    (M_po : PySem.W.plainOver K C_ma = true)
    (M_sa : PySem.W.findIn K (.ref C_ma) "__setattr__" = some (some (.builtin "object.__setattr__")))
    (M_sf : PySem.W.selfFirst K C_ma = true)
    (M_ha : PySem.W.findIn K (.ref C_ma) "__class__" = some (some (.builtin "object.__class__")))
    (M_hn : PySem.W.specialIn K (.builtin "object.__class__") "__get__" = some (some (.builtin "getset_descriptor.__get__")))
    (M_htk : PySem.W.takesIn K (.builtin "object.__class__") = some true)
    (M_hm : PySem.W.mroIn K C_ma (.type "object") = some true)
    (M_mk : PySem.W.makesIn K C_ma = true)
    (M_kp : PySem.W.keepIn K (.ref C_ma) = true)
    (M_no_rows : PySem.W.findIn K (.ref C_ma) "rows" = some none)
    (M_no_height : PySem.W.findIn K (.ref C_ma) "height" = some none)
    (M_no_width : PySem.W.findIn K (.ref C_ma) "width" = some none)
    (M_rd : PySem.W.readsIn K C_ma (.type "type") = true)
    (M_sg : PySem.W.specialIn K (.ref C_ma) "__getattribute__" = some (some (.builtin "type.__getattribute__")))
    (M_nf_list : PySem.W.subIn K (.type "list") (.ref C_ma) = some false)
    (M_ic : PySem.W.isClsIn K C_ma = true)
    (M_ty : PySem.W.typeIn K (.ref C_ma) = some (.type "type"))
    (M_at_minit : PySem.W.findIn K (.ref C_ma) "__init__" = some (some (.ref f_minit)))
    (M_fn_minit : PySem.W.isFn K (.ref f_minit) = true)
    (M_l_minit : K.lookup f_minit = some ⟨oc_minit, od_minit, .func (PySem.W.fnOf "__init__" "Matrix.__init__" (defArgs s_minit) (defBody s_minit) (defScope s_minit) .none kV_minit dc_minit pm_minit an_minit cd_minit ct_minit), sl_minit⟩)
    (M_c_minit : PySem.W.codeIn K cd_minit "Matrix.__init__" = true)
    (M_k_minit : PySem.W.keepIn K (.ref f_minit) = true)
    (M_at_mscal : PySem.W.findIn K (.ref C_ma) "scaled" = some (some (.ref f_mscal)))
    (M_fn_mscal : PySem.W.isFn K (.ref f_mscal) = true)
    (M_l_mscal : K.lookup f_mscal = some ⟨oc_mscal, od_mscal, .func (PySem.W.fnOf "scaled" "Matrix.scaled" (defArgs s_mscal) (defBody s_mscal) (defScope s_mscal) .none kV_mscal dc_mscal pm_mscal an_mscal cd_mscal ct_mscal), sl_mscal⟩)
    (M_c_mscal : PySem.W.codeIn K cd_mscal "Matrix.scaled" = true)
    (M_k_mscal : PySem.W.keepIn K (.ref f_mscal) = true)
    (M_at_mneg : PySem.W.findIn K (.ref C_ma) "__neg__" = some (some (.ref f_mneg)))
    (M_fn_mneg : PySem.W.isFn K (.ref f_mneg) = true)
    (M_l_mneg : K.lookup f_mneg = some ⟨oc_mneg, od_mneg, .func (PySem.W.fnOf "__neg__" "Matrix.__neg__" (defArgs s_mneg) (defBody s_mneg) (defScope s_mneg) .none kV_mneg dc_mneg pm_mneg an_mneg cd_mneg ct_mneg), sl_mneg⟩)
    (M_c_mneg : PySem.W.codeIn K cd_mneg "Matrix.__neg__" = true)
    (M_k_mneg : PySem.W.keepIn K (.ref f_mneg) = true)
    (M_at_mtran : PySem.W.findIn K (.ref C_ma) "transposed" = some (some (.ref f_mtran)))
    (M_fn_mtran : PySem.W.isFn K (.ref f_mtran) = true)
    (M_l_mtran : K.lookup f_mtran = some ⟨oc_mtran, od_mtran, .func (PySem.W.fnOf "transposed" "Matrix.transposed" (defArgs s_mtran) (defBody s_mtran) (defScope s_mtran) .none kV_mtran dc_mtran pm_mtran an_mtran cd_mtran ct_mtran), sl_mtran⟩)
    (M_c_mtran : PySem.W.codeIn K cd_mtran "Matrix.transposed" = true)
    (M_k_mtran : PySem.W.keepIn K (.ref f_mtran) = true)
    (M_at_madd : PySem.W.findIn K (.ref C_ma) "__add__" = some (some (.ref f_madd)))
    (M_fn_madd : PySem.W.isFn K (.ref f_madd) = true)
    (M_l_madd : K.lookup f_madd = some ⟨oc_madd, od_madd, .func (PySem.W.fnOf "__add__" "Matrix.__add__" (defArgs s_madd) (defBody s_madd) (defScope s_madd) .none kV_madd dc_madd pm_madd an_madd cd_madd ct_madd), sl_madd⟩)
    (M_c_madd : PySem.W.codeIn K cd_madd "Matrix.__add__" = true)
    (M_k_madd : PySem.W.keepIn K (.ref f_madd) = true)
    (M_at_msub : PySem.W.findIn K (.ref C_ma) "__sub__" = some (some (.ref f_msub)))
    (M_fn_msub : PySem.W.isFn K (.ref f_msub) = true)
    (M_l_msub : K.lookup f_msub = some ⟨oc_msub, od_msub, .func (PySem.W.fnOf "__sub__" "Matrix.__sub__" (defArgs s_msub) (defBody s_msub) (defScope s_msub) .none kV_msub dc_msub pm_msub an_msub cd_msub ct_msub), sl_msub⟩)
    (M_c_msub : PySem.W.codeIn K cd_msub "Matrix.__sub__" = true)
    (M_k_msub : PySem.W.keepIn K (.ref f_msub) = true)
    (M_at_mmul : PySem.W.findIn K (.ref C_ma) "__mul__" = some (some (.ref f_mmul)))
    (M_fn_mmul : PySem.W.isFn K (.ref f_mmul) = true)
    (M_l_mmul : K.lookup f_mmul = some ⟨oc_mmul, od_mmul, .func (PySem.W.fnOf "__mul__" "Matrix.__mul__" (defArgs s_mmul) (defBody s_mmul) (defScope s_mmul) .none kV_mmul dc_mmul pm_mmul an_mmul cd_mmul ct_mmul), sl_mmul⟩)
    (M_c_mmul : PySem.W.codeIn K cd_mmul "Matrix.__mul__" = true)
    (M_k_mmul : PySem.W.keepIn K (.ref f_mmul) = true)
    (M_at_mbes : PySem.W.findIn K (.ref C_ma) "beside" = some (some (.ref f_mbes)))
    (M_fn_mbes : PySem.W.isFn K (.ref f_mbes) = true)
    (M_l_mbes : K.lookup f_mbes = some ⟨oc_mbes, od_mbes, .func (PySem.W.fnOf "beside" "Matrix.beside" (defArgs s_mbes) (defBody s_mbes) (defScope s_mbes) .none kV_mbes dc_mbes pm_mbes an_mbes cd_mbes ct_mbes), sl_mbes⟩)
    (M_c_mbes : PySem.W.codeIn K cd_mbes "Matrix.beside" = true)
    (M_k_mbes : PySem.W.keepIn K (.ref f_mbes) = true)
    (M_at_meqm : PySem.W.findIn K (.ref C_ma) "__eq__" = some (some (.ref f_meqm)))
    (M_fn_meqm : PySem.W.isFn K (.ref f_meqm) = true)
    (M_l_meqm : K.lookup f_meqm = some ⟨oc_meqm, od_meqm, .func (PySem.W.fnOf "__eq__" "Matrix.__eq__" (defArgs s_meqm) (defBody s_meqm) (defScope s_meqm) .none kV_meqm dc_meqm pm_meqm an_meqm cd_meqm ct_meqm), sl_meqm⟩)
    (M_c_meqm : PySem.W.codeIn K cd_meqm "Matrix.__eq__" = true)
    (M_k_meqm : PySem.W.keepIn K (.ref f_meqm) = true)
    (M_at_mpart : PySem.W.findIn K (.ref C_ma) "part" = some (some (.ref f_mpart)))
    (M_fn_mpart : PySem.W.isFn K (.ref f_mpart) = true)
    (M_l_mpart : K.lookup f_mpart = some ⟨oc_mpart, od_mpart, .func (PySem.W.fnOf "part" "Matrix.part" (defArgs s_mpart) (defBody s_mpart) (defScope s_mpart) .none kV_mpart dc_mpart pm_mpart an_mpart cd_mpart ct_mpart), sl_mpart⟩)
    (M_c_mpart : PySem.W.codeIn K cd_mpart "Matrix.part" = true)
    (M_k_mpart : PySem.W.keepIn K (.ref f_mpart) = true)
    (M_at_mdiag : PySem.W.findCls K (.ref C_ma) (.type "type") "diagonal" = some (.get (.builtin "classmethod.__get__") (.ref p_mdiag) .none (.ref C_ma)))
    (M_rc_mdiag : PySem.W.recIn K p_mdiag "classmethod" = some (.ref f_mdiag :: r_mdiag))
    (M_fi_mdiag : PySem.W.fnIn K f_mdiag = true)
    (M_l_mdiag : K.lookup f_mdiag = some ⟨oc_mdiag, od_mdiag, .func (PySem.W.fnOf "diagonal" "Matrix.diagonal" (defArgs s_mdiag) (defBody s_mdiag) (defScope s_mdiag) .none kV_mdiag dc_mdiag pm_mdiag an_mdiag cd_mdiag ct_mdiag), sl_mdiag⟩)
    (M_c_mdiag : PySem.W.codeIn K cd_mdiag "Matrix.diagonal" = true)
    (M_k_mdiag : PySem.W.keepIn K (.ref f_mdiag) = true)
    (M_at_munit : PySem.W.findCls K (.ref C_ma) (.type "type") "unit" = some (.get (.builtin "classmethod.__get__") (.ref p_munit) .none (.ref C_ma)))
    (M_rc_munit : PySem.W.recIn K p_munit "classmethod" = some (.ref f_munit :: r_munit))
    (M_fi_munit : PySem.W.fnIn K f_munit = true)
    (M_l_munit : K.lookup f_munit = some ⟨oc_munit, od_munit, .func (PySem.W.fnOf "unit" "Matrix.unit" (defArgs s_munit) (defBody s_munit) (defScope s_munit) .none kV_munit dc_munit pm_munit an_munit cd_munit ct_munit), sl_munit⟩)
    (M_c_munit : PySem.W.codeIn K cd_munit "Matrix.unit" = true)
    (M_k_munit : PySem.W.keepIn K (.ref f_munit) = true)
    (z_int : PySem.W.nsIn K mainGlobals "int" = some none)
    (z_len : PySem.W.nsIn K mainGlobals "len" = some none)
    (z_abs : PySem.W.nsIn K mainGlobals "abs" = some none)
    (z_isinstance : PySem.W.nsIn K mainGlobals "isinstance" = some none)
    (z_bool : PySem.W.nsIn K mainGlobals "bool" = some none)
    (z_tuple : PySem.W.nsIn K mainGlobals "tuple" = some none)
    (z_list : PySem.W.nsIn K mainGlobals "list" = some none)
    (z_str : PySem.W.nsIn K mainGlobals "str" = some none)
    (z_range : PySem.W.nsIn K mainGlobals "range" = some none)
    (z_max : PySem.W.nsIn K mainGlobals "max" = some none)
    (z_min : PySem.W.nsIn K mainGlobals "min" = some none)
    (z_sorted : PySem.W.nsIn K mainGlobals "sorted" = some none)
    (z_set : PySem.W.nsIn K mainGlobals "set" = some none)
    (z_zip : PySem.W.nsIn K mainGlobals "zip" = some none)
    (z_sum : PySem.W.nsIn K mainGlobals "sum" = some none)
    (z_enumerate : PySem.W.nsIn K mainGlobals "enumerate" = some none) :
    ∃ fd : FuncData, (∀ (s : Shared) (v : Value), BindsTo s fd ⟨[v], []⟩ [("_law_script", v)]) ∧ ∀ base : Heap, K.In base → base.Ns mainGlobals mg → FnOk P w K mg base CX0 9 fa fd ["_law_script"] (spLaw K) := by
  have e := hfa.symm.trans (PySem.W.mg_of X G a_law)
  cases e
  have T : Txt mg := ⟨PySem.W.mg_none_of X G z_int, PySem.W.mg_none_of X G z_len, PySem.W.mg_none_of X G z_abs, PySem.W.mg_none_of X G z_isinstance, PySem.W.mg_none_of X G z_bool, PySem.W.mg_none_of X G z_tuple, PySem.W.mg_none_of X G z_list, PySem.W.mg_none_of X G z_str, PySem.W.mg_none_of X G z_range, PySem.W.mg_none_of X G z_max, PySem.W.mg_none_of X G z_min, PySem.W.mg_none_of X G z_sorted, PySem.W.mg_none_of X G z_set⟩
  have n_zip := PySem.W.mg_none_of X G z_zip
  have n_sum := PySem.W.mg_none_of X G z_sum
  have n_enumerate := PySem.W.mg_none_of X G z_enumerate
  have TF : FErr K mg CF := ⟨PySem.W.mg_of X G aF, rF, gF, iF⟩
  have F_ibr := fun_mk (st := s_ibr) l_ibr c_ibr k_ibr
  have b_ibr := F_ibr.binds (ps := ["self", "at"]) fun _ _ _ _ _ _ us hl => match us, hl with | [_, _], _ => rfl
  have E_ibr : ErrC K mg "BadRow" "at" C_ibr f_ibr := ⟨PySem.W.mg_of X G aC_ibr, ⟨⟨_, _, _, _, _, _, _, _, _, _, _, _, _, _, _, xC_ibr, rfl⟩, sa_ibr, ec_ibr, tc_ibr, kc_ibr⟩, no_ibr, ic_ibr, ti_ibr, ⟨ga_ibr, gg_ibr, ec_ibr, hd_ibr⟩, exm_me ec_ibr is_ibr tc_ibr sc_ibr⟩
  have F_us := fun_mk (st := s_ius) l_us c_us k_us
  have b_us := F_us.binds (ps := ["self", "first", "second"]) fun _ _ _ _ _ _ us hl => match us, hl with | [_, _, _], _ => rfl
  have X_us : ExcT K CF C_us := ⟨⟨_, _, _, _, _, _, _, _, _, _, _, _, _, _, xC_us⟩, sa_us, ga_us, gg_us, kc_us, tc_us, ha_us, hnE, htE⟩
  have TM : MaT K mg C_ma := ⟨PySem.W.mg_of X G M_aK, ⟨M_pg, M_hd, M_po, M_sa⟩, M_no_rows, M_no_height, M_no_width, M_sf, ⟨⟨M_pg, M_hd, M_po, M_sa⟩, M_ha, M_hn, M_htk, M_hm, if_pos (beq_self_eq_true _)⟩⟩
  have F_minit := fun_mk (st := s_minit) M_l_minit M_c_minit M_k_minit
  have b_minit := F_minit.binds (ps := ["self", "rows"]) fun _ _ _ _ _ _ us hl => match us, hl with | [_, _], _ => rfl
  have F_mscal := fun_mk (st := s_mscal) M_l_mscal M_c_mscal M_k_mscal
  have b_mscal := F_mscal.binds (ps := ["self", "n"]) fun _ _ _ _ _ _ us hl => match us, hl with | [_, _], _ => rfl
  have M_mscal : Meth K C_ma "scaled" f_mscal := ⟨M_at_mscal, M_fn_mscal, M_k_mscal⟩
  have F_mneg := fun_mk (st := s_mneg) M_l_mneg M_c_mneg M_k_mneg
  have b_mneg := F_mneg.binds (ps := ["self"]) fun _ _ _ _ _ _ us hl => match us, hl with | [_], _ => rfl
  have M_mneg : Meth K C_ma "__neg__" f_mneg := ⟨M_at_mneg, M_fn_mneg, M_k_mneg⟩
  have F_mtran := fun_mk (st := s_mtran) M_l_mtran M_c_mtran M_k_mtran
  have b_mtran := F_mtran.binds (ps := ["self"]) fun _ _ _ _ _ _ us hl => match us, hl with | [_], _ => rfl
  have M_mtran : Meth K C_ma "transposed" f_mtran := ⟨M_at_mtran, M_fn_mtran, M_k_mtran⟩
  have F_madd := fun_mk (st := s_madd) M_l_madd M_c_madd M_k_madd
  have b_madd := F_madd.binds (ps := ["self", "other"]) fun _ _ _ _ _ _ us hl => match us, hl with | [_, _], _ => rfl
  have M_madd : Meth K C_ma "__add__" f_madd := ⟨M_at_madd, M_fn_madd, M_k_madd⟩
  have F_msub := fun_mk (st := s_msub) M_l_msub M_c_msub M_k_msub
  have b_msub := F_msub.binds (ps := ["self", "other"]) fun _ _ _ _ _ _ us hl => match us, hl with | [_, _], _ => rfl
  have M_msub : Meth K C_ma "__sub__" f_msub := ⟨M_at_msub, M_fn_msub, M_k_msub⟩
  have F_mmul := fun_mk (st := s_mmul) M_l_mmul M_c_mmul M_k_mmul
  have b_mmul := F_mmul.binds (ps := ["self", "other"]) fun _ _ _ _ _ _ us hl => match us, hl with | [_, _], _ => rfl
  have M_mmul : Meth K C_ma "__mul__" f_mmul := ⟨M_at_mmul, M_fn_mmul, M_k_mmul⟩
  have F_mbes := fun_mk (st := s_mbes) M_l_mbes M_c_mbes M_k_mbes
  have b_mbes := F_mbes.binds (ps := ["self", "other"]) fun _ _ _ _ _ _ us hl => match us, hl with | [_, _], _ => rfl
  have M_mbes : Meth K C_ma "beside" f_mbes := ⟨M_at_mbes, M_fn_mbes, M_k_mbes⟩
  have F_meqm := fun_mk (st := s_meqm) M_l_meqm M_c_meqm M_k_meqm
  have b_meqm := F_meqm.binds (ps := ["self", "other"]) fun _ _ _ _ _ _ us hl => match us, hl with | [_, _], _ => rfl
  have M_meqm : Meth K C_ma "__eq__" f_meqm := ⟨M_at_meqm, M_fn_meqm, M_k_meqm⟩
  have F_mpart := fun_mk (st := s_mpart) M_l_mpart M_c_mpart M_k_mpart
  have b_mpart := F_mpart.binds (ps := ["self", "rows", "columns"]) fun _ _ _ _ _ _ us hl => match us, hl with | [_, _, _], _ => rfl
  have M_mpart : Meth K C_ma "part" f_mpart := ⟨M_at_mpart, M_fn_mpart, M_k_mpart⟩
  have F_mdiag := fun_mk (st := s_mdiag) M_l_mdiag M_c_mdiag M_k_mdiag
  have b_mdiag := F_mdiag.binds (ps := ["cls", "numbers", "height", "width"]) fun _ _ _ _ _ _ us hl => match us, hl with | [_, _, _, _], _ => rfl
  have M_mdiag : ClX.CMet K C_ma (.type "type") "diagonal" p_mdiag f_mdiag := ⟨M_at_mdiag, ⟨_, M_rc_mdiag⟩, M_fi_mdiag⟩
  have F_munit := fun_mk (st := s_munit) M_l_munit M_c_munit M_k_munit
  have b_munit := F_munit.binds (ps := ["cls", "n"]) fun _ _ _ _ _ _ us hl => match us, hl with | [_, _], _ => rfl
  have M_munit : ClX.CMet K C_ma (.type "type") "unit" p_munit f_munit := ⟨M_at_munit, ⟨_, M_rc_munit⟩, M_fi_munit⟩
  have CM : ClX.CRead K C_ma (.type "type") := ⟨M_rd, M_sg⟩
  have F_sop := fun_mk (st := s_sop) l_sop c_sop k_sop
  have b_sop := F_sop.binds (ps := ["first", "second"]) fun _ _ _ _ _ _ us hl => match us, hl with | [_, _], _ => rfl
  have F_shape := fun_mk (st := s_shape) l_shape c_shape k_shape
  have b_shape := F_shape.binds (ps := ["matrix"]) fun _ _ _ _ _ _ us hl => match us, hl with | [_], _ => rfl
  have F_pool := fun_mk (st := s_pool) l_pool c_pool k_pool
  have b_pool := F_pool.binds (ps := ["_law_cell_here"]) fun _ _ _ _ _ _ us hl => match us, hl with | [_], _ => rfl
  have F_take := fun_mk (st := s_take) l_take c_take k_take
  have b_take := F_take.binds (ps := ["_law_pool_here", "_law_limit"]) fun _ _ _ _ _ _ us hl => match us, hl with | [_, _], _ => rfl
  have F_cell := fun_mk (st := s_cell) l_cell c_cell k_cell
  have b_cell := F_cell.binds (ps := ["_law_script", "_law_k"]) fun _ _ _ _ _ _ us hl => match us, hl with | [_, _], _ => rfl
  have F_lmat := fun_mk (st := s_lmat) l_lmat c_lmat k_lmat
  have b_lmat := F_lmat.binds (ps := ["_law_pool_here", "_law_height", "_law_width"]) fun _ _ _ _ _ _ us hl => match us, hl with | [_, _, _], _ => rfl
  have F_lshape := fun_mk (st := s_lshape) l_lshape c_lshape k_lshape
  have b_lshape := F_lshape.binds (ps := ["_law_pool_here"]) fun _ _ _ _ _ _ us hl => match us, hl with | [_], _ => rfl
  have F_lmade := fun_mk (st := s_lmade) l_lmade c_lmade k_lmade
  have b_lmade := F_lmade.binds (ps := ["_law_pool_here", "_law_height", "_law_width"]) fun _ _ _ _ _ _ us hl => match us, hl with | [_, _, _], _ => rfl
  have F_lprd := fun_mk (st := s_lprd) l_lprd c_lprd k_lprd
  have b_lprd := F_lprd.binds (ps := ["_law_first", "_law_second"]) fun _ _ _ _ _ _ us hl => match us, hl with | [_, _], _ => rfl
  have F_lism := fun_mk (st := s_lism) l_lism c_lism k_lism
  have b_lism := F_lism.binds (ps := ["_law_told", "_law_rows"]) fun _ _ _ _ _ _ us hl => match us, hl with | [_, _], _ => rfl
  have F_lrefm := fun_mk (st := s_lrefm) l_lrefm c_lrefm k_lrefm
  have b_lrefm := F_lrefm.binds (ps := ["_law_rows"]) fun _ _ _ _ _ _ us hl => match us, hl with | [_], _ => rfl
  have F_lpairs := fun_mk (st := s_lpairs) l_lpairs c_lpairs k_lpairs
  have b_lpairs := F_lpairs.binds (ps := ["_law_one", "_law_two", "_law_first", "_law_second"]) fun _ _ _ _ _ _ us hl => match us, hl with | [_, _, _, _], _ => rfl
  have F_lturned := fun_mk (st := s_lturned) l_lturned c_lturned k_lturned
  have b_lturned := F_lturned.binds (ps := ["_law_one", "_law_first", "_law_n"]) fun _ _ _ _ _ _ us hl => match us, hl with | [_, _, _], _ => rfl
  have F_lparts := fun_mk (st := s_lparts) l_lparts c_lparts k_lparts
  have b_lparts := F_lparts.binds (ps := ["_law_pool_here", "_law_one", "_law_first", "_law_n"]) fun _ _ _ _ _ _ us hl => match us, hl with | [_, _, _, _], _ => rfl
  have F_law := fun_mk (st := s_law) l_law c_law k_law
  refine ⟨PySem.W.fnOf "law" "law" (defArgs s_law) (defBody s_law) (defScope s_law) .none kV_law dc_law pm_law an_law cd_law ct_law, fun s v => .of_eq rfl, fun base _ _ => ?_⟩
  have x_ibr : ErP P w K mg base "BadRow" "at" C_ibr okNat := ⟨_, _, _, E_ibr, ok_ibr TF E_ibr.oex E_ibr.no F_ibr, b_ibr⟩
  have d_sop : Cl P w K mg base CX0 1 "sum_of_products" (spSop K) := ⟨_, _, _, ok_sop T n_sum n_zip F_sop, PySem.W.mg_of X G a_sop, k_sop, b_sop⟩
  have d_pool : Cl P w K mg base CX0 1 "_law_pool" spPool := ⟨_, _, _, ok_pool F_pool, PySem.W.mg_of X G a_pool, k_pool, b_pool⟩
  have d_take : Cl P w K mg base CX0 1 "_law_take" spTake := ⟨_, _, _, ok_take T F_take, PySem.W.mg_of X G a_take, k_take, b_take⟩
  have d_cell : Cl P w K mg base CX0 1 "_law_cell" (spCellL K) := ⟨_, _, _, ok_cell T F_cell, PySem.W.mg_of X G a_cell, k_cell, b_cell⟩
  have d_lmat : Cl P w K mg base CX0 2 "_law_matrix" spLmat := ⟨_, _, _, ok_lmat T n_enumerate F_lmat d_take, PySem.W.mg_of X G a_lmat, k_lmat, b_lmat⟩
  have d_lshape : Cl P w K mg base CX0 2 "_law_shape" spLshape := ⟨_, _, _, ok_lshape F_lshape d_take, PySem.W.mg_of X G a_lshape, k_lshape, b_lshape⟩
  have d_lmade : Cl P w K mg base CX0 3 "_law_made" spLmade := ⟨_, _, _, ok_lmade F_lmade d_take d_lmat, PySem.W.mg_of X G a_lmade, k_lmade, b_lmade⟩
  have d_lprd : Cl P w K mg base CX0 1 "_law_product" spLprd := ⟨_, _, _, ok_lprd T n_sum F_lprd, PySem.W.mg_of X G a_lprd, k_lprd, b_lprd⟩
  have c_mil : Ma P w K mg base 3 C_ma (spMI C_ma C_ibr false K) := ⟨_, _, _, ⟨M_mk, M_at_minit, M_fn_minit, M_kp⟩, ok_minit false T n_enumerate TM F_minit x_ibr, b_minit⟩
  have c_mit : Ma P w K mg base 3 C_ma (spMI C_ma C_ibr true K) := ⟨_, _, _, ⟨M_mk, M_at_minit, M_fn_minit, M_kp⟩, ok_minit true T n_enumerate TM F_minit x_ibr, b_minit⟩
  have d_shape : Cl P w K mg base CX0 1 "shape_of" (spShape C_ma) := ⟨_, _, _, ok_shape TM F_shape, PySem.W.mg_of X G a_shape, k_shape, b_shape⟩
  have x_us : ErG P w K mg base "UnlikeShapes" C_us (spInit2 C_us "first" "second" (okTT K)) := ⟨_, _, _, PySem.W.mg_of X G aC_us, X_us.oex, ic_us, ti_us, ok_iusT TF X_us.oex no_first_us no_second_us F_us, b_us⟩
  have c_scal : Me P w K mg base 5 C_ma "scaled" (spMsc C_ma) := ⟨_, _, _, M_mscal, ok_mscal TM F_mscal c_mil, b_mscal⟩
  have c_mneg : Me P w K mg base 6 C_ma "__neg__" (spMneg C_ma) := ⟨_, _, _, M_mneg, ok_mneg TM F_mneg c_scal, b_mneg⟩
  have c_tran : Me P w K mg base 5 C_ma "transposed" (spMtr C_ma) := ⟨_, _, _, M_mtran, ok_mtran T TM F_mtran c_mil, b_mtran⟩
  have c_madd : MeN P w K mg base 5 C_ma "__add__" (spMadd C_ma C_us (fun z => z) K) := ⟨_, _, _, M_madd, ok_madd n_zip TM F_madd d_shape x_us c_mil, b_madd⟩
  have c_msub : MeN P w K mg base 7 C_ma "__sub__" (spMadd C_ma C_us (fun z => -z) K) := ⟨_, _, _, M_msub, ok_msub TM F_msub c_madd c_mneg, b_msub⟩
  have c_mmul : MeN P w K mg base 6 C_ma "__mul__" (spMmul C_ma C_us K) := ⟨_, _, _, M_mmul, ok_mmul TM F_mmul d_shape d_sop x_us c_mil c_tran, b_mmul⟩
  have c_bes : MeN P w K mg base 5 C_ma "beside" (spMbe C_ma C_us K) := ⟨_, _, _, M_mbes, ok_mbes n_zip TM F_mbes d_shape x_us c_mil, b_mbes⟩
  have c_meq : Me P w K mg base 1 C_ma "__eq__" (spMeq C_ma) := ⟨_, _, _, M_meqm, ok_meqm T TM F_meqm, b_meqm⟩
  have c_meqX : Me P w K mg base 1 C_ma "__eq__" (spMeqX C_ma K) := ⟨_, _, _, M_meqm, ok_meqX T TM F_meqm, b_meqm⟩
  have c_part : Me P w K mg base 5 C_ma "part" (spMpart C_ma K) := ⟨_, _, _, M_mpart, ok_mpart TM F_mpart c_mil, b_mpart⟩
  have c_mdiag : Cm P w K mg base 5 C_ma "diagonal" (spMdiag C_ma K) := ⟨_, _, _, _, _, CM, M_mdiag, ok_mdiag T n_enumerate TM F_mdiag c_mil, b_mdiag⟩
  have c_unit : Cm P w K mg base 6 C_ma "unit" (spMunit C_ma) := ⟨_, _, _, _, _, CM, M_munit, ok_munit F_munit c_mdiag, b_munit⟩
  have d_lism : Cl P w K mg base CX0 5 "_law_is" (spLism C_ma K) := ⟨_, _, _, ok_lism T TM F_lism c_mil c_meq, PySem.W.mg_of X G a_lism, k_lism, b_lism⟩
  have d_lrefm : Cl P w K mg base CX0 5 "_law_refused" (spLrefm K) := ⟨_, _, _, ok_lrefm TM E_ibr F_lrefm c_mil, PySem.W.mg_of X G a_lrefm, k_lrefm, b_lrefm⟩
  have d_lpairs : Cl P w K mg base CX0 8 "_law_pairs_fit" (spLpairs C_ma) := ⟨_, _, _, ok_lpairs T n_zip TM F_lpairs c_madd c_msub c_bes d_lism, PySem.W.mg_of X G a_lpairs, k_lpairs, b_lpairs⟩
  have d_lturned : Cl P w K mg base CX0 7 "_law_turned_fit" (spLturned C_ma) := ⟨_, _, _, ok_lturned T TM F_lturned c_mneg c_scal c_tran d_lism, PySem.W.mg_of X G a_lturned, k_lturned, b_lturned⟩
  have d_lparts : Cl P w K mg base CX0 7 "_law_parts_fit" (spLparts C_ma) := ⟨_, _, _, ok_lparts T TM F_lparts d_take c_part c_unit c_mdiag d_lism, PySem.W.mg_of X G a_lparts, k_lparts, b_lparts⟩
  exact ok_law T TM M_ic M_ty M_nf_list F_law d_pool d_cell d_take d_lshape d_lmade d_lpairs d_lturned d_lparts d_lprd d_lism d_lrefm c_mil c_mit c_mmul c_meq c_meqX
theorem walk {l : PySem.W.OpenLaw} {q : Program} {loose : List Str} {XP : (Str → Option Value) → Heap → Prop} {YP : World → Heap → Prop} {d : DefRec} {K : Params → PySem.W.Frag} (hn : l.most = some 63) (hdf : d.params.defaults = [])
    (hY : ∀ (w : World) (h : Heap), YP w h → (K w.params).In h)
    (F : ∀ (w : World) (mg : Str → Option Value) (fa : Addr) (h : Heap), (K w.params).In h → h.Ns mainGlobals mg → mg d.name = some (.ref fa) →
      ∃ fd : FuncData, (∀ (s : Shared) (u : Value), BindsTo s fd ⟨[u], []⟩ [("_law_script", u)]) ∧ ∀ base : Heap, (K w.params).In base → base.Ns mainGlobals mg → FnOk l.prog w (K w.params) mg base CX0 9 fa fd ["_law_script"] (spLaw (K w.params))) :
    PySem.W.WalkO q loose XP YP l.row.toRowW d [] (fun f vs => PySem.call f vs) :=
  L2.walk_of (n := 63) (k := 9) (x := "_law_script") (CX := fun _ => CX0) (sp := fun w => spLaw (K w.params)) hn (by decide) hdf ⟨rfl, by decide, by decide⟩ hY F (fun _ _ a ns hl _ hS => ⟨a, ns, rfl, hS, hl, fun _ => rfl⟩) fun _ _ _ _ _ z => z
end My
open PySem PySem.W PyProof.Rows
set_option maxRecDepth 100000 in
set_option maxHeartbeats 0 in
theorem PySem.Challenge.cw_everyfield_k41_matrices_by_items_holds : PySem.Challenge.rw_everyfield_k41_matrices_by_items.Holds := by
  w_on; o_law; k_head; (case hw => w_witness2)
  k_fill
  refine My.walk (l := PySem.Challenge.rw_everyfield_k41_matrices_by_items) rfl rfl (fun w h Y => PySem.W.kIn_of Y) ?F
  case F =>
    intro w mg fa h KX G hmg
    refine' My.all_mk KX G hmg ?a_sop ?l_sop ?c_sop ?k_sop ?a_shape ?l_shape ?c_shape ?k_shape ?a_pool ?l_pool ?c_pool ?k_pool ?a_take ?l_take ?c_take ?k_take ?a_cell ?l_cell ?c_cell ?k_cell ?a_lmat ?l_lmat ?c_lmat ?k_lmat ?a_lshape ?l_lshape ?c_lshape ?k_lshape ?a_lmade ?l_lmade ?c_lmade ?k_lmade ?a_lprd ?l_lprd ?c_lprd ?k_lprd ?a_lism ?l_lism ?c_lism ?k_lism ?a_lrefm ?l_lrefm ?c_lrefm ?k_lrefm ?a_lpairs ?l_lpairs ?c_lpairs ?k_lpairs ?a_lturned ?l_lturned ?c_lturned ?k_lturned ?a_lparts ?l_lparts ?c_lparts ?k_lparts ?a_law ?l_law ?c_law ?k_law ?aF ?rF ?gF ?iF ?aC_ibr ?xC_ibr ?sa_ibr ?ga_ibr ?gg_ibr ?no_ibr ?ic_ibr ?ti_ibr ?kc_ibr ?ec_ibr ?tc_ibr ?hd_ibr ?is_ibr ?sc_ibr ?l_ibr ?c_ibr ?k_ibr ?ecF ?isF ?tcF ?hnE ?htE ?aC_us ?xC_us ?sa_us ?ga_us ?gg_us ?ha_us ?ic_us ?ti_us ?kc_us ?tc_us ?l_us ?c_us ?k_us ?no_first_us ?no_second_us ?M_aK ?M_pg ?M_hd ?M_po ?M_sa ?M_sf ?M_ha ?M_hn ?M_htk ?M_hm ?M_mk ?M_kp ?M_no_rows ?M_no_height ?M_no_width ?M_rd ?M_sg ?M_nf_list ?M_ic ?M_ty ?M_at_minit ?M_fn_minit ?M_l_minit ?M_c_minit ?M_k_minit ?M_at_mscal ?M_fn_mscal ?M_l_mscal ?M_c_mscal ?M_k_mscal ?M_at_mneg ?M_fn_mneg ?M_l_mneg ?M_c_mneg ?M_k_mneg ?M_at_mtran ?M_fn_mtran ?M_l_mtran ?M_c_mtran ?M_k_mtran ?M_at_madd ?M_fn_madd ?M_l_madd ?M_c_madd ?M_k_madd ?M_at_msub ?M_fn_msub ?M_l_msub ?M_c_msub ?M_k_msub ?M_at_mmul ?M_fn_mmul ?M_l_mmul ?M_c_mmul ?M_k_mmul ?M_at_mbes ?M_fn_mbes ?M_l_mbes ?M_c_mbes ?M_k_mbes ?M_at_meqm ?M_fn_meqm ?M_l_meqm ?M_c_meqm ?M_k_meqm ?M_at_mpart ?M_fn_mpart ?M_l_mpart ?M_c_mpart ?M_k_mpart ?M_at_mdiag ?M_rc_mdiag ?M_fi_mdiag ?M_l_mdiag ?M_c_mdiag ?M_k_mdiag ?M_at_munit ?M_rc_munit ?M_fi_munit ?M_l_munit ?M_c_munit ?M_k_munit ?z_int ?z_len ?z_abs ?z_isinstance ?z_bool ?z_tuple ?z_list ?z_str ?z_range ?z_max ?z_min ?z_sorted ?z_set ?z_zip ?z_sum ?z_enumerate
    (case a_sop => k_is)
    (case l_sop => k_is)
    (case c_sop => k_is)
    (case k_sop => k_is)
    (case a_shape => k_is)
    (case l_shape => k_is)
    (case c_shape => k_is)
    (case k_shape => k_is)
    (case a_pool => k_is)
    (case l_pool => k_is)
    (case c_pool => k_is)
    (case k_pool => k_is)
    (case a_take => k_is)
    (case l_take => k_is)
    (case c_take => k_is)
    (case k_take => k_is)
    (case a_cell => k_is)
    (case l_cell => k_is)
    (case c_cell => k_is)
    (case k_cell => k_is)
    (case a_lmat => k_is)
    (case l_lmat => k_is)
    (case c_lmat => k_is)
    (case k_lmat => k_is)
    (case a_lshape => k_is)
    (case l_lshape => k_is)
    (case c_lshape => k_is)
    (case k_lshape => k_is)
    (case a_lmade => k_is)
    (case l_lmade => k_is)
    (case c_lmade => k_is)
    (case k_lmade => k_is)
    (case a_lprd => k_is)
    (case l_lprd => k_is)
    (case c_lprd => k_is)
    (case k_lprd => k_is)
    (case a_lism => k_is)
    (case l_lism => k_is)
    (case c_lism => k_is)
    (case k_lism => k_is)
    (case a_lrefm => k_is)
    (case l_lrefm => k_is)
    (case c_lrefm => k_is)
    (case k_lrefm => k_is)
    (case a_lpairs => k_is)
    (case l_lpairs => k_is)
    (case c_lpairs => k_is)
    (case k_lpairs => k_is)
    (case a_lturned => k_is)
    (case l_lturned => k_is)
    (case c_lturned => k_is)
    (case k_lturned => k_is)
    (case a_lparts => k_is)
    (case l_lparts => k_is)
    (case c_lparts => k_is)
    (case k_lparts => k_is)
    (case a_law => k_is)
    (case l_law => k_is)
    (case c_law => k_is)
    (case k_law => k_is)
    (case aF => k_is)
    (case rF => k_is)
    (case gF => k_is)
    (case iF => k_is)
    (case aC_ibr => k_is)
    (case xC_ibr => k_is)
    (case sa_ibr => k_is)
    (case ga_ibr => k_is)
    (case gg_ibr => k_is)
    (case no_ibr => k_is)
    (case ic_ibr => k_is)
    (case ti_ibr => k_is)
    (case kc_ibr => k_is)
    (case ec_ibr => k_is)
    (case tc_ibr => k_is)
    (case hd_ibr => k_is)
    (case is_ibr => k_is)
    (case sc_ibr => k_is)
    (case l_ibr => k_is)
    (case c_ibr => k_is)
    (case k_ibr => k_is)
    (case ecF => k_is)
    (case isF => k_is)
    (case tcF => k_is)
    (case hnE => k_is)
    (case htE => k_is)
    (case aC_us => k_is)
    (case xC_us => k_is)
    (case sa_us => k_is)
    (case ga_us => k_is)
    (case gg_us => k_is)
    (case ha_us => k_is)
    (case ic_us => k_is)
    (case ti_us => k_is)
    (case kc_us => k_is)
    (case tc_us => k_is)
    (case l_us => k_is)
    (case c_us => k_is)
    (case k_us => k_is)
    (case no_first_us => k_is)
    (case no_second_us => k_is)
    (case M_aK => k_is)
    (case M_pg => k_is)
    (case M_hd => k_is)
    (case M_po => k_is)
    (case M_sa => k_is)
    (case M_sf => k_is)
    (case M_ha => k_is)
    (case M_hn => k_is)
    (case M_htk => k_is)
    (case M_hm => k_is)
    (case M_mk => k_is)
    (case M_kp => k_is)
    (case M_no_rows => k_is)
    (case M_no_height => k_is)
    (case M_no_width => k_is)
    (case M_rd => k_is)
    (case M_sg => k_is)
    (case M_nf_list => k_is)
    (case M_ic => k_is)
    (case M_ty => k_is)
    (case M_at_minit => k_is)
    (case M_fn_minit => k_is)
    (case M_l_minit => k_is)
    (case M_c_minit => k_is)
    (case M_k_minit => k_is)
    (case M_at_mscal => k_is)
    (case M_fn_mscal => k_is)
    (case M_l_mscal => k_is)
    (case M_c_mscal => k_is)
    (case M_k_mscal => k_is)
    (case M_at_mneg => k_is)
    (case M_fn_mneg => k_is)
    (case M_l_mneg => k_is)
    (case M_c_mneg => k_is)
    (case M_k_mneg => k_is)
    (case M_at_mtran => k_is)
    (case M_fn_mtran => k_is)
    (case M_l_mtran => k_is)
    (case M_c_mtran => k_is)
    (case M_k_mtran => k_is)
    (case M_at_madd => k_is)
    (case M_fn_madd => k_is)
    (case M_l_madd => k_is)
    (case M_c_madd => k_is)
    (case M_k_madd => k_is)
    (case M_at_msub => k_is)
    (case M_fn_msub => k_is)
    (case M_l_msub => k_is)
    (case M_c_msub => k_is)
    (case M_k_msub => k_is)
    (case M_at_mmul => k_is)
    (case M_fn_mmul => k_is)
    (case M_l_mmul => k_is)
    (case M_c_mmul => k_is)
    (case M_k_mmul => k_is)
    (case M_at_mbes => k_is)
    (case M_fn_mbes => k_is)
    (case M_l_mbes => k_is)
    (case M_c_mbes => k_is)
    (case M_k_mbes => k_is)
    (case M_at_meqm => k_is)
    (case M_fn_meqm => k_is)
    (case M_l_meqm => k_is)
    (case M_c_meqm => k_is)
    (case M_k_meqm => k_is)
    (case M_at_mpart => k_is)
    (case M_fn_mpart => k_is)
    (case M_l_mpart => k_is)
    (case M_c_mpart => k_is)
    (case M_k_mpart => k_is)
    (case M_at_mdiag => k_is)
    (case M_rc_mdiag => k_is)
    (case M_fi_mdiag => k_is)
    (case M_l_mdiag => k_is)
    (case M_c_mdiag => k_is)
    (case M_k_mdiag => k_is)
    (case M_at_munit => k_is)
    (case M_rc_munit => k_is)
    (case M_fi_munit => k_is)
    (case M_l_munit => k_is)
    (case M_c_munit => k_is)
    (case M_k_munit => k_is)
    (case z_int => k_is)
    (case z_len => k_is)
    (case z_abs => k_is)
    (case z_isinstance => k_is)
    (case z_bool => k_is)
    (case z_tuple => k_is)
    (case z_list => k_is)
    (case z_str => k_is)
    (case z_range => k_is)
    (case z_max => k_is)
    (case z_min => k_is)
    (case z_sorted => k_is)
    (case z_set => k_is)
    (case z_zip => k_is)
    (case z_sum => k_is)
    (case z_enumerate => k_is)
