import PyProof.Rows.All
import Wide.All
import OpenK.AllK
import Wide.FinOn
import PyProof.NoPylong
import Flt.Len
import HandS.ForMost
import HandS.ForExc
import HandS.Wide
import HandS.Gcd
import HandS.IsInst
import HandS.Evl
import HandS.Flow
import HandS.Iter
import HandS.ExcInit
import HandS.ExcField
import HandS.ExcCtx
import HandS.HotCalls
import HandS.ExcInitHot
import HandS.TupLe
import HandS.TupAny
import HandS.Conv
import HandS.Strs
import HandS.SetFor
import HandS.Zip
import HandS.Star
import HandS.ClsMeth
import HandS.Codes
import HandS.SlotsOwn
import HandS.Walk
import HandS.StrMore
import HandS.FStr
import HandS.FStrTup
import HandS.Style
import HandS.TryMany
import HandS.ExcIs
import HandS.Rev
import HandS.ListEq
import HandS.Small
import KE.GoesMore
import KE.GoesEnum
import PyProof.Draws
import Flt.RightSqrt
import PySem.Challenge.RW_everyfield_k33_texts_of_polynomials
set_option Elab.async false
set_option linter.all false
set_option maxRecDepth 100000
set_option maxHeartbeats 4000000
set_option exponentiation.threshold 20000
namespace My
open PySem PySem.Spec PyProof.Rows L2
def top (i : Nat) : Stmt := PySem.Challenge.pw_everyfield_k33_texts_of_polynomials.main.body.getD i (.Pass ⟨0, 0, 0, 0⟩)
-- part trim
/-! rows without zeros at the end -/
def tsz (l : List Int) : Nat → Nat
  | 0 => 0
  | k + 1 => if l.getD k 0 = 0 then tsz l k else k + 1
def trim (l : List Int) : List Int := l.take (tsz l l.length)
/-- the last one is not 0 -/
def Trim (l : List Int) : Prop := ∀ k, l.length = k + 1 → l.getD k 0 ≠ 0
theorem tsz_le (l : List Int) : ∀ k, tsz l k ≤ k
  | 0 => Nat.le_refl _
  | k + 1 => by
    unfold tsz
    split
    · exact Nat.le_succ_of_le (tsz_le l k)
    · exact Nat.le_refl _
theorem tsz_zero (l : List Int) : ∀ k i, tsz l k ≤ i → i < k → l.getD i 0 = 0
  | 0, i, _, h => absurd h (Nat.not_lt_zero i)
  | k + 1, i, h1, h2 => by
    unfold tsz at h1
    split at h1
    · rename_i c
      by_cases e : i = k
      · rw [e]
        exact c
      · exact tsz_zero l k i h1 (by omega)
    · omega
theorem tsz_last (l : List Int) : ∀ k n, tsz l k = n + 1 → l.getD n 0 ≠ 0
  | 0, n, h => by cases h
  | k + 1, n, h => by
    unfold tsz at h
    split at h
    · exact tsz_last l k n h
    · rename_i c
      cases h
      exact c
theorem getD_of {l : List Int} {i : Nat} {z : Int} (h : l[i]? = some z) : l.getD i 0 = z := by
  rw [List.getD_eq_getElem?_getD, h] <;> rfl
theorem getD_ge {l : List Int} {i : Nat} (h : l.length ≤ i) : l.getD i 0 = 0 := by
  rw [List.getD_eq_getElem?_getD, List.getElem?_eq_none h] <;> rfl
theorem getD_at {l : List Int} {i : Nat} (h : i < l.length) : l[i]? = some (l.getD i 0) := by
  rw [List.getD_eq_getElem?_getD, List.getElem?_eq_getElem h] <;> rfl
theorem getD_take (l : List Int) (n i : Nat) : (l.take n).getD i 0 = if i < n then l.getD i 0 else 0 := by
  rw [List.getD_eq_getElem?_getD, List.getElem?_take]
  split
  · rw [List.getD_eq_getElem?_getD]
  · rfl
theorem getD_map {f : Int → Int} (h0 : f 0 = 0) (l : List Int) (i : Nat) : (l.map f).getD i 0 = f (l.getD i 0) := by
  rw [List.getD_eq_getElem?_getD, List.getD_eq_getElem?_getD, List.getElem?_map]
  cases l[i]? with
  | none => exact h0.symm
  | some z => rfl
theorem getD_app0 (l : List Int) (k i : Nat) : (l ++ List.replicate k 0).getD i 0 = l.getD i 0 := by
  rw [List.getD_eq_getElem?_getD, List.getD_eq_getElem?_getD]
  by_cases c : i < l.length
  · rw [List.getElem?_append_left c]
  · rw [List.getElem?_append_right (by omega), List.getElem?_eq_none (show l.length ≤ i by omega), List.getElem?_replicate]
    split <;> rfl
theorem trim_len (l : List Int) : (trim l).length = tsz l l.length := by
  unfold trim
  rw [List.length_take]
  have := tsz_le l l.length
  omega
theorem trim_few (l : List Int) : (trim l).length ≤ l.length := by
  rw [trim_len]
  exact tsz_le l l.length
theorem trim_mem {l : List Int} {z : Int} (h : z ∈ trim l) : z ∈ l := List.mem_of_mem_take h
theorem trim_get (l : List Int) (i : Nat) : (trim l).getD i 0 = l.getD i 0 := by
  unfold trim
  rw [getD_take]
  split
  · rfl
  · rename_i c
    by_cases d : i < l.length
    · exact (tsz_zero l l.length i (by omega) d).symm
    · exact (getD_ge (by omega)).symm
theorem trim_trim (l : List Int) : Trim (trim l) := fun k h => by
  rw [trim_len] at h
  rw [trim_get]
  exact tsz_last l l.length k h
theorem Trim.ext {a b : List Int} (ha : Trim a) (hb : Trim b) (h : ∀ i, a.getD i 0 = b.getD i 0) : a = b := by
  have hl : a.length = b.length := by
    rcases Nat.lt_trichotomy a.length b.length with c | c | c
    · obtain ⟨k, hk⟩ : ∃ k, b.length = k + 1 := ⟨b.length - 1, by omega⟩
      have := hb k hk
      rw [← h k, getD_ge (by omega)] at this
      exact absurd rfl this
    · exact c
    · obtain ⟨k, hk⟩ : ∃ k, a.length = k + 1 := ⟨a.length - 1, by omega⟩
      have := ha k hk
      rw [h k, getD_ge (by omega)] at this
      exact absurd rfl this
  refine List.ext_getElem? fun i => ?_
  by_cases c : i < a.length
  · rw [getD_at c, getD_at (by omega), h i]
  · rw [List.getElem?_eq_none (by omega), List.getElem?_eq_none (by omega)]
theorem trim_ext {a b : List Int} (h : ∀ i, a.getD i 0 = b.getD i 0) : trim a = trim b :=
  (trim_trim a).ext (trim_trim b) fun i => by rw [trim_get, trim_get, h i]
theorem trim_of {l : List Int} (h : Trim l) : trim l = l := (trim_trim l).ext h fun i => trim_get l i
theorem trim_nil : trim [] = [] := rfl
theorem Trim.nil : Trim [] := fun k h => by cases h
theorem Trim.map {l : List Int} {f : Int → Int} (h : Trim l) (h0 : f 0 = 0) (hf : ∀ z, f z = 0 → z = 0) : Trim (l.map f) := fun k hk => by
  rw [List.length_map] at hk
  rw [getD_map h0]
  exact fun e => h k hk (hf _ e)
/-- sums and differences by places -/
theorem getD_zip {f : Int → Int → Int} (a b : List Int) (hl : a.length = b.length) (h0 : f 0 0 = 0) (i : Nat) : (List.zipWith f a b).getD i 0 = f (a.getD i 0) (b.getD i 0) := by
  rw [List.getD_eq_getElem?_getD, List.getElem?_zipWith]
  by_cases c : i < a.length
  · rw [getD_at c, getD_at (show i < b.length by omega)] <;> rfl
  · rw [List.getElem?_eq_none (by omega), List.getElem?_eq_none (show b.length ≤ i by omega), getD_ge (by omega), getD_ge (show b.length ≤ i by omega), h0] <;> rfl
def rngN (n : Nat) (f : Nat → Int) : List Int := (List.range n).map f
theorem rngN_len (n : Nat) (f : Nat → Int) : (rngN n f).length = n := by
  unfold rngN
  rw [List.length_map, List.length_range]
theorem rngN_at {n : Nat} {f : Nat → Int} {i : Nat} (h : i < n) : (rngN n f)[i]? = some (f i) := by
  unfold rngN
  rw [List.getElem?_map, List.getElem?_range h] <;> rfl
theorem rngN_get (n : Nat) (f : Nat → Int) (i : Nat) : (rngN n f).getD i 0 = if i < n then f i else 0 := by
  split
  · rename_i c
    exact getD_of (rngN_at c)
  · rename_i c
    exact getD_ge (by rw [rngN_len]; omega)
/-- the polynomial's rows: sum (sign s), product -/
def pplus (s : Int) (a b : List Int) : List Int := trim (rngN (max a.length b.length) fun i => a.getD i 0 + s * b.getD i 0)
theorem pplus_get (s : Int) (a b : List Int) (i : Nat) : (pplus s a b).getD i 0 = a.getD i 0 + s * b.getD i 0 := by
  unfold pplus
  rw [trim_get, rngN_get]
  split
  · rfl
  · rw [getD_ge (show a.length ≤ i by omega), getD_ge (show b.length ≤ i by omega)]
    simp
/-- the sum of f below n -/
def sumN (f : Nat → Int) : Nat → Int
  | 0 => 0
  | n + 1 => sumN f n + f n
theorem sumN_congr {f g : Nat → Int} : ∀ n, (∀ i, i < n → f i = g i) → sumN f n = sumN g n
  | 0, _ => rfl
  | n + 1, h => by
    unfold sumN
    rw [sumN_congr n fun i hi => h i (by omega), h n (by omega)]
theorem sumN_zero (n : Nat) : sumN (fun _ => 0) n = 0 := by
  induction n with
  | zero => rfl
  | succ n ih => unfold sumN; rw [ih]; rfl
theorem sumN_more {f : Nat → Int} {n : Nat} : ∀ m, (∀ i, n ≤ i → f i = 0) → n ≤ m → sumN f m = sumN f n
  | 0, _, h => by rw [show n = 0 by omega]
  | m + 1, h0, h => by
    by_cases e : n = m + 1
    · rw [e]
    · show sumN f m + f m = sumN f n
      rw [sumN_more m h0 (by omega), h0 m (by omega), Int.add_zero]
/-- the coefficient at k of the product -/
def cnv (a b : List Int) (k : Nat) : Int := sumN (fun i => a.getD i 0 * (if i ≤ k then b.getD (k - i) 0 else 0)) a.length
def pmul (a b : List Int) : List Int := trim (rngN (a.length + b.length) (cnv a b))
theorem cnv_far {a b : List Int} {k : Nat} (h : a.length + b.length ≤ k + 1) : cnv a b k = 0 := by
  unfold cnv
  rw [sumN_congr (g := fun _ => 0) _ fun i hi => ?_, sumN_zero]
  split
  · rw [getD_ge (show b.length ≤ k - i by omega), Int.mul_zero]
  · rw [Int.mul_zero]
theorem pmul_get (a b : List Int) (k : Nat) : (pmul a b).getD k 0 = cnv a b k := by
  unfold pmul
  rw [trim_get, rngN_get]
  split
  · rfl
  · exact (cnv_far (by omega)).symm
/-- the value at x -/
def pev : List Int → Int → Int
  | [], _ => 0
  | c :: l, x => c + x * pev l x
theorem pev_trim (l : List Int) (x : Int) : pev (trim l) x = pev l x := by
  unfold trim
  have key : ∀ (l : List Int) (n : Nat), (∀ i, n ≤ i → l.getD i 0 = 0) → pev (l.take n) x = pev l x := fun l => by
    induction l with
    | nil => intro n _; rw [List.take_nil]
    | cons c l ih =>
      intro n h
      cases n with
      | zero =>
        have hc : c = 0 := h 0 (Nat.le_refl _)
        have hl := ih 0 fun i _ => h (i + 1) (Nat.zero_le _)
        rw [List.take_zero] at hl ⊢
        show 0 = c + x * pev l x
        rw [← hl, hc]
        show (0 : Int) = 0 + x * 0
        rw [Int.mul_zero] <;> rfl
      | succ n =>
        rw [List.take_succ_cons]
        show c + x * pev (l.take n) x = c + x * pev l x
        rw [ih n fun i hi => h (i + 1) (by omega)]
  refine key l _ fun i hi => ?_
  by_cases c : i < l.length
  · exact tsz_zero l _ i hi c
  · exact getD_ge (by omega)
theorem pev_drop {l : List Int} {i : Nat} {c : Int} (h : l[i]? = some c) (x : Int) : pev (l.drop i) x = c + x * pev (l.drop (i + 1)) x := by
  have hi := (List.getElem?_eq_some_iff.mp h).1
  rw [List.drop_eq_getElem_cons hi]
  rw [List.getElem?_eq_getElem hi] at h
  cases h
  rfl
/-- the value, term by term -/
theorem pev_take {l : List Int} {i : Nat} {c : Int} (h : l[i]? = some c) (x : Int) : pev (l.take (i + 1)) x = pev (l.take i) x + c * x ^ i := by
  induction l generalizing i with
  | nil => cases h
  | cons d l ih =>
    cases i with
    | zero =>
      cases h
      rw [List.take_succ_cons, List.take_zero, List.take_zero]
      show c + x * 0 = 0 + c * x ^ 0
      simp
    | succ i =>
      have := ih (i := i) h
      rw [List.take_succ_cons, List.take_succ_cons]
      show d + x * pev (l.take (i + 1)) x = d + x * pev (l.take i) x + c * x ^ (i + 1)
      rw [this, Int.mul_add, Int.pow_succ]
      have e : x * (c * x ^ i) = c * (x ^ i * x) := by rw [Int.mul_left_comm, Int.mul_comm x]
      rw [e]
      omega

structure Cl (P : Program) (w : World) (K : PySem.W.Frag) (mg : Str → Option Value) (base : Heap) (CX : CXT) (k : Nat) (x : Str) (sp : Sp) : Prop where
  ex : ∃ (f : Addr) (fd : FuncData) (ps : List Str), FnOk P w K mg base CX k f fd ps sp ∧ mg x = some (.ref f) ∧ PySem.W.keepIn K (.ref f) = true ∧ Binds K fd ps []
theorem pe_cl {X : Cx} {k j : Nat} {x : Str} {sp : Sp} {p pos : Pos} {e : Expr} {es : List Expr} {t : TA} (c : Cl X.prog X.w X.K X.mg X.base CX0 k x sp) (hr : Room j X.A) (ha : PA X (e :: es) t) (hk : k ≤ j := by decide) (hg : Gl X x := by rfl)
    (hdb : (x == ("__debug__" : Str)) = false := by decide) (he : starEach (e :: es) X.env = (false, eval e X.env) :: starEach es X.env := by rfl) (hpl : (backTo pos (starEach es X.env)).any (·.1) = false := by rfl) :
    PE X (.Call (.Name x p) (e :: es) [] pos) (tCall sp [] E0 t) := by
  obtain ⟨f, fd, ps, F, hm, kp, b⟩ := c.ex
  exact pe_call F (hr.mono hk) hg hm kp b .nil pass0 ha hdb he hpl
structure Txt (mg : Str → Option Value) : Prop where
  int : mg "int" = none
  len : mg "len" = none
  abs : mg "abs" = none
  isinstance : mg "isinstance" = none
  bool : mg "bool" = none
  tuple : mg "tuple" = none
  list : mg "list" = none
  str : mg "str" = none
  range : mg "range" = none
  max : mg "max" = none
  min : mg "min" = none
  sorted : mg "sorted" = none
  set : mg "set" = none
theorem if_pos_of {c : Bool} {A B : Prop} (hc : c = true) (h : A) : if c = true then A else B := by
  rw [if_pos hc]
  exact h
theorem if_neg_of {c : Bool} {A B : Prop} (hc : c = false) (h : B) : if c = true then A else B := by
  rw [hc, if_neg Bool.false_ne_true]
  exact h
theorem same_upd {H : Hp} {p : Addr} {o : HO} (h : H p = none) : Same H (upd H p o) := fun b u e => by
  rw [upd_ne (ne_of_none e h)]
  exact e
/-- a call of a def that may raise, where it doesn't -/
theorem pe_cl0 {X : Cx} {k j : Nat} {x : Str} {sp : Sp} {p pos : Pos} {e : Expr} {es : List Expr} {t : TA} (c : Cl X.prog X.w X.K X.mg X.base (L2.CX X.prog X.w) k x sp) (hr : Room j X.A) (ha : PA X (e :: es) t) (hk : k ≤ j := by decide) (hg : Gl X x := by rfl)
    (hdb : (x == ("__debug__" : Str)) = false := by decide) (he : starEach (e :: es) X.env = (false, eval e X.env) :: starEach es X.env := by rfl) (hpl : (backTo pos (starEach es X.env)).any (·.1) = false := by rfl) :
    PE X (.Call (.Name x p) (e :: es) [] pos) (tCall sp [] E0 t) := by
  obtain ⟨f, fd, ps, F, hm, kp, b⟩ := c.ex
  exact pe_call F (hr.mono hk) hg hm kp b .nil passL ha hdb he hpl
/-- a call of a def that may raise, in a def or try that takes it -/
theorem pe_clX {X : Cx} {W : WX} {k j : Nat} {x : Str} {sp : Sp} {p pos : Pos} {e : Expr} {es : List Expr} {t : TA} (c : Cl X.prog X.w X.K X.mg X.base (L2.CX X.prog X.w) k x sp) (hr : Room j X.A) (tk : Takes X W) (ha : PA X (e :: es) t) (hk : k ≤ j := by decide) (hg : Gl X x := by rfl)
    (hdb : (x == ("__debug__" : Str)) = false := by decide) (he : starEach (e :: es) X.env = (false, eval e X.env) :: starEach es X.env := by rfl) (hpl : (backTo pos (starEach es X.env)).any (·.1) = false := by rfl) :
    PE X (.Call (.Name x p) (e :: es) [] pos) (tCallS sp (WE W) t) := by
  obtain ⟨f, fd, ps, F, hm, kp, b⟩ := c.ex
  exact pe_callS F (hr.mono hk) hg hm kp b (fun σ => passAt tk σ) ha hdb he hpl
/-- FieldError, and what its __init__ is -/
structure FErr (K : PySem.W.Frag) (mg : Str → Option Value) (C : Addr) : Prop where
  g : mg "FieldError" = some (.ref C)
  rd : PySem.W.readsIn K C (.type "type") = true
  ga : PySem.W.specialIn K (.ref C) "__getattribute__" = some (some (.builtin "type.__getattribute__"))
  fi : PySem.W.findCls K (.ref C) (.type "type") "__init__" = some (.val (.builtin "ValueError.__init__"))
theorem pe_feinit {X : Cx} {CF : Addr} {e : Expr} {es : List Expr} {ta : TA} {p1 p2 pos : Pos} {pl : Sem Bool} (F : FErr X.K X.mg CF) (ha : PA X (e :: es) ta) (hg : Gl X "FieldError" := by rfl)
    (hc : eval (.Call (.Attribute (.Name "FieldError" p1) "__init__" p2) (e :: es) [] pos) X.env = (do
      let ov ← eval (.Name "FieldError" p1) X.env
      standAt p2.atName
      let (f, first) ← holding [ov] (getMethod ov "__init__" pl)
      callWith pos f first (backTo pos (starEach (e :: es) X.env)) (backToKw pos (keywordEach [] X.env))) := by rfl)
    (he : starEach (e :: es) X.env = (false, eval e X.env) :: starEach es X.env := by rfl) (hpl : (backTo pos (starEach es X.env)).any (·.1) = false := by rfl) :
    PE X (.Call (.Attribute (.Name "FieldError" p1) "__init__" p2) (e :: es) [] pos) (tVeI X.K ta) := by
  refine ⟨fun pins s σ H Q I h => ?_⟩
  refine PySem.W.methodCall_KW (ld_glob I hg F.g ?_ (by decide)) hc
  refine PySem.W.method_cls I.kIn F.ga (PySem.W.cls_value I.kIn F.rd F.fi (by decide +kernel) ?_)
  show wpAny _ _ (callWith pos (Value.builtin "ValueError.__init__") [] (backTo pos (starEach (e :: es) X.env)) []) _ _ _
  refine PyProof.Rows.callWith_method1 (thn (ha.run pos pins _ σ H _ (I.tok _) h) fun us s1 ⟨vs, H1, I1, r1, a, C, ws, ev, hl, T, ea, q⟩ => ?_) he hpl
  subst ev
  cases r1 with
  | @cons _ u0 _ ur ra rw' =>
    obtain rfl : u0 = Value.ref a := ra
    have hlen : ur.length ≤ sizeLine := by
      rw [← Paired.length rw', sizeLine_eq]
      omega
    exact oinit_ok T I1 ea hlen fun s' J => ⟨.non, H1, J, rfl, q⟩
/-- an own error class with one attribute, and its __init__ by its promise -/
def spInit (C : Addr) (fld : Str) : Sp := fun vs H Q _ => ∃ (a : Addr) (v : V), vs = [.ref a, v] ∧ H a = some (exo a C none) ∧
  ∀ d, H d = none → d ≠ a → Q .non (upd (upd H d (exd d [(fld, v)])) a (exo a C (some d)))
structure ErrC (K : PySem.W.Frag) (mg : Str → Option Value) (nm fld : Str) (C fI : Addr) : Prop where
  g : mg nm = some (.ref C)
  oex : OexC K C
  no : PySem.W.findIn K (.ref C) fld = some none
  iC : PySem.W.findIn K (.ref C) "__init__" = some (some (.ref fI))
  tI : PySem.W.typeIn K (.ref fI) = some (.type "function")
  xf : XfC K C
  te : PySem.W.exmOne K (.ref C) (.ref C) = some true
structure Er (P : Program) (w : World) (K : PySem.W.Frag) (mg : Str → Option Value) (base : Heap) (nm fld : Str) (C : Addr) : Prop where
  ex : ∃ (fI : Addr) (fd : FuncData) (ps : List Str), ErrC K mg nm fld C fI ∧ FnOk P w K mg base CX0 1 fI fd ps (spInit C fld) ∧ Binds K fd ps []
theorem Er.c {P : Program} {w : World} {K : PySem.W.Frag} {mg : Str → Option Value} {base : Heap} {nm fld : Str} {C : Addr} (e : Er P w K mg base nm fld C) : ∃ fI, ErrC K mg nm fld C fI := by
  obtain ⟨fI, _, _, T, _⟩ := e.ex
  exact ⟨fI, T⟩
theorem exm_me {K : PySem.W.Frag} {S : Addr} (h1 : PySem.W.subIn K (.ref S) (.type "BaseException") = some true) (h2 : PySem.W.isClsIn K S = true) (h3 : PySem.W.typeIn K (.ref S) = some (.type "type")) (h4 : PySem.W.subIn K (.ref S) (.ref S) = some true) :
    PySem.W.exmOne K (.ref S) (.ref S) = some true := by
  have e1 : (PySem.W.subIn K (.ref S) (.type "BaseException") == some true) = true := by rw [h1] <;> rfl
  have h2' : (PySem.W.clsIn K S).isSome = true := h2
  have e2 : ((PySem.W.clsIn K S).isSome && PySem.W.typeIn K (.ref S) == some (.type "type")) = true := by rw [h2', h3] <;> rfl
  unfold PySem.W.exmOne
  rw [if_pos e1]
  show (if ((PySem.W.clsIn K S).isSome && PySem.W.typeIn K (.ref S) == some (.type "type")) = true then PySem.W.subIn K (.ref S) (.ref S) else none) = some true
  rw [if_pos e2]
  exact h4
/-- raise C(v): the argument, then what C's own __init__ asks (mk1 answers it) -/
theorem ps_raise1 {X : Cx} {W : WX} {x fld : Str} {C : Addr} {j : Nat} {e : Expr} {ta : TA} {p pos pos' : Pos} (c : Er X.prog X.w X.K X.mg X.base x fld C) (hr : Room j X.A) (tk : Takes X W) (ha : PA X [e] ta) (hj : 2 ≤ j := by decide) (hcalm : X.calm = true := by rfl) (hg : Gl X x := by rfl)
    (hdb : (x == ("__debug__" : Str)) = false := by decide) (he : starEach [e] X.env = (false, eval e X.env) :: starEach [] X.env := by rfl) (hpl : (backTo pos (starEach [] X.env)).any (·.1) = false := by rfl) :
    PS X (.Raise (some (.Call (.Name x p) [e] [] pos)) none pos') (fun _ σ H => tMkO C (spInit C fld) [] ta σ H fun cls d H' => W cls d σ H') := by
  obtain ⟨fI, fd, ps, T, F, b⟩ := c.ex
  exact ps_raise hcalm tk (pmk_oex (X := X) (p := p) (pos := pos) T.oex T.iC T.tI F (hr.mono hj) b .nil (fun _ _ _ _ _ _ _ h => h.elim) hg T.g ha hdb he hpl)
theorem mk1 {C : Addr} {fld : Str} {v : V} {H1 : Hp} {Q : XK} (k : ∀ d H2, Same H1 H2 → H1 d = none → H2 d = some (.xd [(fld, v)]) → Q (.ref C) (some d) H2) :
    ([v] : List V).length ≤ 1000 ∧ ∀ a, H1 a = none → spInit C fld (.ref a :: ([v] ++ [])) (upd H1 a (exo a C none))
      (fun u H2 => u = .non ∧ ∃ (d : Addr) (fs : List (Str × V)), H2 a = some (exo a C (some d)) ∧ H2 d = some (exd d fs) ∧ H1 d = none ∧ Q (.ref C) (some d) (upd (del H2 a) d (.xd fs))) (fun _ _ _ => False) := by
  refine ⟨(by show 1 ≤ 1000; decide), fun a ha => ⟨a, v, rfl, upd_same, fun d hd hda => ⟨rfl, d, [(fld, v)], upd_same, ?_, ?_, ?_⟩⟩⟩
  · rw [upd_ne hda, upd_same]
  · rw [upd_ne hda] at hd
    exact hd
  · rw [upd_ne hda] at hd
    refine k d _ (fun b o e => ?_) hd upd_same
    have hba := ne_of_none e ha
    have hbd := ne_of_none e hd
    rw [upd_ne hbd, del_ne hba, upd_ne hba, upd_ne hbd, upd_ne hba]
    exact e
/-! the same for exceptions whose context is None -/
theorem passN {X : Cx} : Passes (L2N.CX X.prog X.w) X E0 := fun _ _ _ _ _ _ _ ⟨_, _, _, _, _, _, _, _, _, _, _, _, z⟩ => z.elim
theorem takes0N {X : Cx} : L2N.Takes X (fun _ _ _ _ => False) := fun _ _ ⟨_, _, _, _, _, _, _, _, _, _, _, _, _, _, _, _, z⟩ => z.elim
theorem okN {P : Program} {w : World} {K : PySem.W.Frag} {mg : Str → Option Value} {base : Heap} {x qual : Str} {st : Stmt} {f : Addr} {fd : FuncData} {N ps : List Str} {k : Nat} {sp : Sp} (F : Fun K x qual st f fd) (S : FnScope N ps (defScope st)) (len : ∀ vs H Q E, sp vs H Q E → vs.length = ps.length)
    (body : ∀ (cdv : Value) (A : Around) (outer : List Env) (s : Shared) (H : Hp) (vs : List V) (Q : VK) (E : XK), Room k (A.deeper (envOfC qual (defScope st) s.heap.objs.size f cdv)) → sp vs H Q E →
      ∃ t, PSs (cxOf (L2N.CX P w) P w K mg base N qual (defScope st) f cdv A outer s H E) (defBody st) t ∧ t { nx := fun _ H' => Q .non H', rt := Q } (start N vs) H) : FnOk P w K mg base (L2N.CX P w) (k + 1) f fd ps sp := by
  obtain ⟨oc, od, kV, doc, pm, an, cdv, ct, osl, rfl, lk, hcd⟩ := F.ex
  exact fn_of lk hcd S len fun A outer s H vs Q E hr h => body cdv A outer s H vs Q E hr h
/-- a call of such a def, where it doesn't raise -/
theorem pe_clN0 {X : Cx} {k j : Nat} {x : Str} {sp : Sp} {p pos : Pos} {e : Expr} {es : List Expr} {t : TA} (c : Cl X.prog X.w X.K X.mg X.base (L2N.CX X.prog X.w) k x sp) (hr : Room j X.A) (ha : PA X (e :: es) t) (hk : k ≤ j := by decide) (hg : Gl X x := by rfl)
    (hdb : (x == ("__debug__" : Str)) = false := by decide) (he : starEach (e :: es) X.env = (false, eval e X.env) :: starEach es X.env := by rfl) (hpl : (backTo pos (starEach es X.env)).any (·.1) = false := by rfl) :
    PE X (.Call (.Name x p) (e :: es) [] pos) (tCall sp [] E0 t) := by
  obtain ⟨f, fd, ps, F, hm, kp, b⟩ := c.ex
  exact pe_call F (hr.mono hk) hg hm kp b .nil passN ha hdb he hpl
theorem pe_clNX {X : Cx} {W : WX} {k j : Nat} {x : Str} {sp : Sp} {p pos : Pos} {e : Expr} {es : List Expr} {t : TA} (c : Cl X.prog X.w X.K X.mg X.base (L2N.CX X.prog X.w) k x sp) (hr : Room j X.A) (tk : L2N.Takes X W) (ha : PA X (e :: es) t) (hk : k ≤ j := by decide) (hg : Gl X x := by rfl)
    (hdb : (x == ("__debug__" : Str)) = false := by decide) (he : starEach (e :: es) X.env = (false, eval e X.env) :: starEach es X.env := by rfl) (hpl : (backTo pos (starEach es X.env)).any (·.1) = false := by rfl) :
    PE X (.Call (.Name x p) (e :: es) [] pos) (tCallS sp (WE W) t) := by
  obtain ⟨f, fd, ps, F, hm, kp, b⟩ := c.ex
  exact pe_callS F (hr.mono hk) hg hm kp b (fun σ => L2N.passAt tk σ) ha hdb he hpl
theorem pmk_oexN {X : Cx} {e : Expr} {es : List Expr} {ta : TA} {p pos : Pos} {x : Str} {C fI : Addr} {k : Nat} {fd : FuncData} {ps : List Str} {sp : Sp} {ds : List Value} {dvs : List V} (T : OexC X.K C) (iC : PySem.W.findIn X.K (.ref C) "__init__" = some (some (.ref fI))) (tI : PySem.W.typeIn X.K (.ref fI) = some (.type "function"))
    (F1 : FnOk X.prog X.w X.K X.mg X.base CX0 k fI fd ps sp) (hr : Room (k + 1) X.A) (hb : Binds X.K fd ps ds) (hd : Vals dvs ds) (hg : Gl X x) (hm : X.mg x = some (.ref C)) (ha : PA X (e :: es) ta)
    (hdb : (x == ("__debug__" : Str)) = false) (he : starEach (e :: es) X.env = (false, eval e X.env) :: starEach es X.env) (hpl : (backTo pos (starEach es X.env)).any (·.1) = false) :
    L2N.PMk X (.Call (.Name x p) (e :: es) [] pos) (tMkO C sp dvs ta) := by
  intro pins s σ H Q I h
  obtain ⟨nm, q, N, bs, bm, sn, sub, ab, col, dd, k0, k1, k2, k3, k5, hC, hbm⟩ := T.cls
  refine wpAny_Call_Name_kw (ld_glob I hg hm ?_ hdb)
  refine PySem.W.callWith_K (h₀ := X.base) I.ok.mod.kin T.kC (thn (ha.run pos pins s σ H _ I h) fun us st got => ?_) he hpl
  obtain ⟨vs, G1, I1, r1, hz, q1⟩ := got
  refine ⟨I1.kIn, ?_⟩
  show wpAny _ _ (call (.ref C) us) _ _ _
  obtain ⟨hp, g, dr, tk, os⟩ := st
  generalize ex : hp.objs.size + 1 = x1 at *
  have le1 : hp.objs.size ≤ x1 := by omega
  have sp1 := q1 x1 (I1.hok.fresh le1)
  have old : ∀ b o, hp.get? b = some o → ((hp.push (PySem.W.kdv_tup us)).push (PySem.HandSPX.excO C hp.objs.size)).get? b = some o := fun b o z =>
    Heap.get?_push_of_some _ (Heap.get?_push_of_some _ z)
  have new1 : ((hp.push (PySem.W.kdv_tup us)).push (PySem.HandSPX.excO C hp.objs.size)).get? x1 = some (PySem.HandSPX.excO C hp.objs.size) := by
    subst ex
    heap_get
  have I2 := I1.laid (t' := tk) (a := x1) (o := exo x1 C none) old le1 (exo_ok new1)
  have rel : Vals (V.ref x1 :: (vs ++ dvs)) (Value.ref x1 :: (us ++ ds)) := .cons rfl (r1.append hd)
  have few : us.length ≤ sizeLine := by
    have := Paired.length r1
    rw [sizeLine_eq]
    omega
  have many : (Value.ref x1 :: us ++ ds).length = ps.length := by
    have z := rel.length
    rw [F1.len _ _ _ _ sp1] at z
    exact z.symm
  have run := F1.run _ X.stack _ _ ⟨Value.ref x1 :: us, []⟩ (Value.ref x1 :: (us ++ ds)) _ _ (fun _ _ _ => False) (hr.make C us []) (I2.env0.make C us []) (hb _ (Value.ref x1 :: us) I2.kIn many) rel sp1
  refine wpAny_call (PySem.HandSPX.call_own F.excBase_ValueError (fun Y => PySem.HandSPX.refsVE_contains Y bm hbm) (I1.kIn _ _ hC) (PySem.W.looks_findIn I1.kIn iC) (fun self => PySem.W.bind_fn I1.kIn self tI) few ?_)
  subst ex
  refine codeAny_mono run fun r s' back => ?_
  cases r with
  | error er => exact False.elim back
  | ok fl =>
    cases fl with
    | ret u =>
      obtain ⟨v, H2, os2, bare2, un2, hok2, rv, ev, d, fs, ea, ed, hd1, q2⟩ := back
      subst ev
      obtain ⟨h2, g2, d2, t2, os'⟩ := s'
      obtain ⟨t0, G, J, kG, ge, hoe, na⟩ := mk_end0 (d2 := d2) (t2 := t2) I1 le1 old un2 hok2 os2 bare2 ea ed hd1
      exact ⟨rv, _, _, _, ⟨G, g2, d2, t2, os'⟩, _, .ref C, some d, rfl, J, kG, ge, hoe, ⟨rfl, rfl, fun vs z => by cases z; rfl⟩, rfl, rfl, na, rfl, bare2, raises_own T.exC T.tyC, q2⟩
    | next => exact False.elim back
    | brk => exact False.elim back
    | cont => exact False.elim back
theorem ps_raise1N {X : Cx} {W : WX} {x fld : Str} {C : Addr} {j : Nat} {e : Expr} {ta : TA} {p pos pos' : Pos} (c : Er X.prog X.w X.K X.mg X.base x fld C) (hr : Room j X.A) (tk : L2N.Takes X W) (ha : PA X [e] ta) (hj : 2 ≤ j := by decide) (hcalm : X.calm = true := by rfl) (hg : Gl X x := by rfl)
    (hdb : (x == ("__debug__" : Str)) = false := by decide) (he : starEach [e] X.env = (false, eval e X.env) :: starEach [] X.env := by rfl) (hpl : (backTo pos (starEach [] X.env)).any (·.1) = false := by rfl) :
    PS X (.Raise (some (.Call (.Name x p) [e] [] pos)) none pos') (fun _ σ H => tMkO C (spInit C fld) [] ta σ H fun cls d H' => W cls d σ H') := by
  obtain ⟨fI, fd, ps, T, F, b⟩ := c.ex
  exact L2N.ps_raise hcalm tk (pmk_oexN (X := X) (p := p) (pos := pos) T.oex T.iC T.tI F (hr.mono hj) b .nil hg T.g ha hdb he hpl)
section
variable {P : Program} {w : World} {K : PySem.W.Frag} {mg : Str → Option Value} {base : Heap}
-- part gen2
/-- an isinstance of an int -/
theorem isi_int {K : PySem.W.Frag} {i : Int} {T : String} {b : Bool} {H : Hp} {Q : VK} (h : kitB "int" T = some b) (q : Q (.bl b) H) : rIsi K [.int i, .ty T] H Q :=
  ⟨_, _, _, _, b, rfl, .ty T, .base (.int i), kit_ty h, q⟩
theorem isi_tup {K : PySem.W.Frag} {a : Addr} {xs : List V} {T : String} {b : Bool} {H : Hp} {Q : VK} (ha : H a = some (.tup xs)) (h : kitB "tuple" T = some b) (q : Q (.bl b) H) : rIsi K [.ref a, .ty T] H Q :=
  ⟨_, _, _, _, b, rfl, .ty T, .base (.tup ha), kit_ty h, q⟩
theorem isi_bl {K : PySem.W.Frag} {x : Bool} {T : String} {b : Bool} {H : Hp} {Q : VK} (h : kitB "bool" T = some b) (q : Q (.bl b) H) : rIsi K [.bl x, .ty T] H Q :=
  ⟨_, _, _, _, b, rfl, .ty T, .base (.bl x), kit_ty h, q⟩
theorem isi_lst {K : PySem.W.Frag} {a : Addr} {xs : List V} {T : String} {b : Bool} {H : Hp} {Q : VK} (ha : H a = some (.lst xs)) (h : kitB "list" T = some b) (q : Q (.bl b) H) : rIsi K [.ref a, .ty T] H Q :=
  ⟨_, _, _, _, b, rfl, .ty T, .base (.lst ha), kit_ty h, q⟩
/-- the law's own promise -/
def spLaw (K : PySem.W.Frag) : Sp := fun vs H Q _ => ∃ (a : Addr) (ns : List Int), vs = [.ref a] ∧ SqL K H a (ns.map V.int) ∧ ns.length ≤ 63 ∧ ∀ H', Q (.bl true) H'
/-- a test by an own truth -/
theorem pt_own {X : Cx} {a : Expr} {ta : TE} {r : V → Hp → (Bool → Hp → Prop) → Prop} (ha : PE X a ta) (hr : TruR X r) (he : ∀ whole, isTrue a X.env whole = (do let v ← whole; standAt a.pos; holding [v] (truthy v)) := by intro _; rfl) :
    PT X a (fun σ H Q => ta σ H fun x H' => r x H' Q) :=
  ⟨fun pins s σ H Q I h => isTrue_plain (thn (ha.run pins s σ H _ I h) fun v s1 ⟨x, H1, I1, r1, q1⟩ => hr pins s1 σ H1 x v Q I1 r1 q1) (he _)⟩
-- part cell

abbrev s_cell : Stmt := top 14
theorem sc_cell : FnScope ["_law_script", "_law_k"] ["_law_script", "_law_k"] (defScope s_cell) := ⟨rfl, rfl, rfl, by decide +kernel, rfl, by decide +kernel, by decide +kernel⟩
def spCellL (K : PySem.W.Frag) : Sp := fun vs H Q _ => ∃ (a : Addr) (ns : List Int) (k : Nat), vs = [.ref a, .int (k : Int)] ∧ SqL K H a (ns.map V.int) ∧ ∀ v, Q (.int v) H
theorem ok_cell {f : Addr} {fd : FuncData} (T : Txt mg) (F : Fun K "_law_cell" "_law_cell" s_cell f fd) : FnOk P w K mg base CX0 1 f fd ["_law_script", "_law_k"] (spCellL K) := by
  refine F.ok sc_cell (fun vs H Q E h => ?_) (fun cdv A outer s H vs Q E hr h => ?_)
  · obtain ⟨a, ns, k, rfl, _⟩ := h
    rfl
  · obtain ⟨a, ns, k, rfl, hS, q⟩ := h
    refine ⟨_, (pss_cons (ps_if (pt_cmpR op_lt (pv 1) (pe_callB call_len_seq (by rfl) T.len PySem.boot_len (pa_cons (pv 0) pa_nil)) (nomark _)) (pss_one (ps_ret (pe_ix ix_list (pv 0) (pv 1) (fun _ _ => rfl)))) pss_nil)
 (pss_one (ps_ret pe_int))), ?_⟩
    refine ⟨_, rfl, _, rfl, a, _, rfl, .inl hS, _, _, rfl, rfl, _, rfl, ?_⟩
    rw [List.length_map]
    by_cases c : k < ns.length
    · refine if_pos_of (decide_eq_true (by omega)) ?_
      refine ⟨_, rfl, _, rfl, a, _, _, .int ns[k], rfl, rfl, hS, atI_nat (by rw [List.getElem?_map, List.getElem?_eq_getElem c]; rfl), ?_⟩
      exact q _
    · refine if_neg_of (decide_eq_false (by omega)) ?_
      exact q _
-- part maps
/-! comprehensions and loops whose turns leave what stood before as it was -/
/-- the list that a comprehension makes: f i behind i turns -/
def PvM (H1 : Hp) (D : Addr) (f : Nat → List V) (i : Nat) (H : Hp) : Prop := Same H1 H ∧ H D = some (.lst (f i))
theorem PvM.zero {H1 : Hp} {D : Addr} {f : Nat → List V} (hD : H1 D = none) (h0 : f 0 = []) : PvM H1 D f 0 (upd H1 D (.lst [])) := ⟨same_upd hD, by rw [h0]; exact upd_same⟩
theorem PvM.push {H1 H4 : Hp} {D : Addr} {f : Nat → List V} {i : Nat} {y : V} (hD : H1 D = none) (s : Same H1 H4) (hd : H4 D = some (.lst (f i))) (few : (f i).length < 1000) (hf : f (i + 1) = f i ++ [y]) :
    ∃ acc, H4 D = some (.lst acc) ∧ acc.length < sizeLine ∧ PvM H1 D f (i + 1) (upd H4 D (.lst (acc ++ [y]))) :=
  ⟨f i, hd, small1000 (by omega), fun b o eb => by
    rw [upd_ne (ne_of_none eb hD)]
    exact s b o eb, by rw [hf]; exact upd_same⟩
theorem PvM.skip {H1 H4 : Hp} {D : Addr} {f : Nat → List V} {i : Nat} (s : Same H1 H4) (hd : H4 D = some (.lst (f i))) (hf : f (i + 1) = f i) : PvM H1 D f (i + 1) H4 := ⟨s, by rw [hf]; exact hd⟩
section
variable {J : It} {n : Nat} {G : Hp → Prop} {Y : Nat → Hp → V → Hp → Prop}
theorem lcW (w : Walk J n G Y) {g : TG} {tt : TT} {te : TE} {vs : List Nat} {σ : L2.St} {H1 : Hp} {D : Addr} {Qd : Hp → Prop} (f : Nat → List V) (hD : H1 D = none) (h0 : f 0 = []) (hG : ∀ H, Same H1 H → G H)
    (hs : ∀ i x H H', i < n → Same H1 H → H D = some (.lst (f i)) → Y i H x H' → g x (wipe σ vs) H' fun σ2 H2 => wipe σ2 vs = wipe σ vs ∧ tt σ2 H2 fun b H3 =>
      if b = true then te σ2 H3 fun y H4 => ∃ acc, H4 D = some (.lst acc) ∧ acc.length < sizeLine ∧ PvM H1 D f (i + 1) (upd H4 D (.lst (acc ++ [y]))) else PvM H1 D f (i + 1) H3) (hd : ∀ H, Same H1 H → H D = some (.lst (f n)) → Qd H) :
    ∃ W : Nat → Nat → Hp → Prop, (∃ m, W 0 m (upd H1 D (.lst []))) ∧ ∀ i m H, W i m H →
      (J.stop i H ∧ Qd H) ∨ (J.go i H ∧ ∃ Nx : Hp → Prop, (∀ H', Nx H' → ∃ m', m' < m ∧ W (i + 1) m' H') ∧ ∀ x H', J.yld i H x H' → g x (wipe σ vs) H' fun σ2 H2 => wipe σ2 vs = wipe σ vs ∧ tt σ2 H2 fun b H3 =>
        if b = true then te σ2 H3 fun y H4 => ∃ acc, H4 D = some (.lst acc) ∧ acc.length < sizeLine ∧ Nx (upd H4 D (.lst (acc ++ [y]))) else Nx H3) :=
  lc_it w (PvM H1 D f) (PvM.zero hD h0) (fun _ H _ h => hG H h.1) (fun i x H H' hi h y => hs i x H H' hi h.1 h.2 y) fun H h => hd H h.1 h.2
end
/-- the first i of a row -/
abbrev tkV (l : List V) (i : Nat) : List V := l.take i
theorem tkV_succ {l : List V} {i : Nat} {y : V} (h : l[i]? = some y) : tkV l (i + 1) = tkV l i ++ [y] := by
  show l.take (i + 1) = l.take i ++ [y]
  rw [List.take_add_one, h]
  rfl
theorem tkV_len (l : List V) (i : Nat) : (tkV l i).length ≤ l.length := by
  show (l.take i).length ≤ l.length
  rw [List.length_take]
  omega
theorem tkV_all (l : List V) : tkV l l.length = l := List.take_length
/-- the turn of a map ends -/
theorem mapEnd {H1 H4 : Hp} {D : Addr} {ys : List V} {i : Nat} {y : V} (hD : H1 D = none) (few : ys.length < 1000) (s : Same H1 H4) (hd : H4 D = some (.lst (tkV ys i))) (hy : ys[i]? = some y) :
    ∃ acc, H4 D = some (.lst acc) ∧ acc.length < sizeLine ∧ PvM H1 D (tkV ys) (i + 1) (upd H4 D (.lst (acc ++ [y]))) :=
  PvM.push hD s hd (Nat.lt_of_le_of_lt (tkV_len ys i) few) (tkV_succ hy)
theorem map_at {α : Type} {f : α → V} {l : List α} {i : Nat} {z : α} (h : l[i]? = some z) : (l.map f)[i]? = some (f z) := by
  rw [List.getElem?_map, h]
  rfl
theorem pow_small {z : Int} {n m : Nat} (h : z.natAbs < 2 ^ n) (hnm : n ≤ m) : z.natAbs < 2 ^ m := Nat.lt_of_lt_of_le h (Nat.pow_le_pow_right (by decide) hnm)
theorem flat_rep {α : Type} (x : α) : ∀ m : Nat, (List.replicate m [x]).flatten = List.replicate m x
  | 0 => rfl
  | m + 1 => by rw [List.replicate_succ, List.flatten_cons, flat_rep x m, List.replicate_succ, List.singleton_append]
/-- len of a list or tuple, the frame named -/
def rLenS (K : PySem.W.Frag) : List V → Hp → VK → Prop := fun xs H Q => ∃ p ys, xs = [V.ref p] ∧ (SqL K H p ys ∨ SqT K H p ys) ∧ Q (V.int (ys.length : Int)) H
theorem call_len_seqK {X : Cx} {K : PySem.W.Frag} (hK : X.K = K) : CallR X (.builtin "len") (rLenS K) := by
  subst hK
  exact call_len_seq
/-- o.f, the frame named -/
theorem pe_fldK {X : Cx} {K : PySem.W.Frag} {e : Expr} {f : Str} {pos : Pos} {ta : TE} (hK : X.K = K) (he : PE X e ta) (hb : attributeBase e f X.env (eval e X.env) = eval e X.env) : PE X (.Attribute e f pos) (tFld K ta f) := by
  subst hK
  exact pe_fld he hb
/-- range(n): 0, 1, .. -/
theorem walk_range0 {n : Nat} : Walk (Itr 0 n) n (fun _ => True) (YFn fun i => .int (i : Int)) :=
  walk_range.mono (fun _ _ => trivial) fun i H x H' _ _ y => ⟨y.1, y.2.trans (congrArg V.int (Int.zero_add _))⟩
section
variable {J : It} {n : Nat} {G : Hp → Prop} {Y : Nat → Hp → V → Hp → Prop}
/-- a comprehension that makes the row ys -/
theorem lcMap (w : Walk J n G Y) {g : TG} {tt : TT} {te : TE} {vs : List Nat} {σ : L2.St} {H1 : Hp} {D : Addr} {Qd : Hp → Prop} (ys : List V) (hl : ys.length = n) (hD : H1 D = none) (hG : ∀ H, Same H1 H → G H)
    (hs : ∀ i x H H', i < n → Same H1 H → H D = some (.lst (tkV ys i)) → Y i H x H' → g x (wipe σ vs) H' fun σ2 H2 => wipe σ2 vs = wipe σ vs ∧ tt σ2 H2 fun b H3 =>
      if b = true then te σ2 H3 fun y H4 => ∃ acc, H4 D = some (.lst acc) ∧ acc.length < sizeLine ∧ PvM H1 D (tkV ys) (i + 1) (upd H4 D (.lst (acc ++ [y]))) else PvM H1 D (tkV ys) (i + 1) H3) (hd : ∀ H, Same H1 H → H D = some (.lst ys) → Qd H) :
    ∃ W : Nat → Nat → Hp → Prop, (∃ m, W 0 m (upd H1 D (.lst []))) ∧ ∀ i m H, W i m H →
      (J.stop i H ∧ Qd H) ∨ (J.go i H ∧ ∃ Nx : Hp → Prop, (∀ H', Nx H' → ∃ m', m' < m ∧ W (i + 1) m' H') ∧ ∀ x H', J.yld i H x H' → g x (wipe σ vs) H' fun σ2 H2 => wipe σ2 vs = wipe σ vs ∧ tt σ2 H2 fun b H3 =>
        if b = true then te σ2 H3 fun y H4 => ∃ acc, H4 D = some (.lst acc) ∧ acc.length < sizeLine ∧ Nx (upd H4 D (.lst (acc ++ [y]))) else Nx H3) :=
  lcW w (tkV ys) hD rfl hG hs fun H s h => hd H s (by rw [h, ← hl, tkV_all])
end
-- part eqints
theorem eqvAll_ints : ∀ l m : List Int, PyData.eqvAll (l.map PyData.int) (m.map PyData.int) = decide (l = m)
  | [], [] => by rw [List.map_nil, PyData.eqvAll]; rfl
  | [], b :: m => by rw [List.map_nil, List.map_cons, PyData.eqvAll] <;> first | (exact (decide_eq_false (by simp)).symm) | skip
  | a :: l, [] => by rw [List.map_nil, List.map_cons, PyData.eqvAll] <;> first | (exact (decide_eq_false (by simp)).symm) | skip
  | a :: l, b :: m => by
    rw [List.map_cons, List.map_cons, PyData.eqvAll, PyData.eqv, eqvAll_ints l m]
    by_cases c : a = b
    · subst c
      by_cases c2 : l = m
      · subst c2
        simp
      · simp [c2]
    · simp [c]
theorem eqv_ints (l m : List Int) : PyData.eqv (.list (l.map PyData.int)) (.list (m.map PyData.int)) = decide (l = m) := by
  rw [PyData.eqv]
  exact eqvAll_ints l m
theorem eqv_intsT (l m : List Int) : PyData.eqv (.tuple (l.map PyData.int)) (.tuple (m.map PyData.int)) = decide (l = m) := by
  rw [PyData.eqv]
  exact eqvAll_ints l m
theorem canLay_ints : ∀ l : List Int, PyData.canLayAll0 (l.map PyData.int) = true
  | [] => by rw [List.map_nil, PyData.canLayAll0]
  | a :: l => by rw [List.map_cons, PyData.canLayAll0, PyData.canLay0, canLay_ints l]; rfl
theorem depth_ints : ∀ l : List Int, PyData.depthAll (l.map PyData.int) = 0
  | [] => by rw [List.map_nil, PyData.depthAll]
  | a :: l => by rw [List.map_cons, PyData.depthAll, PyData.depth, depth_ints l]; rfl
theorem shaped_ints (l : List Int) : SeqAt.shaped (.list (l.map PyData.int)) = true := by
  unfold SeqAt.shaped
  rw [PyData.canLay0, canLay_ints, PyData.depth, depth_ints]
  rfl
theorem shaped_intsT (l : List Int) : SeqAt.shaped (.tuple (l.map PyData.int)) = true := by
  unfold SeqAt.shaped
  rw [PyData.canLay0, canLay_ints, PyData.depth, depth_ints]
  rfl
theorem dpAll_ints {K : PySem.W.Frag} {H : Hp} : ∀ l : List Int, DpAll K H (l.map V.int) (l.map PyData.int)
  | [] => .nil
  | a :: l => .cons (.int a) (dpAll_ints l)
theorem dp_lst {K : PySem.W.Frag} {H : Hp} {a : Addr} {l : List Int} (h : SqL K H a (l.map V.int)) : Dp K H (.ref a) (.list (l.map PyData.int)) := .lst h (dpAll_ints l)
theorem dp_tup {K : PySem.W.Frag} {H : Hp} {a : Addr} {l : List Int} (h : SqT K H a (l.map V.int)) : Dp K H (.ref a) (.tuple (l.map PyData.int)) := .tup h (dpAll_ints l)
theorem hu64 {k : Nat} {A : Around} (hr : Room k A) : A.units + 64 < cLine := by
  have := hr.un
  omega
theorem item_int {l : List Int} {i : Nat} {y : V} (h : (l.map V.int)[i]? = some y) : ∃ z : Int, y = .int z ∧ l[i]? = some z := by
  rw [List.getElem?_map] at h
  cases e : l[i]? with
  | none =>
    rw [e] at h
    cases h
  | some z =>
    rw [e] at h
    exact ⟨z, (Option.some.inj h).symm, rfl⟩
-- part draws
abbrev s_draws : Stmt := top 15
theorem sc_draws : FnScope ["_law_cell_here", "_law_sizes", "_law_drawn", "_law_left", "_law_at", "_law_mixed"] ["_law_cell_here", "_law_sizes"] (defScope s_draws) := ⟨rfl, rfl, rfl, by decide +kernel, rfl, by decide +kernel, by decide +kernel⟩
/-- numbers drawn below their sizes -/
def Drawn (zs ds : List Int) : Prop := ds.length = zs.length ∧ ∀ (i : Nat) (d z : Int), ds[i]? = some d → zs[i]? = some z → 0 ≤ d ∧ d < z
def spDraws (K : PySem.W.Frag) : Sp := fun vs H Q _ => ∃ (c : Int) (s : Addr) (zs : List Int), vs = [.int c, .ref s] ∧ SqL K H s (zs.map V.int) ∧ zs.length < 100 ∧ (∀ z ∈ zs, 0 < z ∧ z.natAbs < 2 ^ 300) ∧
  ∀ p ds H', H p = none → Drawn zs ds → Same H H' → H' p = some (.lst (ds.map V.int)) → Q (.ref p) H'
theorem mix_small2 (z : Int) : -(2 ^ 64) < z % 2147483647 ∧ z % 2147483647 < 2 ^ 64 := by
  have h1 := Int.emod_nonneg z (show (2147483647 : Int) ≠ 0 by decide)
  have h2 := Int.emod_lt_of_pos z (show (0 : Int) < 2147483647 by decide)
  omega
theorem ok_draws {f : Addr} {fd : FuncData} (T : Txt mg) (F : Fun K "_law_draws" "_law_draws" s_draws f fd) : FnOk P w K mg base CX0 1 f fd ["_law_cell_here", "_law_sizes"] (spDraws K) := by
  refine F.ok sc_draws (fun vs H Q E h => ?_) (fun cdv A outer s H vs Q E hr h => ?_)
  · obtain ⟨c, s, zs, rfl, _⟩ := h
    rfl
  · obtain ⟨c, s, zs, rfl, hS, few, hz, q⟩ := h
    refine ⟨_, (pss_cons (ps_set (i := 2) sc_draws.nd rfl (Or.inl rfl) (pe_lst pa_nil))
 (pss_cons (ps_set (i := 3) sc_draws.nd rfl (Or.inl rfl) (pe_callB call_abs (by rfl) T.abs boot_abs (pa_cons (pv 0) pa_nil)))
 (pss_cons (ps_for PassesOwn.never rfl (pi_range1 rfl T.range (pa_cons (pe_callB call_len_seq (by rfl) T.len PySem.boot_len (pa_cons (pv 1) pa_nil)) pa_nil)) (pg_name (i := 4) sc_draws.nd rfl (Or.inl rfl)) (pss_one (ps_if (pt_cmpR op_ge (pe_callB call_abs (by rfl) T.abs boot_abs (pa_cons (pv 0) pa_nil)) (pe_op op_pow pe_int pe_int) (nomark _)) (pss_cons (ps_expr (pe_bm PySem.F.plainAttrs_list PySem.F.slot_list_append PySem.F.type_list_append mt_append (pv 2) (pa_cons (pe_op op_mod (pe_callTy call_int1 (by rfl) T.int boot_int (pa_cons (pv 3) pa_nil)) (pe_ix ix_list (pv 1) (pv 4) (fun _ _ => rfl))) pa_nil)))
 (pss_one (ps_set (i := 3) sc_draws.nd rfl (Or.inl rfl) (pe_op op_fdivW (pv 3) (pe_ix ix_list (pv 1) (pv 4) (fun _ _ => rfl)))))) (pss_cons (ps_set (i := 5) sc_draws.nd rfl (Or.inl rfl) (pe_op op_mod (pe_callTy call_int1 (by rfl) T.int boot_int (pa_cons (pe_op op_mul (pe_op op_add (pe_op op_add (pv 3) (pe_op op_mul pe_int (pv 4))) pe_int) pe_int) pa_nil)) pe_int))
 (pss_cons (ps_set (i := 5) sc_draws.nd rfl (Or.inl rfl) (pe_op op_mod (pe_callTy call_int1 (by rfl) T.int boot_int (pa_cons (pe_op op_add (pe_op op_add (pe_op op_mul (pe_op op_mul (pv 5) (pv 5)) pe_int) (pe_op op_mul pe_int (pv 4))) (pv 5)) pa_nil)) pe_int))
 (pss_one (ps_expr (pe_bm PySem.F.plainAttrs_list PySem.F.slot_list_append PySem.F.type_list_append mt_append (pv 2) (pa_cons (pe_op op_mod (pe_op op_fdivW (pv 5) pe_int) (pe_ix ix_list (pv 1) (pv 4) (fun _ _ => rfl))) pa_nil)))))))))
 (pss_one (ps_ret (pv 2)))))), ?_⟩
    refine ⟨(by show 0 ≤ sizeLine; decide), fun D nD => ⟨_, rfl, _, rfl, ?_⟩⟩
    have g1 := same_upd (o := .lst []) nD
    refine ⟨_, rfl, s, _, rfl, .inl (g1.seq hS), _, rfl, (by rw [List.length_map]; omega), (by rw [List.length_map]; omega), ?_⟩
    refine for_range (lo := 0) (n := _) (fun i σ H' => ∃ (ds : List Int) (left : Int) (x4 x5 : Option V), σ = [some (.int c), some (.ref s), some (.ref D), some (.int left), x4, x5] ∧ Same H H' ∧ H' D = some (.lst (ds.map V.int)) ∧ ds.length = i ∧
        ∀ (j : Nat) (d z : Int), ds[j]? = some d → zs[j]? = some z → 0 ≤ d ∧ d < z) ⟨[], _, none, none, rfl, g1, upd_same, rfl, fun j d z h => by cases h⟩ ?_ ?_
    · rintro i σ H' hi ⟨ds, left, x4, x5, rfl, s1, hD, hl, hds⟩
      have hi : i < zs.length := by
        have hi' : i < (zs.map V.int).length := by simpa using hi
        rwa [List.length_map] at hi'
      have hzi : zs[i]? = some zs[i] := List.getElem?_eq_getElem hi
      obtain ⟨zp, zb⟩ := hz _ (List.mem_of_getElem? hzi)
      generalize ez : zs[i] = z at hzi zp zb
      have at_z : atI (zs.map V.int) (0 + (i : Int)) = some (V.int z) := by
        rw [Int.zero_add]
        exact atI_nat (map_at hzi)
      have more : ∀ d : Int, 0 ≤ d → d < z → ∀ (j : Nat) (d' z' : Int), (ds ++ [d])[j]? = some d' → zs[j]? = some z' → 0 ≤ d' ∧ d' < z' := fun d h0 h1 j d' z' hd' hz' => by
        by_cases c : j < ds.length
        · rw [List.getElem?_append_left c] at hd'
          exact hds j d' z' hd' hz'
        · rw [List.getElem?_append_right (by omega)] at hd'
          have e : j = i := by
            by_cases e : j - ds.length = 0
            · omega
            · rw [List.getElem?_eq_none (by show 1 ≤ j - ds.length; omega)] at hd'
              cases hd'
          subst e
          rw [hl, Nat.sub_self] at hd'
          cases hd'
          rw [hzi] at hz'
          cases hz'
          exact ⟨h0, h1⟩
      have fin : ∀ (d left : Int) (x4 x5 : Option V), 0 ≤ d → d < z → ∃ (ds' : List Int) (left' : Int) (y4 y5 : Option V), [some (.int c), some (.ref s), some (.ref D), some (.int left), x4, x5] = [some (.int c), some (.ref s), some (.ref D), some (.int left'), y4, y5] ∧
          Same H (upd H' D (.lst (ds.map V.int ++ [.int d]))) ∧ (upd H' D (.lst (ds.map V.int ++ [.int d]))) D = some (.lst (ds'.map V.int)) ∧ ds'.length = i + 1 ∧ ∀ (j : Nat) (d z : Int), ds'[j]? = some d → zs[j]? = some z → 0 ≤ d ∧ d < z := fun d left x4 x5 h0 h1 =>
        ⟨ds ++ [d], left, x4, x5, rfl, fun b o eb => by
          rw [upd_ne (ne_of_none eb nD)]
          exact s1 b o eb, by rw [List.map_append]; exact upd_same, by rw [List.length_append, hl]; rfl, more d h0 h1⟩
      have few2 : (ds.map V.int).length < sizeLine := by rw [List.length_map]; exact small1000 (by omega)
      refine ⟨_, rfl, _, rfl, _, _, rfl, rfl, ⟨by decide, by decide, by decide⟩, _, _, rfl, rfl, _, rfl, ?_⟩
      by_cases c1 : (10 : Int) ^ 18 ≤ if c < 0 then -c else c
      · refine if_pos_of (decide_eq_true c1) ?_
        refine ⟨_, rfl, .inl ⟨rfl, _, SqL.of hD⟩, _, rfl, .inl ⟨_, rfl, _, rfl, _, rfl, s, _, _, _, rfl, rfl, s1.seq hS, at_z, _, _, rfl, rfl, zp, D, _, _, rfl, rfl, hD, few2, ?_⟩⟩
        have s2 : Same H (upd H' D (.lst (ds.map V.int ++ [.int (left % z)]))) := fun b o eb => by
          rw [upd_ne (ne_of_none eb nD)]
          exact s1 b o eb
        refine ⟨_, rfl, _, rfl, _, rfl, s, _, _, _, rfl, rfl, s2.seq hS, at_z, _, _, rfl, rfl, ⟨zp, PySem.Flt.log2_lt_of (by decide) (pow_small zb (by decide))⟩, ?_⟩
        exact fin _ _ _ _ (Int.emod_nonneg _ (by omega)) (Int.emod_lt_of_pos _ zp)
      · refine if_neg_of (decide_eq_false c1) ?_
        refine ⟨_, rfl, _, rfl, _, _, rfl, rfl, .inl ⟨by decide, by decide⟩, _, _, rfl, rfl, _, _, rfl, rfl, _, _, rfl, rfl, .inr ⟨by decide, by decide⟩, .inl ⟨_, rfl, _, _, rfl, rfl, (by show (0 : Int) < 2147483647; decide), ?_⟩⟩
        refine ⟨_, rfl, _, rfl, _, _, rfl, rfl, .inl (mix_small2 _), _, _, rfl, rfl, .inr ⟨by decide, by decide⟩, _, rfl, _, _, rfl, rfl, .inl ⟨by decide, by decide⟩, _, _, rfl, rfl, _, rfl, _, _, rfl, rfl, .inl ⟨_, rfl, _, _, rfl, rfl, (by show (0 : Int) < 2147483629; decide), ?_⟩⟩
        refine ⟨_, rfl, .inl ⟨rfl, _, SqL.of hD⟩, _, rfl, _, _, rfl, rfl, ⟨by decide, by decide⟩, _, rfl, _, rfl, s, _, _, _, rfl, rfl, s1.seq hS, at_z, _, _, rfl, rfl, zp, D, _, _, rfl, rfl, hD, few2, ?_⟩
        exact fin _ _ _ _ (Int.emod_nonneg _ (by omega)) (Int.emod_lt_of_pos _ zp)
    · rintro σ H' ⟨ds, left, x4, x5, rfl, s1, hD, hl, hds⟩
      have hl' : ds.length = zs.length := by simpa using hl
      exact ⟨_, rfl, q D ds H' nD ⟨hl', hds⟩ s1 hD⟩
abbrev s_lrow : Stmt := top 18
theorem sc_lrow : FnScope ["_law_cell_here", "_law_many", "_law_reach", "_law_drawn", "_law_k"] ["_law_cell_here", "_law_many", "_law_reach"] (defScope s_lrow) := ⟨rfl, rfl, rfl, by decide +kernel, rfl, by decide +kernel, by decide +kernel⟩
/-- a row of m numbers from -r to r -/
def spRow : Sp := fun vs H Q _ => ∃ (c : Int) (m : Nat) (r : Int), vs = [.int c, .int (m : Int), .int r] ∧ m < 100 ∧ 0 ≤ r ∧ r.natAbs < 2 ^ 200 ∧
  ∀ (p : Addr) (ns : List Int) (H' : Hp), H p = none → ns.length = m → (∀ z ∈ ns, -r ≤ z ∧ z ≤ r) → Same H H' → H' p = some (.lst (ns.map V.int)) → Q (.ref p) H'
theorem ok_lrow {f : Addr} {fd : FuncData} (F : Fun K "_law_row" "_law_row" s_lrow f fd) (c_draws : Cl P w K mg base CX0 1 "_law_draws" (spDraws K)) : FnOk P w K mg base CX0 2 f fd ["_law_cell_here", "_law_many", "_law_reach"] spRow := by
  refine F.ok sc_lrow (fun vs H Q E h => ?_) (fun cdv A outer s H vs Q E hr h => ?_)
  · obtain ⟨c, m, r, rfl, _⟩ := h
    rfl
  · obtain ⟨c, m, r, rfl, hm, hr0, hrb, q⟩ := h
    refine ⟨_, (pss_cons (ps_set (i := 3) sc_lrow.nd rfl (Or.inl rfl) (pe_cl c_draws hr (pa_cons (pv 0) (pa_cons (pe_op op_rep (pe_lst (pa_cons (pe_op op_add (pe_op op_mul pe_int (pv 2)) pe_int) pa_nil)) (pv 1)) pa_nil))))
 (pss_one (ps_ret (pe_lc (own := [("_law_k", 4)]) (g := (gName 4)) (tt := tYes) rfl sc_lrow.nd (pi_list (pv 3)) (blkOk_by (N := ["_law_cell_here", "_law_many", "_law_reach", "_law_drawn", "_law_k"]) (sc := defScope s_lrow) (by decide +kernel)) (fun _ _ _ _ _ => (pg_name (i := 4) sc_lrow.nd rfl (Or.inl rfl))) (fun _ _ _ _ _ => pts_nil) (fun _ _ _ _ _ => (pe_op op_sub (pv 4) (pv 2))))))), ?_⟩
    refine ⟨_, rfl, _, rfl, _, _, rfl, rfl, .inl ⟨by decide, by decide⟩, _, _, rfl, rfl, (by show 1 ≤ sizeLine; decide), fun a na => ?_⟩
    have g1 := same_upd (o := .lst [.int (2 * r + 1)]) na
    refine ⟨_, rfl, a, _, _, rfl, rfl, upd_same, (by omega), (by omega), (by show 1 * ((m : Int)).toNat ≤ sizeLine; rw [Nat.one_mul, Int.toNat_natCast]; exact Nat.le_of_lt (small1000 (by omega))), fun b nb => ?_⟩
    refine ⟨_, _, List.replicate m (2 * r + 1), rfl, ?_, by rw [List.length_replicate]; exact hm, fun z hz => ?_, fun D ds H' nD dr s1 hD => ?_⟩
    · refine .inl (.inl ?_)
      rw [upd_same, Int.toNat_natCast, List.map_replicate, flat_rep]
    · rw [(List.mem_replicate.mp hz).2]
      have : (2 : Nat) ^ 200 * 4 ≤ 2 ^ 300 := by decide
      omega
    · have hl : ds.length = m := by rw [dr.1, List.length_replicate]
      have s2 := (g1.trans (same_upd nb)).trans s1
      refine ⟨_, rfl, D, rfl, ⟨_, SqL.of hD⟩, fun L nL => lcW walk_list (tkV ((ds.map (· - r)).map V.int)) nL rfl (fun H s => s.seq (SqL.of hD)) ?_ ?_⟩
      · rintro i x H2 _ hi s3 hL ⟨rfl, hx⟩
        obtain ⟨z, rfl, hz⟩ := item_int hx
        refine ⟨rfl, _, rfl, _, rfl, _, _, rfl, rfl, ?_⟩
        exact mapEnd nL (by rw [List.length_map, List.length_map]; omega) s3 hL (map_at (f := V.int) (by rw [List.getElem?_map, hz] <;> rfl))
      · intro H2 s3 hL
        have e : tkV ((ds.map (· - r)).map V.int) (ds.map V.int).length = (ds.map (· - r)).map V.int := by
          have := tkV_all ((ds.map (· - r)).map V.int)
          rw [List.length_map, List.length_map] at this
          rw [List.length_map]
          exact this
        rw [e] at hL
        refine q L (ds.map (· - r)) H2 (by
          cases h : H L with
          | none => rfl
          | some o => rw [s2 _ _ h] at nL; cases nL) (by rw [List.length_map]; exact hl) (fun z hz => ?_) (s2.trans s3) hL
        obtain ⟨d, hd, rfl⟩ := List.mem_map.mp hz
        obtain ⟨i, hi⟩ := List.mem_iff_getElem?.mp hd
        have hi' : i < m := by
          rw [← hl]
          exact (List.getElem?_eq_some_iff.mp hi).1
        have := dr.2 i d (2 * r + 1) hi (by rw [List.getElem?_replicate, if_pos hi'])
        omega
-- part lawbits
abbrev s_lisint : Stmt := top 16
theorem sc_lisint : FnScope ["_law_actual"] ["_law_actual"] (defScope s_lisint) := ⟨rfl, rfl, rfl, by decide +kernel, rfl, by decide +kernel, by decide +kernel⟩
/-- of an int it is True -/
def spIsInt : Sp := fun vs H Q _ => ∃ n : Int, vs = [.int n] ∧ Q (.bl true) H
theorem ok_lisint {f : Addr} {fd : FuncData} (T : Txt mg) (F : Fun K "_law_is_integer" "_law_is_integer" s_lisint f fd) : FnOk P w K mg base CX0 1 f fd ["_law_actual"] spIsInt := by
  refine F.ok sc_lisint (fun vs H Q E h => ?_) (fun cdv A outer s H vs Q E hr h => ?_)
  · obtain ⟨n, rfl, _⟩ := h
    rfl
  · obtain ⟨n, rfl, q⟩ := h
    refine ⟨_, (pss_one (ps_ret (pe_and (pe_callB call_isi (by rfl) T.isinstance boot_isinstance (pa_cons (pv 0) (pa_cons (pe_bltn (v := .ty "int") (by rfl) T.int boot_int rfl) pa_nil))) (pe_one (pe_not (pe_callB call_isi (by rfl) T.isinstance boot_isinstance (pa_cons (pv 0) (pa_cons (pe_bltn (v := .ty "bool") (by rfl) T.bool boot_bool rfl) pa_nil)))))))), ?_⟩
    refine ⟨_, rfl, _, _, _, _, true, rfl, .ty _, .base (.int _), kit_ty (by decide +kernel), _, rfl, if_pos_of rfl ?_⟩
    exact ⟨_, rfl, _, _, _, _, false, rfl, .ty _, .base (.int _), kit_ty (by decide +kernel), _, rfl, q⟩
-- part errpa
/-! own errors of one attribute whose __init__ asks something of the argument -/
def spInitP (C : Addr) (fld : Str) (ok : V → Prop) : Sp := fun vs H Q _ => ∃ (a : Addr) (v : V), vs = [.ref a, v] ∧ ok v ∧ H a = some (exo a C none) ∧
  ∀ d, H d = none → d ≠ a → Q .non (upd (upd H d (exd d [(fld, v)])) a (exo a C (some d)))
structure ErP (P : Program) (w : World) (K : PySem.W.Frag) (mg : Str → Option Value) (base : Heap) (nm fld : Str) (C : Addr) (ok : V → Prop) : Prop where
  ex : ∃ (fI : Addr) (fd : FuncData) (ps : List Str), ErrC K mg nm fld C fI ∧ FnOk P w K mg base CX0 1 fI fd ps (spInitP C fld ok) ∧ Binds K fd ps []
theorem ps_raiseP {X : Cx} {W : WX} {x fld : Str} {C : Addr} {ok : V → Prop} {j : Nat} {e : Expr} {ta : TA} {p pos pos' : Pos} (c : ErP X.prog X.w X.K X.mg X.base x fld C ok) (hr : Room j X.A) (tk : L2N.Takes X W) (ha : PA X [e] ta) (hj : 2 ≤ j := by decide) (hcalm : X.calm = true := by rfl) (hg : Gl X x := by rfl)
    (hdb : (x == ("__debug__" : Str)) = false := by decide) (he : starEach [e] X.env = (false, eval e X.env) :: starEach [] X.env := by rfl) (hpl : (backTo pos (starEach [] X.env)).any (·.1) = false := by rfl) :
    PS X (.Raise (some (.Call (.Name x p) [e] [] pos)) none pos') (fun _ σ H => tMkO C (spInitP C fld ok) [] ta σ H fun cls d H' => W cls d σ H') := by
  obtain ⟨fI, fd, ps, T, F, b⟩ := c.ex
  exact L2N.ps_raise hcalm tk (pmk_oexN (X := X) (p := p) (pos := pos) T.oex T.iC T.tI F (hr.mono hj) b .nil hg T.g ha hdb he hpl)
theorem mkP {C : Addr} {fld : Str} {ok : V → Prop} {v : V} {H1 : Hp} {Q : XK} (o : ok v) (k : ∀ d H2, Same H1 H2 → H1 d = none → H2 d = some (.xd [(fld, v)]) → Q (.ref C) (some d) H2) :
    ([v] : List V).length ≤ 1000 ∧ ∀ a, H1 a = none → spInitP C fld ok (.ref a :: ([v] ++ [])) (upd H1 a (exo a C none))
      (fun u H2 => u = .non ∧ ∃ (d : Addr) (fs : List (Str × V)), H2 a = some (exo a C (some d)) ∧ H2 d = some (exd d fs) ∧ H1 d = none ∧ Q (.ref C) (some d) (upd (del H2 a) d (.xd fs))) (fun _ _ _ => False) := by
  obtain ⟨h1, h2⟩ := mk1 (C := C) (fld := fld) (v := v) (H1 := H1) (Q := Q) k
  refine ⟨h1, fun a ha => ?_⟩
  obtain ⟨a', v', e, ha', q⟩ := h2 a ha
  exact ⟨a', v', e, by rw [show v' = v from by simpa using (List.cons.inj (List.cons.inj e).2).1.symm]; exact o, ha', q⟩
/-- an index that is written in a message -/
def okNat : V → Prop := fun v => ∃ n : Nat, v = .int (n : Int) ∧ n < 2 ^ 62
theorem log_nat {n : Nat} (h : n < 2 ^ 62) : (n : Int).natAbs.log2 < 1920 := by
  show n.log2 < 1920
  by_cases c : n = 0
  · rw [c]
    decide
  · have := (Nat.log2_lt c).mpr h
    omega
theorem str_len (x : Str) : x.length = (TL.tl x).length := TL.len_tl x
theorem num_len {n : Nat} (h : n < 2 ^ 62) : (Str.ofString (toString (n : Int))).length ≤ 19 := by
  rw [str_len, TL.tl_num]
  exact TL.numL_len (by decide) (Nat.lt_of_lt_of_le h (by decide))
theorem app_len (x y : Str) : (x ++ y).length = x.length + y.length := by
  rw [str_len, TL.tl_append, List.length_append, ← str_len, ← str_len]
theorem empty_app (x : Str) : Str.empty ++ x = x := TL.ext_tl (by rw [TL.tl_append] <;> rfl)
-- part errpb
abbrev s_ibt : Stmt := inClass (top 3) 0
theorem sc_ibt : FnScope ["self", "at"] ["self", "at"] (defScope s_ibt) := ⟨rfl, rfl, rfl, by decide +kernel, rfl, by decide +kernel, by decide +kernel⟩
theorem ok_ibt {f C CF : Addr} {fd : FuncData} (TF : FErr K mg CF) (hC : OexC K C) (hno : PySem.W.findIn K (.ref C) "at" = some none) (F : Fun K "__init__" "BadText.__init__" s_ibt f fd) : FnOk P w K mg base CX0 1 f fd ["self", "at"] (spInitP C "at" okNat) := by
  refine F.ok sc_ibt (fun vs H Q E h => ?_) (fun cdv A outer s H vs Q E hr h => ?_)
  · obtain ⟨a, v, rfl, _⟩ := h
    rfl
  · obtain ⟨a, v, rfl, ⟨n, rfl, hn⟩, ha, q⟩ := h
    refine ⟨_, (pss_cons (ps_expr (pe_feinit TF (pa_cons (pv 0) (pa_cons (pe_joined (.cons pe_str (.cons (pe_fmt (pv 1)) .nil))) pa_nil))))
 (pss_one (ps_ost (pv 0) (pv 1)))), ?_⟩
    refine ⟨_, rfl, _, rfl, by rw [empty_app, sizeLine_eq]; decide +kernel, _, rfl, .inr ⟨_, rfl, log_nat hn, _, rfl, ?_, ?_⟩⟩
    · rw [empty_app, app_len, sizeLine_eq]
      have e : (("the text is not of the right form at index " : Str)).length ≤ 100 := by decide +kernel
      have := num_len hn
      omega
    · refine ⟨a, C, _, rfl, (by show 1 ≤ 1000; decide), hC, ha, ?_⟩
      exact ⟨_, rfl, _, rfl, a, C, rfl, hC, hno, .inl ⟨ha, fun dx hn hne => q dx hn hne⟩⟩
-- part repjoin
/-- 'a' * n -/
def repS (z : Str) (n : Nat) : Str := ⟨(List.replicate n z.cps).foldl (· ++ ·) #[]⟩
theorem tl_rep (a : Array Nat) : ∀ (n : Nat) (acc : Array Nat), ((List.replicate n a).foldl (· ++ ·) acc).toList = acc.toList ++ (List.replicate n a.toList).flatten
  | 0, acc => by simp
  | n + 1, acc => by
    rw [List.replicate_succ, List.foldl_cons, tl_rep a n, Array.toList_append, List.replicate_succ, List.flatten_cons, List.append_assoc]
theorem tl_repS (z : Str) (n : Nat) : TL.tl (repS z n) = (List.replicate n (TL.tl z)).flatten := by
  show ((List.replicate n z.cps).foldl (· ++ ·) #[]).toList = _
  rw [tl_rep]
  rfl
theorem tl_rep1 {z : Str} {c : Nat} (h : TL.tl z = [c]) (n : Nat) : TL.tl (repS z n) = List.replicate n c := by
  rw [tl_repS, h]
  clear h
  induction n with
  | zero => rfl
  | succ n ih => rw [List.replicate_succ, List.flatten_cons, ih, List.replicate_succ, List.singleton_append]
theorem op_rep_str {X : Cx} : OpR X (binaryOp .Mult) (fun x y H Q => ∃ (z : Str) (n : Int), x = .str z ∧ y = .int n ∧ 1 < n ∧ n < 2 ^ 20 ∧ z.length ≠ 0 ∧ z.length ≤ 10 ∧ Q (.str (repS z n.toNat)) H) := by
  intro pins s σ H x y v u Q I rx ry h
  obtain ⟨z, n, rfl, rfl, h1, h2, h3, h4, q⟩ := h
  obtain ⟨t, rfl⟩ := rx
  obtain ⟨t', rfl⟩ := ry
  have e1 : (n == 1) = false := beq_eq_false_iff_ne.mpr (by omega)
  have e2 : (z.length == 0) = false := beq_eq_false_iff_ne.mpr h3
  have small : z.length * n.toNat ≤ sizeLine := by
    rw [sizeLine_eq]
    refine Nat.le_trans (Nat.mul_le_mul h4 (show n.toNat ≤ 1048576 by omega)) (by decide)
  refine PySem.P.mul_str ?_ (fun _ _ => ?_) (fun _ _ => ?_) ?_
  · rw [decide_eq_false (by omega), decide_eq_false (by omega)]
    rfl
  · have : (2 ^ 63 - 1 : Int) / 1048576 ≤ (2 ^ 63 - 1) / n := by
      refine Int.le_ediv_of_mul_le (by omega) ?_
      have : (2 ^ 63 - 1 : Int) / 1048576 * n ≤ (2 ^ 63 - 1 : Int) / 1048576 * 1048576 := Int.mul_le_mul_of_nonneg_left (by omega) (by decide)
      refine Int.le_trans this (by decide)
    have : (2 ^ 63 - 1 : Int) / 1048576 = 8796093022207 := by decide
    omega
  · exact decide_eq_false (by omega)
  · rw [if_neg (by omega), e1, e2, if_neg (by decide)]
    refine ⟨?_, .str (repS z n.toNat), H, I.tok _, ⟨_, rfl⟩, q⟩
    show (repS z n.toNat).length ≤ sizeLine
    rw [str_len, tl_repS]
    have : (List.replicate n.toNat (TL.tl z)).flatten.length = n.toNat * (TL.tl z).length := by simp
    rw [this, ← str_len, Nat.mul_comm]
    omega
theorem joinL_two (S a b : List Nat) (r : List (List Nat)) : TL.joinL S (a :: b :: r) = a ++ (S ++ TL.joinL S (b :: r)) := rfl
theorem sum_le {k : Nat} : ∀ {ys : List Str}, (∀ y ∈ ys, y.length ≤ k) → (ys.map (·.length)).sum ≤ ys.length * k
  | [], _ => Nat.zero_le _
  | y :: ys, h => by
    have h1 := h y List.mem_cons_self
    have h2 := sum_le (k := k) (ys := ys) fun z hz => h z (List.mem_cons_of_mem _ hz)
    rw [List.map_cons, List.sum_cons, List.length_cons, Nat.succ_mul]
    omega
theorem joinL_len {S : List Nat} : ∀ ps : List (List Nat), (TL.joinL S ps).length ≤ (ps.map (·.length)).sum + ps.length * S.length
  | [] => Nat.zero_le _
  | [p] => by
    show p.length ≤ _
    simp only [List.map_cons, List.map_nil, List.sum_cons, List.sum_nil]
    omega
  | p :: q :: r => by
    have := joinL_len (S := S) (q :: r)
    rw [joinL_two, List.length_append, List.length_append, List.map_cons, List.sum_cons, List.length_cons, Nat.succ_mul]
    omega
theorem join_len {y : Str} {ws : List Str} {k : Nat} (h : ∀ z ∈ ws, z.length ≤ k) : (Txt.join y ws).length ≤ ws.length * k + ws.length * y.length := by
  rw [TL.join_eq, str_len, TL.tl_join]
  have := joinL_len (S := TL.tl y) (ws.map TL.tl)
  have s := sum_le h
  rw [List.length_map, List.map_map] at this
  have e : (ws.map ((·.length) ∘ TL.tl)) = ws.map (·.length) := List.map_congr_left fun z _ => (str_len z).symm
  rw [e, ← str_len] at this
  omega
-- part strs
theorem bl_eq {α : Type} (x y : α) [DecidableEq α] {f : α → V} (inj : ∀ a b, f a = f b → a = b) : decide (f x = f y) = decide (x = y) := by
  by_cases c : x = y
  · rw [c, decide_eq_true rfl, decide_eq_true rfl]
  · rw [decide_eq_false c, decide_eq_false fun h => c (inj _ _ h)]
theorem str_eq (x y : Str) : decide (V.str x = V.str y) = decide (x = y) := bl_eq x y fun _ _ h => V.str.inj h
theorem dpAll_strs {K : PySem.W.Frag} {H : Hp} : ∀ l : List Str, DpAll K H (l.map V.str) (l.map PyData.str)
  | [] => .nil
  | x :: l => .cons (.str x) (dpAll_strs l)
theorem eqvAll_strs : ∀ l m : List Str, PyData.eqvAll (l.map PyData.str) (m.map PyData.str) = decide (l = m)
  | [], [] => by rw [List.map_nil, PyData.eqvAll]; rfl
  | [], b :: m => by rw [List.map_nil, List.map_cons, PyData.eqvAll] <;> first | (exact (decide_eq_false (by simp)).symm) | skip
  | a :: l, [] => by rw [List.map_nil, List.map_cons, PyData.eqvAll] <;> first | (exact (decide_eq_false (by simp)).symm) | skip
  | a :: l, b :: m => by
    rw [List.map_cons, List.map_cons, PyData.eqvAll, PyData.eqv, eqvAll_strs l m]
    by_cases c : a = b
    · subst c
      by_cases d : l = m
      · subst d
        simp
      · simp [d]
    · simp [c]
theorem eqv_strs (l m : List Str) : PyData.eqv (.list (l.map PyData.str)) (.list (m.map PyData.str)) = decide (l = m) := by
  rw [PyData.eqv]
  exact eqvAll_strs l m
theorem canLay_strs : ∀ l : List Str, (∀ z ∈ l, PyData.strOk z = true) → PyData.canLayAll0 (l.map PyData.str) = true
  | [], _ => by rw [List.map_nil, PyData.canLayAll0]
  | a :: l, h => by rw [List.map_cons, PyData.canLayAll0, PyData.canLay0, canLay_strs l fun z hz => h z (List.mem_cons_of_mem _ hz), h a List.mem_cons_self]; rfl
theorem depth_strs : ∀ l : List Str, PyData.depthAll (l.map PyData.str) = 0
  | [] => by rw [List.map_nil, PyData.depthAll]
  | a :: l => by rw [List.map_cons, PyData.depthAll, PyData.depth, depth_strs l]; rfl
theorem shaped_strs {l : List Str} (h : ∀ z ∈ l, PyData.strOk z = true) : SeqAt.shaped (.list (l.map PyData.str)) = true := by
  unfold SeqAt.shaped
  rw [PyData.canLay0, canLay_strs l h, PyData.depth, depth_strs]
  rfl
theorem dp_strs {K : PySem.W.Frag} {H : Hp} {a : Addr} {l : List Str} (h : SqL K H a (l.map V.str)) : Dp K H (.ref a) (.list (l.map PyData.str)) := .lst h (dpAll_strs l)
theorem at_str {L : List Str} {i : Nat} {z : Str} (h : L[i]? = some z) : atI (L.map V.str) (i : Int) = some (V.str z) := atI_nat (by rw [List.getElem?_map, h]; rfl)
-- part intw
/-! the words that are integers -/
def dg (c : Nat) : Bool := decide (48 ≤ c) && decide (c ≤ 57)
def numC (m : Nat) (ds : List Nat) : Bool := (!ds.isEmpty && ds.all dg) && (decide (ds.length ≤ m) && (decide (ds = [48]) || !decide (ds.head? = some 48)))
def unsign (cs : List Nat) : List Nat := if cs.head? = some 45 then cs.tail else cs
def intC (cs : List Nat) : Bool := !decide (cs = [45, 48]) && numC 30 (unsign cs)
theorem dg_table : ∀ c, c < 128 → Unicode.isDigit c = dg c := by decide +kernel
theorem tl_lit0 : TL.tl ("0" : Str) = [48] := by decide +kernel
theorem tl_litm : TL.tl ("-" : Str) = [45] := by decide +kernel
theorem tl_litm0 : TL.tl ("-0" : Str) = [45, 48] := by decide +kernel
theorem str_iff {x y : Str} : x = y ↔ TL.tl x = TL.tl y := ⟨fun h => by rw [h], TL.ext_tl⟩
theorem dec_str {x : Str} {y : Str} {l : List Nat} (h : TL.tl y = l) : decide (x = y) = decide (TL.tl x = l) := by
  rw [← h]
  by_cases c : x = y
  · rw [decide_eq_true c, decide_eq_true (by rw [c])]
  · rw [decide_eq_false c, decide_eq_false fun e => c (TL.ext_tl e)]
theorem all_tl (z : Str) (f : Nat → Bool) : z.cps.all f = (TL.tl z).all f := (Array.all_toList).symm
/-- what the program asks of a word -/
def isNumM (z : Str) (m : Nat) : Bool := (Txt.isascii z && Txt.isdigit z) && (decide (z.length ≤ m) && (decide (z = "0") || !Txt.startswith z "0"))
theorem ascii_digit (z : Str) : (Txt.isascii z && Txt.isdigit z) = (!(TL.tl z).isEmpty && (TL.tl z).all dg) := by
  unfold Txt.isascii Txt.isdigit
  rw [all_tl, all_tl, str_len]
  generalize TL.tl z = cs
  have key : (cs.all (· < 128) && cs.all Unicode.isDigit) = cs.all dg := by
    rw [Bool.eq_iff_iff]
    simp only [Bool.and_eq_true, List.all_eq_true, decide_eq_true_eq]
    constructor
    · rintro ⟨h1, h2⟩ c hc
      rw [← dg_table c (h1 c hc)]
      exact h2 c hc
    · intro h
      have lt : ∀ c ∈ cs, c < 128 := fun c hc => by
        have := h c hc
        unfold dg at this
        simp only [Bool.and_eq_true, decide_eq_true_eq] at this
        omega
      exact ⟨lt, fun c hc => by rw [dg_table c (lt c hc)]; exact h c hc⟩
  rw [← key]
  cases cs with
  | nil => rfl
  | cons c cs =>
    rw [decide_eq_true (show (c :: cs).length > 0 from Nat.succ_pos _)]
    simp
theorem startswith_one (z : Str) {y : Str} {c : Nat} (h : TL.tl y = [c]) : Txt.startswith z y = decide ((TL.tl z).head? = some c) := by
  unfold Txt.startswith
  have hl : y.length = 1 := by rw [str_len, h]; rfl
  rw [StrLaws.subAt_eq, hl]
  show (decide (0 + 1 ≤ z.length) && (((TL.tl z).drop 0).take 1 == TL.tl y)) = _
  rw [h, str_len]
  cases TL.tl z with
  | nil => rfl
  | cons d ds =>
    by_cases e : d = c
    · subst e
      simp
    · simp [e]
theorem isNumM_eq (z : Str) (m : Nat) : isNumM z m = numC m (TL.tl z) := by
  unfold isNumM numC
  rw [ascii_digit, dec_str tl_lit0, startswith_one z tl_lit0, str_len]
theorem tl_prefix (z : Str) : TL.tl (Txt.removeprefix z "-") = unsign (TL.tl z) := by
  rw [StrLaws.removeprefix_eq]
  have h := startswith_one z tl_litm
  unfold Txt.startswith at h
  have hl : ("-" : Str).length = 1 := by decide +kernel
  unfold unsign
  by_cases c : (TL.tl z).head? = some 45
  · rw [decide_eq_true c] at h
    rw [if_pos h, if_pos c, TL.tl_mk, hl]
    show ((TL.tl z).drop 1).take (z.length - 1) = (TL.tl z).tail
    rw [str_len, List.drop_one, List.take_of_length_le (by rw [List.length_tail]; exact Nat.le_refl _)]
  · rw [decide_eq_false c] at h
    rw [if_neg (by rw [h]; exact Bool.false_ne_true), if_neg c]
def isIntW (z : Str) : Bool := !decide (z = "-0") && isNumM (Txt.removeprefix z "-") 30
theorem isIntW_eq (z : Str) : isIntW z = intC (TL.tl z) := by
  unfold isIntW intC
  rw [isNumM_eq, tl_prefix, dec_str tl_litm0]
/-- the integer that a word is -/
def valW (z : Str) : Int := (PySem.intText? z).getD 0
theorem dg_all {cs : List Nat} (h : cs.all dg = true) : NumText.AllDigits cs := fun c hc => by
  have := List.all_eq_true.mp h c hc
  unfold dg at this
  simp only [Bool.and_eq_true, decide_eq_true_eq] at this
  exact this
theorem int_reads {z : Str} (h : intC (TL.tl z) = true) : PySem.intText? z = some (valW z) ∧ z.length ≤ 640 := by
  unfold intC numC at h
  simp only [Bool.and_eq_true, Bool.not_eq_true', decide_eq_false_iff_not, decide_eq_true_eq] at h
  obtain ⟨_, ⟨h1, h2⟩, h3, _⟩ := h
  have ne : unsign (TL.tl z) ≠ [] := fun e => by rw [e] at h1; cases h1
  have short : (TL.tl z).length ≤ 31 := by
    unfold unsign at h3
    split at h3
    · rw [List.length_tail] at h3
      omega
    · omega
  have hlen : z.length ≤ 31 := by rw [str_len]; exact short
  have some_ : ∃ n, PySem.intText? z = some n := by
    unfold unsign at h2 ne
    by_cases c : (TL.tl z).head? = some 45
    · rw [if_pos c] at h2 ne
      obtain ⟨cs, hcs⟩ : ∃ cs, TL.tl z = 45 :: cs := by
        cases e : TL.tl z with
        | nil => rw [e] at c; cases c
        | cons d ds => rw [e] at c; exact ⟨ds, by rw [Option.some.inj c]⟩
      rw [hcs] at h2 ne
      exact ⟨_, PySem.intText_neg hcs (dg_all h2) ne (by omega)⟩
    · rw [if_neg c] at h2 ne
      exact ⟨_, PySem.intText_digits (dg_all h2) ne (by omega)⟩
  obtain ⟨n, hn⟩ := some_
  refine ⟨?_, by omega⟩
  unfold valW
  rw [hn]
  rfl
/-! texts of ints -/
theorem tl_numT (k : Int) : TL.tl (Str.ofString (toString k)) = if 0 ≤ k then TL.numL k.toNat else 45 :: TL.numL k.natAbs := by
  cases k with
  | ofNat n =>
    rw [if_pos (show 0 ≤ Int.ofNat n from Int.natCast_nonneg n)]
    exact TL.tl_num n
  | negSucc n =>
    rw [if_neg (by omega)]
    have e : toString (Int.negSucc n) = "-" ++ toString (n + 1) := rfl
    have e2 : TL.tl (Str.ofString (toString (((n + 1 : Nat) : Int)))) = TL.numL (n + 1) := TL.tl_num (n + 1)
    have e3 : toString (((n + 1 : Nat) : Int)) = toString (n + 1) := rfl
    rw [TL.tl_ofString, e, String.toList_append, List.map_append, ← TL.tl_ofString (toString (n + 1)), ← e3, e2]
    rfl
theorem numL_head {n : Nat} (h : 0 < n) : (TL.numL n).head? ≠ some 48 := by
  induction n using Nat.strongRecOn with
  | ind n ih =>
    by_cases c : n < 10
    · rw [TL.numL_lt c]
      intro e
      have := Option.some.inj e
      omega
    · rw [TL.numL_step (by omega)]
      have ne := TL.numL_ne (n / 10)
      have := ih (n / 10) (by omega) (by omega)
      cases e : TL.numL (n / 10) with
      | nil => exact absurd e ne
      | cons d ds =>
        rw [e] at this
        exact this
theorem dg_numL (n : Nat) : (TL.numL n).all dg = true := List.all_eq_true.mpr fun c hc => by
  have := TL.numL_digits n c hc
  unfold dg
  simp only [Bool.and_eq_true, decide_eq_true_eq]
  exact this
theorem numC_numL {n : Nat} (h : n < 10 ^ 30) : numC 30 (TL.numL n) = true := by
  unfold numC
  have hl := TL.numL_len (k := 30) (by decide) h
  have ne := TL.numL_ne n
  rw [dg_numL, decide_eq_true hl]
  have e1 : (TL.numL n).isEmpty = false := by
    cases e : TL.numL n with
    | nil => exact absurd e ne
    | cons d ds => rfl
  rw [e1]
  by_cases c : n = 0
  · subst c
    rw [TL.numL_lt (by decide)]
    decide
  · rw [decide_eq_false (numL_head (Nat.pos_of_ne_zero c))]
    simp
theorem numL_no45 (n : Nat) : (TL.numL n).head? ≠ some 45 := fun e => by
  cases h : TL.numL n with
  | nil => rw [h] at e; cases e
  | cons d ds =>
    rw [h] at e
    have hm : d ∈ TL.numL n := by rw [h]; exact List.mem_cons_self
    rw [Option.some.inj e] at hm
    exact TL.numL_free (n := n) (s := 45) (.inl (by decide)) hm
theorem intC_numT {k : Int} (h : k.natAbs < 10 ^ 30) : intC (TL.tl (Str.ofString (toString k))) = true := by
  rw [tl_numT]
  unfold intC unsign
  by_cases c : 0 ≤ k
  · rw [if_pos c, if_neg (numL_no45 _), numC_numL (by omega)]
    have : TL.numL k.toNat ≠ [45, 48] := fun e => numL_no45 k.toNat (by rw [e]; rfl)
    rw [decide_eq_false this]
    rfl
  · rw [if_neg c, if_pos (show (45 :: TL.numL k.natAbs).head? = some 45 from rfl), List.tail_cons, numC_numL h]
    have hp : 0 < k.natAbs := by omega
    have : (45 :: TL.numL k.natAbs) ≠ [45, 48] := fun e => numL_head hp (by rw [(List.cons.inj e).2]; rfl)
    rw [decide_eq_false this]
    rfl
theorem numT_val {k : Int} (h : k.natAbs < 10 ^ 30) : valW (Str.ofString (toString k)) = k := by
  have hl := TL.numL_len (k := 30) (n := k.natAbs) (by decide) h
  by_cases c : 0 ≤ k
  · obtain ⟨n, rfl⟩ := Int.eq_ofNat_of_zero_le c
    unfold valW
    rw [TL.int_num (by rw [Int.natAbs_natCast] at hl; omega)]
    rfl
  · have e : TL.tl (Str.ofString (toString k)) = 45 :: TL.numL k.natAbs := by rw [tl_numT, if_neg c]
    have hs : (Str.ofString (toString k)).length ≤ 4300 := by
      rw [str_len, e, List.length_cons]
      omega
    have := PySem.intText_neg (x := Str.ofString (toString k)) e (TL.numL_digits _) (TL.numL_ne _) hs
    unfold valW
    rw [this, TL.numL_val]
    show -((k.natAbs : Nat) : Int) = k
    omega
theorem free32_numT (k : Int) : 32 ∉ TL.tl (Str.ofString (toString k)) := fun h => (intText_free_32 k).mp h
-- part ownops
/-! operators of an own class -/
/-- a method of the class at C, by its promise -/
structure Me (P : Program) (w : World) (K : PySem.W.Frag) (mg : Str → Option Value) (base : Heap) (k : Nat) (C : Addr) (m : Str) (sp : Sp) : Prop where
  ex : ∃ (f : Addr) (fd : FuncData) (ps : List Str), Meth K C m f ∧ FnOk P w K mg base CX0 k f fd ps sp ∧ Binds K fd ps []
section
variable {X : Cx} {C : Addr} {m : Str} {sp : Sp} {k j : Nat}
theorem inst_of {pins : List (Addr × Obj)} {σ : L2.St} {H : Hp} {s : Shared} {a dx : Addr} {fs : List (Str × V)} (I : Inv X pins σ H s) (e : H a = some (.ins C dx fs)) : ∃ ox od, PySem.W.InstAt s.heap a ox C od := by
  obtain ⟨mA, O, _⟩ := ins_get I.hok e
  obtain ⟨od, J, _⟩ := O.look
  exact ⟨_, _, J⟩
/-- x op y of two instances -/
def rOwn2 (C : Addr) (sp : Sp) : R2 := fun x y H Q => ∃ a b dx dy fs gs, x = .ref a ∧ y = .ref b ∧ H a = some (.ins C dx fs) ∧ H b = some (.ins C dy gs) ∧ sp [x, y] H Q E0
theorem op_own2 {op : Operator} (c : Me X.prog X.w X.K X.mg X.base k C m sp) (hr : Room j X.A) (sf : PySem.W.selfFirst X.K C = true) (hm : PySem.dunder op.info.2 = m := by decide +kernel) (hk : k ≤ j := by decide) : OpR X (binaryOp op) (rOwn2 C sp) := by
  obtain ⟨f, fd, ps, M, F, b⟩ := c.ex
  intro pins s σ H x y v u Q I rx ry h
  obtain ⟨a, b', dx, dy, fs, gs, rfl, rfl, ha, hb, q⟩ := h
  cases (show v = Value.ref a from rx)
  cases (show u = Value.ref b' from ry)
  obtain ⟨ox, od, J⟩ := inst_of I ha
  obtain ⟨oy, od', J'⟩ := inst_of I hb
  obtain ⟨mm, hF⟩ := I.fr
  refine PySem.W.binop_K hF I.ok.mod.kin J J'.type sf (by rw [hm]; exact M.at_) M.fn ?_
  refine wpAny_mono (run_fn (us := [.ref a, .ref b']) (vs := [.ref a, .ref b']) F (hr.mono hk) b .nil pass0 I (.cons rfl (.cons rfl .nil)) q) (fun u' s' z => ?_) fun _ _ x => x
  obtain ⟨z', H', I', rz, qz⟩ := z
  exact SlX.cmpback rz ⟨z', H', I', rz, qz⟩
/-- op x of an instance -/
def rOwn1 (C : Addr) (sp : Sp) : V → Hp → VK → Prop := fun x H Q => ∃ a dx fs, x = .ref a ∧ H a = some (.ins C dx fs) ∧ sp [x] H Q E0
theorem un_inv1 (c : Me X.prog X.w X.K X.mg X.base k C "__invert__" sp) (hr : Room j X.A) (hk : k ≤ j := by decide) : UnR X (unaryOp .Invert) (rOwn1 C sp) := by
  obtain ⟨f, fd, ps, M, F, b⟩ := c.ex
  intro pins s σ H x v Q I rx h
  obtain ⟨a, dx, fs, rfl, ha, q⟩ := h
  cases (show v = Value.ref a from rx)
  obtain ⟨ox, od, J⟩ := inst_of I ha
  obtain ⟨mm, hF⟩ := I.fr
  exact PySem.W.ksp_inv hF I.ok.mod.kin J M.at_ M.fn (run_fn (us := [.ref a]) (vs := [.ref a]) F (hr.mono hk) b .nil pass0 I (.cons rfl .nil) q)
theorem un_neg1 (c : Me X.prog X.w X.K X.mg X.base k C "__neg__" sp) (hr : Room j X.A) (hk : k ≤ j := by decide) : UnR X (unaryOp .USub) (rOwn1 C sp) := by
  obtain ⟨f, fd, ps, M, F, b⟩ := c.ex
  intro pins s σ H x v Q I rx h
  obtain ⟨a, dx, fs, rfl, ha, q⟩ := h
  cases (show v = Value.ref a from rx)
  obtain ⟨ox, od, J⟩ := inst_of I ha
  obtain ⟨mm, hF⟩ := I.fr
  exact PySem.W.ksp_neg hF I.ok.mod.kin J M.at_ M.fn (run_fn (us := [.ref a]) (vs := [.ref a]) F (hr.mono hk) b .nil pass0 I (.cons rfl .nil) q)
/-- x in y, y an instance: the answer a bool -/
def rOwnIn (neg : Bool) (C : Addr) (sp : Sp) : R2 := fun x y H Q => ∃ b dx fs, y = .ref b ∧ H b = some (.ins C dx fs) ∧ sp [y, x] H (fun v H' => ∃ c : Bool, v = .bl c ∧ Q (.bl (if neg then !c else c)) H') E0
theorem op_in_own (c : Me X.prog X.w X.K X.mg X.base k C "__contains__" sp) (hr : Room j X.A) (hk : k ≤ j := by decide) : OpR X (compareOp .In) (rOwnIn false C sp) := by
  obtain ⟨f, fd, ps, M, F, b⟩ := c.ex
  intro pins s σ H x y v u Q I rx ry h
  obtain ⟨a, dx, fs, rfl, ha, q⟩ := h
  cases (show u = Value.ref a from ry)
  obtain ⟨ox, od, J⟩ := inst_of I ha
  obtain ⟨mm, hF⟩ := I.fr
  refine PySem.W.in_K hF I.ok.mod.kin J M.at_ M.fn (wpAny_mono (run_fn (us := [.ref a, v]) (vs := [.ref a, x]) F (hr.mono hk) b .nil pass0 I (.cons rfl (.cons rx .nil)) q) (fun u' s' z => ?_) fun _ _ x => x)
  obtain ⟨z', H', I', rz, d, ez, qz⟩ := z
  subst ez
  cases (show u' = Value.bool d from rz)
  exact wpAny_truthy_bool ⟨.bl d, H', I', rfl, qz⟩
theorem op_notIn_own (c : Me X.prog X.w X.K X.mg X.base k C "__contains__" sp) (hr : Room j X.A) (hk : k ≤ j := by decide) : OpR X (compareOp .NotIn) (rOwnIn true C sp) := by
  obtain ⟨f, fd, ps, M, F, b⟩ := c.ex
  intro pins s σ H x y v u Q I rx ry h
  obtain ⟨a, dx, fs, rfl, ha, q⟩ := h
  cases (show u = Value.ref a from ry)
  obtain ⟨ox, od, J⟩ := inst_of I ha
  obtain ⟨mm, hF⟩ := I.fr
  refine PySem.W.notIn_K hF I.ok.mod.kin J M.at_ M.fn (wpAny_mono (run_fn (us := [.ref a, v]) (vs := [.ref a, x]) F (hr.mono hk) b .nil pass0 I (.cons rfl (.cons rx .nil)) q) (fun u' s' z => ?_) fun _ _ x => x)
  obtain ⟨z', H', I', rz, d, ez, qz⟩ := z
  subst ez
  cases (show u' = Value.bool d from rz)
  exact wpAny_truthy_bool ⟨.bl (!d), H', I', rfl, qz⟩
/-- x == y of two instances -/
theorem op_eq_own (c : Me X.prog X.w X.K X.mg X.base k C "__eq__" sp) (hr : Room j X.A) (hk : k ≤ j := by decide) : OpR X (compareOp .Eq) (rOwn2 C sp) := by
  obtain ⟨f, fd, ps, M, F, b⟩ := c.ex
  intro pins s σ H x y v u Q I rx ry h
  obtain ⟨a, b', dx, dy, fs, gs, rfl, rfl, ha, hb, q⟩ := h
  cases (show v = Value.ref a from rx)
  cases (show u = Value.ref b' from ry)
  obtain ⟨ox, od, J⟩ := inst_of I ha
  obtain ⟨oy, od', J'⟩ := inst_of I hb
  obtain ⟨mm, hF⟩ := I.fr
  show wpAny _ _ (richCompare .Eq (.ref a) (.ref b')) _ _ _
  refine PySem.W.cmp_K (op := .Eq) (tb := .ref C) hr.units0 hF I.ok.mod.kin J J'.type (by unfold PySem.W.notFirst; simp) M.at_ M.fn ?_
  refine wpAny_mono (run_fn (us := [.ref a, .ref b']) (vs := [.ref a, .ref b']) F (hr.mono hk) b .nil pass0 I (.cons rfl (.cons rfl .nil)) q) (fun u' s' z => ?_) fun _ _ x => x
  obtain ⟨z', H', I', rz, qz⟩ := z
  exact SlX.cmpback rz ⟨z', H', I', rz, qz⟩
/-- the truth of an instance, by its __bool__ -/
def rTruOwn (C : Addr) (sp : Sp) : V → Hp → (Bool → Hp → Prop) → Prop := fun x H Q => ∃ a dx fs, x = .ref a ∧ H a = some (.ins C dx fs) ∧ sp [x] H (fun v H' => ∃ c : Bool, v = .bl c ∧ Q c H') E0
theorem tru_own (c : Me X.prog X.w X.K X.mg X.base k C "__bool__" sp) (hr : Room j X.A) (hk : k ≤ j := by decide) : TruR X (rTruOwn C sp) := by
  obtain ⟨f, fd, ps, M, F, b⟩ := c.ex
  intro pins s σ H x v Q I rx h
  obtain ⟨a, dx, fs, rfl, ha, q⟩ := h
  cases (show v = Value.ref a from rx)
  obtain ⟨ox, od, J⟩ := inst_of I ha
  obtain ⟨mm, hF⟩ := I.fr
  refine PySem.W.truthy_K hF I.ok.mod.kin J M.at_ M.fn (wpAny_mono (run_fn (us := [.ref a]) (vs := [.ref a]) F (hr.mono hk) b .nil pass0 I (.cons rfl .nil) q) (fun u' s' z => ?_) fun _ _ x => x)
  obtain ⟨z', H', I', rz, d, ez, qz⟩ := z
  subst ez
  cases (show u' = Value.bool d from rz)
  exact ⟨H', I', qz⟩
end
/-- a class that makes instances, its __init__ by its promise (it may raise, and here doesn't) -/
structure Ma (P : Program) (w : World) (K : PySem.W.Frag) (mg : Str → Option Value) (base : Heap) (k : Nat) (C : Addr) (sp : Sp) : Prop where
  ex : ∃ (f : Addr) (fd : FuncData) (ps : List Str), Mk K C f ∧ FnOk P w K mg base (L2N.CX P w) k f fd ps sp ∧ Binds K fd ps []
section
variable {X : Cx} {C : Addr} {x : Str} {sp : Sp} {k j i : Nat} {p pos : Pos} {e : Expr} {es : List Expr} {t : TA}
theorem pe_ma (c : Ma X.prog X.w X.K X.mg X.base k C sp) (hr : Room j X.A) (hm : X.mg x = some (.ref C)) (ha : PA X (e :: es) t) (hk : k + 1 ≤ j := by decide) (hg : Gl X x := by rfl)
    (hdb : (x == ("__debug__" : Str)) = false := by decide) (he : starEach (e :: es) X.env = (false, eval e X.env) :: starEach es X.env := by rfl) (hpl : (backTo pos (starEach es X.env)).any (·.1) = false := by rfl) :
    PE X (.Call (.Name x p) (e :: es) [] pos) (tMake C sp [] E0 t) := by
  obtain ⟨f, fd, ps, M, F, b⟩ := c.ex
  exact pe_make M F (hr.mono hk) hg hm b .nil passN ha hdb he hpl
/-- cls(..), cls a parameter that holds the class -/
def tMakeL (i : Nat) (C : Addr) (sp : Sp) (t : TA) : TE := fun σ H Q => σ[i]? = some (some (.ref C)) ∧ tMake C sp [] E0 t σ H Q
theorem pe_maL (c : Ma X.prog X.w X.K X.mg X.base k C sp) (hr : Room j X.A) (hN : X.N[i]? = some x) (ha : PA X (e :: es) t) (hk : k + 1 ≤ j := by decide)
    (hv : Vis X.env.scope x := by first | exact Or.inl rfl | exact Or.inr (Or.inl rfl) | exact Or.inr (Or.inr rfl))
    (hdb : (x == ("__debug__" : Str)) = false := by decide) (hcd : (x == ("__classdict__" : Str)) = false := by decide)
    (he : starEach (e :: es) X.env = (false, eval e X.env) :: starEach es X.env := by rfl) (hpl : (backTo pos (starEach es X.env)).any (·.1) = false := by rfl) :
    PE X (.Call (.Name x p) (e :: es) [] pos) (tMakeL i C sp t) := by
  obtain ⟨f, fd, ps, M, F, b⟩ := c.ex
  refine ⟨fun pins s σ H Q I h => ?_⟩
  obtain ⟨at_i, rest⟩ := h
  refine wpAny_Call_Name_kw (thn ((pe_var (pos := p) hN hv hdb hcd).run pins s σ H (fun v G => v = .ref C ∧ G = H) I ⟨.ref C, at_i, rfl, rfl⟩) fun u s1 ⟨v, G, I1, r1, e1, e2⟩ => ?_)
  subst e1
  subst e2
  cases r1
  refine PySem.W.callWith_K (h₀ := X.base) I.ok.mod.kin M.kp (thn (ha.run pos pins s1 σ _ _ I1 rest) fun us s2 ⟨vs, G2, I2, r, q⟩ => ⟨I2.kIn, ?_⟩) he hpl
  exact run_make M F (hr.mono hk) b .nil passN I2 r q
end
-- part ownops2
/-! bool(x) and x == y, where y is no instance; classmethods by FnR; C(..) in a try -/
section
variable {X : Cx} {C : Addr} {m : Str} {sp : Sp} {k j : Nat}
/-- bool(x) of an instance -/
def rBoolOwn (C : Addr) (sp : Sp) : List V → Hp → VK → Prop := fun xs H Q => ∃ a dx fs, xs = [.ref a] ∧ H a = some (.ins C dx fs) ∧ sp [.ref a] H (fun v H' => ∃ c : Bool, v = .bl c ∧ Q (.bl c) H') E0
theorem new_bool_any {prog : Program} {w : World} (x : Value) : MeetsIn prog w (Builtin.«bool.__new__» ⟨[.type "bool", x], []⟩)
    (fun A R s => wpAny (model prog w) A.in1 (truthy x) (fun b s1 => R (.ok (.ret (.bool b))) s1) (fun e s1 => R (.error e) s1) s) :=
  .of_wp fun A R s h => by
    have no_bool := F.conv_sub_bool
    unfold Builtin.«bool.__new__»
    generalize same : truthy = TX
    wp_walk
    subst same
    refine wpAny_mono h (fun b s1 hR => ?_) fun _ _ z => z
    exact wpAny_pure ⟨_, rfl, hR⟩
theorem cr_boolOwn (c : Me X.prog X.w X.K X.mg X.base k C "__bool__" sp) (hr : Room j X.A) (hk : k + 2 ≤ j := by decide) : CallR X (.type "bool") (rBoolOwn C sp) := by
  obtain ⟨f, fd, ps, M, F, b⟩ := c.ex
  intro pins s σ H xs us Q I r h
  obtain ⟨a, dx, fs, rfl, ha, q⟩ := h
  obtain rfl := Vals.ref1 r
  obtain ⟨ox, od, J⟩ := inst_of I ha
  obtain ⟨mm, hF⟩ := I.fr
  have many : ([Value.ref a] : List Value).length = ps.length := F.len [.ref a] _ _ _ q
  have bound := b s [.ref a] I.kIn (by rw [List.append_nil]; exact many)
  rw [List.append_nil] at bound
  refine callType_newIn PySem.F.called_bool PySem.F.newNe_bool (PySem.F.typeCall_bool_1 _) (PySem.F.newCall_bool_1 _) (fun obj => PySem.F.args_object_init_2 obj _) PySem.F.entry_bool_new (new_bool_any _) ?_
  refine PySem.W.truthy_K hF I.ok.mod.kin J M.at_ M.fn (wpAny_call (codeAny_mono (F.run _ X.stack s H ⟨[.ref a], []⟩ [.ref a] [.ref a] _ E0 ((hr.mono hk).in1.in1) (I.env0.in1.in1) bound (.cons rfl .nil) q) fun r s' hq => ?_))
  cases r with
  | error e => exact False.elim hq
  | ok fl =>
    cases fl with
    | ret u =>
      obtain ⟨z', H', I', rz, d, ez, qz⟩ := I.after hq
      subst ez
      cases (show u = Value.bool d from rz)
      exact ⟨rfl, .bl d, H', I', rfl, qz⟩
    | next => exact False.elim hq
    | brk => exact False.elim hq
    | cont => exact False.elim hq
/-- x == y, y a tuple -/
def rOwnT (C : Addr) (sp : Sp) : R2 := fun x y H Q => ∃ a b dx fs zs, x = .ref a ∧ y = .ref b ∧ H a = some (.ins C dx fs) ∧ H b = some (.tup zs) ∧ sp [x, y] H Q E0
theorem op_eq_ownT (c : Me X.prog X.w X.K X.mg X.base k C "__eq__" sp) (hr : Room j X.A) (nf : PySem.W.subIn X.K (.type "tuple") (.ref C) = some false) (hk : k ≤ j := by decide) : OpR X (compareOp .Eq) (rOwnT C sp) := by
  obtain ⟨f, fd, ps, M, F, b⟩ := c.ex
  intro pins s σ H x y v u Q I rx ry h
  obtain ⟨a, b', dx, fs, zs, rfl, rfl, ha, hb, q⟩ := h
  cases (show v = Value.ref a from rx)
  cases (show u = Value.ref b' from ry)
  obtain ⟨ox, od, J⟩ := inst_of I ha
  obtain ⟨_, _, _, o, h1, h2, _⟩ := (show ObjOk X.prog X.w H s.heap b' (.tup zs) from I.hok b' _ hb)
  obtain ⟨mm, hF⟩ := I.fr
  show wpAny _ _ (richCompare .Eq (.ref a) (.ref b')) _ _ _
  refine PySem.W.cmp_K (op := .Eq) (tb := .type "tuple") hr.units0 hF I.ok.mod.kin J (fun A Q E s k q => wpAny_typeOf_ref (k _ _ h1) (by rw [h2]; exact q)) (by unfold PySem.W.notFirst; rw [nf]; simp) M.at_ M.fn ?_
  refine wpAny_mono (run_fn (us := [.ref a, .ref b']) (vs := [.ref a, .ref b']) F (hr.mono hk) b .nil pass0 I (.cons rfl (.cons rfl .nil)) q) (fun u' s' z => ?_) fun _ _ x => x
  obtain ⟨z', H', I', rz, qz⟩ := z
  exact SlX.cmpback rz ⟨z', H', I', rz, qz⟩
end
/-- a classmethod by what its call does -/
structure CmR (P : Program) (w : World) (K : PySem.W.Frag) (mg : Str → Option Value) (base : Heap) (k : Nat) (C : Addr) (m : Str) (sp : Sp) : Prop where
  ex : ∃ (mc : Value) (p g : Addr), ClX.CRead K C mc ∧ ClX.CMet K C mc m p g ∧ FnR P w K mg base CX0 k g sp
theorem pe_cmR {X : Cx} {C : Addr} {m : Str} {sp : Sp} {k j : Nat} {o e : Expr} {es : List Expr} {ta : TE} {t : TA} {apos pos : Pos} {pl : Sem Bool} (c : CmR X.prog X.w X.K X.mg X.base k C m sp) (hr : Room j X.A) (he : PE X o ta) (ha : PA X (e :: es) t) (hk : k ≤ j := by decide)
    (hst : starEach (e :: es) X.env = (false, eval e X.env) :: starEach es X.env := by rfl) (hpl : (backTo pos (starEach es X.env)).any (·.1) = false := by rfl)
    (ht : eval (.Call (.Attribute o m apos) (e :: es) [] pos) X.env = (do
      let got ← eval o X.env
      standAt apos.atName
      let (fn, fst) ← holding [got] (getMethod got m pl)
      callWith pos fn fst (backTo pos (starEach (e :: es) X.env)) (backToKw pos (keywordEach [] X.env))) := by rfl) :
    PE X (.Call (.Attribute o m apos) (e :: es) [] pos) (ClX.tCMeth C sp E0 ta t) := by
  obtain ⟨mc, p, g, r, c, F⟩ := c.ex
  exact ClX.pe_cmeth he r c F (hr.mono hk) pass0 ha hst hpl ht
theorem pe_cmR0 {X : Cx} {C : Addr} {m : Str} {sp : Sp} {k j : Nat} {o : Expr} {ta : TE} {apos pos : Pos} {pl : Sem Bool} (c : CmR X.prog X.w X.K X.mg X.base k C m sp) (hr : Room j X.A) (he : PE X o ta) (hk : k ≤ j := by decide)
    (ht : eval (.Call (.Attribute o m apos) [] [] pos) X.env = (do
      let got ← eval o X.env
      standAt apos.atName
      let (fn, fst) ← holding [got] (getMethod got m pl)
      callWith pos fn fst (backTo pos (starEach [] X.env)) (backToKw pos (keywordEach [] X.env))) := by rfl) :
    PE X (.Call (.Attribute o m apos) [] [] pos) (ClX.tCMeth C sp E0 ta tNil) := by
  obtain ⟨mc, p, g, r, c, F⟩ := c.ex
  refine ⟨fun pins s σ H Q I h => ?_⟩
  refine PySem.W.methodCall_KW (pl := pl) (thn (he.run pins s σ H _ I h) fun u s1 ⟨x, H1, I1, rx, ex, q⟩ => ?_) ht
  subst ex
  obtain rfl : u = Value.ref C := rx
  refine ClX.getmethcm_ok I1 r c fun s2 I2 => ?_
  have hq := ClX.pin_at I2
  show wpAny _ _ (callWith pos (Value.ref s1.heap.objs.size) [] (backTo pos (starEach [] X.env)) []) _ _ _
  refine PySem.W.callWith_M0 (K := X.K) (g := g) (self := .ref C) ?_ c.fi ?_
  · exact ⟨hq, I2.kIn⟩
  · exact ClX.run_cm (us := []) (vs := []) F (hr.mono hk) pass0 I2 .nil q
/-- C(..) whose __init__ may raise, in a try that takes it -/
def tMakeS (C : Addr) (sp : Sp) (E : L2.St → XK) (t : TA) : TE := fun σ H Q => tMake C sp [] (E σ) t σ H Q
theorem pe_maX {X : Cx} {W : WX} {C : Addr} {x : Str} {sp : Sp} {k j : Nat} {p pos : Pos} {e : Expr} {es : List Expr} {t : TA} (c : Ma X.prog X.w X.K X.mg X.base k C sp) (hr : Room j X.A) (tk : L2N.Takes X W) (hm : X.mg x = some (.ref C)) (ha : PA X (e :: es) t) (hk : k + 1 ≤ j := by decide) (hg : Gl X x := by rfl)
    (hdb : (x == ("__debug__" : Str)) = false := by decide) (he : starEach (e :: es) X.env = (false, eval e X.env) :: starEach es X.env := by rfl) (hpl : (backTo pos (starEach es X.env)).any (·.1) = false := by rfl) :
    PE X (.Call (.Name x p) (e :: es) [] pos) (tMakeS C sp (WE W) t) := by
  obtain ⟨f, fd, ps, M, F, b⟩ := c.ex
  refine ⟨fun pins s σ H Q I h => ?_⟩
  refine wpAny_Call_Name_kw (ld_glob I hg hm ?_ hdb)
  refine PySem.W.callWith_K (h₀ := X.base) I.ok.mod.kin M.kp (thn (ha.run pos pins s σ H _ I h) fun us s1 ⟨vs, H1, I1, r, q⟩ => ⟨I1.kIn, ?_⟩) he hpl
  generalize ez : s1.heap.objs.size = z
  have le0 : s1.heap.objs.size ≤ z := by rw [ez]; exact Nat.le_refl z
  have asks := q (z + 1) z (I1.hok.fresh (Nat.le_succ_of_le le0)) (I1.hok.fresh le0) (Nat.ne_of_lt (Nat.lt_succ_self z))
  have laid := Inv.made (C := C) I1
  rw [ez] at laid
  have rel : Vals (V.ref (z + 1) :: vs) (Value.ref (z + 1) :: us) := .cons rfl r
  rw [List.append_nil] at asks
  have many : (Value.ref (z + 1) :: us).length = ps.length := by
    rw [← rel.length]
    exact F.len _ _ _ _ asks
  have bound := b _ (Value.ref (z + 1) :: us) laid.kIn (by rw [List.append_nil]; exact many)
  rw [List.append_nil] at bound
  have runs := F.run _ X.stack _ _ ⟨Value.ref (z + 1) :: us, []⟩ (Value.ref (z + 1) :: us) _ _ (WE W σ) ((hr.mono hk).make C us []) (laid.env0.make C us []) bound rel asks
  subst ez
  refine wpAny_call (make_map (f := f) I1.kIn M.makes M.init (beq_iff_eq.mp M.fn) (codeAny_mono runs fun r' s' back => ?_))
  cases r' with
  | error er => exact L2N.passAt tk σ pins _ _ er s' laid back
  | ok fl =>
    cases fl with
    | ret u =>
      obtain ⟨v, H', I3, rv, ev, q3⟩ := laid.after back
      subst ev
      cases (show u = Value.none from rv)
      exact ⟨rfl, .ref _, H', I3, rfl, q3⟩
    | next => exact False.elim back
    | brk => exact False.elim back
    | cont => exact False.elim back
theorem kit_ownF {C : Addr} {U : String} (h2 : PySem.W.isClsIn K C = true) (h3 : PySem.W.typeIn K (.ref C) = some (.type "type")) (h : PySem.W.subIn K (.type U) (.ref C) = some false) : PySem.W.kitOne K (.type U) (.ref C) = some false := by
  have h2' : (PySem.W.clsIn K C).isSome = true := h2
  have e2 : ((PySem.W.clsIn K C).isSome && PySem.W.typeIn K (.ref C) == some (.type "type")) = true := by rw [h2', h3] <;> rfl
  unfold PySem.W.kitOne
  rw [if_neg (by simp)]
  show (if ((PySem.W.clsIn K C).isSome && PySem.W.typeIn K (.ref C) == some (.type "type")) = true then PySem.W.subIn K (.type U) (.ref C) else none) = some false
  rw [if_pos e2]
  exact h
-- part strown
/-! str(x) of an own instance -/
section
variable {X : Cx} {C : Addr} {sp : Sp} {k j : Nat}
def rStrOwn (C : Addr) (sp : Sp) : List V → Hp → VK → Prop := fun xs H Q => ∃ a dx fs, xs = [.ref a] ∧ H a = some (.ins C dx fs) ∧ sp [.ref a] H (fun v H' => ∃ z : Str, v = .str z ∧ Q (.str z) H') E0
theorem cr_strOwn (c : Me X.prog X.w X.K X.mg X.base k C "__str__" sp) (hr : Room j X.A) (hk : k + 2 ≤ j := by decide) : CallR X (.type "str") (rStrOwn C sp) := by
  obtain ⟨f, fd, ps, M, F, b⟩ := c.ex
  intro pins s σ H xs us Q I r h
  obtain ⟨a, dx, fs, rfl, ha, q⟩ := h
  obtain rfl := Vals.ref1 r
  obtain ⟨ox, od, J⟩ := inst_of I ha
  have many : ([Value.ref a] : List Value).length = ps.length := F.len [.ref a] _ _ _ q
  have bound := b s [.ref a] I.kIn (by rw [List.append_nil]; exact many)
  rw [List.append_nil] at bound
  refine PySem.W.kso_call (hr.mono hk).in1.in1.units0 I.kIn J M.at_ M.fn (wpAny_call (codeAny_mono (F.run _ X.stack s H ⟨[.ref a], []⟩ [.ref a] [.ref a] _ E0 ((hr.mono hk).in1.in1) (I.env0.in1.in1) bound (.cons rfl .nil) q) fun r s' hq => ?_))
  cases r with
  | error e => exact False.elim hq
  | ok fl =>
    cases fl with
    | ret u =>
      obtain ⟨z', H', I', rz, z, ez, qz⟩ := I.after hq
      subst ez
      obtain ⟨t, ht⟩ := (show ∃ t, u = Value.str z t from rz)
      subst ht
      exact ⟨.str z, H', I', ⟨t, rfl⟩, qz⟩
    | next => exact False.elim hq
    | brk => exact False.elim hq
    | cont => exact False.elim hq
end
/-- y.join(xs), the frame named: for the body of a try -/
def rJoin (K : PySem.W.Frag) : V → List V → Hp → VK → Prop := fun x xs H Q => ∃ a p, ∃ ys : List Str, x = .str a ∧ xs = [.ref p] ∧ (SqL K H p (ys.map V.str) ∨ SqT K H p (ys.map V.str)) ∧ (ys.map (·.length)).sum + ys.length * a.length ≤ 16777216 ∧ Q (.str (Txt.join a ys)) H
theorem pe_joinK {X : Cx} {K : PySem.W.Frag} {o e : Expr} {to te : TE} {apos pos : Pos} (hK : X.K = K) (ho : PE X o to) (he : PE X e te) (hs : starEach [e] X.env = [(false, eval e X.env)] := by rfl) (hbase : attributeBase o "join" X.env (eval o X.env) = eval o X.env := by rfl) (hline : (apos.endLine == pos.line) = true := by rfl) :
    PE X (.Call (.Attribute o "join" apos) [e] [] pos) (tM1 (rJoin K) to te) := by
  subst hK
  exact pe_join ho he hs hbase hline
-- part trk
/-! rules whose readings name the frame: for the body of a try and for except suites -/
section
variable {X : Cx} {K : PySem.W.Frag} {o e : Expr} {es : List Expr} {to : TE} {t : TA} {name : Str} {apos cpos : Pos} {T id : String} {r : V → List V → Hp → VK → Prop}
theorem pe_bm0K (hK : X.K = K) (pa : PlainAttrs T) (slot : Slot T name id) (ty : typeOf (.builtin id) = pure (.type "method_descriptor")) (hm : MtR X id r) (ho : PE X o to)
    (hb : attributeBase o name X.env (eval o X.env) = eval o X.env := by rfl) (hl : (apos.endLine == cpos.line) = true := by rfl) : PE X (.Call (.Attribute o name apos) [] [] cpos) (tBM0 K T r to) := by
  subst hK
  exact pe_bm0 pa slot ty hm ho hb hl
theorem pe_bmK (hK : X.K = K) (pa : PlainAttrs T) (slot : Slot T name id) (ty : typeOf (.builtin id) = pure (.type "method_descriptor")) (hm : MtR X id r) (ho : PE X o to) (ha : PA X (e :: es) t)
    (hb : attributeBase o name X.env (eval o X.env) = eval o X.env := by rfl)
    (hf : ((backTo cpos (starEach (e :: es) X.env)).all (fun x => !x.1) && (backToKw cpos (keywordEach [] X.env)).all (fun x => x.1.isSome) && decide ((e :: es).length + ([] : List Keyword).length + (if ([] : List Keyword).isEmpty then 0 else 1) < 30)) = true := by rfl)
    (hl : (apos.endLine == cpos.line) = true := by rfl) (hs : starEach (e :: es) X.env = (false, eval e X.env) :: starEach es X.env := by rfl) (hp : (backTo cpos (starEach es X.env)).any (·.1) = false := by rfl) :
    PE X (.Call (.Attribute o name apos) (e :: es) [] cpos) (tBM K T r to t) := by
  subst hK
  exact pe_bm pa slot ty hm ho ha hb hf hl hs hp
theorem call_isiK (hK : X.K = K) : CallR X (.builtin "isinstance") (rIsi K) := by
  subst hK
  exact call_isi
end
theorem room_suite {X : Cx} {j : Nat} {a : Addr} {l : List (Addr × Obj)} (hr : Room j X.A) : L2H.RoomH j (X.suite a l).A := ⟨hr.dp, hr.un⟩
-- part clsm
/-- a call of a classmethod without arguments -/
structure Cm (P : Program) (w : World) (K : PySem.W.Frag) (mg : Str → Option Value) (base : Heap) (k : Nat) (C : Addr) (m : Str) (sp : Sp) : Prop where
  ex : ∃ (mc : Value) (p g : Addr) (fd : FuncData) (ps : List Str), ClX.CRead K C mc ∧ ClX.CMet K C mc m p g ∧ FnOk P w K mg base CX0 k g fd ps sp ∧ Binds K fd ps []
theorem fnR_of {P : Program} {w : World} {K : PySem.W.Frag} {mg : Str → Option Value} {base : Heap} {CX : CXT} {k : Nat} {f : Addr} {fd : FuncData} {ps : List Str} {sp : Sp} (F : FnOk P w K mg base CX k f fd ps sp) (b : Binds K fd ps []) : FnR P w K mg base CX k f sp :=
  fun A outer s H us vs Q E hr e0 r h => by
    have hl : us.length = ps.length := by
      rw [← r.length]
      exact F.len _ _ _ _ h
    have z := b s us (e0.mod.kin.keeps fun b o e => (e0.bs b o e).1) (by rw [List.append_nil]; exact hl)
    rw [List.append_nil] at z
    exact F.run A outer s H ⟨us, []⟩ us vs Q E hr e0 z r h
theorem pe_cm {X : Cx} {C : Addr} {m : Str} {sp : Sp} {k j : Nat} {o e : Expr} {es : List Expr} {ta : TE} {t : TA} {apos pos : Pos} {pl : Sem Bool} (c : Cm X.prog X.w X.K X.mg X.base k C m sp) (hr : Room j X.A) (he : PE X o ta) (ha : PA X (e :: es) t) (hk : k ≤ j := by decide)
    (hst : starEach (e :: es) X.env = (false, eval e X.env) :: starEach es X.env := by rfl) (hpl : (backTo pos (starEach es X.env)).any (·.1) = false := by rfl)
    (ht : eval (.Call (.Attribute o m apos) (e :: es) [] pos) X.env = (do
      let got ← eval o X.env
      standAt apos.atName
      let (fn, fst) ← holding [got] (getMethod got m pl)
      callWith pos fn fst (backTo pos (starEach (e :: es) X.env)) (backToKw pos (keywordEach [] X.env))) := by rfl) :
    PE X (.Call (.Attribute o m apos) (e :: es) [] pos) (ClX.tCMeth C sp E0 ta t) := by
  obtain ⟨mc, p, g, fd, ps, r, c, F, b⟩ := c.ex
  exact ClX.pe_cmeth he r c (fnR_of F b) (hr.mono hk) pass0 ha hst hpl ht
theorem pe_cm0 {X : Cx} {C : Addr} {m : Str} {sp : Sp} {k j : Nat} {o : Expr} {ta : TE} {apos pos : Pos} {pl : Sem Bool} (c : Cm X.prog X.w X.K X.mg X.base k C m sp) (hr : Room j X.A) (he : PE X o ta) (hk : k ≤ j := by decide)
    (ht : eval (.Call (.Attribute o m apos) [] [] pos) X.env = (do
      let got ← eval o X.env
      standAt apos.atName
      let (fn, fst) ← holding [got] (getMethod got m pl)
      callWith pos fn fst (backTo pos (starEach [] X.env)) (backToKw pos (keywordEach [] X.env))) := by rfl) :
    PE X (.Call (.Attribute o m apos) [] [] pos) (ClX.tCMeth C sp E0 ta tNil) := by
  obtain ⟨mc, p, g, fd, ps, r, c, F, b⟩ := c.ex
  refine ⟨fun pins s σ H Q I h => ?_⟩
  refine PySem.W.methodCall_KW (pl := pl) (thn (he.run pins s σ H _ I h) fun u s1 ⟨x, H1, I1, rx, ex, q⟩ => ?_) ht
  subst ex
  obtain rfl : u = Value.ref C := rx
  have notin : X.base.get? s1.heap.objs.size = none := by
    cases z : X.base.get? s1.heap.objs.size with
    | none => rfl
    | some o => exact absurd (Heap.lt_size (I1.bk _ o z)) (Nat.lt_irrefl _)
  refine ClX.getmethcm_ok I1 r c fun s2 I2 => ?_
  have hq := ClX.pin_at I2
  have hL : s1.heap.objs.size ≠ X.env.locals := (I2.pin (s1.heap.objs.size, PySem.W.methodObj (.ref g) (.ref C)) (List.mem_append_right _ List.mem_cons_self)).2.2.1
  show wpAny _ _ (callWith pos (Value.ref s1.heap.objs.size) [] (backTo pos (starEach [] X.env)) []) _ _ _
  refine PySem.W.callWith_M0 (K := X.K) (g := g) (self := .ref C) ?_ c.fi ?_
  · exact ⟨hq, I2.kIn⟩
  · have z := ClX.run_cm (us := []) (vs := []) (fnR_of F b) (hr.mono hk) pass0 I2 .nil q
    exact z
-- part maxl
section
variable {X : Cx} {W : WX} {C : Addr} {x m : Str} {sp : Sp} {k j i : Nat} {p pos apos : Pos} {e o : Expr} {es : List Expr} {t : TA} {ta : TE} {pl : Sem Bool}
/-- the making itself, what its __init__ raises is taken -/
theorem run_maX {pins : List (Addr × Obj)} {σ : L2.St} {H : Hp} {s : Shared} {Q : VK} {us : List Value} {vs : List V} (c : Ma X.prog X.w X.K X.mg X.base k C sp) (hr : Room j X.A) (tk : L2N.Takes X W) (hk : k + 1 ≤ j) (I : Inv X pins σ H s) (r : Vals vs us)
    (q : ∀ x dx, H x = none → H dx = none → dx ≠ x → sp (.ref x :: (vs ++ [])) (upd (upd H dx (.own x)) x (.ins C dx [])) (fun u H' => u = .non ∧ Q (.ref x) H') (WE W σ)) :
    wpAny (model X.prog X.w) X.A (call (.ref C) us) (EP X pins σ Q) X.xe s := by
  obtain ⟨f, fd, ps, M, F, b⟩ := c.ex
  generalize ez : s.heap.objs.size = z
  have le0 : s.heap.objs.size ≤ z := by
    rw [ez]
    exact Nat.le_refl z
  have asks := q (z + 1) z (I.hok.fresh (Nat.le_succ_of_le le0)) (I.hok.fresh le0) (Nat.ne_of_lt (Nat.lt_succ_self z))
  have laid := Inv.made (C := C) I
  rw [ez] at laid
  rw [List.append_nil] at asks
  have rel : Vals (V.ref (z + 1) :: vs) (Value.ref (z + 1) :: us) := .cons rfl r
  have bound := b _ (Value.ref (z + 1) :: us) laid.kIn (by
    rw [List.append_nil, ← rel.length]
    exact F.len _ _ _ _ asks)
  rw [List.append_nil] at bound
  have runs := F.run _ X.stack _ _ ⟨Value.ref (z + 1) :: us, []⟩ (Value.ref (z + 1) :: us) _ _ (WE W σ) ((hr.mono hk).make C us []) (laid.env0.make C us []) bound rel asks
  subst ez
  refine wpAny_call (make_map (f := f) I.kIn M.makes M.init (beq_iff_eq.mp M.fn) (codeAny_mono runs fun r' s' back => ?_))
  cases r' with
  | error er => exact L2N.passAt tk σ pins _ _ er s' laid back
  | ok fl =>
    cases fl with
    | ret u =>
      obtain ⟨v, H', I3, rv, ev, q3⟩ := laid.after back
      subst ev
      cases (show u = Value.none from rv)
      exact ⟨rfl, .ref _, H', I3, rfl, q3⟩
    | next => exact False.elim back
    | brk => exact False.elim back
    | cont => exact False.elim back
/-- cls(..), cls a parameter that holds the class; what is raised is taken -/
def tMakeLS (i : Nat) (C : Addr) (sp : Sp) (E : L2.St → XK) (t : TA) : TE := fun σ H Q => σ[i]? = some (some (.ref C)) ∧ tMake C sp [] (E σ) t σ H Q
theorem pe_maLX (c : Ma X.prog X.w X.K X.mg X.base k C sp) (hr : Room j X.A) (tk : L2N.Takes X W) (hN : X.N[i]? = some x) (ha : PA X (e :: es) t) (hk : k + 1 ≤ j := by decide)
    (hv : Vis X.env.scope x := by first | exact Or.inl rfl | exact Or.inr (Or.inl rfl) | exact Or.inr (Or.inr rfl))
    (hdb : (x == ("__debug__" : Str)) = false := by decide) (hcd : (x == ("__classdict__" : Str)) = false := by decide)
    (he : starEach (e :: es) X.env = (false, eval e X.env) :: starEach es X.env := by rfl) (hpl : (backTo pos (starEach es X.env)).any (·.1) = false := by rfl) :
    PE X (.Call (.Name x p) (e :: es) [] pos) (tMakeLS i C sp (WE W) t) := by
  have kp : PySem.W.keepIn X.K (.ref C) = true := by
    obtain ⟨f, fd, ps, M, F, b⟩ := c.ex
    exact M.kp
  refine ⟨fun pins s σ H Q I h => ?_⟩
  obtain ⟨at_i, rest⟩ := h
  refine wpAny_Call_Name_kw (thn ((pe_var (pos := p) hN hv hdb hcd).run pins s σ H (fun v G => v = .ref C ∧ G = H) I ⟨.ref C, at_i, rfl, rfl⟩) fun u s1 ⟨v, G, I1, r1, e1, e2⟩ => ?_)
  subst e1
  subst e2
  cases r1
  exact PySem.W.callWith_K (h₀ := X.base) I.ok.mod.kin kp (thn (ha.run pos pins s1 σ _ _ I1 rest) fun us s2 ⟨vs, G2, I2, r, q⟩ => ⟨I2.kIn, run_maX c hr tk hk I2 r q⟩) he hpl
/-- a classmethod that may raise -/
structure CmN (P : Program) (w : World) (K : PySem.W.Frag) (mg : Str → Option Value) (base : Heap) (k : Nat) (C : Addr) (m : Str) (sp : Sp) : Prop where
  ex : ∃ (mc : Value) (p g : Addr) (fd : FuncData) (ps : List Str), ClX.CRead K C mc ∧ ClX.CMet K C mc m p g ∧ FnOk P w K mg base (L2N.CX P w) k g fd ps sp ∧ Binds K fd ps []
/-- .. where it doesn't -/
theorem pe_cmN0 (c : CmN X.prog X.w X.K X.mg X.base k C m sp) (hr : Room j X.A) (he : PE X o ta) (ha : PA X (e :: es) t) (hk : k ≤ j := by decide)
    (hst : starEach (e :: es) X.env = (false, eval e X.env) :: starEach es X.env := by rfl) (hpl : (backTo pos (starEach es X.env)).any (·.1) = false := by rfl)
    (ht : eval (.Call (.Attribute o m apos) (e :: es) [] pos) X.env = (do
      let got ← eval o X.env
      standAt apos.atName
      let (fn, fst) ← holding [got] (getMethod got m pl)
      callWith pos fn fst (backTo pos (starEach (e :: es) X.env)) (backToKw pos (keywordEach [] X.env))) := by rfl) :
    PE X (.Call (.Attribute o m apos) (e :: es) [] pos) (ClX.tCMeth C sp E0 ta t) := by
  obtain ⟨mc, p, g, fd, ps, r, c, F, b⟩ := c.ex
  exact ClX.pe_cmeth he r c (fnR_of F b) (hr.mono hk) passN ha hst hpl ht
def tCMethS (C : Addr) (sp : Sp) (E : L2.St → XK) (ta : TE) (t : TA) : TE := fun σ H Q => ClX.tCMeth C sp (E σ) ta t σ H Q
/-- .. in a try or def that takes what it raises -/
theorem pe_cmNX (c : CmN X.prog X.w X.K X.mg X.base k C m sp) (hr : Room j X.A) (tk : L2N.Takes X W) (he : PE X o ta) (ha : PA X (e :: es) t) (hk : k ≤ j := by decide)
    (hst : starEach (e :: es) X.env = (false, eval e X.env) :: starEach es X.env := by rfl) (hpl : (backTo pos (starEach es X.env)).any (·.1) = false := by rfl)
    (ht : eval (.Call (.Attribute o m apos) (e :: es) [] pos) X.env = (do
      let got ← eval o X.env
      standAt apos.atName
      let (fn, fst) ← holding [got] (getMethod got m pl)
      callWith pos fn fst (backTo pos (starEach (e :: es) X.env)) (backToKw pos (keywordEach [] X.env))) := by rfl) :
    PE X (.Call (.Attribute o m apos) (e :: es) [] pos) (tCMethS C sp (WE W) ta t) := by
  obtain ⟨mc, p, g, fd, ps, r, c, F, b⟩ := c.ex
  refine ⟨fun pins s σ H Q I h => ?_⟩
  refine PySem.W.methodCall_KW (pl := pl) (thn (he.run pins s σ H _ I h) fun u s1 ⟨x, H1, I1, rx, ex, q⟩ => ?_) ht
  subst ex
  obtain rfl : u = Value.ref C := rx
  refine ClX.getmethcm_ok I1 r c fun s2 I2 => ?_
  refine ClX.callwith_cm I2 (ClX.base_none I1 (Nat.le_refl _)) c.fi (thn (ha.run pos _ s2 σ H1 _ I2 q) fun us s3 ⟨vs, H2, I3, rv, q2⟩ => ⟨⟨ClX.pin_at I3, I3.kIn⟩, ?_⟩) hst hpl
  have many : (Value.ref C :: us).length = ps.length := by
    have z := F.len _ _ _ _ q2
    rw [← z]
    show us.length + 1 = vs.length + 1
    rw [Paired.length rv]
  have bound := b s3 (Value.ref C :: us) I3.kIn (by rw [List.append_nil]; exact many)
  rw [List.append_nil] at bound
  have runs := F.run X.A X.stack s3 H2 ⟨Value.ref C :: us, []⟩ (Value.ref C :: us) (.ref C :: vs) _ (WE W σ) (hr.mono hk) I3.env0 bound (.cons rfl rv) q2
  have z : wpAny (model X.prog X.w) X.A (call (.ref s1.heap.objs.size) us) (EP X ((s1.heap.objs.size, PySem.W.methodObj (.ref g) (.ref C)) :: pins) σ Q) X.xe s3 :=
    wpAny_call (PySem.W.method_call (ClX.pin_at I3) (codeAny_mono runs fun r s' hq => by
      cases r with
      | error er => exact L2N.passAt tk σ _ H2 s3 er s' I3 hq
      | ok fl =>
        cases fl with
        | ret u => exact I3.after hq
        | next => exact False.elim hq
        | brk => exact False.elim hq
        | cont => exact False.elim hq))
  exact thn z fun _ _ y => ClX.unpinE y
end
-- part meths
/-! o.m(..) of an own class, by its promise -/
section
variable {X : Cx} {C : Addr} {m : Str} {sp : Sp} {k j : Nat} {o e : Expr} {es : List Expr} {ta : TE} {t : TA} {apos pos : Pos} {pl : Sem Bool}
theorem pe_me0 (c : Me X.prog X.w X.K X.mg X.base k C m sp) (cl : Cls X.K C) (hr : Room j X.A) (he : PE X o ta) (hk : k ≤ j := by decide)
    (ht : eval (.Call (.Attribute o m apos) [] [] pos) X.env = (do
      let ov ← eval o X.env
      standAt apos.atName
      let (f, first) ← holding [ov] (getMethod ov m pl)
      callWith pos f first (backTo pos (starEach [] X.env)) (backToKw pos (keywordEach [] X.env))) := by rfl) :
    PE X (.Call (.Attribute o m apos) [] [] pos) (tMeth C m sp [] E0 ta tNil) := by
  obtain ⟨f, fd, ps, M, F, b⟩ := c.ex
  exact pe_meth0 he cl M F (hr.mono hk) b .nil pass0 ht
theorem pe_me (c : Me X.prog X.w X.K X.mg X.base k C m sp) (cl : Cls X.K C) (hr : Room j X.A) (he : PE X o ta) (ha : PA X (e :: es) t) (hk : k ≤ j := by decide)
    (hst : starEach (e :: es) X.env = (false, eval e X.env) :: starEach es X.env := by rfl) (hpl : (backTo pos (starEach es X.env)).any (·.1) = false := by rfl)
    (ht : eval (.Call (.Attribute o m apos) (e :: es) [] pos) X.env = (do
      let ov ← eval o X.env
      standAt apos.atName
      let (f, first) ← holding [ov] (getMethod ov m pl)
      callWith pos f first (backTo pos (starEach (e :: es) X.env)) (backToKw pos (keywordEach [] X.env))) := by rfl) :
    PE X (.Call (.Attribute o m apos) (e :: es) [] pos) (tMeth C m sp [] E0 ta t) := by
  obtain ⟨f, fd, ps, M, F, b⟩ := c.ex
  exact pe_meth he cl M F (hr.mono hk) b .nil pass0 ha hst hpl ht
end
/-- a class whose instances are called, by the promise of its __call__ -/
structure Co (P : Program) (w : World) (K : PySem.W.Frag) (mg : Str → Option Value) (base : Heap) (k : Nat) (C : Addr) (sp : Sp) : Prop where
  ex : ∃ g, StX.CallO K C g ∧ FnR P w K mg base CX0 k g sp
def tCallI (C : Addr) (sp : Sp) (tf : TE) (t : TA) : TE := fun σ H Q => tf σ H fun y H1 => ∃ a, y = V.ref a ∧ t σ H1 fun vs H2 => ((∃ dx vs, SlX.Slt H2 a C dx vs) ∨ ∃ dx fs, H2 a = some (.ins C dx fs)) ∧ sp (V.ref a :: vs) H2 Q E0
theorem pe_inst {X : Cx} {C : Addr} {sp : Sp} {k j : Nat} {fe e : Expr} {es : List Expr} {tf : TE} {t : TA} {pos : Pos} (c : Co X.prog X.w X.K X.mg X.base k C sp) (hr : Room j X.A) (hf : PE X fe tf) (ha : PA X (e :: es) t) (hk : k ≤ j := by decide)
    (ht : eval (.Call fe (e :: es) [] pos) X.env = (do callWith pos (← eval fe X.env) [] (backTo pos (starEach (e :: es) X.env)) (backToKw pos (keywordEach [] X.env))) := by rfl)
    (he : starEach (e :: es) X.env = (false, eval e X.env) :: starEach es X.env := by rfl) (hpl : (backTo pos (starEach es X.env)).any (·.1) = false := by rfl) :
    PE X (.Call fe (e :: es) [] pos) (tCallI C sp tf t) := by
  obtain ⟨g, c, F⟩ := c.ex
  exact StX.pe_callO hf c F (hr.mono hk) pass0 ha ht he hpl
-- part polyb
/-! the class Poly -/
def pyF (t : Addr) : List (Str × V) := putF "coefficients" (.ref t) []
theorem pyF_c (t : Addr) : (pyF t).lookup ("coefficients" : Str) = some (.ref t) := by
  unfold pyF
  rw [lookup_putF, if_pos rfl]
theorem pyF_no (t : Addr) {m : Str} (h : ¬ m = "coefficients") : (pyF t).lookup m = none := by
  unfold pyF
  rw [lookup_putF, if_neg h] <;> rfl
/-- a polynomial stands at a -/
structure PolyAt (K : PySem.W.Frag) (C : Addr) (H : Hp) (a : Addr) (l : List Int) : Prop where
  ob : ∃ dx t, H a = some (.ins C dx (pyF t)) ∧ SqT K H t (l.map V.int)
  trm : Trim l
  few : l.length ≤ 200
theorem PolyAt.same {C : Addr} {H H' : Hp} {a : Addr} {l : List Int} (h : PolyAt K C H a l) (s : Same H H') : PolyAt K C H' a l := by
  obtain ⟨dx, t, h1, h2⟩ := h.ob
  exact ⟨⟨dx, t, s _ _ h1, Evl.ex_t s h2⟩, h.trm, h.few⟩
/-- what is told of the class -/
structure PoT (K : PySem.W.Frag) (mg : Str → Option Value) (C : Addr) : Prop where
  g : mg "Poly" = some (.ref C)
  cl : Cls K C
  nC : NoAttr K C "coefficients"
  sf : PySem.W.selfFirst K C = true
  isC : C8.InsC K C
abbrev s_pinit : Stmt := inClass (top 12) 0
theorem sc_pinit : FnScope ["self", "coefficients", "size"] ["self", "coefficients"] (defScope s_pinit) := ⟨rfl, rfl, rfl, by decide +kernel, rfl, by decide +kernel, by decide +kernel⟩
def spPI (C : Addr) (tup : Bool) (K : PySem.W.Frag) : Sp := fun vs H Q _ => ∃ (x dx a : Addr) (ns : List Int), vs = [.ref x, .ref a] ∧ H x = some (.ins C dx []) ∧ (if tup = true then SqT K H a (ns.map V.int) else SqL K H a (ns.map V.int)) ∧ ns.length ≤ 200 ∧
  ∀ H', PolyAt K C H' x (trim ns) → (∀ b o, H b = some o → b ≠ x → H' b = some o) → Q .non H'
/-- one turn of the while tells how far it is -/
theorem tsz_turn {l : List Int} {k : Nat} (h : tsz l k = tsz l l.length) (hz : l.getD (k - 1) 0 = 0) (hk : 0 < k) : tsz l (k - 1) = tsz l l.length := by
  obtain ⟨n, rfl⟩ : ∃ n, k = n + 1 := ⟨k - 1, by omega⟩
  rw [Nat.add_sub_cancel] at hz ⊢
  rw [← h]
  show _ = if l.getD n 0 = 0 then tsz l n else n + 1
  rw [if_pos hz]
theorem tsz_stop {l : List Int} {k : Nat} (h : tsz l k = tsz l l.length) (hz : 0 < k → l.getD (k - 1) 0 ≠ 0) : l.take k = trim l := by
  unfold trim
  rw [← h]
  cases k with
  | zero => rfl
  | succ n =>
    have := hz (Nat.succ_pos n)
    rw [Nat.add_sub_cancel] at this
    show _ = l.take (if l.getD n 0 = 0 then tsz l n else n + 1)
    rw [if_neg this]
theorem ne_of_none' {H : Hp} {t x : Addr} {o : HO} (nt : H t = none) (hx : H x = some o) : t ≠ x := fun e => by
  rw [e, hx] at nt
  cases nt
/-- a tuple stands behind a store in an instance -/
theorem sqT_ins {K : PySem.W.Frag} {H : Hp} {x a C dx : Addr} {fs : List (Str × V)} {o : HO} {xs : List V} (hx : H x = some (.ins C dx fs)) (h : SqT K H a xs) : SqT K (upd H x o) a xs := by
  rcases h with (h | ⟨o', h⟩) | h
  · exact .inl (.inl (by rw [upd_ne (fun e => by rw [e, hx] at h; cases h)]; exact h))
  · exact .inl (.inr ⟨o', by rw [upd_ne (fun e => by rw [e, hx] at h; cases h)]; exact h⟩)
  · exact .inr h
theorem cut_take {l : List Int} {k : Nat} (h : k ≤ l.length) : cutV (l.map V.int) none (some (k : Int)) = (l.map V.int).take k := by
  show ((l.map V.int).drop 0).take (HT.sIx (l.map V.int).length (l.map V.int).length (some (k : Int)) - 0) = _
  rw [HT.sIx_nat, List.length_map, Nat.min_eq_left h, List.drop_zero, Nat.sub_zero]
theorem ok_pinit {f C : Addr} {fd : FuncData} (tup : Bool) (TT : Txt mg) (T : PoT K mg C) (F : Fun K "__init__" "Poly.__init__" s_pinit f fd) : FnOk P w K mg base (L2N.CX P w) 2 f fd ["self", "coefficients"] (spPI C tup K) := by
  refine okN F sc_pinit (fun vs H Q E h => ?_) (fun cdv A outer s H vs Q E hr h => ?_)
  · obtain ⟨x, dx, a, ns, rfl, _⟩ := h
    rfl
  · obtain ⟨x, dx, a, ns, rfl, hx, hS, few, q⟩ := h
    have at_k : ∀ k : Nat, 0 < k → k ≤ ns.length → atI (ns.map V.int) ((k : Int) - 1) = some (V.int (ns.getD (k - 1) 0)) := fun k h0 h1 => by
      rw [show (k : Int) - 1 = ((k - 1 : Nat) : Int) by omega]
      exact atI_nat (map_at (getD_at (by omega)))
    cases tup with
    | false =>
      have hS' : SqL K H a (ns.map V.int) := hS
      refine ⟨_, (pss_cons (ps_set (i := 2) sc_pinit.nd rfl (Or.inl rfl) (pe_callB call_len_seq (by rfl) TT.len PySem.boot_len (pa_cons (pv 1) pa_nil)))
 (pss_cons (ps_while (passes_of rfl) (pw_and (pt_cmpR op_gt (pv 2) pe_int (nomark _)) (pw_and1 (pt_cmpR op_eq (pe_ix ix_list (pv 1) (pe_op op_sub (pv 2) pe_int) (fun _ _ => rfl)) pe_int (nomark _)))).pt (pss_one (ps_aug (i := 2) sc_pinit.nd rfl (Or.inl rfl) pe_int ip_sub)))
 (pss_one (ps_fld (pv 0) (pe_tupleOf (by rfl) TT.tuple (pe_slice sl_list (pv 1) po_none (po_some (pv 2)))) rfl)))), ?_⟩
      refine ⟨_, rfl, a, _, rfl, .inl hS', ?_⟩
      refine while_by (fun σ H' => H' = H ∧ ∃ k : Nat, σ = [some (.ref x), some (.ref a), some (.int (k : Int))] ∧ k ≤ ns.length ∧ tsz ns k = tsz ns ns.length) (fun σ _ => match σ[2]? with | some (some (V.int k)) => k.toNat | _ => 0)
        ⟨rfl, ns.length, by rw [List.length_map] <;> rfl, Nat.le_refl _, rfl⟩ ?_ ?_
      · rintro σ _ ⟨rfl, k, rfl, hk, ht⟩
        have fin : trim ns = ns.take k → sFld K (tVar 0) (tThen (tSl (rSlL K) (tVar 1) tNoPart (tPart (tVar 2))) (kTup K)) "coefficients" { nx := fun _ H' => Q .non H', rt := Q } [some (.ref x), some (.ref a), some (.int (k : Int))] _ := fun e => by
          refine ⟨_, rfl, _, rfl, _, rfl, a, _, rfl, hS', fun p np => ?_⟩
          refine .inl ⟨p, _, rfl, SqL.of upd_same, fun t nt => ?_⟩
          have g1 := same_upd (o := .lst (cutV (ns.map V.int) none (some (k : Int)))) np
          have hx2 := same_upd (o := .tup (cutV (ns.map V.int) none (some (k : Int)))) nt _ _ (g1 _ _ hx)
          refine ⟨_, rfl, x, C, dx, [], rfl, hx2, T.cl, T.nC, (by show 0 < 1000; decide), ?_⟩
          have ntx : t ≠ x := ne_of_none' nt (g1 _ _ hx)
          refine q _ ⟨⟨dx, t, upd_same, .inl (.inl ?_)⟩, trim_trim _, by have := trim_few ns; omega⟩ fun b o hb hbx => ?_
          · rw [upd_ne ntx, upd_same, cut_take hk, e, List.map_take]
          · rw [upd_ne hbx]
            exact same_upd nt _ _ (g1 _ _ hb)
        refine ⟨_, rfl, _, _, rfl, rfl, _, rfl, ?_⟩
        by_cases c0 : 0 < k
        · refine if_pos_of (decide_eq_true (by omega)) ?_
          refine ⟨_, rfl, _, rfl, _, _, rfl, rfl, a, _, _, _, rfl, rfl, hS', at_k k c0 hk, rfl, _, rfl, ?_⟩
          by_cases c1 : ns.getD (k - 1) 0 = 0
          · refine if_pos_of (decide_eq_true (by rw [c1])) ?_
            refine ⟨_, rfl, _, _, rfl, rfl, ⟨rfl, k - 1, ?_, by omega, tsz_turn ht c1 c0⟩, ?_⟩
            · rw [show ((k - 1 : Nat) : Int) = (k : Int) - 1 by omega] <;> rfl
            · show ((k : Int) - 1).toNat < ((k : Int)).toNat
              omega
          · refine if_neg_of (decide_eq_false fun e => c1 (V.int.inj e)) ?_
            exact fin (tsz_stop ht fun _ => c1).symm
        · refine if_neg_of (decide_eq_false (by omega)) ?_
          exact fin (tsz_stop ht fun h => absurd h c0).symm
      · rintro σ H1 Q1 Q2 h z
        obtain ⟨v, e1, i, j, e2, e3, k, e4, z⟩ := z
        refine ⟨v, e1, i, j, e2, e3, k, e4, ?_⟩
        cases k with
        | false => exact h _ _ z
        | true =>
          obtain ⟨v1, f1, v2, f2, i1, j1, f3, f4, p1, xs1, i2, y1, f5, f6, f7, f8, f9, k2, f10, z⟩ := z
          exact ⟨v1, f1, v2, f2, i1, j1, f3, f4, p1, xs1, i2, y1, f5, f6, f7, f8, f9, k2, f10, h _ _ z⟩
    | true =>
      have hS' : SqT K H a (ns.map V.int) := hS
      refine ⟨_, (pss_cons (ps_set (i := 2) sc_pinit.nd rfl (Or.inl rfl) (pe_callB call_len_seq (by rfl) TT.len PySem.boot_len (pa_cons (pv 1) pa_nil)))
 (pss_cons (ps_while (passes_of rfl) (pw_and (pt_cmpR op_gt (pv 2) pe_int (nomark _)) (pw_and1 (pt_cmpR op_eq (pe_ix ix_tup (pv 1) (pe_op op_sub (pv 2) pe_int) (fun _ _ => rfl)) pe_int (nomark _)))).pt (pss_one (ps_aug (i := 2) sc_pinit.nd rfl (Or.inl rfl) pe_int ip_sub)))
 (pss_one (ps_fld (pv 0) (pe_tupleOf (by rfl) TT.tuple (pe_slice sl_tupA (pv 1) po_none (po_some (pv 2)))) rfl)))), ?_⟩
      refine ⟨_, rfl, a, _, rfl, .inr hS', ?_⟩
      refine while_by (fun σ H' => H' = H ∧ ∃ k : Nat, σ = [some (.ref x), some (.ref a), some (.int (k : Int))] ∧ k ≤ ns.length ∧ tsz ns k = tsz ns ns.length) (fun σ _ => match σ[2]? with | some (some (V.int k)) => k.toNat | _ => 0)
        ⟨rfl, ns.length, by rw [List.length_map] <;> rfl, Nat.le_refl _, rfl⟩ ?_ ?_
      · rintro σ _ ⟨rfl, k, rfl, hk, ht⟩
        have fin : trim ns = ns.take k → sFld K (tVar 0) (tThen (tSl (rSlA K) (tVar 1) tNoPart (tPart (tVar 2))) (kTup K)) "coefficients" { nx := fun _ H' => Q .non H', rt := Q } [some (.ref x), some (.ref a), some (.int (k : Int))] _ := fun e => by
          refine ⟨_, rfl, _, rfl, _, rfl, a, _, rfl, hS', fun full => ?_, fun _ t nt => ?_⟩
          · refine .inr ⟨a, _, rfl, hS', ?_⟩
            refine ⟨_, rfl, x, C, dx, [], rfl, hx, T.cl, T.nC, (by show 0 < 1000; decide), ?_⟩
            have hk2 : ns.take k = ns := by
              have h2 : HT.sIx (ns.map V.int).length (ns.map V.int).length (some (k : Int)) = (ns.map V.int).length := full.2
              rw [HT.sIx_nat, List.length_map, Nat.min_eq_left hk] at h2
              rw [h2, List.take_length]
            refine q _ ⟨⟨dx, a, upd_same, ?_⟩, trim_trim _, by have := trim_few ns; omega⟩ fun b o hb hbx => by
              rw [upd_ne hbx]
              exact hb
            rw [e, hk2]
            exact sqT_ins hx hS'
          · refine .inr ⟨t, _, rfl, SqT.of upd_same, ?_⟩
            have hx2 := same_upd (o := .tup (cutV (ns.map V.int) none (some (k : Int)))) nt _ _ hx
            refine ⟨_, rfl, x, C, dx, [], rfl, hx2, T.cl, T.nC, (by show 0 < 1000; decide), ?_⟩
            have ntx : t ≠ x := ne_of_none' nt hx
            refine q _ ⟨⟨dx, t, upd_same, .inl (.inl ?_)⟩, trim_trim _, by have := trim_few ns; omega⟩ fun b o hb hbx => ?_
            · rw [upd_ne ntx, upd_same, cut_take hk, e, List.map_take]
            · rw [upd_ne hbx]
              exact same_upd nt _ _ hb
        refine ⟨_, rfl, _, _, rfl, rfl, _, rfl, ?_⟩
        by_cases c0 : 0 < k
        · refine if_pos_of (decide_eq_true (by omega)) ?_
          refine ⟨_, rfl, _, rfl, _, _, rfl, rfl, a, _, _, _, rfl, rfl, hS', at_k k c0 hk, rfl, _, rfl, ?_⟩
          by_cases c1 : ns.getD (k - 1) 0 = 0
          · refine if_pos_of (decide_eq_true (by rw [c1])) ?_
            refine ⟨_, rfl, _, _, rfl, rfl, ⟨rfl, k - 1, ?_, by omega, tsz_turn ht c1 c0⟩, ?_⟩
            · rw [show ((k - 1 : Nat) : Int) = (k : Int) - 1 by omega] <;> rfl
            · show ((k : Int) - 1).toNat < ((k : Int)).toNat
              omega
          · refine if_neg_of (decide_eq_false fun e => c1 (V.int.inj e)) ?_
            exact fin (tsz_stop ht fun _ => c1).symm
        · refine if_neg_of (decide_eq_false (by omega)) ?_
          exact fin (tsz_stop ht fun h => absurd h c0).symm
      · rintro σ H1 Q1 Q2 h z
        obtain ⟨v, e1, i, j, e2, e3, k, e4, z⟩ := z
        refine ⟨v, e1, i, j, e2, e3, k, e4, ?_⟩
        cases k with
        | false => exact h _ _ z
        | true =>
          obtain ⟨v1, f1, v2, f2, i1, j1, f3, f4, p1, xs1, i2, y1, f5, f6, f7, f8, f9, k2, f10, z⟩ := z
          exact ⟨v1, f1, v2, f2, i1, j1, f3, f4, p1, xs1, i2, y1, f5, f6, f7, f8, f9, k2, f10, h _ _ z⟩
-- part polym
/-- a polynomial is made by Poly(..) -/
theorem make_po {C : Addr} {tup : Bool} {H1 : Hp} {a : Addr} {ns : List Int} {Q : VK} (hS : if tup = true then SqT K H1 a (ns.map V.int) else SqL K H1 a (ns.map V.int)) (few : ns.length ≤ 200)
    (k : ∀ (r : Addr) (H2 : Hp), PolyAt K C H2 r (trim ns) → Same H1 H2 → Q (.ref r) H2) :
    ∀ x dx, H1 x = none → H1 dx = none → dx ≠ x → spPI C tup K (.ref x :: ([.ref a] ++ [])) (upd (upd H1 dx (.own x)) x (.ins C dx [])) (fun v H2 => v = .non ∧ Q (.ref x) H2) E0 := by
  intro x dx hx hdx hne
  have s1 : Same H1 (upd (upd H1 dx (.own x)) x (.ins C dx [])) := fun b o eb => by
    rw [upd_ne (ne_of_none eb hx), upd_ne (ne_of_none eb hdx)]
    exact eb
  refine ⟨x, dx, a, ns, rfl, upd_same, ?_, few, fun H' po keep => ⟨rfl, k x H' po fun b o eb => keep b o (s1 b o eb) (ne_of_none eb hx)⟩⟩
  cases tup with
  | true =>
    have h : SqT K H1 a (ns.map V.int) := hS
    exact Evl.ex_t s1 h
  | false =>
    have h : SqL K H1 a (ns.map V.int) := hS
    exact s1.seq h
/-- a polynomial is made at x, what follows is any word -/
theorem make_poA {C x dx : Addr} {tup : Bool} {H1 : Hp} {a : Addr} {ns : List Int} {R : VK} (hx : H1 x = none) (hdx : H1 dx = none) (hS : if tup = true then SqT K H1 a (ns.map V.int) else SqL K H1 a (ns.map V.int)) (few : ns.length ≤ 200)
    (k : ∀ (H2 : Hp), PolyAt K C H2 x (trim ns) → Same H1 H2 → R .non H2) : spPI C tup K (.ref x :: ([.ref a] ++ [])) (upd (upd H1 dx (.own x)) x (.ins C dx [])) R E0 := by
  have s1 : Same H1 (upd (upd H1 dx (.own x)) x (.ins C dx [])) := fun b o eb => by
    rw [upd_ne (ne_of_none eb hx), upd_ne (ne_of_none eb hdx)]
    exact eb
  refine ⟨x, dx, a, ns, rfl, upd_same, ?_, few, fun H' po keep => k H' po fun b o eb => keep b o (s1 b o eb) (ne_of_none eb hx)⟩
  cases tup with
  | true =>
    have h : SqT K H1 a (ns.map V.int) := hS
    exact Evl.ex_t s1 h
  | false =>
    have h : SqL K H1 a (ns.map V.int) := hS
    exact s1.seq h
abbrev s_pdeg : Stmt := inClass (top 12) 11
theorem sc_pdeg : FnScope ["self"] ["self"] (defScope s_pdeg) := ⟨rfl, rfl, rfl, by decide +kernel, rfl, by decide +kernel, by decide +kernel⟩
def spPdeg (C : Addr) (K : PySem.W.Frag) : Sp := fun vs H Q _ => ∃ (a : Addr) (l : List Int), vs = [.ref a] ∧ PolyAt K C H a l ∧ Q (.int ((l.length : Int) - 1)) H
theorem ok_pdeg {f C : Addr} {fd : FuncData} (TT : Txt mg) (T : PoT K mg C) (F : Fun K "degree" "Poly.degree" s_pdeg f fd) : FnOk P w K mg base CX0 1 f fd ["self"] (spPdeg C K) := by
  refine F.ok sc_pdeg (fun vs H Q E h => ?_) (fun cdv A outer s H vs Q E hr h => ?_)
  · obtain ⟨a, l, rfl, _⟩ := h
    rfl
  · obtain ⟨a, l, rfl, po, q⟩ := h
    obtain ⟨dx, t, h1, h2⟩ := po.ob
    refine ⟨_, (pss_one (ps_ret (pe_op op_sub (pe_callB call_len_seq (by rfl) TT.len PySem.boot_len (pa_cons (pe_fld (pv 0) rfl) pa_nil)) pe_int))), ?_⟩
    refine ⟨_, rfl, a, C, dx, _, _, rfl, h1, T.cl, T.nC, pyF_c _, t, _, rfl, .inr h2, _, _, rfl, rfl, ?_⟩
    rw [List.length_map]
    exact q
abbrev s_peq : Stmt := inClass (top 12) 8
theorem sc_peq : FnScope ["self", "other"] ["self", "other"] (defScope s_peq) := ⟨rfl, rfl, rfl, by decide +kernel, rfl, by decide +kernel, by decide +kernel⟩
def spPeq (C : Addr) (K : PySem.W.Frag) : Sp := fun vs H Q _ => ∃ (a b : Addr) (l m : List Int), vs = [.ref a, .ref b] ∧ PolyAt K C H a l ∧ PolyAt K C H b m ∧ Q (.bl (decide (l = m))) H
theorem ok_peq {f C : Addr} {fd : FuncData} (TT : Txt mg) (T : PoT K mg C) (F : Fun K "__eq__" "Poly.__eq__" s_peq f fd) : FnOk P w K mg base CX0 1 f fd ["self", "other"] (spPeq C K) := by
  refine F.ok sc_peq (fun vs H Q E h => ?_) (fun cdv A outer s H vs Q E hr h => ?_)
  · obtain ⟨a, b, _, _, rfl, _⟩ := h
    rfl
  · obtain ⟨a, b, l, m, rfl, po, po', q⟩ := h
    obtain ⟨dx, t, h1, h2⟩ := po.ob
    obtain ⟨dy, u, g1, g2⟩ := po'.ob
    refine ⟨_, (pss_one (ps_ret (pe_and (pe_callB (C8.call_isC T.isC) (by rfl) TT.isinstance boot_isinstance (pa_cons (pv 1) (pa_cons (pe_glob (v := .ref C) (by rfl) T.g rfl) pa_nil))) (pe_one (pe_cmpR (op_eqD (hu64 hr)) (pe_fld (pv 0) rfl) (pe_fld (pv 1) rfl) (nomark _)))))), ?_⟩
    refine ⟨_, rfl, b, dy, _, rfl, g1, _, rfl, if_pos_of rfl ?_⟩
    refine ⟨_, rfl, a, C, dx, _, _, rfl, h1, T.cl, T.nC, pyF_c _, _, rfl, b, C, dy, _, _, rfl, g1, T.cl, T.nC, pyF_c _, _, _, dp_tup h2, dp_tup g2, shaped_intsT _, shaped_intsT _, ?_⟩
    rw [eqv_intsT]
    exact q
/-- == with a value that is no instance -/
inductive OthT (H : Hp) : V → String → Prop
  | int (i : Int) : OthT H (.int i) "int"
  | str (z : Str) : OthT H (.str z) "str"
  | lst {b : Addr} {zs : List V} (h : H b = some (.lst zs)) : OthT H (.ref b) "list"
  | tup {b : Addr} {zs : List V} (h : H b = some (.tup zs)) : OthT H (.ref b) "tuple"
def spPeqX (C : Addr) (K : PySem.W.Frag) : Sp := fun vs H Q _ => ∃ (a : Addr) (y : V) (t : String), vs = [.ref a, y] ∧ OthT H y t ∧ PySem.W.kitOne K (.type t) (.ref C) = some false ∧ Q (.bl false) H
theorem ok_peqX {f C : Addr} {fd : FuncData} (TT : Txt mg) (T : PoT K mg C) (F : Fun K "__eq__" "Poly.__eq__" s_peq f fd) : FnOk P w K mg base CX0 1 f fd ["self", "other"] (spPeqX C K) := by
  refine F.ok sc_peq (fun vs H Q E h => ?_) (fun cdv A outer s H vs Q E hr h => ?_)
  · obtain ⟨a, _, _, rfl, _⟩ := h
    rfl
  · obtain ⟨a, y, t, rfl, ho, kt, q⟩ := h
    refine ⟨_, (pss_one (ps_ret (pe_and (pe_callB call_isi (by rfl) TT.isinstance boot_isinstance (pa_cons (pv 1) (pa_cons (pe_glob (v := .ref C) (by rfl) T.g rfl) pa_nil))) (pe_one (pe_cmpR (op_eqD (hu64 hr)) (pe_fld (pv 0) rfl) (pe_fld (pv 1) rfl) (nomark _)))))), ?_⟩
    cases ho with
    | int i => exact ⟨_, rfl, _, _, _, _, false, rfl, .own C, .base (.int _), kt, _, rfl, if_neg_of rfl q⟩
    | str z => exact ⟨_, rfl, _, _, _, _, false, rfl, .own C, .base (.str _), kt, _, rfl, if_neg_of rfl q⟩
    | lst hb => exact ⟨_, rfl, _, _, _, _, false, rfl, .own C, .base (.lst hb), kt, _, rfl, if_neg_of rfl q⟩
    | tup hb => exact ⟨_, rfl, _, _, _, _, false, rfl, .own C, .base (.tup hb), kt, _, rfl, if_neg_of rfl q⟩
section
variable {X : Cx} {C : Addr} {sp : Sp} {k j : Nat}
/-- x == y, y no instance -/
def rOwnX (K : PySem.W.Frag) (C : Addr) (sp : Sp) : R2 := fun x y H Q => ∃ a dx fs t, x = .ref a ∧ H a = some (.ins C dx fs) ∧ OthT H y t ∧ PySem.W.subIn K (.type t) (.ref C) = some false ∧ sp [x, y] H Q E0
theorem op_eq_ownX (c : Me X.prog X.w X.K X.mg X.base k C "__eq__" sp) (hr : Room j X.A) (hk : k ≤ j := by decide) : OpR X (compareOp .Eq) (rOwnX X.K C sp) := by
  obtain ⟨f, fd, ps, M, F, b⟩ := c.ex
  intro pins s σ H x y v u Q I rx ry h
  obtain ⟨a, dx, fs, t, rfl, ha, ho, nf, q⟩ := h
  cases (show v = Value.ref a from rx)
  obtain ⟨ox, od, J⟩ := inst_of I ha
  obtain ⟨mm, hF⟩ := I.fr
  have run := run_fn (us := [.ref a, u]) (vs := [.ref a, y]) F (hr.mono hk) b .nil pass0 I (.cons rfl (.cons ry .nil)) q
  have looks : PySem.W.Looks (model X.prog X.w) s.heap (typeOf u) (.type t) := by
    cases ho with
    | int i =>
      obtain ⟨t, rfl⟩ := ry
      exact fun A Q E s k q => wpAny_pure q
    | str z =>
      obtain ⟨t, rfl⟩ := ry
      exact fun A Q E s k q => wpAny_pure q
    | @lst b' zs h =>
      cases (show u = Value.ref b' from ry)
      obtain ⟨_, its, n, _, e⟩ := (show ObjOk X.prog X.w H s.heap b' (.lst zs) from I.hok b' _ h)
      exact fun A Q E s k q => wpAny_typeOf_ref (k _ _ e) q
    | @tup b' zs h =>
      cases (show u = Value.ref b' from ry)
      obtain ⟨_, _, _, o, h1, h2, _⟩ := (show ObjOk X.prog X.w H s.heap b' (.tup zs) from I.hok b' _ h)
      exact fun A Q E s k q => wpAny_typeOf_ref (k _ _ h1) (by rw [h2]; exact q)
  show wpAny _ _ (richCompare .Eq (.ref a) u) _ _ _
  refine PySem.W.cmp_K (op := .Eq) (tb := .type t) hr.units0 hF I.ok.mod.kin J looks (by unfold PySem.W.notFirst; rw [nf]; simp) M.at_ M.fn ?_
  refine wpAny_mono run (fun u' s' z => ?_) fun _ _ x => x
  obtain ⟨z', H', I', rz, qz⟩ := z
  exact SlX.cmpback rz ⟨z', H', I', rz, qz⟩
end
abbrev s_punk : Stmt := inClass (top 12) 1
theorem sc_punk : FnScope ["cls"] ["cls"] (defScope s_punk) := ⟨rfl, rfl, rfl, by decide +kernel, rfl, by decide +kernel, by decide +kernel⟩
def spPunk (C : Addr) (K : PySem.W.Frag) : Sp := fun vs H Q _ => vs = [.ref C] ∧ ∀ r H', PolyAt K C H' r [0, 1] → Same H H' → Q (.ref r) H'
theorem ok_punk {f C : Addr} {fd : FuncData} (T : PoT K mg C) (F : Fun K "unknown" "Poly.unknown" s_punk f fd) (c_pil : Ma P w K mg base 2 C (spPI C false K)) : FnOk P w K mg base CX0 4 f fd ["cls"] (spPunk C K) := by
  refine F.ok sc_punk (fun vs H Q E h => ?_) (fun cdv A outer s H vs Q E hr h => ?_)
  · obtain ⟨rfl, _⟩ := h
    rfl
  · obtain ⟨rfl, q⟩ := h
    refine ⟨_, (pss_one (ps_ret (pe_maL (i := 0) c_pil hr rfl (pa_cons (pe_lst (pa_cons pe_int (pa_cons pe_int pa_nil))) pa_nil)))), ?_⟩
    refine ⟨rfl, (by show 2 ≤ sizeLine; decide), fun t nt => ?_⟩
    exact make_po (tup := false) (ns := [0, 1]) (SqL.of upd_same) (by decide) fun r H' po s' => q r H' po ((same_upd nt).trans s')
abbrev s_pneg : Stmt := inClass (top 12) 6
theorem sc_pneg : FnScope ["self", "n"] ["self"] (defScope s_pneg) := ⟨rfl, rfl, rfl, by decide +kernel, rfl, by decide +kernel, by decide +kernel⟩
def pneg (l : List Int) : List Int := l.map fun z => -z
theorem pneg_trim {l : List Int} (h : Trim l) : Trim (pneg l) := h.map rfl fun z e => by omega
theorem pneg_get (l : List Int) (i : Nat) : (pneg l).getD i 0 = -l.getD i 0 := getD_map rfl l i
def spPneg (C : Addr) (K : PySem.W.Frag) : Sp := fun vs H Q _ => ∃ (a : Addr) (l : List Int), vs = [.ref a] ∧ PolyAt K C H a l ∧ ∀ r H', PolyAt K C H' r (pneg l) → Same H H' → Q (.ref r) H'
theorem ok_pneg {f C : Addr} {fd : FuncData} (T : PoT K mg C) (F : Fun K "__neg__" "Poly.__neg__" s_pneg f fd) (c_pil : Ma P w K mg base 2 C (spPI C false K)) : FnOk P w K mg base CX0 4 f fd ["self"] (spPneg C K) := by
  refine F.ok sc_pneg (fun vs H Q E h => ?_) (fun cdv A outer s H vs Q E hr h => ?_)
  · obtain ⟨a, l, rfl, _⟩ := h
    rfl
  · obtain ⟨a, l, rfl, po, q⟩ := h
    obtain ⟨dx, t, h1, h2⟩ := po.ob
    refine ⟨_, (pss_one (ps_ret (pe_ma c_pil hr T.g (pa_cons (pe_lc (own := [("n", 1)]) (g := (gName 1)) (tt := tYes) rfl sc_pneg.nd (pi_tup (pe_fld (pv 0) rfl)) (blkOk_by (N := ["self", "n"]) (sc := defScope s_pneg) (by decide +kernel)) (fun _ _ _ _ _ => (pg_name (i := 1) sc_pneg.nd rfl (Or.inl rfl))) (fun _ _ _ _ _ => pts_nil) (fun _ _ _ _ _ => (pe_un un_neg (pv 1)))) pa_nil)))), ?_⟩
    refine ⟨_, rfl, a, C, dx, _, _, rfl, h1, T.cl, T.nC, pyF_c _, t, rfl, ⟨_, h2⟩, fun D nD => lcW walk_tup (tkV ((pneg l).map V.int)) nD rfl (fun H s => Evl.ex_t s h2) ?_ ?_⟩
    · rintro i x H2 _ hi s3 hL ⟨rfl, hx⟩
      obtain ⟨z, rfl, hz⟩ := item_int hx
      refine ⟨rfl, _, rfl, _, rfl, ?_⟩
      exact mapEnd nD (by unfold pneg; rw [List.length_map, List.length_map]; have := po.few; omega) s3 hL (map_at (f := V.int) (by unfold pneg; rw [List.getElem?_map, hz] <;> rfl))
    · intro H2 s3 hL
      have e : tkV ((pneg l).map V.int) (l.map V.int).length = (pneg l).map V.int := by
        have := tkV_all ((pneg l).map V.int)
        unfold pneg at this ⊢
        rw [List.length_map, List.length_map] at this
        rw [List.length_map]
        exact this
      rw [e] at hL
      refine make_po (tup := false) (ns := pneg l) (SqL.of hL) (by unfold pneg; rw [List.length_map]; exact po.few) fun r H' po' s' => q r H' ?_ (s3.trans s')
      rw [trim_of (pneg_trim po.trm)] at po'
      exact po'
-- part lplain
abbrev s_lplain : Stmt := top 17
theorem sc_lplain : FnScope ["_law_row_here"] ["_law_row_here"] (defScope s_lplain) := ⟨rfl, rfl, rfl, by decide +kernel, rfl, by decide +kernel, by decide +kernel⟩
def spPlain (K : PySem.W.Frag) : Sp := fun vs H Q _ => ∃ (a : Addr) (ns : List Int), vs = [.ref a] ∧ (SqL K H a (ns.map V.int) ∨ SqT K H a (ns.map V.int)) ∧ ns.length ≤ 300 ∧
  ∀ p H', H p = none → Same H H' → H' p = some (.lst ((trim ns).map V.int)) → Q (.ref p) H'
theorem none_of {H H' : Hp} {p : Addr} (s : Same H H') (n : H' p = none) : H p = none := by
  cases h : H p with
  | none => rfl
  | some o => rw [s _ _ h] at n; cases n
theorem map_nil_iff {l : List Int} : decide (l = []) = l.isEmpty := by cases l <;> rfl
theorem take_last {l : List Int} {k : Nat} (h0 : 0 < k) (h : k ≤ l.length) : (l.take k).map V.int = (l.take (k - 1)).map V.int ++ [V.int (l.getD (k - 1) 0)] := by
  obtain ⟨n, rfl⟩ : ∃ n, k = n + 1 := ⟨k - 1, by omega⟩
  rw [Nat.add_sub_cancel, List.take_add_one, getD_at (show n < l.length by omega), List.map_append]
  rfl
theorem cut_last {xs : List V} : cutV xs none (some (-1)) = xs.take (xs.length - 1) := by
  show (xs.drop 0).take (HT.sIx xs.length xs.length (some (-1)) - 0) = _
  have e : HT.sIx xs.length xs.length (some (-1)) = xs.length - 1 := by
    show (if (-1 : Int) < 0 then (-1 + (xs.length : Int)).toNat else min (-1 : Int).toNat xs.length) = _
    rw [if_pos (by decide)]
    omega
  rw [e, List.drop_zero, Nat.sub_zero]
theorem ok_lplain {f : Addr} {fd : FuncData} (T : Txt mg) (F : Fun K "_law_plain" "_law_plain" s_lplain f fd) : FnOk P w K mg base CX0 1 f fd ["_law_row_here"] (spPlain K) := by
  refine F.ok sc_lplain (fun vs H Q E h => ?_) (fun cdv A outer s H vs Q E hr h => ?_)
  · obtain ⟨a, ns, rfl, _⟩ := h
    rfl
  · obtain ⟨a, ns, rfl, hS, few, q⟩ := h
    refine ⟨_, (pss_cons (ps_set (i := 0) sc_lplain.nd rfl (Or.inl rfl) (pe_callTy call_list_of (by rfl) T.list boot_list (pa_cons (pv 0) pa_nil)))
 (pss_cons (ps_while PassesOwn.never (pw_and (pt_cmpR (op_neD (hu64 hr)) (pv 0) (pe_lst pa_nil) (nomark _)) (pw_and1 (pt_cmpR op_eq (pe_ix ix_list (pv 0) (pe_un un_neg pe_int) (fun _ _ => rfl)) pe_int (nomark _)))).pt (pss_one (ps_set (i := 0) sc_lplain.nd rfl (Or.inl rfl) (pe_slice sl_list (pv 0) po_none (po_some (pe_un un_neg pe_int))))))
 (pss_one (ps_ret (pv 0))))), ?_⟩
    refine ⟨_, rfl, a, _, rfl, hS, fun p np => ?_⟩
    refine while_by (fun σ H' => ∃ (r : Addr) (k : Nat), σ = [some (.ref r)] ∧ Same H H' ∧ H r = none ∧ H' r = some (.lst ((ns.take k).map V.int)) ∧ k ≤ ns.length ∧ tsz ns k = tsz ns ns.length)
      (fun σ H' => match σ[0]? with | some (some (V.ref r)) => (match H' r with | some (.lst xs) => xs.length | _ => 0) | _ => 0)
      ⟨p, ns.length, rfl, same_upd np, np, by rw [List.take_length]; exact upd_same, Nat.le_refl _, rfl⟩ ?_ ?_
    · rintro σ H1 ⟨r, k, rfl, s1, nr, hr1, hk, ht⟩
      refine ⟨_, rfl, (by show 0 ≤ sizeLine; decide), fun b nb => ?_⟩
      have g2 := same_upd (o := .lst []) nb
      have hr2 := g2 _ _ hr1
      refine ⟨_, _, dp_lst (SqL.of hr2), dp_lst (l := []) (SqL.of upd_same), shaped_ints _, shaped_ints [], _, rfl, ?_⟩
      rw [eqv_ints]
      by_cases c0 : 0 < k
      · have ne : ns.take k ≠ [] := fun e => by
          have := congrArg List.length e
          rw [List.length_take] at this
          have h0 : ([] : List Int).length = 0 := rfl
          omega
        refine if_pos_of (by rw [decide_eq_false ne]; rfl) ?_
        refine ⟨_, rfl, _, rfl, r, _, _, _, rfl, rfl, SqL.of hr2, (by rw [take_last c0 hk]; exact atI_last _ _), rfl, _, rfl, ?_⟩
        by_cases c1 : ns.getD (k - 1) 0 = 0
        · refine if_pos_of (decide_eq_true (by rw [c1])) ?_
          refine ⟨_, rfl, _, rfl, _, rfl, r, _, rfl, SqL.of hr2, fun c nc => ?_⟩
          have e : cutV ((ns.take k).map V.int) none (some (-1)) = (ns.take (k - 1)).map V.int := by
            rw [cut_last, List.length_map, List.length_take, ← List.map_take, List.take_take]
            congr 2
            omega
          refine ⟨⟨c, k - 1, rfl, (s1.trans g2).trans (same_upd nc), none_of (s1.trans g2) nc, (by rw [← e]; exact upd_same), by omega, tsz_turn ht c1 c0⟩, ?_⟩
          show (match (upd (upd H1 b (.lst [])) c (.lst (cutV ((ns.take k).map V.int) none (some (-1))))) c with | some (.lst xs) => xs.length | _ => 0) < (match H1 r with | some (.lst xs) => xs.length | _ => 0)
          rw [upd_same, hr1, e]
          show ((ns.take (k - 1)).map V.int).length < ((ns.take k).map V.int).length
          rw [List.length_map, List.length_map, List.length_take, List.length_take]
          omega
        · refine if_neg_of (decide_eq_false fun e => c1 (V.int.inj e)) ?_
          refine ⟨_, rfl, q r _ nr (s1.trans g2) ?_⟩
          rw [← tsz_stop ht fun _ => c1]
          exact hr2
      · have e0 : k = 0 := by omega
        subst e0
        refine if_neg_of (by rw [List.take_zero] <;> rfl) ?_
        refine ⟨_, rfl, q r _ nr (s1.trans g2) ?_⟩
        rw [← tsz_stop ht fun h => absurd h c0]
        exact hr2
    · rintro σ H1 Q1 Q2 h ⟨v, e1, e2, z⟩
      refine ⟨v, e1, e2, fun b nb => ?_⟩
      obtain ⟨d, e, f1, f2, f3, f4, k, f5, z⟩ := z b nb
      refine ⟨d, e, f1, f2, f3, f4, k, f5, ?_⟩
      cases k with
      | false => exact h _ _ z
      | true =>
        obtain ⟨v1, g1, v2, g2, p1, xs1, i2, y1, g5, g6, g7, g8, g9, k2, g10, z⟩ := z
        exact ⟨v1, g1, v2, g2, p1, xs1, i2, y1, g5, g6, g7, g8, g9, k2, g10, h _ _ z⟩
-- part polybd
/-! sizes of coefficients -/
def Bd (b : Nat) (l : List Int) : Prop := ∀ z ∈ l, z.natAbs < 2 ^ b
theorem Bd.get {b : Nat} {l : List Int} (h : Bd b l) (i : Nat) : (l.getD i 0).natAbs < 2 ^ b := by
  by_cases c : i < l.length
  · exact h _ (List.mem_of_getElem? (getD_at c))
  · rw [getD_ge (by omega)]
    exact Nat.two_pow_pos b
theorem Bd.mono {a b : Nat} {l : List Int} (h : Bd a l) (hab : a ≤ b) : Bd b l := fun z hz => pow_small (h z hz) hab
theorem Bd.trim {b : Nat} {l : List Int} (h : Bd b l) : Bd b (trim l) := fun z hz => h z (trim_mem hz)
theorem Bd.rng {b n : Nat} {f : Nat → Int} (h : ∀ i, (f i).natAbs < 2 ^ b) : Bd b (rngN n f) := fun z hz => by
  obtain ⟨i, _, rfl⟩ := List.mem_map.mp hz
  exact h i
theorem Bd.neg {b : Nat} {l : List Int} (h : Bd b l) : Bd b (pneg l) := fun z hz => by
  obtain ⟨y, hy, rfl⟩ := List.mem_map.mp hz
  have := h y hy
  show (-y).natAbs < 2 ^ b
  rw [Int.natAbs_neg]
  exact this
theorem Bd.plus {b : Nat} {l m : List Int} {s : Int} (hl : Bd b l) (hm : Bd b m) (hs : s = 1 ∨ s = -1) : Bd (b + 1) (pplus s l m) := by
  refine Bd.trim (Bd.rng fun i => ?_)
  have h1 := hl.get i
  have h2 := hm.get i
  rw [Nat.pow_succ]
  rcases hs with rfl | rfl <;> omega
theorem sumN_bd {f : Nat → Int} {B : Nat} (h : ∀ i, (f i).natAbs ≤ B) : ∀ n, (sumN f n).natAbs ≤ n * B
  | 0 => by rw [Nat.zero_mul]; exact Nat.le_refl 0
  | n + 1 => by
    have ih := sumN_bd h n
    have := h n
    show (sumN f n + f n).natAbs ≤ _
    rw [Nat.succ_mul]
    omega
theorem Bd.mul {a b : Nat} {l m : List Int} (hl : Bd a l) (hm : Bd b m) (few : l.length ≤ 200) : Bd (a + b + 8) (pmul l m) := by
  refine Bd.trim (Bd.rng fun k => ?_)
  have := sumN_bd (B := 2 ^ (a + b)) (f := fun i => l.getD i 0 * (if i ≤ k then m.getD (k - i) 0 else 0)) (fun i => by
    have h1 := hl.get i
    by_cases c : i ≤ k
    · have h2 := hm.get (k - i)
      show (l.getD i 0 * (if i ≤ k then m.getD (k - i) 0 else 0)).natAbs ≤ _
      rw [if_pos c]
      exact Nat.le_of_lt (wide_lt h1 h2)
    · show (l.getD i 0 * (if i ≤ k then m.getD (k - i) 0 else 0)).natAbs ≤ _
      rw [if_neg c, Int.mul_zero]
      exact Nat.zero_le _) l.length
  show (cnv l m k).natAbs < _
  unfold cnv
  refine Nat.lt_of_le_of_lt this ?_
  rw [Nat.pow_add _ (a + b) 8, Nat.mul_comm]
  exact Nat.mul_lt_mul_of_pos_left (by show l.length < 256; omega) (Nat.two_pow_pos _)
theorem Bd.wide {a b : Nat} {l m : List Int} (hl : Bd a l) (hm : Bd b m) (ha : 0 < a) (hb : 0 < b) (h : a + b ≤ 1000000) : ∀ x ∈ l, ∀ y ∈ m, CMulW x y := fun x hx y hy => wide_mul (hl x hx) (hm y hy) ha hb h
theorem Bd.app {b : Nat} {l m : List Int} (hl : Bd b l) (hm : Bd b m) : Bd b (l ++ m) := fun z hz => (List.mem_append.mp hz).elim (hl z) (hm z)
theorem Bd.zeros (b n : Nat) : Bd b (List.replicate n 0) := fun z hz => by
  rw [(List.mem_replicate.mp hz).2]
  exact Nat.two_pow_pos b
theorem Bd.range {r : Int} {b : Nat} {l : List Int} (h : ∀ z ∈ l, -r ≤ z ∧ z ≤ r) (hr : r.natAbs < 2 ^ b) : Bd b l := fun z hz => by
  have := h z hz
  omega
theorem PolyAt.putL {C : Addr} {H : Hp} {a b : Addr} {l : List Int} {xs : List V} {o : HO} (h : PolyAt K C H a l) (hb : H b = some (.lst xs)) : PolyAt K C (upd H b o) a l := by
  obtain ⟨dx, t, h1, h2⟩ := h.ob
  refine ⟨⟨dx, t, by rw [upd_ne (fun e => by rw [e, hb] at h1; cases h1)]; exact h1, ?_⟩, h.trm, h.few⟩
  rcases h2 with (h | ⟨o', h⟩) | h
  · exact .inl (.inl (by rw [upd_ne (fun e => by rw [e, hb] at h; cases h)]; exact h))
  · exact .inl (.inr ⟨o', by rw [upd_ne (fun e => by rw [e, hb] at h; cases h)]; exact h⟩)
  · exact .inr h
theorem useP2 {C : Addr} {H : Hp} {a b : Addr} {l m : List Int} {sp : Sp} {Q : VK} (po : PolyAt K C H a l) (po' : PolyAt K C H b m) (h : sp [.ref a, .ref b] H Q E0) : rOwn2 C sp (.ref a) (.ref b) H Q := by
  obtain ⟨dx, t, h1, _⟩ := po.ob
  obtain ⟨dy, u, g1, _⟩ := po'.ob
  exact ⟨a, b, _, _, _, _, rfl, rfl, h1, g1, h⟩
theorem useP1 {C : Addr} {H : Hp} {a : Addr} {l : List Int} {sp : Sp} {Q : VK} (po : PolyAt K C H a l) (h : sp [.ref a] H Q E0) : rOwn1 C sp (.ref a) H Q := by
  obtain ⟨dx, t, h1, _⟩ := po.ob
  exact ⟨a, dx, _, rfl, h1, h⟩
theorem useEqP {C : Addr} {H : Hp} {a b : Addr} {l m : List Int} {Q : VK} (po : PolyAt K C H a l) (po' : PolyAt K C H b m) (h : Q (.bl (decide (l = m))) H) : rOwn2 C (spPeq C K) (.ref a) (.ref b) H Q :=
  useP2 po po' ⟨a, b, l, m, rfl, po, po', h⟩
theorem useEqX {C : Addr} {H : Hp} {a : Addr} {l : List Int} {y : V} {t : String} {Q : VK} (ic : PySem.W.isClsIn K C = true) (ty : PySem.W.typeIn K (.ref C) = some (.type "type")) (po : PolyAt K C H a l) (ho : OthT H y t) (nf : PySem.W.subIn K (.type t) (.ref C) = some false) (h : Q (.bl false) H) : rOwnX K C (spPeqX C K) (.ref a) y H Q := by
  obtain ⟨dx, u, h1, _⟩ := po.ob
  exact ⟨a, dx, _, t, rfl, h1, ho, nf, a, y, t, rfl, ho, kit_ownF ic ty nf, h⟩
theorem Drawn.cons {z : Int} {zs ds : List Int} (h : Drawn (z :: zs) ds) : ∃ (d : Int) (ds' : List Int), ds = d :: ds' ∧ (0 ≤ d ∧ d < z) ∧ Drawn zs ds' := by
  cases ds with
  | nil => exact absurd h.1 (by simp)
  | cons d ds => exact ⟨d, ds, rfl, h.2 0 d z rfl rfl, by have := h.1; simpa using this, fun i d' z' h1 h2 => h.2 (i + 1) d' z' h1 h2⟩
theorem Drawn.nil {ds : List Int} (h : Drawn [] ds) : ds = [] := List.length_eq_zero_iff.mp h.1
theorem same_put {H H' : Hp} {p : Addr} {o : HO} (s : Same H H') (n : H p = none) : Same H (upd H' p o) := fun b u e => by
  rw [upd_ne (ne_of_none e n)]
  exact s b u e
-- part polystr
/-! the text of a polynomial -/
abbrev numT (p : Int) : Str := Str.ofString (toString p)
def ptext (l : List Int) : Str := if l = [] then "0" else Txt.join " " (l.map numT)
theorem sum_leT {k : Nat} : ∀ {ys : List Str}, (∀ y ∈ ys, y.length ≤ k) → (ys.map (·.length)).sum ≤ ys.length * k
  | [], _ => Nat.zero_le _
  | y :: ys, h => by
    have h1 := h y List.mem_cons_self
    have h2 := sum_leT (k := k) (ys := ys) fun z hz => h z (List.mem_cons_of_mem _ hz)
    rw [List.map_cons, List.sum_cons, List.length_cons, Nat.succ_mul]
    omega
theorem texts_fit {l : List Int} (h : ∀ z ∈ l, z.natAbs.log2 < 1920) (few : l.length ≤ 200) : ((l.map numT).map (·.length)).sum + (l.map numT).length * (" " : Str).length ≤ 16777216 := by
  have e1 : (" " : Str).length = 1 := by decide +kernel
  have := sum_leT (k := 1921) (ys := l.map numT) fun y hy => by
    obtain ⟨z, hz, rfl⟩ := List.mem_map.mp hy
    exact int_text_len_1921 (h z hz)
  rw [List.length_map] at this
  rw [e1, List.length_map]
  omega
abbrev s_pstr : Stmt := inClass (top 12) 10
theorem sc_pstr : FnScope ["self", "n"] ["self"] (defScope s_pstr) := ⟨rfl, rfl, rfl, by decide +kernel, rfl, by decide +kernel, by decide +kernel⟩
def spPstr (C : Addr) (K : PySem.W.Frag) : Sp := fun vs H Q _ => ∃ (a : Addr) (l : List Int), vs = [.ref a] ∧ PolyAt K C H a l ∧ (∀ z ∈ l, z.natAbs.log2 < 1920) ∧ ∀ H', Same H H' → Q (.str (ptext l)) H'
theorem ok_pstr {f C : Addr} {fd : FuncData} (TT : Txt mg) (T : PoT K mg C) (F : Fun K "__str__" "Poly.__str__" s_pstr f fd) : FnOk P w K mg base CX0 1 f fd ["self"] (spPstr C K) := by
  refine F.ok sc_pstr (fun vs H Q E h => ?_) (fun cdv A outer s H vs Q E hr h => ?_)
  · obtain ⟨a, l, rfl, _⟩ := h
    rfl
  · obtain ⟨a, l, rfl, po, hl, q⟩ := h
    obtain ⟨dx, t, h1, h2⟩ := po.ob
    refine ⟨_, (pss_cons (ps_if (pt_not (pt_truth (pe_fld (pv 0) rfl) (by intro _; rfl))) (pss_one (ps_ret pe_str)) pss_nil)
 (pss_one (ps_ret (pe_join pe_str (pe_lc (own := [("n", 1)]) (g := (gName 1)) (tt := tYes) rfl sc_pstr.nd (pi_tup (pe_fld (pv 0) rfl)) (blkOk_by (N := ["self", "n"]) (sc := defScope s_pstr) (by decide +kernel)) (fun _ _ _ _ _ => (pg_name (i := 1) sc_pstr.nd rfl (Or.inl rfl))) (fun _ _ _ _ _ => pts_nil) (fun _ _ _ _ _ => (pe_callTy call_str_int (by rfl) TT.str boot_str (pa_cons (pv 1) pa_nil)))))))), ?_⟩
    refine ⟨_, rfl, a, C, dx, _, _, rfl, h1, T.cl, T.nC, pyF_c _, _, .inr (.inl ⟨_, h2, rfl⟩), ?_⟩
    cases l with
    | nil => exact if_pos_of rfl (q H (Same.refl H))
    | cons c l =>
      refine if_neg_of rfl ?_
      refine ⟨⟨_, rfl⟩, _, rfl, a, C, dx, _, _, rfl, h1, T.cl, T.nC, pyF_c _, t, rfl, ⟨_, h2⟩, fun D nD => lcMap walk_tup (((c :: l).map numT).map V.str) (by rw [List.length_map, List.length_map, List.length_map]) nD (fun H s => Evl.ex_t s h2) ?_ ?_⟩
      · rintro i x H2 _ hi s2 hL ⟨rfl, hx⟩
        obtain ⟨z, rfl, hz⟩ := item_int hx
        refine ⟨rfl, _, rfl, z, rfl, hl z (List.mem_of_getElem? hz), ?_⟩
        exact mapEnd nD (by rw [List.length_map, List.length_map]; have := po.few; omega) s2 hL (map_at (f := V.str) (by rw [List.getElem?_map, hz] <;> rfl))
      · intro H2 s2 hL
        refine ⟨_, D, (c :: l).map numT, rfl, rfl, .inl (SqL.of hL), texts_fit hl po.few, ?_⟩
        have e : ptext (c :: l) = Txt.join " " ((c :: l).map numT) := if_neg (by simp)
        rw [← e]
        exact q H2 s2
-- part pread
theorem item_str {l : List Str} {i : Nat} {y : V} (h : (l.map V.str)[i]? = some y) : ∃ z : Str, y = .str z ∧ l[i]? = some z := by
  rw [List.getElem?_map] at h
  obtain ⟨z, hz, e⟩ := Option.map_eq_some_iff.mp h
  exact ⟨z, e.symm, hz⟩
abbrev s_isnum : Stmt := top 8
theorem sc_isnum : FnScope ["word", "most"] ["word", "most"] (defScope s_isnum) := ⟨rfl, rfl, rfl, by decide +kernel, rfl, by decide +kernel, by decide +kernel⟩
def spIsNumM : Sp := fun vs H Q _ => ∃ (z : Str) (m : Nat), vs = [.str z, .int (m : Int)] ∧ z.length ≤ 1000000 ∧ Q (.bl (isNumM z m)) H
theorem ok_isnumM {f : Addr} {fd : FuncData} (T : Txt mg) (F : Fun K "is_number" "is_number" s_isnum f fd) : FnOk P w K mg base CX0 1 f fd ["word", "most"] spIsNumM := by
  refine F.ok sc_isnum (fun vs H Q E h => ?_) (fun cdv A outer s H vs Q E hr h => ?_)
  · obtain ⟨z, m, rfl, _⟩ := h
    rfl
  · obtain ⟨z, m, rfl, hz, q⟩ := h
    refine ⟨_, (pss_cons (ps_if (pt_not (pw_and (pt_val (pe_bm0 PySem.F.plainAttrs_str PySem.F.slot_str_isascii PySem.F.type_str_isascii mt_isascii (pv 0))) (pw_and1 (pt_val (pe_bm0 PySem.F.plainAttrs_str PySem.F.slot_str_isdigit PySem.F.type_str_isdigit mt_isdigit (pv 0))))).pt) (pss_one (ps_ret pe_bl)) pss_nil)
 (pss_one (ps_ret (pe_and (pe_cmpR op_le (pe_callB call_len_str (by rfl) T.len PySem.boot_len (pa_cons (pv 0) pa_nil)) (pv 1) (nomark _)) (pe_one (pe_or (pe_cmpR op_eq (pv 0) pe_str (nomark _)) (pe_one (pe_not (pe_bm PySem.F.plainAttrs_str PySem.F.slot_str_startswith PySem.F.type_str_startswith mt_startswith (pv 0) (pa_cons pe_str pa_nil)))))))))), ?_⟩
    refine ⟨_, rfl, rfl, z, rfl, rfl, trivial, _, rfl, ?_⟩
    unfold isNumM at q
    cases e1 : Txt.isascii z with
    | false =>
      rw [e1, Bool.false_and, Bool.false_and] at q
      exact iteF (iteT q)
    | true =>
      refine iteT ⟨_, rfl, rfl, z, rfl, rfl, trivial, _, rfl, ?_⟩
      cases e2 : Txt.isdigit z with
      | false =>
        rw [e1, e2, Bool.true_and, Bool.false_and] at q
        exact iteT q
      | true =>
        rw [e1, e2, Bool.true_and, Bool.true_and] at q
        refine iteF ?_
        refine ⟨_, rfl, _, rfl, by rw [sizeLine_eq]; omega, _, rfl, _, _, rfl, rfl, _, rfl, ?_⟩
        by_cases c : z.length ≤ m
        · refine if_pos_of (decide_eq_true (by omega)) ?_
          rw [decide_eq_true c, Bool.true_and] at q
          refine ⟨_, rfl, rfl, _, rfl, ?_⟩
          by_cases d : z = "0"
          · refine if_pos_of (by rw [str_eq]; exact decide_eq_true d) ?_
            rw [decide_eq_true d, Bool.true_or] at q
            exact q
          · refine if_neg_of (by rw [str_eq]; exact decide_eq_false d) ?_
            rw [decide_eq_false d, Bool.false_or] at q
            exact ⟨_, rfl, rfl, z, _, rfl, rfl, _, rfl, q⟩
        · refine if_neg_of (decide_eq_false (by omega)) ?_
          rw [decide_eq_false c, Bool.false_and] at q
          exact q
abbrev s_isint : Stmt := top 9
theorem sc_isint : FnScope ["word"] ["word"] (defScope s_isint) := ⟨rfl, rfl, rfl, by decide +kernel, rfl, by decide +kernel, by decide +kernel⟩
def spIsIntW : Sp := fun vs H Q _ => ∃ z : Str, vs = [.str z] ∧ z.length ≤ 1000000 ∧ Q (.bl (intC (TL.tl z))) H
theorem prefix_len (z : Str) : (Txt.removeprefix z "-").length ≤ z.length := by
  rw [str_len, tl_prefix, str_len]
  unfold unsign
  split
  · rw [List.length_tail]
    omega
  · exact Nat.le_refl _
theorem ok_isint {f : Addr} {fd : FuncData} {tM : Tok} (T : Txt mg) (hM : mg "MOST_DIGITS" = some (.int 30 tM)) (F : Fun K "is_integer" "is_integer" s_isint f fd) (c_isnum : Cl P w K mg base CX0 1 "is_number" spIsNumM) : FnOk P w K mg base CX0 2 f fd ["word"] spIsIntW := by
  refine F.ok sc_isint (fun vs H Q E h => ?_) (fun cdv A outer s H vs Q E hr h => ?_)
  · obtain ⟨z, rfl, _⟩ := h
    rfl
  · obtain ⟨z, rfl, hz, q⟩ := h
    refine ⟨_, (pss_one (ps_ret (pe_and (pe_cmpR op_ne (pv 0) pe_str (nomark _)) (pe_one (pe_cl c_isnum hr (pa_cons (pe_bm PySem.F.plainAttrs_str PySem.F.slot_str_removeprefix PySem.F.type_str_removeprefix mt_removeprefix (pv 0) (pa_cons pe_str pa_nil)) (pa_cons (pe_glob (v := .int 30) (by rfl) hM ⟨_, rfl⟩) pa_nil))))))), ?_⟩
    rw [← isIntW_eq] at q
    unfold isIntW at q
    refine ⟨_, rfl, rfl, _, rfl, ?_⟩
    by_cases c : z = "-0"
    · refine if_neg_of (by rw [str_eq, decide_eq_true c]; rfl) ?_
      rw [decide_eq_true c, Bool.not_true, Bool.false_and] at q
      exact q
    · refine if_pos_of (by rw [str_eq, decide_eq_false c]; rfl) ?_
      rw [decide_eq_false c, Bool.not_false, Bool.true_and] at q
      refine ⟨_, rfl, rfl, z, _, rfl, rfl, by rw [sizeLine_eq]; omega, ?_⟩
      exact ⟨_, 30, rfl, Nat.le_trans (prefix_len z) hz, q⟩
/-- the first fault of the words of a text, if there is one -/
inductive FD (L : List Str) : Option Nat → Prop
  | word {n : Nat} {z : Str} (hz : L[n]? = some z) (no : intC (TL.tl z) = false) (yes : ∀ (j : Nat) (y : Str), j < n → L[j]? = some y → intC (TL.tl y) = true) : FD L (some n)
  | last (yes : ∀ (j : Nat) (y : Str), L[j]? = some y → intC (TL.tl y) = true) (many : 1 < L.length) (h0 : L[L.length - 1]? = some ("0" : Str)) : FD L (some (L.length - 1))
  | none (yes : ∀ (j : Nat) (y : Str), L[j]? = some y → intC (TL.tl y) = true) (h0 : ¬ (1 < L.length ∧ L[L.length - 1]? = some ("0" : Str))) : FD L none
theorem FD.one {L : List Str} {a b : Option Nat} (h : FD L a) (h' : FD L b) : a = b := by
  cases h with
  | @word n z hz no yes =>
    cases h' with
    | @word n' z' hz' no' yes' =>
      by_cases c : n < n'
      · have := yes' n z c hz
        rw [no] at this
        cases this
      · by_cases d : n' < n
        · have := yes n' z' d hz'
          rw [no'] at this
          cases this
        · rw [show n = n' by omega]
    | last yes' => have := yes' n z hz; rw [no] at this; cases this
    | none yes' => have := yes' n z hz; rw [no] at this; cases this
  | last yes many h0 =>
    cases h' with
    | @word n' z' hz' no' => have := yes n' z' hz'; rw [no'] at this; cases this
    | last => rfl
    | none _ h1 => exact absurd ⟨many, h0⟩ h1
  | none yes h0 =>
    cases h' with
    | @word n' z' hz' no' => have := yes n' z' hz'; rw [no'] at this; cases this
    | last _ many h1 => exact absurd ⟨many, h1⟩ h0
    | none => rfl
theorem last_at {L : List Str} (h : 0 < L.length) : ∃ z, L[L.length - 1]? = some z ∧ atI (L.map V.str) (-1) = some (V.str z) := by
  have h1 : L.length - 1 < L.length := by omega
  refine ⟨L[L.length - 1], List.getElem?_eq_getElem h1, ?_⟩
  have e : L = L.take (L.length - 1) ++ [L[L.length - 1]] := by
    have := List.take_add_one (l := L) (i := L.length - 1)
    rw [List.getElem?_eq_getElem h1, show L.length - 1 + 1 = L.length by omega, List.take_length] at this
    exact this
  have := atI_last ((L.take (L.length - 1)).map V.str) (V.str L[L.length - 1])
  rw [show (L.take (L.length - 1)).map V.str ++ [V.str L[L.length - 1]] = L.map V.str by
    conv => rhs; rw [e]
    rw [List.map_append]; rfl] at this
  exact this
abbrev s_pread : Stmt := inClass (top 12) 3
theorem sc_pread : FnScope ["cls", "text", "words", "at", "word"] ["cls", "text"] (defScope s_pread) := ⟨rfl, rfl, rfl, by decide +kernel, rfl, by decide +kernel, by decide +kernel⟩
def spPread (C CT : Addr) (K : PySem.W.Frag) : Sp := fun vs H Q E => ∃ z : Str, vs = [.ref C, .str z] ∧ z.length + 2 ≤ sizeLine ∧ (Txt.split z " ") ≠ [] ∧ (Txt.split z " ").length ≤ 60 ∧ (∀ y ∈ Txt.split z " ", y.length ≤ 6000) ∧
  (FD (Txt.split z " ") none → ∀ r H', PolyAt K C H' r (trim ((Txt.split z " ").map valW)) → Same H H' → Q (.ref r) H') ∧
  (∀ n : Nat, FD (Txt.split z " ") (some n) → ∀ d H', Same H H' → H' d = some (.xd [("at", .int (n : Int))]) → E (.ref CT) (some d) H')
theorem ok_pread {f C CT : Addr} {fd : FuncData} (TT : Txt mg) (henum : mg "enumerate" = none) (T : PoT K mg C) (F : Fun K "read" "Poly.read" s_pread f fd) (c_isint : Cl P w K mg base CX0 2 "is_integer" spIsIntW) (x_bt : ErP P w K mg base "BadText" "at" CT okNat) (c_pil : Ma P w K mg base 2 C (spPI C false K)) :
    FnOk P w K mg base (L2N.CX P w) 4 f fd ["cls", "text"] (spPread C CT K) := by
  refine okN F sc_pread (fun vs H Q E h => ?_) (fun cdv A outer s H vs Q E hr h => ?_)
  · obtain ⟨z, rfl, _⟩ := h
    rfl
  · obtain ⟨z, rfl, hz, ne, few, wl, q, qe⟩ := h
    generalize hL : Txt.split z " " = L at ne few wl q qe
    refine ⟨_, (pss_cons (ps_set (i := 2) sc_pread.nd rfl (Or.inl rfl) (pe_split (pv 1) pe_str))
 (Evl.pss_cut (ps_for (passes_of rfl) rfl (pi_enum rfl henum (pa_cons (pv 2) pa_nil)) (pg_tup rfl (pgs_cons (pg_name (i := 3) sc_pread.nd rfl (Or.inl rfl)) (pgs_cons (pg_name (i := 4) sc_pread.nd rfl (Or.inl rfl)) pgs_nil))) (pss_one (ps_if (pt_not (pt_val (pe_cl c_isint hr (pa_cons (pv 4) pa_nil)))) (pss_one (ps_raiseP x_bt hr (L2N.takes_of rfl rfl rfl rfl) (pa_cons (pv 3) pa_nil))) pss_nil)))
 (Evl.pss_cut (ps_if (pw_and (pt_cmpR op_gt (pe_callB call_len_seq (by rfl) TT.len PySem.boot_len (pa_cons (pv 2) pa_nil)) pe_int (nomark _)) (pw_and1 (pt_cmpR op_eq (pe_ix ix_list (pv 2) (pe_un un_neg pe_int) (fun _ _ => rfl)) pe_str (nomark _)))).pt (pss_one (ps_raiseP x_bt hr (L2N.takes_of rfl rfl rfl rfl) (pa_cons (pe_op op_sub (pe_callB call_len_seq (by rfl) TT.len PySem.boot_len (pa_cons (pv 2) pa_nil)) pe_int) pa_nil))) pss_nil)
 (pss_one (ps_ret (pe_maL (i := 0) c_pil hr rfl (pa_cons (pe_lc (own := [("word", 4)]) (g := (gName 4)) (tt := tYes) rfl sc_pread.nd (pi_list (pv 2)) (blkOk_by (N := ["cls", "text", "words", "at", "word"]) (sc := defScope s_pread) (by decide +kernel)) (fun _ _ _ _ _ => (pg_name (i := 4) sc_pread.nd rfl (Or.inl rfl))) (fun _ _ _ _ _ => pts_nil) (fun _ _ _ _ _ => (pe_callTy call_int_str (by rfl) TT.int boot_int (pa_cons (pv 4) pa_nil)))) pa_nil))))))), ?_⟩
    refine ⟨_, rfl, ⟨_, rfl⟩, z, " ", rfl, rfl, by decide +kernel, hz, fun wa nwa => ?_⟩
    rw [hL]
    have g1 := same_upd (o := .lst (L.map V.str)) nwa
    have hw0 : upd H wa (.lst (L.map V.str)) wa = some (.lst (L.map V.str)) := upd_same
    generalize upd H wa (.lst (L.map V.str)) = H1 at g1 hw0 ⊢
    -- the loop
    refine ⟨fun σ H' => Same H1 H' ∧ (∀ (j : Nat) (y : Str), L[j]? = some y → intC (TL.tl y) = true) ∧ ∃ x3 x4, σ = [some (.ref C), some (.str z), some (.ref wa), x3, x4], ?_, ?_⟩
    · refine ⟨_, rfl, wa, _, rfl, SqL.of hw0, for_it walk_enum (fun i σ H' => Same H1 H' ∧ (∀ (j : Nat) (y : Str), j < i → L[j]? = some y → intC (TL.tl y) = true) ∧ ∃ x3 x4, σ = [some (.ref C), some (.str z), some (.ref wa), x3, x4])
        ⟨Same.refl _, fun j y h => absurd h (Nat.not_lt_zero j), none, none, rfl⟩ (fun i σ H' _ h => SqL.of (h.1 _ _ hw0)) ?_ ?_⟩
      · rintro i x σ H2 H3 hi ⟨s2, yes, x3, x4, rfl⟩ ⟨Tp, x1, y1, rfl, nT, rfl, hx1, hy1⟩
        cases hx1
        obtain ⟨y, rfl, hy⟩ := item_str hy1
        have lt := (List.getElem?_eq_some_iff.mp hy).1
        have s3 := s2.trans (same_upd (o := .tup [.int (i : Nat), .str y]) nT)
        refine ⟨Tp, _, rfl, SqT.of upd_same, rfl, _, _, rfl, _, _, rfl, rfl, ?_⟩
        refine ⟨_, rfl, y, rfl, Nat.le_trans (wl y (List.mem_of_getElem? hy)) (by decide), _, rfl, ?_⟩
        cases e : intC (TL.tl y) with
        | true =>
          refine if_neg_of rfl ⟨s3, fun j y' hj hy' => ?_, _, _, rfl⟩
          by_cases c : j = i
          · rw [c, hy] at hy'
            rw [← Option.some.inj hy']
            exact e
          · exact yes j y' (by omega) hy'
        | false =>
          refine if_pos_of rfl ⟨_, rfl, ?_⟩
          exact mkP ⟨i, rfl, by omega⟩ fun dd H4 s4 _ hd => qe i (.word hy e yes) dd H4 (g1.trans (s3.trans s4)) hd
      · rintro σ H2 ⟨s2, yes, x3, x4, rfl⟩
        rw [List.length_map] at yes
        exact ⟨s2, fun j y hy => yes j y (List.getElem?_eq_some_iff.mp hy).1 hy, _, _, rfl⟩
    rintro σ H2 ⟨s2, yes, x3, x4, rfl⟩
    have hw2 := s2 _ _ hw0
    have pos : 0 < L.length := List.length_pos_iff.mpr ne
    obtain ⟨zl, hzl, at_l⟩ := last_at pos
    -- the last word
    refine ⟨fun σ H' => H2 = H' ∧ ¬ (1 < L.length ∧ L[L.length - 1]? = some ("0" : Str)) ∧ σ = [some (.ref C), some (.str z), some (.ref wa), x3, x4], ?_, ?_⟩
    · refine ⟨_, rfl, wa, _, rfl, .inl (SqL.of hw2), _, _, rfl, rfl, _, rfl, ?_⟩
      rw [List.length_map]
      by_cases c : 1 < L.length
      · refine if_pos_of (decide_eq_true (by omega)) ?_
        refine ⟨_, rfl, _, rfl, wa, _, _, _, rfl, rfl, SqL.of hw2, at_l, rfl, _, rfl, ?_⟩
        rw [str_eq]
        by_cases d : zl = "0"
        · refine if_pos_of (decide_eq_true d) ?_
          refine ⟨_, rfl, wa, _, rfl, .inl (SqL.of hw2), _, _, rfl, rfl, ?_⟩
          rw [List.length_map]
          have e : (L.length : Int) - 1 = ((L.length - 1 : Nat) : Int) := by omega
          exact mkP (v := V.int ((L.length : Int) - 1)) ⟨L.length - 1, by rw [e], by omega⟩ fun dd H4 s4 _ hd => qe _ (.last yes c (by rw [hzl, d])) dd H4 (g1.trans (s2.trans s4)) (by rw [← e]; exact hd)
        · exact if_neg_of (decide_eq_false d) ⟨rfl, fun h => d (Option.some.inj (hzl.symm.trans h.2)), rfl⟩
      · exact if_neg_of (decide_eq_false (by omega)) (if_neg_of rfl ⟨rfl, fun h => c h.1, rfl⟩)
    rintro σ _ ⟨rfl, h0, rfl⟩
    have hq := q (.none yes h0)
    refine ⟨rfl, _, rfl, wa, rfl, ⟨_, SqL.of hw2⟩, fun D nD => lcMap walk_list ((L.map valW).map V.int) (by rw [List.length_map, List.length_map, List.length_map]) nD (fun H s => SqL.of (s _ _ hw2)) ?_ ?_⟩
    · rintro i x H3 _ hi s3 hLs ⟨rfl, hx⟩
      obtain ⟨y, rfl, hy⟩ := item_str hx
      obtain ⟨r1, r2⟩ := int_reads (yes i y hy)
      refine ⟨rfl, _, rfl, y, _, rfl, r1, r2, ?_⟩
      exact mapEnd nD (by rw [List.length_map, List.length_map]; omega) s3 hLs (map_at (f := V.int) (by rw [List.getElem?_map, hy] <;> rfl))
    · intro H3 s3 hLs
      exact fun x dx nx ndx _ => make_poA (tup := false) (ns := L.map valW) nx ndx (SqL.of hLs) (by rw [List.length_map]; omega) fun H4 po s4 => ⟨rfl, hq x H4 po ((g1.trans s2).trans (s3.trans s4))⟩
-- part pinc
/-! defs that are called within an except suite and are given the caught exception -/
abbrev SpE := Addr → Value → Option Addr → Sp
structure FnP (P : Program) (w : World) (K : PySem.W.Frag) (mg : Str → Option Value) (base : Heap) (k : Nat) (f : Addr) (fd : FuncData) (ps : List Str) (sp : SpE) : Prop where
  len : ∀ a cls d vs H Q E, sp a cls d vs H Q E → vs.length = ps.length
  run : ∀ (A : Around) (outer : List Env) (s : Shared) (H : Hp) (args : Args) (us : List Value) (vs : List V) (Q : VK) (E : XK) (p : Addr × Obj) (cls : Value) (d : Option Addr), L2H.RoomH k A → L2H.Hot1 A p → L2N.Zn cls d p.2 →
    L2H.PinOk outer H s p → Env0 P w K mg base A outer s H → BindsTo s fd args (ps.zip us) → Vals vs us → sp p.1 cls d vs H Q E → codeAny (model P w) A (.call (.ref f) args) (CR CX0 outer P w H s Q E) s
theorem fnp_of {P : Program} {w : World} {K : PySem.W.Frag} {mg : Str → Option Value} {base : Heap} {x qual : Str} {st : Stmt} {f : Addr} {fd : FuncData} {N ps : List Str} {k : Nat} {sp : SpE} (F : Fun K x qual st f fd) (S : FnScope N ps (defScope st)) (len : ∀ a cls d vs H Q E, sp a cls d vs H Q E → vs.length = ps.length)
    (body : ∀ (cdv : Value) (A : Around) (outer : List Env) (s : Shared) (H : Hp) (vs : List V) (Q : VK) (E : XK) (p : Addr × Obj) (cls : Value) (d : Option Addr), L2H.Hot1 A p → L2N.Zn cls d p.2 → L2H.RoomH k (A.deeper (envOfC qual (defScope st) s.heap.objs.size f cdv)) → sp p.1 cls d vs H Q E →
      ∃ t, PSs (L2H.cxH CX0 P w K mg base N qual (defScope st) f cdv A outer s H E p) (defBody st) t ∧ t { nx := fun _ G => Q .non G, rt := Q } (L2.start N vs) H) : FnP P w K mg base (k + 1) f fd ps sp := by
  obtain ⟨oc, od, kV, doc, pm, an, cdv, ct, osl, rfl, lk, hcd⟩ := F.ex
  refine ⟨len, fun A outer s H args us vs Q E p cls d room hot zn pin e0 bound rel asks => ?_⟩
  have keeps : ∀ b o, base.get? b = some o → s.heap.get? b = some o := fun b o e => (e0.bs b o e).1
  have there : K.In s.heap := e0.mod.kin.keeps keeps
  have kinds : ∀ y ∈ ps.zip us, (defScope st).names.lookup y.1 = some .local ∨ ((defScope st).names.lookup y.1 = some .cell ∧ ((cellsFrom (s.heap.objs.size + 1) (defScope st).names []).lookup y.1).isSome = true) := fun y hy =>
    match S.par y.1 (List.of_mem_zip hy).1 with
    | .inl q => .inl q
    | .inr q => .inr ⟨q, PySem.W.cellsFrom_some _ _ _ (.inl q)⟩
  refine codeAny_call_function room.depth (there _ _ lk) rfl S.co S.gen rfl (PySem.W.codeRec_of there hcd) (bound _ _ _ _ (wpAny_newFunctionEnv_cells S.kind kinds fun env same s1 laid => ?_))
  subst same
  refine ⟨(e0.mod.nolimit.keeps keeps).keeps laid.toInCall.keep, codeAny_func ?_⟩
  obtain ⟨t, walked, reading⟩ := body cdv A outer s H vs Q E p cls d hot zn (room.deeper _) asks
  have many : vs.length = ps.length := len _ _ _ _ _ _ _ asks
  refine wpAny_mono (walked.run [] s1 (L2.start N vs) H _ (L2H.inv_startH S pin e0 many rel laid) reading) (fun fl s2 went => ?_) fun _ _ z => z
  cases fl with
  | ret u =>
    obtain ⟨v, τ, G, J, rv, q⟩ := went
    exact ⟨v, G, J.os, J.bare, J.base, J.hok, rv, q⟩
  | next =>
    obtain ⟨τ, G, J, q⟩ := went
    exact ⟨V.non, G, J.os, J.bare, J.base, J.hok, rfl, q⟩
  | brk =>
    obtain ⟨_, _, _, no⟩ := went
    exact no.elim
  | cont =>
    obtain ⟨_, _, _, no⟩ := went
    exact no.elim
/-- the exception that is handled, as a context bears it -/
def Held (X : Cx) (a : Addr) (cls : Value) (d : Option Addr) : Prop := ∃ oe : Obj, X.A.handled = some (.ref a) ∧ L2N.Zn cls d oe ∧ (∃ vs, oe.data = .fields vs) ∧ (a, oe) ∈ X.pn
theorem held_suite {X : Cx} {a : Addr} {oe : Obj} {cls : Value} {d : Option Addr} {pn : List (Addr × Obj)} (z : L2N.Zn cls d oe) (f : ∃ vs, oe.data = .fields vs) : Held (X.suite a ((a, oe) :: pn)) a cls d := ⟨oe, rfl, z, f, List.mem_cons_self⟩
theorem held_def {CX : CXT} {P : Program} {w : World} {K : PySem.W.Frag} {mg : Str → Option Value} {base : Heap} {N : List Str} {qual : Str} {sc : Scope} {f : Addr} {cd : Value} {A : Around} {outer : List Env} {s : Shared} {H : Hp} {E : XK} {p : Addr × Obj} {cls : Value} {d : Option Addr} (hot : L2H.Hot1 A p) (z : L2N.Zn cls d p.2) :
    Held (L2H.cxH CX P w K mg base N qual sc f cd A outer s H E p) p.1 cls d := by
  obtain ⟨h, vs, e, _⟩ := hot
  exact ⟨p.2, h, z, ⟨vs, e⟩, List.mem_singleton.mpr rfl⟩
structure ClP (P : Program) (w : World) (K : PySem.W.Frag) (mg : Str → Option Value) (base : Heap) (k : Nat) (x : Str) (sp : SpE) : Prop where
  ex : ∃ (f : Addr) (fd : FuncData) (ps : List Str), FnP P w K mg base k f fd ps sp ∧ mg x = some (.ref f) ∧ PySem.W.keepIn K (.ref f) = true ∧ Binds K fd ps []
section
variable {X : Cx} {a : Addr} {cls : Value} {d : Option Addr}
def tCallE (sp : SpE) (a : Addr) (cls : Value) (d : Option Addr) (t : TA) : TE := fun σ H Q => t σ H fun vs G => sp a cls d vs G Q E0
theorem pe_clP {k j : Nat} {x : Str} {sp : SpE} {q pos : Pos} {e : Expr} {es : List Expr} {t : TA} (c : ClP X.prog X.w X.K X.mg X.base k x sp) (held : Held X a cls d) (hr : L2H.RoomH j X.A) (ha : PA X (e :: es) t) (hk : k ≤ j := by decide) (hg : Gl X x := by rfl)
    (hdb : (x == ("__debug__" : Str)) = false := by decide) (he : starEach (e :: es) X.env = (false, eval e X.env) :: starEach es X.env := by rfl) (hpl : (backTo pos (starEach es X.env)).any (·.1) = false := by rfl) :
    PE X (.Call (.Name x q) (e :: es) [] pos) (tCallE sp a cls d t) := by
  obtain ⟨f, fd, ps, F, hm, kp, b⟩ := c.ex
  obtain ⟨oe, hh, zn, ⟨v0, e0⟩, mem⟩ := held
  refine ⟨fun pins s σ H Q I h => wpAny_Call_Name_kw (ld_glob I hg hm (PySem.W.callWith_K (h₀ := X.base) I.ok.mod.kin kp (thn (ha.run pos pins s σ H _ I h) fun us s1 ⟨vs, G, J, rel, asks⟩ => ⟨J.kIn, ?_⟩) he hpl) hdb)⟩
  have pinned := J.pin (a, oe) (List.mem_append_left _ mem)
  have ok : L2H.PinOk X.stack G s1 (a, oe) := ⟨pinned.1, pinned.2.1, fun hm => (List.mem_cons.mp (J.stkSub a hm)).elim pinned.2.2.1 pinned.2.2.2.1, pinned.2.2.2.2⟩
  have many : us.length = ps.length := by
    rw [← Paired.length rel]
    exact F.len _ _ _ _ _ _ _ asks
  have bound := b s1 us J.kIn (by rw [List.append_nil]; exact many)
  rw [List.append_nil] at bound
  refine wpAny_call (codeAny_mono (F.run X.A X.stack s1 G ⟨us, []⟩ us vs Q _ (a, oe) cls d (hr.mono hk) ⟨hh, v0, e0, zn.2.2 v0 e0⟩ zn ok J.env0 bound rel asks) fun r s2 back => ?_)
  cases r with
  | error er => exact pass0 pins σ G s1 er s2 J back
  | ok fl =>
    cases fl with
    | ret u => exact J.after back
    | next => exact False.elim back
    | brk => exact False.elim back
    | cont => exact False.elim back
end
-- part lisintE
/-! _law_is_integer, called within an except suite -/
def spIsIntE : SpE := fun _ _ _ => spIsInt
theorem ok_lisintE {f : Addr} {fd : FuncData} (T : Txt mg) (F : Fun K "_law_is_integer" "_law_is_integer" s_lisint f fd) : FnP P w K mg base 1 f fd ["_law_actual"] spIsIntE := by
  refine fnp_of F sc_lisint (fun a cls d vs H Q E h => ?_) (fun cdv A outer s H vs Q E p cls d hot zn hr h => ?_)
  · obtain ⟨n, rfl, _⟩ := h
    rfl
  · obtain ⟨n, rfl, q⟩ := h
    refine ⟨_, (pss_one (ps_ret (pe_and (pe_callB call_isi (by rfl) T.isinstance boot_isinstance (pa_cons (pv 0) (pa_cons (pe_bltn (v := .ty "int") (by rfl) T.int boot_int rfl) pa_nil))) (pe_one (pe_not (pe_callB call_isi (by rfl) T.isinstance boot_isinstance (pa_cons (pv 0) (pa_cons (pe_bltn (v := .ty "bool") (by rfl) T.bool boot_bool rfl) pa_nil)))))))), ?_⟩
    refine ⟨_, rfl, _, _, _, _, true, rfl, .ty _, .base (.int _), kit_ty (by decide +kernel), _, rfl, if_pos_of rfl ?_⟩
    exact ⟨_, rfl, _, _, _, _, false, rfl, .ty _, .base (.int _), kit_ty (by decide +kernel), _, rfl, q⟩
-- part k33h
abbrev s_lisw : Stmt := top 19
theorem sc_lisw : FnScope ["_law_word", "_law_digits", "_law_mark"] ["_law_word"] (defScope s_lisw) := ⟨rfl, rfl, rfl, by decide +kernel, rfl, by decide +kernel, by decide +kernel⟩
def spLisW : Sp := fun vs H Q _ => ∃ z : Str, vs = [.str z] ∧ z.length ≤ 6000 ∧ ∀ H', Same H H' → Q (.bl (intC (TL.tl z))) H'
def lawW (cs : List Nat) : Bool := ((!(unsign cs).isEmpty && decide ((unsign cs).length ≤ 30)) && (unsign cs).all dg) && (decide (cs = [48]) || !decide ((unsign cs).head? = some 48))
theorem lawW_eq (cs : List Nat) : lawW cs = intC cs := by
  unfold lawW intC numC unsign
  by_cases c : cs.head? = some 45
  · rw [if_pos c]
    obtain ⟨ds, rfl⟩ : ∃ ds, cs = 45 :: ds := by
      cases cs with
      | nil => cases c
      | cons d ds => exact ⟨ds, by rw [Option.some.inj c]⟩
    rw [List.tail_cons, decide_eq_false (show ¬ (45 :: ds = [48]) from fun e => by cases e)]
    by_cases d : ds = [48]
    · subst d
      rfl
    · rw [decide_eq_false d, decide_eq_false (show ¬ (45 :: ds = [45, 48]) from fun e => d (List.cons.inj e).2)]
      simp only [Bool.not_false, Bool.true_and, Bool.false_or]
      cases ds.isEmpty <;> cases decide (ds.length ≤ 30) <;> cases ds.all dg <;> simp
  · rw [if_neg c, decide_eq_false (show ¬ cs = [45, 48] from fun e => c (by rw [e]; rfl))]
    simp only [Bool.not_false, Bool.true_and]
    cases cs.isEmpty <;> cases decide (cs.length ≤ 30) <;> cases cs.all dg <;> simp
theorem tl_cut1 (z : Str) : TL.tl (cutS z none (some 1)) = (TL.tl z).take 1 := by
  unfold cutS
  rw [TL.tl_mk]
  have e : HT.sIx z.length z.length (some 1) = min 1 z.length := HT.sIx_nat z.length z.length 1
  rw [e, HT.sIx_none, List.drop_zero, Nat.sub_zero, str_len]
  by_cases c : 1 ≤ (TL.tl z).length
  · rw [Nat.min_eq_left c]
  · rw [Nat.min_eq_right (by omega), List.take_length, List.take_of_length_le (by omega)]
theorem tl_cut2 (z : Str) : TL.tl (cutS z (some 1) none) = (TL.tl z).tail := by
  unfold cutS
  rw [TL.tl_mk]
  have e : HT.sIx z.length 0 (some 1) = min 1 z.length := HT.sIx_nat z.length 0 1
  rw [e, HT.sIx_none, str_len]
  show List.take _ ((TL.tl z).drop _) = _
  cases TL.tl z with
  | nil => rfl
  | cons c cs =>
    rw [List.length_cons, Nat.min_eq_left (by omega), List.drop_one, List.tail_cons, List.take_of_length_le (by omega)]
theorem digs_iff (c : Nat) : decide (c ∈ ("0123456789" : Str).cps.toList) = dg c := by
  have e : ("0123456789" : Str).cps.toList = [48, 49, 50, 51, 52, 53, 54, 55, 56, 57] := by decide +kernel
  rw [e]
  unfold dg
  by_cases h : 48 ≤ c ∧ c ≤ 57
  · rw [decide_eq_true h.1, decide_eq_true h.2]
    refine decide_eq_true ?_
    have : c = 48 ∨ c = 49 ∨ c = 50 ∨ c = 51 ∨ c = 52 ∨ c = 53 ∨ c = 54 ∨ c = 55 ∨ c = 56 ∨ c = 57 := by omega
    simpa using this
  · rw [decide_eq_false (fun hm => h (by simp only [List.mem_cons, List.not_mem_nil, or_false] at hm; omega))]
    by_cases h1 : 48 ≤ c
    · rw [decide_eq_false (show ¬ c ≤ 57 from fun h2 => h ⟨h1, h2⟩), Bool.and_false]
    · rw [decide_eq_false h1, Bool.false_and]
theorem sign_eqT (c : Nat) : decide ((⟨#[c]⟩ : Str) = "0") = decide (some c = some 48) := by
  rw [dec_str tl_lit0]
  show decide ([c] = [48]) = _
  by_cases h : c = 48
  · rw [h]
    rfl
  · rw [decide_eq_false (fun e => h (List.cons.inj e).1), decide_eq_false fun e => h (Option.some.inj e)]
theorem ok_lisw {f : Addr} {fd : FuncData} (T : Txt mg) (n_all : mg "all" = none) (F : Fun K "_law_is_word" "_law_is_word" s_lisw f fd) : FnOk P w K mg base CX0 1 f fd ["_law_word"] spLisW := by
  refine F.ok sc_lisw (fun vs H Q E h => ?_) (fun cdv A outer s H vs Q E hr h => ?_)
  · obtain ⟨z, rfl, _⟩ := h
    rfl
  · obtain ⟨z, rfl, hz, q⟩ := h
    have zs : z.length ≤ sizeLine := by rw [sizeLine_eq]; omega
    refine ⟨_, (pss_cons (ps_set (i := 1) sc_lisw.nd rfl (Or.inl rfl) (pv 0))
 (Evl.pss_cut (ps_if (pt_cmpR op_eq (pe_slice sl_str (pv 0) po_none (po_some pe_int)) pe_str (nomark _)) (pss_one (ps_set (i := 1) sc_lisw.nd rfl (Or.inl rfl) (pe_slice sl_str (pv 0) (po_some pe_int) po_none))) pss_nil)
 (Evl.pss_cut (ps_if (pw_or (pt_cmpR op_eq (pv 1) pe_str (nomark _)) (pw_or (pt_cmpR op_gt (pe_callB call_len_str (by rfl) T.len PySem.boot_len (pa_cons (pv 1) pa_nil)) pe_int (nomark _)) (pw_or1 (pt_not (pt_val (pe_callB (cr_all rfl) (by rfl) n_all (by decide +kernel) (pa_cons (pe_lc (own := [("_law_mark", 2)]) (g := (gName 2)) (tt := tYes) rfl sc_lisw.nd (pi_str (pv 1)) (blkOk_by (N := ["_law_word", "_law_digits", "_law_mark"]) (sc := defScope s_lisw) (by decide +kernel)) (fun _ _ _ _ _ => (pg_name (i := 2) sc_lisw.nd rfl (Or.inl rfl))) (fun _ _ _ _ _ => pts_nil) (fun _ _ _ _ _ => (pe_cmpR op_in_sign (pv 2) pe_str (by with_unfolding_all rfl)))) pa_nil))))))).pt (pss_one (ps_ret pe_bl)) pss_nil)
 (pss_one (ps_ret (pe_or (pe_cmpR op_eq (pv 0) pe_str (nomark _)) (pe_one (pe_cmpR op_ne (pe_ix ix_str (pv 1) pe_int (fun _ _ => rfl)) pe_str (nomark _))))))))), ?_⟩
    refine ⟨_, rfl, ?_⟩
    -- the sign
    refine ⟨fun σ H' => H = H' ∧ ∃ d : Str, TL.tl d = unsign (TL.tl z) ∧ σ = [some (.str z), some (.str d), none], ?_, ?_⟩
    · refine ⟨_, rfl, 1, rfl, z, rfl, zs, rfl, _, rfl, ?_⟩
      rw [str_eq, dec_str tl_litm, tl_cut1]
      unfold unsign
      by_cases c : (TL.tl z).head? = some 45
      · have e : (TL.tl z).take 1 = [45] := by
          cases h : TL.tl z with
          | nil => rw [h] at c; cases c
          | cons x xs => rw [h] at c; rw [Option.some.inj c]; rfl
        refine if_pos_of (decide_eq_true e) ?_
        refine ⟨_, rfl, 1, rfl, z, rfl, zs, rfl, _, ?_, rfl⟩
        rw [tl_cut2, if_pos c]
      · have e : ¬ (TL.tl z).take 1 = [45] := fun e => c (by
          cases h : TL.tl z with
          | nil => rw [h] at e; cases e
          | cons x xs => rw [h] at e; rw [(List.cons.inj e).1]; rfl)
        refine if_neg_of (decide_eq_false e) ⟨rfl, _, ?_, rfl⟩
        rw [if_neg c]
    rintro σ _ ⟨rfl, d, hd, rfl⟩
    have dl : d.length ≤ 6000 := by
      rw [str_len, hd]
      have := str_len z
      unfold unsign
      split
      · rw [List.length_tail]
        omega
      · omega
    have dls : d.length ≤ sizeLine := by rw [sizeLine_eq]; omega
    rw [← lawW_eq] at q
    unfold lawW at q
    rw [← hd] at q
    -- the digits
    refine ⟨fun σ H' => Same H H' ∧ (!(TL.tl d).isEmpty && decide ((TL.tl d).length ≤ 30)) = true ∧ (TL.tl d).all dg = true ∧ ∃ x2, σ = [some (.str z), some (.str d), x2], ?_, ?_⟩
    · refine ⟨_, rfl, rfl, _, rfl, ?_⟩
      rw [str_eq, dec_str (show TL.tl ("" : Str) = [] by decide +kernel)]
      by_cases c1 : TL.tl d = []
      · refine if_pos_of (decide_eq_true c1) ?_
        refine if_pos_of rfl ?_
        rw [c1] at q
        exact q H (Same.refl _)
      refine if_neg_of (decide_eq_false c1) ?_
      have e1 : (TL.tl d).isEmpty = false := by
        cases h : TL.tl d with
        | nil => exact absurd h c1
        | cons x xs => rfl
      rw [e1, Bool.not_false, Bool.true_and] at q
      refine ⟨_, rfl, _, rfl, dls, _, _, rfl, rfl, _, rfl, ?_⟩
      by_cases c2 : (TL.tl d).length ≤ 30
      · refine if_neg_of (decide_eq_false (by rw [str_len]; omega)) ?_
        rw [decide_eq_true c2, Bool.true_and] at q
        refine ⟨_, rfl, d, rfl, fun D nD => lcMap walk_str (((TL.tl d).map dg).map V.bl) (by rw [List.length_map, List.length_map]; exact Array.length_toList) nD (fun _ _ => trivial) ?_ ?_⟩
        · rintro i x H3 H4 hi s3 hD3 ⟨rfl, c, hc, rfl⟩
          have hc' : (TL.tl d)[i]? = some c := by
            show d.cps.toList[i]? = some c
            rw [Array.getElem?_toList]
            exact hc
          refine ⟨rfl, _, rfl, c, _, rfl, rfl, ?_⟩
          rw [digs_iff]
          exact mapEnd nD (by rw [List.length_map, List.length_map]; omega) s3 hD3 (map_at (f := V.bl) (by rw [List.getElem?_map, hc'] <;> rfl))
        · intro H3 s3 hD3
          refine ⟨D, _, rfl, SqL.of hD3, _, rfl, ?_⟩
          have ea : (((TL.tl d).map dg).all id) = (TL.tl d).all dg := by
            rw [List.all_map]
            rfl
          rw [ea]
          cases e : (TL.tl d).all dg with
          | false =>
            rw [e, Bool.false_and] at q
            exact if_pos_of rfl (q H3 s3)
          | true => exact if_neg_of rfl ⟨s3, by rw [e1, decide_eq_true c2]; rfl, rfl, _, rfl⟩
      · refine if_pos_of (decide_eq_true (by rw [str_len]; omega)) ?_
        refine if_pos_of rfl ?_
        rw [decide_eq_false c2, Bool.false_and, Bool.false_and] at q
        exact q H (Same.refl _)
    rintro σ H3 ⟨s3, e1, e2, x2, rfl⟩
    rw [e1, e2, Bool.true_and, Bool.true_and] at q
    have q := q H3 s3
    refine ⟨_, rfl, rfl, _, rfl, ?_⟩
    rw [str_eq, dec_str tl_lit0]
    by_cases c3 : TL.tl z = [48]
    · rw [decide_eq_true c3, Bool.true_or] at q
      exact if_pos_of (decide_eq_true c3) q
    · rw [decide_eq_false c3, Bool.false_or] at q
      refine if_neg_of (decide_eq_false c3) ?_
      obtain ⟨c, r, hcr⟩ : ∃ c r, TL.tl d = c :: r := by
        cases h : TL.tl d with
        | nil => rw [h] at e1; cases e1
        | cons x xs => exact ⟨x, xs, rfl⟩
      rw [hcr] at q
      refine ⟨_, rfl, d, _, c, rfl, rfl, dls, ?_, rfl, ?_⟩
      · show atI (TL.tl d) 0 = some c
        rw [hcr]
        exact atI_nat (j := 0) rfl
      · rw [str_eq, sign_eqT]
        exact q
/-- words as they are passed on -/
structure Ws (L : List Str) : Prop where
  ne : L ≠ []
  few : L.length ≤ 40
  len : ∀ z ∈ L, z.length ≤ 5001
  free : ∀ z ∈ L, 32 ∉ TL.tl z
abbrev s_lfault : Stmt := top 20
theorem sc_lfault : FnScope ["_law_words", "_law_at"] ["_law_words"] (defScope s_lfault) := ⟨rfl, rfl, rfl, by decide +kernel, rfl, by decide +kernel, by decide +kernel⟩
def fInt : Option Nat → Int
  | some n => (n : Int)
  | none => -1
def spLfault (K : PySem.W.Frag) : Sp := fun vs H Q _ => ∃ (a : Addr) (L : List Str), vs = [.ref a] ∧ SqL K H a (L.map V.str) ∧ Ws L ∧ ∀ o, FD L o → ∀ H', Same H H' → Q (.int (fInt o)) H'
theorem ok_lfault {f : Addr} {fd : FuncData} (T : Txt mg) (F : Fun K "_law_fault" "_law_fault" s_lfault f fd) (c_lisw : Cl P w K mg base CX0 1 "_law_is_word" spLisW) : FnOk P w K mg base CX0 2 f fd ["_law_words"] (spLfault K) := by
  refine F.ok sc_lfault (fun vs H Q E h => ?_) (fun cdv A outer s H vs Q E hr h => ?_)
  · obtain ⟨a, L, rfl, _⟩ := h
    rfl
  · obtain ⟨a, L, rfl, hS, ws, q⟩ := h
    have few := ws.few
    refine ⟨_, (Evl.pss_cut (ps_for PassesOwn.never rfl (pi_range1 rfl T.range (pa_cons (pe_callB call_len_seq (by rfl) T.len PySem.boot_len (pa_cons (pv 0) pa_nil)) pa_nil)) (pg_name (i := 1) sc_lfault.nd rfl (Or.inl rfl)) (pss_one (ps_if (pt_not (pt_val (pe_cl c_lisw hr (pa_cons (pe_ix ix_list (pv 0) (pv 1) (fun _ _ => rfl)) pa_nil)))) (pss_one (ps_ret (pv 1))) pss_nil)))
 (Evl.pss_cut (ps_if (pw_and (pt_cmpR op_gt (pe_callB call_len_seq (by rfl) T.len PySem.boot_len (pa_cons (pv 0) pa_nil)) pe_int (nomark _)) (pw_and1 (pt_cmpR op_eq (pe_ix ix_list (pv 0) (pe_un un_neg pe_int) (fun _ _ => rfl)) pe_str (nomark _)))).pt (pss_one (ps_ret (pe_op op_sub (pe_callB call_len_seq (by rfl) T.len PySem.boot_len (pa_cons (pv 0) pa_nil)) pe_int))) pss_nil)
 (pss_one (ps_ret (pe_un un_neg pe_int))))), ?_⟩
    refine ⟨fun σ H' => Same H H' ∧ (∀ (j : Nat) (y : Str), L[j]? = some y → intC (TL.tl y) = true) ∧ ∃ x1, σ = [some (.ref a), x1], ?_, ?_⟩
    · refine ⟨_, rfl, a, _, rfl, .inl hS, _, rfl, (by rw [List.length_map]; omega), (by rw [List.length_map]; omega), ?_⟩
      refine for_it (walk_range0 (n := (L.map V.str).length)) (fun i σ H' => Same H H' ∧ (∀ (j : Nat) (y : Str), j < i → L[j]? = some y → intC (TL.tl y) = true) ∧ ∃ x1, σ = [some (.ref a), x1]) ⟨Same.refl _, fun j y h => absurd h (Nat.not_lt_zero j), none, rfl⟩ (fun _ _ _ _ _ => trivial) ?_ ?_
      · rintro i x σ H1 H2 hi ⟨s1, yes, x1, rfl⟩ ⟨rfl, rfl⟩
        rw [List.length_map] at hi
        have hy : L[i]? = some L[i] := List.getElem?_eq_getElem hi
        refine ⟨_, rfl, _, rfl, a, _, _, _, rfl, rfl, s1.seq hS, atI_nat (map_at hy), L[i], rfl, Nat.le_trans (ws.len _ (List.mem_of_getElem? hy)) (by decide), fun H3 s3 => ⟨_, rfl, ?_⟩⟩
        have s13 := s1.trans s3
        cases e : intC (TL.tl L[i]) with
        | true =>
          refine if_neg_of rfl ⟨s13, fun j y hj hy' => ?_, _, rfl⟩
          by_cases c : j = i
          · rw [c, hy] at hy'
            rw [← Option.some.inj hy']
            exact e
          · exact yes j y (by omega) hy'
        | false => exact if_pos_of rfl ⟨_, rfl, q (some i) (.word hy e yes) H3 s13⟩
      · rintro σ H1 ⟨s1, yes, x1, rfl⟩
        rw [List.length_map] at yes
        exact ⟨s1, fun j y hy => yes j y (List.getElem?_eq_some_iff.mp hy).1 hy, _, rfl⟩
    rintro σ H1 ⟨s1, yes, x1, rfl⟩
    have hS1 := s1.seq hS
    obtain ⟨zl, hzl, at_l⟩ := last_at (List.length_pos_iff.mpr ws.ne)
    refine ⟨fun σ H' => H1 = H' ∧ ¬ (1 < L.length ∧ L[L.length - 1]? = some ("0" : Str)) ∧ σ = [some (.ref a), x1], ?_, ?_⟩
    · refine ⟨_, rfl, a, _, rfl, .inl hS1, _, _, rfl, rfl, _, rfl, ?_⟩
      rw [List.length_map]
      by_cases c : 1 < L.length
      · refine if_pos_of (decide_eq_true (by omega)) ?_
        refine ⟨_, rfl, _, rfl, a, _, _, _, rfl, rfl, hS1, at_l, rfl, _, rfl, ?_⟩
        rw [str_eq]
        by_cases d : zl = "0"
        · refine if_pos_of (decide_eq_true d) ?_
          refine ⟨_, rfl, a, _, rfl, .inl hS1, _, _, rfl, rfl, ?_⟩
          have z := q (some (L.length - 1)) (.last yes c (by rw [hzl, d])) H1 s1
          have e : fInt (some (L.length - 1)) = (L.length : Int) - 1 := by
            show ((L.length - 1 : Nat) : Int) = _
            omega
          rw [e] at z
          rw [List.length_map]
          exact z
        · exact if_neg_of (decide_eq_false d) ⟨rfl, fun h => d (Option.some.inj (hzl.symm.trans h.2)), rfl⟩
      · exact if_neg_of (decide_eq_false (by omega)) (if_neg_of rfl ⟨rfl, fun h => c h.1, rfl⟩)
    rintro σ _ ⟨rfl, h0, rfl⟩
    exact ⟨_, rfl, q none (.none yes h0) H1 s1⟩
/-- what is told of words: a fault, or the row -/
def TolAt (H : Hp) (r : Addr) (L : List Str) : Option Nat → Prop
  | some n => H r = some (.lst [.str "at", .int (n : Int)])
  | none => ∃ q, H r = some (.lst [.str "row", .ref q]) ∧ H q = some (.lst ((trim (L.map valW)).map V.int))
theorem TolAt.same {H H' : Hp} {r : Addr} {L : List Str} {o : Option Nat} (h : TolAt H r L o) (s : Same H H') : TolAt H' r L o := by
  cases o with
  | some n => exact s _ _ h
  | none =>
    obtain ⟨q, h1, h2⟩ := h
    exact ⟨q, s _ _ h1, s _ _ h2⟩
abbrev s_ldue : Stmt := top 22
theorem sc_ldue : FnScope ["_law_words", "_law_at", "_law_word"] ["_law_words"] (defScope s_ldue) := ⟨rfl, rfl, rfl, by decide +kernel, rfl, by decide +kernel, by decide +kernel⟩
def spLdue (K : PySem.W.Frag) : Sp := fun vs H Q _ => ∃ (a : Addr) (L : List Str), vs = [.ref a] ∧ SqL K H a (L.map V.str) ∧ Ws L ∧ ∀ o r H', FD L o → TolAt H' r L o → Same H H' → Q (.ref r) H'
theorem fd_ex (L : List Str) : ∃ o, FD L o := by
  by_cases c : ∀ (j : Nat) (y : Str), L[j]? = some y → intC (TL.tl y) = true
  · by_cases d : 1 < L.length ∧ L[L.length - 1]? = some ("0" : Str)
    · exact ⟨_, .last c d.1 d.2⟩
    · exact ⟨_, .none c d⟩
  · have : ∃ j, (fun j => ∃ y, L[j]? = some y ∧ intC (TL.tl y) = false) j := Classical.byContradiction fun h => c fun j y hy => by
      cases e : intC (TL.tl y) with
      | true => rfl
      | false => exact absurd ⟨j, y, hy, e⟩ h
    obtain ⟨j0, h0⟩ := this
    have key : ∀ n, (∃ y, L[n]? = some y ∧ intC (TL.tl y) = false) → ∃ o, FD L o := fun n => by
      induction n using Nat.strongRecOn with
      | ind n ih =>
        rintro ⟨y, hy, e⟩
        by_cases m : ∃ k, k < n ∧ ∃ y, L[k]? = some y ∧ intC (TL.tl y) = false
        · obtain ⟨k, hk, h⟩ := m
          exact ih k hk h
        · refine ⟨_, .word hy e fun j y' hj hy' => ?_⟩
          cases e' : intC (TL.tl y') with
          | true => rfl
          | false => exact absurd ⟨j, hj, y', hy', e'⟩ m
    exact key j0 h0
theorem ok_ldue {f : Addr} {fd : FuncData} (T : Txt mg) (F : Fun K "_law_due" "_law_due" s_ldue f fd) (c_fault : Cl P w K mg base CX0 2 "_law_fault" (spLfault K)) (c_plain : Cl P w K mg base CX0 1 "_law_plain" (spPlain K)) : FnOk P w K mg base CX0 3 f fd ["_law_words"] (spLdue K) := by
  refine F.ok sc_ldue (fun vs H Q E h => ?_) (fun cdv A outer s H vs Q E hr h => ?_)
  · obtain ⟨a, L, rfl, _⟩ := h
    rfl
  · obtain ⟨a, L, rfl, hS, ws, q⟩ := h
    have few := ws.few
    obtain ⟨o0, ho⟩ := fd_ex L
    refine ⟨_, (pss_cons (ps_set (i := 1) sc_ldue.nd rfl (Or.inl rfl) (pe_cl c_fault hr (pa_cons (pv 0) pa_nil)))
 (pss_cons (ps_if (pt_cmpR op_ge (pv 1) pe_int (nomark _)) (pss_one (ps_ret (pe_lst (pa_cons pe_str (pa_cons (pv 1) pa_nil))))) pss_nil)
 (pss_one (ps_ret (pe_lst (pa_cons pe_str (pa_cons (pe_cl c_plain hr (pa_cons (pe_lc (own := [("_law_word", 2)]) (g := (gName 2)) (tt := tYes) rfl sc_ldue.nd (pi_list (pv 0)) (blkOk_by (N := ["_law_words", "_law_at", "_law_word"]) (sc := defScope s_ldue) (by decide +kernel)) (fun _ _ _ _ _ => (pg_name (i := 2) sc_ldue.nd rfl (Or.inl rfl))) (fun _ _ _ _ _ => pts_nil) (fun _ _ _ _ _ => (pe_callTy call_int_str (by rfl) T.int boot_int (pa_cons (pv 2) pa_nil)))) pa_nil)) pa_nil))))))), ?_⟩
    refine ⟨_, rfl, a, L, rfl, hS, ws, fun o hfd H1 s1 => ?_⟩
    have hS1 := s1.seq hS
    refine ⟨_, rfl, _, _, rfl, rfl, _, rfl, ?_⟩
    cases o with
    | some n =>
      refine if_pos_of (decide_eq_true (Int.natCast_nonneg n)) ?_
      exact ⟨_, rfl, (by show 2 ≤ sizeLine; decide), fun r nr => q (some n) r _ hfd upd_same (s1.trans (same_upd nr))⟩
    | none =>
      refine if_neg_of rfl ?_
      have yes : ∀ (j : Nat) (y : Str), L[j]? = some y → intC (TL.tl y) = true := by
        cases hfd with
        | none yes => exact yes
      refine ⟨_, rfl, a, rfl, ⟨_, hS1⟩, fun D nD => lcMap walk_list ((L.map valW).map V.int) (by rw [List.length_map, List.length_map, List.length_map]) nD (fun H s => s.seq hS1) ?_ ?_⟩
      · rintro i x H3 _ hi s3 hLs ⟨rfl, hx⟩
        obtain ⟨y, rfl, hy⟩ := item_str hx
        obtain ⟨r1, r2⟩ := int_reads (yes i y hy)
        refine ⟨rfl, _, rfl, y, _, rfl, r1, r2, ?_⟩
        exact mapEnd nD (by rw [List.length_map, List.length_map]; omega) s3 hLs (map_at (f := V.int) (by rw [List.getElem?_map, hy] <;> rfl))
      · intro H3 s3 hLs
        refine ⟨D, L.map valW, rfl, .inl (SqL.of hLs), by rw [List.length_map]; omega, fun p H4 np s4 hp => ?_⟩
        refine ⟨(by show 2 ≤ sizeLine; decide), fun r nr => ?_⟩
        have g := same_upd (o := .lst [.str "row", .ref p]) nr
        exact q none r _ hfd ⟨p, upd_same, g _ _ hp⟩ (s1.trans (s3.trans (s4.trans g)))
abbrev s_ltold : Stmt := top 21
theorem sc_ltold : FnScope ["_law_words", "_law_poly", "e"] ["_law_words"] (defScope s_ltold) := ⟨rfl, rfl, rfl, by decide +kernel, rfl, by decide +kernel, by decide +kernel⟩
def spLtold : Sp := fun vs H Q _ => ∃ (a : Addr) (L : List Str), vs = [.ref a] ∧ H a = some (.lst (L.map V.str)) ∧ Ws L ∧ ∀ o r H', FD L o → TolAt H' r L o → Same H H' → Q (.ref r) H'
theorem ws_sum {L : List Str} (ws : Ws L) : (L.map (·.length)).sum + L.length * (" " : Str).length ≤ 16777216 := by
  have e1 : (" " : Str).length = 1 := by decide +kernel
  have := sum_le (k := 5001) ws.len
  have few := ws.few
  rw [e1]
  omega
theorem ws_split {L : List Str} (ws : Ws L) : Txt.split (Txt.join " " L) " " = L :=
  TL.split_join (s := 32) (S := []) (by decide +kernel) (by decide +kernel) ws.ne ws.free
theorem ws_len {L : List Str} (ws : Ws L) : (Txt.join " " L).length + 2 ≤ sizeLine := by
  have e1 : (" " : Str).length = 1 := by decide +kernel
  have := join_len (y := " ") (k := 5001) ws.len
  have few := ws.few
  rw [e1] at this
  rw [sizeLine_eq]
  omega
theorem ok_ltold {f C CT fT : Addr} {fd : FuncData} (TT : Txt mg) (T : PoT K mg C) (TX : ErrC K mg "BadText" "at" CT fT) (F : Fun K "_law_told" "_law_told" s_ltold f fd) (c_read : CmN P w K mg base 4 C "read" (spPread C CT K)) (c_isint : ClP P w K mg base 1 "_law_is_integer" spIsIntE) :
    FnOk P w K mg base CX0 5 f fd ["_law_words"] spLtold := by
  refine F.ok sc_ltold (fun vs H Q E h => ?_) (fun cdv A outer s H vs Q E hr h => ?_)
  · obtain ⟨a, L, rfl, _⟩ := h
    rfl
  · obtain ⟨a, L, rfl, ha, ws, q⟩ := h
    have few := ws.few
    refine ⟨_, (Evl.pss_cut (L2N.ps_try_as (i := 2) rfl rfl sc_ltold.nd rfl rfl ⟨rfl, by decide, Or.inl TX.g⟩ takes0N
  (fun W pn xe tk _ => (pss_one (ps_set (i := 1) sc_ltold.nd rfl (Or.inl rfl) (pe_cmNX c_read hr tk (pe_glob (v := .ref C) (by rfl) T.g rfl) (pa_cons (pe_joinK (K := K) rfl pe_str (pv 0)) pa_nil)))))
  (fun a oe cls d pn hz hf => (pss_cons (ps_if (pt_not (pt_val (pe_clP c_isint (held_suite hz hf) (room_suite (j := 4) hr) (pa_cons (pe_xf TX.xf TX.no hz.zc hf (pv 2)) pa_nil)))) (pss_one (ps_ret (pe_lst (pa_cons pe_str pa_nil)))) pss_nil)
 (pss_one (ps_ret (pe_lst (pa_cons pe_str (pa_cons (pe_xf TX.xf TX.no hz.zc hf (pv 2)) pa_nil))))))))
 (pss_one (ps_ret (pe_lst (pa_cons pe_str (pa_cons (pe_callTy call_list_of (by rfl) TT.list boot_list (pa_cons (pe_fld (pv 1) rfl) pa_nil)) pa_nil)))))), ?_⟩
    refine ⟨fun σ H' => FD L none ∧ Same H H' ∧ ∃ r, PolyAt K C H' r (trim (L.map valW)) ∧ σ = [some (.ref a), some (.ref r), none], ?_, ?_⟩
    · refine ⟨rfl, ⟨_, rfl⟩, _, rfl, _, a, L, rfl, rfl, .inl (SqL.of ha), ws_sum ws, ?_⟩
      have hs := ws_split ws
      refine ⟨_, rfl, ws_len ws, by rw [hs]; exact ws.ne, by rw [hs]; omega, by rw [hs]; exact fun y hy => Nat.le_trans (ws.len y hy) (by decide), ?_, ?_⟩
      · rw [hs]
        exact fun fd r H' po s1 => ⟨fd, s1, r, po, rfl⟩
      · rw [hs]
        intro n fd d H' s1 hd
        refine ⟨true, TX.te, fun _ y ny => ?_, fun z => Bool.noConfusion z⟩
        refine ⟨_, rfl, rfl, rfl, d, _, _, rfl, hd, rfl, (n : Int), rfl, _, rfl, if_neg_of rfl ?_⟩
        exact ⟨_, rfl, rfl, rfl, d, _, _, rfl, hd, rfl, (by show 2 ≤ sizeLine; decide), fun q2 nq2 => q (some n) q2 _ fd upd_same (s1.trans (same_upd nq2))⟩
    rintro σ H1 ⟨hfd, s1, r, po, rfl⟩
    obtain ⟨dx, t, h1, h2⟩ := po.ob
    refine ⟨_, rfl, r, C, dx, _, _, rfl, h1, T.cl, T.nC, pyF_c _, t, _, rfl, .inr h2, fun p np => ⟨(by show 2 ≤ sizeLine; decide), fun p2 np2 => ?_⟩⟩
    have g1 := same_upd (o := .lst ((trim (L.map valW)).map V.int)) np
    have g2 := same_upd (o := .lst [.str "row", .ref p]) np2
    exact q none p2 _ hfd ⟨p, upd_same, g2 _ _ upd_same⟩ ((s1.trans g1).trans g2)
-- part cuts
theorem cut_to {α : Type} (f : α → V) (L : List α) (k : Nat) : cutV (L.map f) none (some (k : Int)) = (L.take k).map f := by
  unfold cutV
  rw [HT.sIx_none, HT.sIx_nat, List.length_map, List.drop_zero, Nat.sub_zero, ← List.map_take]
  congr 1
  by_cases c : k ≤ L.length
  · rw [Nat.min_eq_left c]
  · rw [Nat.min_eq_right (by omega), List.take_length, List.take_of_length_le (by omega)]
theorem cut_mid {α : Type} (f : α → V) (L : List α) (a b : Nat) : cutV (L.map f) (some (a : Int)) (some (b : Int)) = ((L.drop a).take (b - a)).map f := by
  unfold cutV
  rw [HT.sIx_nat, HT.sIx_nat, List.length_map, ← List.map_drop, ← List.map_take]
  congr 1
  by_cases c : a ≤ L.length
  · rw [Nat.min_eq_left c]
    by_cases d : b ≤ L.length
    · rw [Nat.min_eq_left d]
    · rw [Nat.min_eq_right (by omega), List.take_of_length_le (by rw [List.length_drop]; exact Nat.le_refl _), List.take_of_length_le (by rw [List.length_drop]; omega)]
  · rw [Nat.min_eq_right (show L.length ≤ a by omega), List.drop_length, List.drop_eq_nil_of_le (show L.length ≤ a by omega), List.take_nil, List.take_nil]
-- part k33w
/-- what is told, as data -/
def tolD (L : List Str) : Option Nat → PyData
  | some n => .list [.str "at", .int (n : Int)]
  | none => .list [.str "row", .list ((trim (L.map valW)).map PyData.int)]
theorem TolAt.dp {K : PySem.W.Frag} {H : Hp} {r : Addr} {L : List Str} {o : Option Nat} (h : TolAt H r L o) : Dp K H (.ref r) (tolD L o) := by
  cases o with
  | some n => exact .lst (SqL.of h) (.cons (.str _) (.cons (.int _) .nil))
  | none =>
    obtain ⟨q, h1, h2⟩ := h
    exact .lst (SqL.of h1) (.cons (.str _) (.cons (dp_lst (SqL.of h2)) .nil))
theorem tolD_ok (L : List Str) (o : Option Nat) : SeqAt.shaped (tolD L o) = true := by
  have a : PyData.strOk "at" = true := by decide +kernel
  have b : PyData.strOk "row" = true := by decide +kernel
  cases o with
  | some n => simp [tolD, SeqAt.shaped, PyData.canLay0, PyData.canLayAll0, PyData.depth, PyData.depthAll, a]
  | none => simp [tolD, SeqAt.shaped, PyData.canLay0, PyData.canLayAll0, PyData.depth, PyData.depthAll, b, canLay_ints, depth_ints]
theorem tolD_refl (L : List Str) (o : Option Nat) : PyData.eqv (tolD L o) (tolD L o) = true := SeqAt.eqv_refl _ (Bool.and_eq_true_iff.mp (tolD_ok L o)).1
theorem tolD_row (L : List Str) (l : List Int) (h : trim (L.map valW) = l) : tolD L none = .list [.str "row", .list (l.map PyData.int)] := by rw [← h] <;> rfl
theorem cut_from {α : Type} (f : α → V) (L : List α) (k : Nat) : cutV (L.map f) (some (k : Int)) none = (L.drop k).map f := by
  unfold cutV
  rw [HT.sIx_nat, HT.sIx_none, List.length_map, ← List.map_drop, ← List.map_take]
  congr 1
  by_cases c : k ≤ L.length
  · rw [Nat.min_eq_left c, List.take_of_length_le (by rw [List.length_drop]; exact Nat.le_refl _)]
  · rw [Nat.min_eq_right (by omega), List.drop_length, List.drop_eq_nil_of_le (by omega), List.take_nil]
/-- a word that does for the law -/
def Gw (z : Str) : Prop := z.length ≤ 5001 ∧ 32 ∉ TL.tl z
structure Wd (n : Nat) (L : List Str) : Prop where
  ne : 0 < L.length
  few : L.length ≤ n
  ok : ∀ z ∈ L, Gw z
theorem Wd.ws {n : Nat} {L : List Str} (h : Wd n L) (hn : n ≤ 40) : Ws L := ⟨List.length_pos_iff.mp h.ne, Nat.le_trans h.few hn, fun z hz => (h.ok z hz).1, fun z hz => (h.ok z hz).2⟩
theorem Wd.mono {n m : Nat} {L : List Str} (h : Wd n L) (hn : n ≤ m) : Wd m L := ⟨h.ne, Nat.le_trans h.few hn, h.ok⟩
theorem Wd.cut {n : Nat} {L : List Str} (h : Wd n L) (many : 1 < L.length) {p : Nat} (hp : p ≤ L.length) : Wd n (L.take p ++ L.drop (p + 1)) := by
  have := h.few
  refine ⟨?_, ?_, fun z hz => ?_⟩
  · rw [List.length_append, List.length_take, List.length_drop]
    omega
  · rw [List.length_append, List.length_take, List.length_drop]
    omega
  · rcases List.mem_append.mp hz with h1 | h1
    · exact h.ok z (List.mem_of_mem_take h1)
    · exact h.ok z (List.mem_of_mem_drop h1)
theorem Wd.ins {n : Nat} {L : List Str} (h : Wd n L) {y : Str} (hy : Gw y) {p q : Nat} (hq : p ≤ q) : Wd (n + 1) (L.take p ++ y :: L.drop q) := by
  have := h.few
  refine ⟨?_, ?_, fun z hz => ?_⟩
  · rw [List.length_append, List.length_cons]
    omega
  · rw [List.length_append, List.length_take, List.length_cons, List.length_drop]
    omega
  · rcases List.mem_append.mp hz with h1 | h1
    · exact h.ok z (List.mem_of_mem_take h1)
    · rcases List.mem_cons.mp h1 with h2 | h2
      · rw [h2]
        exact hy
      · exact h.ok z (List.mem_of_mem_drop h2)
theorem numT_len {k : Int} (h : k.natAbs < 10 ^ 30) : (numT k).length ≤ 31 := by
  rw [str_len, tl_numT]
  have hl := TL.numL_len (k := 30) (n := k.natAbs) (by decide) h
  split
  · rw [show k.toNat = k.natAbs by omega]
    omega
  · rw [List.length_cons]
    omega
theorem numT_gw {k : Int} (h : k.natAbs < 10 ^ 30) : Gw (numT k) := ⟨Nat.le_trans (numT_len h) (by decide), free32_numT k⟩
theorem numT_str (k : Int) : PyData.strOk (numT k) = true := by
  unfold PyData.strOk
  rw [all_tl, tl_numT, List.all_eq_true]
  intro c hc
  have dig : ∀ n, c ∈ TL.numL n → c < 0x110000 := fun n h => by
    have := TL.numL_digits n c h
    omega
  refine decide_eq_true ?_
  split at hc
  · exact dig _ hc
  · rcases List.mem_cons.mp hc with e | e
    · rw [e]
      decide
    · exact dig _ e
theorem num_rows {l : List Int} (tl : Trim l) (h : ∀ z ∈ l, z.natAbs < 10 ^ 30) : FD (l.map numT) none ∧ trim ((l.map numT).map valW) = l := by
  have e : (l.map numT).map valW = l := by
    rw [List.map_map]
    have : ∀ z ∈ l, (valW ∘ numT) z = z := fun z hz => numT_val (h z hz)
    rw [List.map_congr_left this, List.map_id'']
    exact fun _ => rfl
  rw [e]
  refine ⟨.none (fun j y hy => ?_) fun hz => ?_, trim_of tl⟩
  · obtain ⟨z, hz, rfl⟩ := List.mem_map.mp (List.mem_of_getElem? hy)
    exact intC_numT (h z hz)
  · obtain ⟨many, h0⟩ := hz
    rw [List.length_map] at many h0
    have hl : l[l.length - 1]? = some l[l.length - 1] := List.getElem?_eq_getElem (by omega)
    rw [List.getElem?_map, hl] at h0
    have h0 : numT l[l.length - 1] = "0" := Option.some.inj h0
    have := tl (l.length - 1) (by omega)
    rw [getD_of hl] at this
    have v := numT_val (h _ (List.mem_of_getElem? hl))
    refine this ?_
    rw [← v]
    show valW (numT _) = 0
    rw [h0]
    decide +kernel
def menu33 : List Str := ["0", "-0", "07", "", "5", "-5", "+5", "1_0", "t", "--1", "1.", "-", repS "9" 30, repS "9" 31, "-" ++ repS "9" 30, "1" ++ repS "0" 5000, "-007", "a", "1e3", "00", "5\n", "\t5", "\n"]
theorem rep_gw {a : List Nat} {z : Str} (x : Nat) (hx : x ≠ 32) {n : Nat} (h : TL.tl z = a ++ List.replicate n x) (ha : 32 ∉ a) (hl : a.length + n ≤ 5001) : Gw z := by
  refine ⟨?_, ?_⟩
  · rw [str_len, h, List.length_append, List.length_replicate]
    exact hl
  · rw [h]
    intro m
    rcases List.mem_append.mp m with e | e
    · exact ha e
    · exact hx (List.eq_of_mem_replicate e).symm
theorem menu33_gw : ∀ z ∈ menu33, Gw z := by
  have l9 : TL.tl ("9" : Str) = [57] := by decide +kernel
  have l0 : TL.tl ("0" : Str) = [48] := by decide +kernel
  have l1 : TL.tl ("1" : Str) = [49] := by decide +kernel
  have a : ∀ z ∈ (["0", "-0", "07", "", "5", "-5", "+5", "1_0", "t", "--1", "1.", "-", "-007", "a", "1e3", "00", "5\n", "\t5", "\n"] : List Str), Gw z := by
    unfold Gw
    decide +kernel
  intro z hz
  by_cases c : z ∈ (["0", "-0", "07", "", "5", "-5", "+5", "1_0", "t", "--1", "1.", "-", "-007", "a", "1e3", "00", "5\n", "\t5", "\n"] : List Str)
  · exact a z c
  · have : z = repS "9" 30 ∨ z = repS "9" 31 ∨ z = "-" ++ repS "9" 30 ∨ z = "1" ++ repS "0" 5000 := by
      unfold menu33 at hz
      simp only [List.mem_cons, List.not_mem_nil, or_false] at hz c
      simp only [not_or] at c
      simp only [c, false_or, or_false] at hz
      exact hz
    rcases this with rfl | rfl | rfl | rfl
    · exact rep_gw (a := []) 57 (by decide) (n := 30) (by rw [tl_rep1 l9] <;> rfl) (by decide) (by decide)
    · exact rep_gw (a := []) 57 (by decide) (n := 31) (by rw [tl_rep1 l9] <;> rfl) (by decide) (by decide)
    · exact rep_gw (a := [45]) 57 (by decide) (n := 30) (by rw [TL.tl_append, tl_rep1 l9, tl_litm]) (by decide) (by decide)
    · exact rep_gw (a := [49]) 48 (by decide) (n := 5000) (by rw [TL.tl_append, tl_rep1 l0, l1]) (by decide) (by decide)
/-- an item at an open place in bounds -/
theorem at_someS {L : List Str} {v : Int} (h0 : 0 ≤ v) (h1 : v < L.length) : ∃ x, atI (L.map V.str) v = some (V.str x) ∧ x ∈ L := by
  have hv : ((v.toNat : Nat) : Int) = v := Int.toNat_of_nonneg h0
  have hl : v.toNat < L.length := by omega
  have z : atI (L.map V.str) ((v.toNat : Nat) : Int) = some (V.str L[v.toNat]) := at_str (List.getElem?_eq_getElem hl)
  rw [hv] at z
  exact ⟨_, z, List.getElem_mem hl⟩
-- part law_k33
abbrev s_law : Stmt := top 23
theorem sc_law : FnScope ["_law_script", "_law_head", "_law_reach", "_law_row_here", "_law_poly", "_law_words", "_law_k", "_law_menu", "_law_drawn", "_law_place"] ["_law_script"] (defScope s_law) := ⟨rfl, rfl, rfl, by decide +kernel, rfl, by decide +kernel, by decide +kernel⟩
theorem ok_law {f C CT : Addr} {fd : FuncData} (TT : Txt mg) (T : PoT K mg C) (F : Fun K "law" "law" s_law f fd) (c_cell : Cl P w K mg base CX0 1 "_law_cell" (spCellL K)) (c_draws : Cl P w K mg base CX0 1 "_law_draws" (spDraws K)) (c_row : Cl P w K mg base CX0 2 "_law_row" spRow) (c_plain : Cl P w K mg base CX0 1 "_law_plain" (spPlain K))
    (c_told : Cl P w K mg base CX0 5 "_law_told" spLtold) (c_due : Cl P w K mg base CX0 3 "_law_due" (spLdue K)) (c_pil : Ma P w K mg base 2 C (spPI C false K)) (c_read : CmN P w K mg base 4 C "read" (spPread C CT K)) (c_str : Me P w K mg base 1 C "__str__" (spPstr C K)) (c_eq : Me P w K mg base 1 C "__eq__" (spPeq C K)) :
    FnOk P w K mg base CX0 7 f fd ["_law_script"] (spLaw K) := by
  refine F.ok sc_law (fun vs H Q E h => ?_) (fun cdv A outer s H vs Q E hr h => ?_)
  · obtain ⟨a, ns, rfl, _⟩ := h
    rfl
  · obtain ⟨sc, ns, rfl, hS, hlen, q⟩ := h
    refine ⟨_, (Evl.pss_cut (ps_set (i := 1) sc_law.nd rfl (Or.inl rfl) (pe_cl c_draws hr (pa_cons (pe_cl c_cell hr (pa_cons (pv 0) (pa_cons pe_int pa_nil))) (pa_cons (pe_lst (pa_cons pe_int (pa_cons pe_int (pa_cons pe_int (pa_cons pe_int (pa_cons pe_int (pa_cons pe_int (pa_cons pe_int (pa_cons pe_int pa_nil))))))))) pa_nil))))
 (Evl.pss_cut (ps_set (i := 2) sc_law.nd rfl (Or.inl rfl) (pe_ix ix_list (pe_lst (pa_cons pe_int (pa_cons pe_int (pa_cons (pe_op op_sub (pe_op op_pow pe_int pe_int) pe_int) pa_nil)))) (pe_ix ix_list (pv 1) pe_int (fun _ _ => rfl)) (fun _ _ => rfl)))
 (Evl.pss_cut (ps_set (i := 3) sc_law.nd rfl (Or.inl rfl) (pe_cl c_plain hr (pa_cons (pe_cl c_row hr (pa_cons (pe_cl c_cell hr (pa_cons (pv 0) (pa_cons pe_int pa_nil))) (pa_cons (pe_ix ix_list (pv 1) pe_int (fun _ _ => rfl)) (pa_cons (pv 2) pa_nil)))) pa_nil)))
 (Evl.pss_cut (ps_set (i := 4) sc_law.nd rfl (Or.inl rfl) (pe_ma c_pil hr T.g (pa_cons (pv 3) pa_nil)))
 (Evl.pss_cut (ps_setLc (i := 5) (own := [("_law_k", 6)]) (g := (gName 6)) (tt := tYes) rfl sc_law.nd rfl rfl (sw_true rfl rfl rfl (by decide +kernel)) (pi_list (pv 3)) (blkOk_by (N := ["_law_script", "_law_head", "_law_reach", "_law_row_here", "_law_poly", "_law_words", "_law_k", "_law_menu", "_law_drawn", "_law_place"]) (sc := defScope s_law) (by decide +kernel)) (fun _ _ _ _ _ => (pg_name (i := 6) sc_law.nd rfl (Or.inl rfl))) (fun _ _ _ _ _ => pts_nil) (fun _ _ _ _ _ => (pe_callTy call_str_int (by rfl) TT.str boot_str (pa_cons (pv 6) pa_nil))))
 (Evl.pss_cut (ps_if (pt_cmpR (op_eqD (hu64 hr)) (pv 5) (pe_lst pa_nil) (nomark _)) (pss_one (ps_set (i := 5) sc_law.nd rfl (Or.inl rfl) (pe_lst (pa_cons pe_str pa_nil)))) pss_nil)
 (Evl.pss_cut (ps_if (pw_or (pt_cmpR op_ne (pe_callTy (cr_strOwn c_str hr) (by rfl) TT.str boot_str (pa_cons (pv 4) pa_nil)) (pe_join pe_str (pv 5)) (nomark _)) (pw_or (pt_not (pt_cmpR (op_eq_own c_eq hr) (pe_cmN0 c_read hr (pe_glob (v := .ref C) (by rfl) T.g rfl) (pa_cons (pe_callTy (cr_strOwn c_str hr) (by rfl) TT.str boot_str (pa_cons (pv 4) pa_nil)) pa_nil)) (pv 4) (nomark _))) (pw_or1 (pt_cmpR (op_neD (hu64 hr)) (pe_cl c_told hr (pa_cons (pv 5) pa_nil)) (pe_lst (pa_cons pe_str (pa_cons (pv 3) pa_nil))) (nomark _))))).pt (pss_one (ps_ret pe_bl)) pss_nil)
 (Evl.pss_cut (ps_set (i := 7) sc_law.nd rfl (Or.inl rfl) (pe_lst (pa_cons pe_str (pa_cons pe_str (pa_cons pe_str (pa_cons pe_str (pa_cons pe_str (pa_cons pe_str (pa_cons pe_str (pa_cons pe_str (pa_cons pe_str (pa_cons pe_str (pa_cons pe_str (pa_cons pe_str (pa_cons (pe_op op_rep_str pe_str pe_int) (pa_cons (pe_op op_rep_str pe_str pe_int) (pa_cons (pe_op op_add_str pe_str (pe_op op_rep_str pe_str pe_int)) pa_nil)))))))))))))))))
 (Evl.pss_cut (ps_set (i := 7) sc_law.nd rfl (Or.inl rfl) (pe_op op_cat (pv 7) (pe_lst (pa_cons (pe_op op_add_str pe_str (pe_op op_rep_str pe_str pe_int)) (pa_cons pe_str (pa_cons pe_str (pa_cons pe_str (pa_cons pe_str (pa_cons pe_str (pa_cons pe_str (pa_cons pe_str pa_nil)))))))))))
 (Evl.pss_cut (ps_for PassesOwn.never rfl (pi_list (pe_lst (pa_cons (pe_slice sl_list (pv 1) (po_some pe_int) (po_some pe_int)) (pa_cons (pe_slice sl_list (pv 1) (po_some pe_int) (po_some pe_int)) pa_nil)))) (pg_name (i := 8) sc_law.nd rfl (Or.inl rfl)) (Evl.pss_cut (ps_set (i := 9) sc_law.nd rfl (Or.inl rfl) (pe_op op_mod (pe_ix ix_list (pv 8) pe_int (fun _ _ => rfl)) (pe_op op_add (pe_callB call_len_seq (by rfl) TT.len PySem.boot_len (pa_cons (pv 5) pa_nil)) pe_int)))
 (Evl.pss_cut (ps_if (pw_and (pt_cmpR op_eq (pe_ix ix_list (pv 8) pe_int (fun _ _ => rfl)) pe_int (nomark _)) (pw_and1 (pt_cmpR op_gt (pe_callB call_len_seq (by rfl) TT.len PySem.boot_len (pa_cons (pv 5) pa_nil)) pe_int (nomark _)))).pt (pss_one (ps_set (i := 5) sc_law.nd rfl (Or.inl rfl) (pe_op op_cat (pe_slice sl_list (pv 5) po_none (po_some (pv 9))) (pe_slice sl_list (pv 5) (po_some (pe_op op_add (pv 9) pe_int)) po_none)))) (pss_one (ps_if (pt_cmpR op_eq (pe_ix ix_list (pv 8) pe_int (fun _ _ => rfl)) pe_int (nomark _)) (pss_one (ps_set (i := 5) sc_law.nd rfl (Or.inl rfl) (pe_op op_cat (pe_op op_cat (pe_slice sl_list (pv 5) po_none (po_some (pv 9))) (pe_lst (pa_cons (pe_ix ix_list (pv 7) (pe_ix ix_list (pv 8) pe_int (fun _ _ => rfl)) (fun _ _ => rfl)) pa_nil))) (pe_slice sl_list (pv 5) (po_some (pv 9)) po_none)))) (pss_one (ps_set (i := 5) sc_law.nd rfl (Or.inl rfl) (pe_op op_cat (pe_op op_cat (pe_slice sl_list (pv 5) po_none (po_some (pv 9))) (pe_lst (pa_cons (pe_ix ix_list (pv 7) (pe_ix ix_list (pv 8) pe_int (fun _ _ => rfl)) (fun _ _ => rfl)) pa_nil))) (pe_slice sl_list (pv 5) (po_some (pe_op op_add (pv 9) pe_int)) po_none)))))))
 (pss_one (ps_if (pw_or (pt_cmpR (op_neD (hu64 hr)) (pe_cl c_told hr (pa_cons (pv 5) pa_nil)) (pe_cl c_due hr (pa_cons (pv 5) pa_nil)) (nomark _)) (pw_or1 (pt_cmpR (op_neD (hu64 hr)) (pe_cl c_told hr (pa_cons (pv 5) pa_nil)) (pe_cl c_due hr (pa_cons (pv 5) pa_nil)) (nomark _)))).pt (pss_one (ps_ret pe_bl)) pss_nil)))))
 (pss_one (ps_ret (pe_and (pe_cmpR (op_eqD (hu64 hr)) (pe_cl c_told hr (pa_cons (pe_lst (pa_cons pe_str pa_nil)) pa_nil)) (pe_lst (pa_cons pe_str (pa_cons pe_int pa_nil))) (nomark _)) (pe_and (pe_cmpR (op_eqD (hu64 hr)) (pe_cl c_told hr (pa_cons (pe_lst (pa_cons pe_str (pa_cons pe_str pa_nil))) pa_nil)) (pe_lst (pa_cons pe_str (pa_cons pe_int pa_nil))) (nomark _)) (pe_one (pe_cmpR (op_eqD (hu64 hr)) (pe_cl c_told hr (pa_cons (pe_lst (pa_cons pe_str pa_nil)) pa_nil)) (pe_lst (pa_cons pe_str (pa_cons (pe_lst pa_nil) pa_nil))) (nomark _))))))))))))))))), ?_⟩
    have sz : ∀ k, k ≤ 1000 → k ≤ sizeLine := fun k h => by
      rw [sizeLine_eq]
      omega
    -- head
    refine ⟨fun σ H' => Same H H' ∧ ∃ (hd : Addr) (d0 d1 d2 d3 d4 d5 d6 d7 : Int), H' hd = some (.lst [.int d0, .int d1, .int d2, .int d3, .int d4, .int d5, .int d6, .int d7]) ∧ (0 ≤ d0 ∧ d0 < 8) ∧ (0 ≤ d1 ∧ d1 < 3) ∧ ((0 ≤ d2 ∧ d2 < 4) ∧ (0 ≤ d3 ∧ d3 < 9) ∧ (0 ≤ d4 ∧ d4 < 23)) ∧ ((0 ≤ d5 ∧ d5 < 4) ∧ (0 ≤ d6 ∧ d6 < 9) ∧ (0 ≤ d7 ∧ d7 < 23)) ∧
      σ = [some (.ref sc), some (.ref hd), none, none, none, none, none, none, none, none], ?_, ?_⟩
    · refine ⟨_, rfl, sc, ns, 0, rfl, hS, fun c => ⟨(by show 8 ≤ sizeLine; decide), fun z nz => ?_⟩⟩
      refine ⟨c, z, [8, 3, 4, 9, 23, 4, 9, 23], rfl, SqL.of upd_same, by decide, by decide +kernel, fun p ds H' np dr s' hp => ?_⟩
      obtain ⟨d0, ds, rfl, b0, dr⟩ := dr.cons
      obtain ⟨d1, ds, rfl, b1, dr⟩ := dr.cons
      obtain ⟨d2, ds, rfl, b2, dr⟩ := dr.cons
      obtain ⟨d3, ds, rfl, b3, dr⟩ := dr.cons
      obtain ⟨d4, ds, rfl, b4, dr⟩ := dr.cons
      obtain ⟨d5, ds, rfl, b5, dr⟩ := dr.cons
      obtain ⟨d6, ds, rfl, b6, dr⟩ := dr.cons
      obtain ⟨d7, ds, rfl, b7, dr⟩ := dr.cons
      obtain rfl := dr.nil
      exact ⟨(same_upd nz).trans s', p, d0, d1, d2, d3, d4, d5, d6, d7, hp, b0, b1, ⟨b2, b3, b4⟩, ⟨b5, b6, b7⟩, rfl⟩
    rintro σ H1 ⟨s1, hd, d0, d1, d2, d3, d4, d5, d6, d7, hhd, b0, b1, bA, bB, rfl⟩
    -- reach
    refine ⟨fun σ H' => Same H1 H' ∧ ∃ r : Int, (0 ≤ r ∧ r < 10 ^ 30) ∧ σ = [some (.ref sc), some (.ref hd), some (.int r), none, none, none, none, none, none, none], ?_, ?_⟩
    · refine ⟨_, _, rfl, rfl, ⟨by decide, by decide, by decide⟩, _, _, rfl, rfl, (by show 3 ≤ sizeLine; decide), fun p np => ?_⟩
      have g1 := same_upd (o := .lst [.int 9, .int 999, .int (10 ^ (30 : Int).toNat - 1)]) np
      have pick : ∃ u : Int, atI ([.int 9, .int 999, .int (10 ^ (30 : Int).toNat - 1)] : List V) d1 = some (.int u) ∧ (0 ≤ u ∧ u < 10 ^ 30) := by
        have : d1 = 0 ∨ d1 = 1 ∨ d1 = 2 := by omega
        rcases this with rfl | rfl | rfl
        · exact ⟨9, rfl, by decide⟩
        · exact ⟨999, rfl, by decide⟩
        · exact ⟨10 ^ (30 : Int).toNat - 1, rfl, by decide⟩
      obtain ⟨u, hu, bu⟩ := pick
      exact ⟨_, rfl, hd, _, _, _, rfl, rfl, SqL.of (g1 _ _ hhd), rfl, p, _, _, _, rfl, rfl, SqL.of upd_same, hu, g1, u, bu, rfl⟩
    rintro σ H2 ⟨s2, r, br, rfl⟩
    have hhd := s2 _ _ hhd
    have hS2 := (s1.trans s2).seq hS
    have e30 : (10 : Int) ^ 30 = 1000000000000000000000000000000 := by decide
    rw [e30] at br
    -- row
    refine ⟨fun σ H' => Same H2 H' ∧ ∃ (rw : Addr) (l : List Int), H' rw = some (.lst (l.map V.int)) ∧ Trim l ∧ l.length ≤ 7 ∧ (∀ z ∈ l, z.natAbs < 10 ^ 30) ∧ σ = [some (.ref sc), some (.ref hd), some (.int r), some (.ref rw), none, none, none, none, none, none], ?_, ?_⟩
    · refine ⟨_, rfl, sc, ns, 1, rfl, hS2, fun c => ⟨_, rfl, hd, _, _, _, rfl, rfl, SqL.of hhd, rfl, _, rfl, c, d0.toNat, r, by rw [Int.toNat_of_nonneg b0.1] <;> rfl, by omega, br.1, by omega, fun p n1 H3 np len bd s3 hp => ?_⟩⟩
      refine ⟨p, n1, rfl, .inl (SqL.of hp), by omega, fun p2 H4 np2 s4 hp2 => ?_⟩
      refine ⟨s3.trans s4, p2, trim n1, hp2, trim_trim n1, ?_, fun z hz => ?_, rfl⟩
      · have := trim_few n1
        omega
      · have := bd z (trim_mem hz)
        omega
    rintro σ H3 ⟨s3, rw, l, hrw, tl, ll, bl, rfl⟩
    have hhd := s3 _ _ hhd
    have lg : ∀ z ∈ l, z.natAbs.log2 < 1920 := fun z hz => by
      have := bl z hz
      by_cases c : z.natAbs = 0
      · rw [c]
        decide
      · exact Nat.lt_of_lt_of_le ((Nat.log2_lt c).mpr (show z.natAbs < 2 ^ 100 by omega)) (by decide)
    obtain ⟨fdl, trl⟩ := num_rows tl bl
    -- poly
    refine ⟨fun σ H' => Same H3 H' ∧ ∃ po : Addr, PolyAt K C H' po l ∧ σ = [some (.ref sc), some (.ref hd), some (.int r), some (.ref rw), some (.ref po), none, none, none, none, none], ?_, ?_⟩
    · refine ⟨_, rfl, fun po dx nx ndx _ => make_poA (tup := false) (ns := l) nx ndx (SqL.of hrw) (by omega) fun H' pa s' => ⟨rfl, s', po, ?_, rfl⟩⟩
      rw [trim_of tl] at pa
      exact pa
    rintro σ H4 ⟨s4, po, hpo, rfl⟩
    have hhd := s4 _ _ hhd
    have hrw := s4 _ _ hrw
    -- words
    refine ⟨fun σ H' => Same H4 H' ∧ ∃ (wa : Addr) (x6 : Option V), H' wa = some (.lst ((l.map numT).map V.str)) ∧ σ = [some (.ref sc), some (.ref hd), some (.int r), some (.ref rw), some (.ref po), some (.ref wa), x6, none, none, none], ?_, ?_⟩
    · refine ⟨_, rfl, rw, rfl, ⟨_, SqL.of hrw⟩, fun D nD => lcMap walk_list ((l.map numT).map V.str) (by rw [List.length_map, List.length_map, List.length_map]) nD (fun H s => SqL.of (s _ _ hrw)) ?_ ?_⟩
      · rintro i x H5 _ hi s5 hL ⟨rfl, hx⟩
        obtain ⟨z, rfl, hz⟩ := item_int hx
        refine ⟨rfl, _, rfl, z, rfl, lg z (List.mem_of_getElem? hz), ?_⟩
        exact mapEnd nD (by rw [List.length_map, List.length_map]; omega) s5 hL (map_at (f := V.str) (by rw [List.getElem?_map, hz] <;> rfl))
      · intro H5 s5 hL
        exact ⟨s5, D, _, hL, rfl⟩
    rintro σ H5 ⟨s5, wa0, x6, hwa0, rfl⟩
    have hhd := s5 _ _ hhd
    have hrw := s5 _ _ hrw
    have hpo := hpo.same s5
    -- never no words
    refine ⟨fun σ H' => Same H5 H' ∧ ∃ (wa : Addr) (W : List Str), H' wa = some (.lst (W.map V.str)) ∧ Wd 8 W ∧ ptext l = Txt.join " " W ∧ FD W none ∧ trim (W.map valW) = l ∧ σ = [some (.ref sc), some (.ref hd), some (.int r), some (.ref rw), some (.ref po), some (.ref wa), x6, none, none, none], ?_, ?_⟩
    · refine ⟨_, rfl, (by show 0 ≤ sizeLine; decide), fun d1 nd1 => ?_⟩
      have g1 := same_upd (o := .lst []) nd1
      refine ⟨_, _, dp_strs (SqL.of (g1 _ _ hwa0)), dp_strs (l := []) (SqL.of upd_same), shaped_strs fun z hz => ?_, shaped_strs (fun _ h => nomatch h), _, rfl, ?_⟩
      · obtain ⟨k, _, rfl⟩ := List.mem_map.mp hz
        exact numT_str k
      rw [eqv_strs]
      by_cases c : l = []
      · refine if_pos_of (decide_eq_true (by rw [c] <;> rfl)) ⟨(by show 1 ≤ sizeLine; decide), fun d2 nd2 => ?_⟩
        refine ⟨g1.trans (same_upd nd2), d2, ["0"], upd_same, ⟨by decide, by decide, by unfold Gw; decide +kernel⟩, by rw [c]; decide +kernel, .none (fun j y hy => ?_) (fun h => absurd h.1 (by decide)), by rw [c]; decide +kernel, rfl⟩
        cases j with
        | zero =>
          obtain rfl := Option.some.inj hy
          decide +kernel
        | succ j => cases hy
      · refine if_neg_of (decide_eq_false (by simpa using c)) ⟨g1, wa0, l.map numT, g1 _ _ hwa0, ⟨?_, by rw [List.length_map]; omega, fun z hz => ?_⟩, if_neg c, fdl, trl, rfl⟩
        · rw [List.length_map]
          exact List.length_pos_iff.mpr c
        · obtain ⟨k, hk, rfl⟩ := List.mem_map.mp hz
          exact numT_gw (bl k hk)
    rintro σ H6 ⟨s6, wa, W, hwa, wd, ej, fdW, trW, rfl⟩
    have hhd := s6 _ _ hhd
    have hrw := s6 _ _ hrw
    have hpo := hpo.same s6
    have ws := wd.ws (by decide)
    -- the text
    refine ⟨fun σ H' => Same H6 H' ∧ σ = [some (.ref sc), some (.ref hd), some (.int r), some (.ref rw), some (.ref po), some (.ref wa), x6, none, none, none], ?_, ?_⟩
    · obtain ⟨dx, t, o1, o2⟩ := hpo.ob
      refine ⟨_, rfl, po, dx, _, rfl, o1, po, l, rfl, hpo, lg, fun H7 s7 => ?_⟩
      refine ⟨_, rfl, ⟨_, rfl⟩, _, rfl, _, wa, W, rfl, rfl, .inl (SqL.of (s7 _ _ hwa)), ws_sum ws, rfl, _, rfl, ?_⟩
      rw [ej]
      refine if_neg_of (by rw [str_eq, decide_eq_true rfl]; rfl) ?_
      refine ⟨rfl, _, rfl, po, dx, _, rfl, s7 _ _ o1, po, l, rfl, hpo.same s7, lg, fun H8 s8 => ⟨_, rfl, ?_⟩⟩
      have hs : Txt.split (ptext l) " " = W := by
        rw [ej]
        exact ws_split ws
      have few := ws.few
      refine ⟨ptext l, rfl, by rw [ej]; exact ws_len ws, by rw [hs]; exact ws.ne, by rw [hs]; omega, by rw [hs]; exact fun y hy => Nat.le_trans (ws.len y hy) (by decide), ?_, ?_⟩
      · rw [hs, trW]
        intro _ p2 H9 po2 s9
        have s79 := (s7.trans s8).trans s9
        refine ⟨_, rfl, useEqP po2 (hpo.same s79) ⟨_, rfl, if_neg_of (by rw [decide_eq_true rfl]; rfl) ?_⟩⟩
        refine ⟨_, rfl, wa, W, rfl, s79 _ _ hwa, ws, fun o t1 H10 fo at1 s10 => ?_⟩
        cases fo.one fdW
        refine ⟨_, rfl, (by show 2 ≤ sizeLine; decide), fun d2 nd2 => ?_⟩
        have g2 := same_upd (o := .lst [.str "row", .ref rw]) nd2
        have sg := (s79.trans s10).trans g2
        refine ⟨_, _, (at1.same g2).dp, .lst (SqL.of upd_same) (.cons (.str _) (.cons (dp_lst (SqL.of (sg _ _ hrw))) .nil)), tolD_ok W none, ?_, _, rfl, if_neg_of ?_ ⟨sg, rfl⟩⟩
        · rw [← tolD_row W l trW]
          exact tolD_ok W none
        · rw [tolD_row W l trW, ← tolD_row W l trW, tolD_refl]
          rfl
      · rw [hs]
        intro n fn
        cases fn.one fdW
    rintro σ H7 ⟨s7, rfl⟩
    have hhd := s7 _ _ hhd
    have hwa := s7 _ _ hwa
    clear hpo hrw ej fdW trW fdl trl lg hwa0
    -- the menu
    refine ⟨fun σ H' => Same H7 H' ∧ ∃ m : Addr, H' m = some (.lst ((menu33.take 15).map V.str)) ∧ σ = [some (.ref sc), some (.ref hd), some (.int r), some (.ref rw), some (.ref po), some (.ref wa), x6, some (.ref m), none, none], ?_, ?_⟩
    · refine ⟨_, _, rfl, rfl, by decide, by decide, by decide +kernel, by decide +kernel, ?_⟩
      refine ⟨_, _, rfl, rfl, by decide, by decide, by decide +kernel, by decide +kernel, ?_⟩
      refine ⟨_, _, rfl, rfl, by decide, by decide, by decide +kernel, by decide +kernel, ?_⟩
      refine ⟨_, _, rfl, rfl, ?_, (by show 15 ≤ sizeLine; decide), fun m nm => ⟨same_upd nm, m, upd_same, rfl⟩⟩
      have e : (repS ("9" : Str) (30 : Int).toNat).length = 30 := by rw [str_len, tl_rep1 (c := 57) (by decide +kernel), List.length_replicate] <;> rfl
      rw [e, sizeLine_eq]
      decide +kernel
    rintro σ H8 ⟨s8, m0, hm0, rfl⟩
    refine ⟨fun σ H' => Same H8 H' ∧ ∃ m : Addr, H' m = some (.lst (menu33.map V.str)) ∧ σ = [some (.ref sc), some (.ref hd), some (.int r), some (.ref rw), some (.ref po), some (.ref wa), x6, some (.ref m), none, none], ?_, ?_⟩
    · refine ⟨_, rfl, _, _, rfl, rfl, by decide, by decide, by decide +kernel, by decide +kernel, ?_⟩
      refine ⟨_, _, rfl, rfl, ?_, (by show 8 ≤ sizeLine; decide), fun p np => ?_⟩
      · have e : (repS ("0" : Str) (5000 : Int).toNat).length = 5000 := by rw [str_len, tl_rep1 (c := 48) (by decide +kernel), List.length_replicate] <;> rfl
        rw [e, sizeLine_eq]
        decide +kernel
      have g := same_upd (o := .lst ((menu33.drop 15).map V.str)) np
      refine ⟨m0, p, _, _, rfl, rfl, g _ _ hm0, upd_same, sz _ (by decide), fun q nq => ?_⟩
      exact ⟨g.trans (same_upd nq), q, upd_same, rfl⟩
    rintro σ H9 ⟨s9, m, hm, rfl⟩
    have hhd := s9 _ _ (s8 _ _ hhd)
    have hwa := s9 _ _ (s8 _ _ hwa)
    -- the changes
    refine ⟨fun σ H' => True, ?_, ?_⟩
    · refine ⟨_, rfl, _, rfl, _, rfl, hd, _, rfl, SqL.of hhd, fun e1 ne1 => ?_⟩
      have g1 := same_upd (o := .lst (cutV [.int d0, .int d1, .int d2, .int d3, .int d4, .int d5, .int d6, .int d7] (some 2) (some 5))) ne1
      have he1 : (upd H9 e1 (.lst (cutV [.int d0, .int d1, .int d2, .int d3, .int d4, .int d5, .int d6, .int d7] (some 2) (some 5)))) e1 = some (.lst [.int d2, .int d3, .int d4]) := upd_same
      refine ⟨_, rfl, _, rfl, _, rfl, hd, _, rfl, SqL.of (g1 _ _ hhd), fun e2 ne2 => ?_⟩
      generalize upd H9 e1 (.lst (cutV [.int d0, .int d1, .int d2, .int d3, .int d4, .int d5, .int d6, .int d7] (some 2) (some 5))) = G1 at g1 he1 ne2 ⊢
      have g2 := same_upd (o := .lst (cutV [.int d0, .int d1, .int d2, .int d3, .int d4, .int d5, .int d6, .int d7] (some 5) (some 8))) ne2
      have he2 : (upd G1 e2 (.lst (cutV [.int d0, .int d1, .int d2, .int d3, .int d4, .int d5, .int d6, .int d7] (some 5) (some 8)))) e2 = some (.lst [.int d5, .int d6, .int d7]) := upd_same
      generalize upd G1 e2 (.lst (cutV [.int d0, .int d1, .int d2, .int d3, .int d4, .int d5, .int d6, .int d7] (some 5) (some 8))) = G2 at g2 he2 ⊢
      refine ⟨(by show 2 ≤ sizeLine; decide), fun e3 ne3 => ?_⟩
      have g3 := same_upd (o := .lst [.ref e1, .ref e2]) ne3
      have he3 : (upd G2 e3 (.lst [.ref e1, .ref e2])) e3 = some (.lst [.ref e1, .ref e2]) := upd_same
      generalize upd G2 e3 (.lst [.ref e1, .ref e2]) = G3 at g3 he3 ⊢
      have he1 := (g2.trans g3) _ _ he1
      have he2 := g3 _ _ he2
      have hm := ((g1.trans g2).trans g3) _ _ hm
      have hwa := ((g1.trans g2).trans g3) _ _ hwa
      clear g1 g2 g3 hhd ne1 ne2 ne3
      refine ⟨e3, rfl, ⟨_, SqL.of he3⟩, for_list (K := K) (a := e3) (xs := [.ref e1, .ref e2]) (fun i σ H' => Same G3 H' ∧ ∃ (wb : Addr) (L : List Str) (x8 x9 : Option V), H' wb = some (.lst (L.map V.str)) ∧ Wd (8 + i) L ∧ σ = [some (.ref sc), some (.ref hd), some (.int r), some (.ref rw), some (.ref po), some (.ref wb), x6, some (.ref m), x8, x9])
        ⟨Same.refl _, wa, W, none, none, hwa, wd, rfl⟩ (fun i σ H' _ h => SqL.of (h.1 _ _ he3)) ?_ ?_⟩
      · rintro i y σ H1 hi ⟨t1, wb, L, x8, x9, hwb, wdL, rfl⟩
        have pick : i < 2 ∧ ∃ (ed : Addr) (a b c : Int), y = .ref ed ∧ G3 ed = some (.lst [.int a, .int b, .int c]) ∧ ((0 ≤ a ∧ a < 4) ∧ (0 ≤ b ∧ b < 9) ∧ (0 ≤ c ∧ c < 23)) := by
          match i, hi with
          | 0, hi => exact ⟨by decide, e1, d2, d3, d4, (Option.some.inj hi).symm, he1, bA⟩
          | 1, hi => exact ⟨by decide, e2, d5, d6, d7, (Option.some.inj hi).symm, he2, bB⟩
        obtain ⟨i2, ed, a, b, c, rfl, hed, ba, bb, bc⟩ := pick
        have hed := t1 _ _ hed
        have hm1 := t1 _ _ hm
        have few := wdL.few
        -- the place
        refine ⟨fun σ H' => H1 = H' ∧ ∃ p : Nat, p ≤ L.length ∧ σ = [some (.ref sc), some (.ref hd), some (.int r), some (.ref rw), some (.ref po), some (.ref wb), x6, some (.ref m), some (.ref ed), some (.int (p : Int))], ?_, ?_⟩
        · refine ⟨_, rfl, ed, _, _, _, rfl, rfl, SqL.of hed, rfl, _, rfl, wb, _, rfl, .inl (SqL.of hwb), _, _, rfl, rfl, _, _, rfl, rfl, ?_⟩
          rw [List.length_map]
          refine ⟨by show (0 : Int) < (L.length : Int) + 1; omega, rfl, (b % ((L.length : Int) + 1)).toNat, ?_, ?_⟩
          · have := Int.emod_lt_of_pos b (show (0 : Int) < (L.length : Int) + 1 by omega)
            omega
          · rw [Int.toNat_of_nonneg (Int.emod_nonneg _ (by omega))]
            rfl
        rintro σ _ ⟨rfl, p, hp, rfl⟩
        -- the change
        refine ⟨fun σ H' => Same H1 H' ∧ ∃ (wc : Addr) (L' : List Str), H' wc = some (.lst (L'.map V.str)) ∧ Wd (8 + (i + 1)) L' ∧ σ = [some (.ref sc), some (.ref hd), some (.int r), some (.ref rw), some (.ref po), some (.ref wc), x6, some (.ref m), some (.ref ed), some (.int (p : Int))], ?_, ?_⟩
        · have insA : ∀ q : Nat, p ≤ q → ∀ {z : Str}, Gw z → Wd (8 + (i + 1)) (L.take p ++ z :: L.drop q) := fun q hq z hz => wdL.ins hz hq
          obtain ⟨z, hz, hzm⟩ := at_someS (L := menu33) (v := c) bc.1 (by show c < 23; exact bc.2)
          have gz := menu33_gw z hzm
          have cutA : ∀ q : Nat, p ≤ q → (L.take p).map V.str ++ [.str z] ++ (L.drop q).map V.str = (L.take p ++ z :: L.drop q).map V.str := fun q _ => by simp
          have seven : ∀ n : Nat, n ≤ 100 → n ≤ sizeLine := fun n h => sz n (by omega)
          have hl2 : ∀ u : Nat, ((L.take p).map V.str).length ≤ 30 ∧ ((L.drop u).map V.str).length ≤ 30 := fun u => by
            rw [List.length_map, List.length_map, List.length_take, List.length_drop]
            omega
          have iw : (p : Int) + 1 = ((p + 1 : Nat) : Int) := by omega
          refine ⟨_, rfl, ed, _, _, _, rfl, rfl, SqL.of hed, rfl, rfl, _, rfl, ?_⟩
          by_cases ca : a = 0 ∧ 1 < L.length
          · refine if_pos_of (decide_eq_true (by rw [ca.1])) ?_
            refine ⟨_, rfl, wb, _, rfl, .inl (SqL.of hwb), _, _, rfl, rfl, _, rfl, ?_⟩
            rw [List.length_map]
            refine if_pos_of (decide_eq_true (by omega)) ?_
            refine ⟨_, rfl, _, rfl, _, rfl, wb, _, rfl, SqL.of hwb, fun a1 na1 => ?_⟩
            rw [cut_to]
            have g1 := same_upd (o := .lst ((L.take p).map V.str)) na1
            refine ⟨_, rfl, _, rfl, _, _, rfl, rfl, _, rfl, wb, _, rfl, SqL.of (g1 _ _ hwb), fun a2 na2 => ?_⟩
            rw [iw, cut_from]
            have g2 := same_upd (o := .lst ((L.drop (p + 1)).map V.str)) na2
            refine ⟨a1, a2, _, _, rfl, rfl, g2 _ _ upd_same, upd_same, seven _ (by have := hl2 (p + 1); omega), fun r nr => ?_⟩
            rw [← List.map_append]
            exact ⟨(g1.trans g2).trans (same_upd nr), r, _, upd_same, (wdL.cut ca.2 hp).mono (by omega), rfl⟩
          · by_cases c0 : a = 0
            · refine if_pos_of (decide_eq_true (by rw [c0])) ?_
              refine ⟨_, rfl, wb, _, rfl, .inl (SqL.of hwb), _, _, rfl, rfl, _, rfl, ?_⟩
              rw [List.length_map]
              refine if_neg_of (decide_eq_false fun h => ca ⟨c0, by omega⟩) ?_
              refine ⟨_, rfl, ed, _, _, _, rfl, rfl, SqL.of hed, rfl, rfl, _, rfl, if_neg_of (decide_eq_false fun h => ?_) ?_⟩
              · have := V.int.inj h
                omega
              refine ⟨_, rfl, _, rfl, _, rfl, wb, _, rfl, SqL.of hwb, fun a1 na1 => ?_⟩
              rw [cut_to]
              have g1 := same_upd (o := .lst ((L.take p).map V.str)) na1
              refine ⟨_, rfl, _, rfl, ed, _, _, _, rfl, rfl, SqL.of (g1 _ _ hed), rfl, m, _, _, _, rfl, rfl, SqL.of (g1 _ _ hm1), hz, (by show 1 ≤ sizeLine; decide), fun a2 na2 => ?_⟩
              have g2 := same_upd (o := .lst [.str z]) na2
              refine ⟨a1, a2, _, _, rfl, rfl, g2 _ _ upd_same, upd_same, seven _ (by have := hl2 0; show _ + 1 ≤ 100; omega), fun a3 na3 => ?_⟩
              have g3 := same_upd (o := .lst ((L.take p).map V.str ++ [.str z])) na3
              refine ⟨_, rfl, _, rfl, _, _, rfl, rfl, _, rfl, wb, _, rfl, SqL.of ((g1.trans (g2.trans g3)) _ _ hwb), fun a4 na4 => ?_⟩
              rw [iw, cut_from]
              have g4 := same_upd (o := .lst ((L.drop (p + 1)).map V.str)) na4
              refine ⟨a3, a4, _, _, rfl, rfl, g4 _ _ upd_same, upd_same, seven _ (by rw [List.length_append]; have := hl2 (p + 1); show _ + 1 + _ ≤ 100; omega), fun r nr => ?_⟩
              rw [cutA (p + 1) (by omega)]
              exact ⟨(g1.trans (g2.trans g3)).trans (g4.trans (same_upd nr)), r, _, upd_same, insA (p + 1) (by omega) gz, rfl⟩
            · refine if_neg_of (decide_eq_false fun h => c0 (V.int.inj h)) ?_
              refine ⟨_, rfl, ed, _, _, _, rfl, rfl, SqL.of hed, rfl, rfl, _, rfl, ?_⟩
              by_cases c1 : a = 1
              · refine if_pos_of (decide_eq_true (by rw [c1])) ?_
                refine ⟨_, rfl, _, rfl, _, rfl, wb, _, rfl, SqL.of hwb, fun a1 na1 => ?_⟩
                rw [cut_to]
                have g1 := same_upd (o := .lst ((L.take p).map V.str)) na1
                refine ⟨_, rfl, _, rfl, ed, _, _, _, rfl, rfl, SqL.of (g1 _ _ hed), rfl, m, _, _, _, rfl, rfl, SqL.of (g1 _ _ hm1), hz, (by show 1 ≤ sizeLine; decide), fun a2 na2 => ?_⟩
                have g2 := same_upd (o := .lst [.str z]) na2
                refine ⟨a1, a2, _, _, rfl, rfl, g2 _ _ upd_same, upd_same, seven _ (by have := hl2 0; show _ + 1 ≤ 100; omega), fun a3 na3 => ?_⟩
                have g3 := same_upd (o := .lst ((L.take p).map V.str ++ [.str z])) na3
                refine ⟨_, rfl, _, rfl, _, rfl, wb, _, rfl, SqL.of ((g1.trans (g2.trans g3)) _ _ hwb), fun a4 na4 => ?_⟩
                rw [cut_from]
                have g4 := same_upd (o := .lst ((L.drop p).map V.str)) na4
                refine ⟨a3, a4, _, _, rfl, rfl, g4 _ _ upd_same, upd_same, seven _ (by rw [List.length_append]; have := hl2 p; show _ + 1 + _ ≤ 100; omega), fun r nr => ?_⟩
                rw [cutA p (by omega)]
                exact ⟨(g1.trans (g2.trans g3)).trans (g4.trans (same_upd nr)), r, _, upd_same, insA p (by omega) gz, rfl⟩
              · refine if_neg_of (decide_eq_false fun h => c1 (V.int.inj h)) ?_
                refine ⟨_, rfl, _, rfl, _, rfl, wb, _, rfl, SqL.of hwb, fun a1 na1 => ?_⟩
                rw [cut_to]
                have g1 := same_upd (o := .lst ((L.take p).map V.str)) na1
                refine ⟨_, rfl, _, rfl, ed, _, _, _, rfl, rfl, SqL.of (g1 _ _ hed), rfl, m, _, _, _, rfl, rfl, SqL.of (g1 _ _ hm1), hz, (by show 1 ≤ sizeLine; decide), fun a2 na2 => ?_⟩
                have g2 := same_upd (o := .lst [.str z]) na2
                refine ⟨a1, a2, _, _, rfl, rfl, g2 _ _ upd_same, upd_same, seven _ (by have := hl2 0; show _ + 1 ≤ 100; omega), fun a3 na3 => ?_⟩
                have g3 := same_upd (o := .lst ((L.take p).map V.str ++ [.str z])) na3
                refine ⟨_, rfl, _, rfl, _, _, rfl, rfl, _, rfl, wb, _, rfl, SqL.of ((g1.trans (g2.trans g3)) _ _ hwb), fun a4 na4 => ?_⟩
                rw [iw, cut_from]
                have g4 := same_upd (o := .lst ((L.drop (p + 1)).map V.str)) na4
                refine ⟨a3, a4, _, _, rfl, rfl, g4 _ _ upd_same, upd_same, seven _ (by rw [List.length_append]; have := hl2 (p + 1); show _ + 1 + _ ≤ 100; omega), fun r nr => ?_⟩
                rw [cutA (p + 1) (by omega)]
                exact ⟨(g1.trans (g2.trans g3)).trans (g4.trans (same_upd nr)), r, _, upd_same, insA (p + 1) (by omega) gz, rfl⟩
        rintro σ H2 ⟨t2, wc, L', hwc, wd', rfl⟩
        have ws' := wd'.ws (by omega)
        have t12 := t1.trans t2
        obtain ⟨o, fo⟩ := fd_ex L'
        refine ⟨_, rfl, wc, L', rfl, hwc, ws', fun o1 r1 H3 f1 at1 t3 => ?_⟩
        cases f1.one fo
        refine ⟨_, rfl, wc, L', rfl, SqL.of (t3 _ _ hwc), ws', fun o2 r2 H4 f2 at2 t4 => ?_⟩
        cases f2.one fo
        refine ⟨_, _, (at1.same t4).dp, at2.dp, tolD_ok _ _, tolD_ok _ _, _, rfl, if_neg_of (by rw [tolD_refl]; rfl) ?_⟩
        have hwc4 := (t3.trans t4) _ _ hwc
        refine ⟨_, rfl, wc, L', rfl, hwc4, ws', fun o1 r1 H5 f1 at1 t5 => ?_⟩
        cases f1.one fo
        refine ⟨_, rfl, wc, L', rfl, SqL.of (t5 _ _ hwc4), ws', fun o2 r2 H6 f2 at2 t6 => ?_⟩
        cases f2.one fo
        refine ⟨_, _, (at1.same t6).dp, at2.dp, tolD_ok _ _, tolD_ok _ _, _, rfl, if_neg_of (by rw [tolD_refl]; rfl) ?_⟩
        exact ⟨t12.trans ((t3.trans t4).trans (t5.trans t6)), wc, L', _, _, (t5.trans t6) _ _ hwc4, wd', rfl⟩
      · rintro σ H1 ⟨t1, wb, L, x8, x9, hwb, wdL, rfl⟩
        exact trivial
    rintro σ H10 _
    -- the end
    refine ⟨(by show 1 ≤ sizeLine; decide), fun w1 nw1 => ?_⟩
    refine ⟨w1, [""], rfl, upd_same, ⟨by decide, by decide, by decide +kernel, by decide +kernel⟩, fun o1 r1 K1 f1 at1 t1 => ?_⟩
    have z1 : FD [("" : Str)] (some 0) := .word (z := "") rfl (by decide +kernel) fun j y hj => absurd hj (Nat.not_lt_zero j)
    cases f1.one z1
    refine ⟨(by show 2 ≤ sizeLine; decide), fun v1 nv1 => ?_⟩
    refine ⟨_, _, (at1.same (same_upd nv1)).dp, .lst (SqL.of upd_same) (.cons (.str _) (.cons (.int _) .nil)), tolD_ok _ _, by decide +kernel, _, rfl, if_pos_of (by decide +kernel) ?_⟩
    refine ⟨(by show 2 ≤ sizeLine; decide), fun w2 nw2 => ?_⟩
    refine ⟨w2, ["1", "0"], rfl, upd_same, ⟨by decide, by decide, by decide +kernel, by decide +kernel⟩, fun o2 r2 K2 f2 at2 t2 => ?_⟩
    have z2 : FD [("1" : Str), "0"] (some 1) := .last (L := ["1", "0"]) (fun j y hy => by
      match j, hy with
      | 0, hy => rw [← Option.some.inj hy]; decide +kernel
      | 1, hy => rw [← Option.some.inj hy]; decide +kernel) (by decide) rfl
    cases f2.one z2
    refine ⟨(by show 2 ≤ sizeLine; decide), fun v2 nv2 => ?_⟩
    refine ⟨_, _, (at2.same (same_upd nv2)).dp, .lst (SqL.of upd_same) (.cons (.str _) (.cons (.int _) .nil)), tolD_ok _ _, by decide +kernel, _, rfl, if_pos_of (by decide +kernel) ?_⟩
    refine ⟨(by show 1 ≤ sizeLine; decide), fun w3 nw3 => ?_⟩
    refine ⟨w3, ["0"], rfl, upd_same, ⟨by decide, by decide, by decide +kernel, by decide +kernel⟩, fun o3 r3 K3 f3 at3 t3 => ?_⟩
    have z3 : FD [("0" : Str)] none := .none (fun j y hy => by
      match j, hy with
      | 0, hy => rw [← Option.some.inj hy]; decide +kernel) fun h => absurd h.1 (by decide)
    cases f3.one z3
    refine ⟨(by show 0 ≤ sizeLine; decide), fun v3 nv3 => ⟨(by show 2 ≤ sizeLine; decide), fun v4 nv4 => ?_⟩⟩
    have g3 := same_upd (o := .lst []) nv3
    have g4 := same_upd (o := .lst [.str "row", .ref v3]) nv4
    have e : trim ((["0"] : List Str).map valW) = [] := by decide +kernel
    refine ⟨_, _, (at3.same (g3.trans g4)).dp, .lst (SqL.of upd_same) (.cons (.str _) (.cons (dp_lst (l := []) (SqL.of (g4 _ _ upd_same))) .nil)), tolD_ok _ _, by decide +kernel, ?_⟩
    rw [tolD_row _ [] e]
    have q := q (upd (upd K3 v3 (.lst [])) v4 (.lst [.str "row", .ref v3]))
    exact q
end
theorem all_mk {P : Program} {w : World} {K : PySem.W.Frag} {h : Heap} {mg : Str → Option Value} {fa : Addr} (X : K.In h) (G : h.Ns mainGlobals mg) (hfa : mg "law" = some (.ref fa))
    {f_isnum : Addr} {od_isnum an_isnum : Option Addr} {sl_isnum : Array (Option Value)} {oc_isnum kV_isnum dc_isnum pm_isnum cd_isnum ct_isnum : Value}
    {f_isint : Addr} {od_isint an_isint : Option Addr} {sl_isint : Array (Option Value)} {oc_isint kV_isint dc_isint pm_isint cd_isint ct_isint : Value}
    {f_cell : Addr} {od_cell an_cell : Option Addr} {sl_cell : Array (Option Value)} {oc_cell kV_cell dc_cell pm_cell cd_cell ct_cell : Value}
    {f_draws : Addr} {od_draws an_draws : Option Addr} {sl_draws : Array (Option Value)} {oc_draws kV_draws dc_draws pm_draws cd_draws ct_draws : Value}
    {f_lisint : Addr} {od_lisint an_lisint : Option Addr} {sl_lisint : Array (Option Value)} {oc_lisint kV_lisint dc_lisint pm_lisint cd_lisint ct_lisint : Value}
    {f_lplain : Addr} {od_lplain an_lplain : Option Addr} {sl_lplain : Array (Option Value)} {oc_lplain kV_lplain dc_lplain pm_lplain cd_lplain ct_lplain : Value}
    {f_lrow : Addr} {od_lrow an_lrow : Option Addr} {sl_lrow : Array (Option Value)} {oc_lrow kV_lrow dc_lrow pm_lrow cd_lrow ct_lrow : Value}
    {f_lisw : Addr} {od_lisw an_lisw : Option Addr} {sl_lisw : Array (Option Value)} {oc_lisw kV_lisw dc_lisw pm_lisw cd_lisw ct_lisw : Value}
    {f_lfault : Addr} {od_lfault an_lfault : Option Addr} {sl_lfault : Array (Option Value)} {oc_lfault kV_lfault dc_lfault pm_lfault cd_lfault ct_lfault : Value}
    {f_ldue : Addr} {od_ldue an_ldue : Option Addr} {sl_ldue : Array (Option Value)} {oc_ldue kV_ldue dc_ldue pm_ldue cd_ldue ct_ldue : Value}
    {f_ltold : Addr} {od_ltold an_ltold : Option Addr} {sl_ltold : Array (Option Value)} {oc_ltold kV_ltold dc_ltold pm_ltold cd_ltold ct_ltold : Value}
    {f_law : Addr} {od_law an_law : Option Addr} {sl_law : Array (Option Value)} {oc_law kV_law dc_law pm_law cd_law ct_law : Value}
    {CF : Addr}
    {C_ibt f_ibt : Addr} {nm_ibt q_ibt : Str} {N_ibt : Addr} {bs_ibt sb_ibt : List Value} {sn_ibt : List Str} {ab_ibt : Bool} {co_ibt : Option Bool} {dd_ibt : Option Addr} {x0_ibt x1_ibt x2_ibt x3_ibt x5_ibt : Option Value} {od_ibt an_ibt : Option Addr} {sl_ibt : Array (Option Value)} {oc_ibt kV_ibt dc_ibt pm_ibt cd_ibt ct_ibt : Value}
    {C_po : Addr}
    {f_pinit : Addr} {od_pinit an_pinit : Option Addr} {sl_pinit : Array (Option Value)} {oc_pinit kV_pinit dc_pinit pm_pinit cd_pinit ct_pinit : Value}
    {f_pstr : Addr} {od_pstr an_pstr : Option Addr} {sl_pstr : Array (Option Value)} {oc_pstr kV_pstr dc_pstr pm_pstr cd_pstr ct_pstr : Value}
    {f_peq : Addr} {od_peq an_peq : Option Addr} {sl_peq : Array (Option Value)} {oc_peq kV_peq dc_peq pm_peq cd_peq ct_peq : Value}
    {f_pread : Addr} {od_pread an_pread : Option Addr} {sl_pread : Array (Option Value)} {oc_pread kV_pread dc_pread pm_pread cd_pread ct_pread : Value}
    {p_pread : Addr} {r_pread : List Value}
    {tM : Tok}
    (a_isnum : PySem.W.nsIn K mainGlobals "is_number" = some (some (.ref f_isnum))) (l_isnum : K.lookup f_isnum = some ⟨oc_isnum, od_isnum, .func (PySem.W.fnOf "is_number" "is_number" (defArgs s_isnum) (defBody s_isnum) (defScope s_isnum) .none kV_isnum dc_isnum pm_isnum an_isnum cd_isnum ct_isnum), sl_isnum⟩) (c_isnum : PySem.W.codeIn K cd_isnum "is_number" = true) (k_isnum : PySem.W.keepIn K (.ref f_isnum) = true)
    (a_isint : PySem.W.nsIn K mainGlobals "is_integer" = some (some (.ref f_isint))) (l_isint : K.lookup f_isint = some ⟨oc_isint, od_isint, .func (PySem.W.fnOf "is_integer" "is_integer" (defArgs s_isint) (defBody s_isint) (defScope s_isint) .none kV_isint dc_isint pm_isint an_isint cd_isint ct_isint), sl_isint⟩) (c_isint : PySem.W.codeIn K cd_isint "is_integer" = true) (k_isint : PySem.W.keepIn K (.ref f_isint) = true)
    (a_cell : PySem.W.nsIn K mainGlobals "_law_cell" = some (some (.ref f_cell))) (l_cell : K.lookup f_cell = some ⟨oc_cell, od_cell, .func (PySem.W.fnOf "_law_cell" "_law_cell" (defArgs s_cell) (defBody s_cell) (defScope s_cell) .none kV_cell dc_cell pm_cell an_cell cd_cell ct_cell), sl_cell⟩) (c_cell : PySem.W.codeIn K cd_cell "_law_cell" = true) (k_cell : PySem.W.keepIn K (.ref f_cell) = true)
    (a_draws : PySem.W.nsIn K mainGlobals "_law_draws" = some (some (.ref f_draws))) (l_draws : K.lookup f_draws = some ⟨oc_draws, od_draws, .func (PySem.W.fnOf "_law_draws" "_law_draws" (defArgs s_draws) (defBody s_draws) (defScope s_draws) .none kV_draws dc_draws pm_draws an_draws cd_draws ct_draws), sl_draws⟩) (c_draws : PySem.W.codeIn K cd_draws "_law_draws" = true) (k_draws : PySem.W.keepIn K (.ref f_draws) = true)
    (a_lisint : PySem.W.nsIn K mainGlobals "_law_is_integer" = some (some (.ref f_lisint))) (l_lisint : K.lookup f_lisint = some ⟨oc_lisint, od_lisint, .func (PySem.W.fnOf "_law_is_integer" "_law_is_integer" (defArgs s_lisint) (defBody s_lisint) (defScope s_lisint) .none kV_lisint dc_lisint pm_lisint an_lisint cd_lisint ct_lisint), sl_lisint⟩) (c_lisint : PySem.W.codeIn K cd_lisint "_law_is_integer" = true) (k_lisint : PySem.W.keepIn K (.ref f_lisint) = true)
    (a_lplain : PySem.W.nsIn K mainGlobals "_law_plain" = some (some (.ref f_lplain))) (l_lplain : K.lookup f_lplain = some ⟨oc_lplain, od_lplain, .func (PySem.W.fnOf "_law_plain" "_law_plain" (defArgs s_lplain) (defBody s_lplain) (defScope s_lplain) .none kV_lplain dc_lplain pm_lplain an_lplain cd_lplain ct_lplain), sl_lplain⟩) (c_lplain : PySem.W.codeIn K cd_lplain "_law_plain" = true) (k_lplain : PySem.W.keepIn K (.ref f_lplain) = true)
    (a_lrow : PySem.W.nsIn K mainGlobals "_law_row" = some (some (.ref f_lrow))) (l_lrow : K.lookup f_lrow = some ⟨oc_lrow, od_lrow, .func (PySem.W.fnOf "_law_row" "_law_row" (defArgs s_lrow) (defBody s_lrow) (defScope s_lrow) .none kV_lrow dc_lrow pm_lrow an_lrow cd_lrow ct_lrow), sl_lrow⟩) (c_lrow : PySem.W.codeIn K cd_lrow "_law_row" = true) (k_lrow : PySem.W.keepIn K (.ref f_lrow) = true)
    (a_lisw : PySem.W.nsIn K mainGlobals "_law_is_word" = some (some (.ref f_lisw))) (l_lisw : K.lookup f_lisw = some ⟨oc_lisw, od_lisw, .func (PySem.W.fnOf "_law_is_word" "_law_is_word" (defArgs s_lisw) (defBody s_lisw) (defScope s_lisw) .none kV_lisw dc_lisw pm_lisw an_lisw cd_lisw ct_lisw), sl_lisw⟩) (c_lisw : PySem.W.codeIn K cd_lisw "_law_is_word" = true) (k_lisw : PySem.W.keepIn K (.ref f_lisw) = true)
    (a_lfault : PySem.W.nsIn K mainGlobals "_law_fault" = some (some (.ref f_lfault))) (l_lfault : K.lookup f_lfault = some ⟨oc_lfault, od_lfault, .func (PySem.W.fnOf "_law_fault" "_law_fault" (defArgs s_lfault) (defBody s_lfault) (defScope s_lfault) .none kV_lfault dc_lfault pm_lfault an_lfault cd_lfault ct_lfault), sl_lfault⟩) (c_lfault : PySem.W.codeIn K cd_lfault "_law_fault" = true) (k_lfault : PySem.W.keepIn K (.ref f_lfault) = true)
    (a_ldue : PySem.W.nsIn K mainGlobals "_law_due" = some (some (.ref f_ldue))) (l_ldue : K.lookup f_ldue = some ⟨oc_ldue, od_ldue, .func (PySem.W.fnOf "_law_due" "_law_due" (defArgs s_ldue) (defBody s_ldue) (defScope s_ldue) .none kV_ldue dc_ldue pm_ldue an_ldue cd_ldue ct_ldue), sl_ldue⟩) (c_ldue : PySem.W.codeIn K cd_ldue "_law_due" = true) (k_ldue : PySem.W.keepIn K (.ref f_ldue) = true)
    (a_ltold : PySem.W.nsIn K mainGlobals "_law_told" = some (some (.ref f_ltold))) (l_ltold : K.lookup f_ltold = some ⟨oc_ltold, od_ltold, .func (PySem.W.fnOf "_law_told" "_law_told" (defArgs s_ltold) (defBody s_ltold) (defScope s_ltold) .none kV_ltold dc_ltold pm_ltold an_ltold cd_ltold ct_ltold), sl_ltold⟩) (c_ltold : PySem.W.codeIn K cd_ltold "_law_told" = true) (k_ltold : PySem.W.keepIn K (.ref f_ltold) = true)
    (a_law : PySem.W.nsIn K mainGlobals "law" = some (some (.ref f_law))) (l_law : K.lookup f_law = some ⟨oc_law, od_law, .func (PySem.W.fnOf "law" "law" (defArgs s_law) (defBody s_law) (defScope s_law) .none kV_law dc_law pm_law an_law cd_law ct_law), sl_law⟩) (c_law : PySem.W.codeIn K cd_law "law" = true) (k_law : PySem.W.keepIn K (.ref f_law) = true)
    (aF : PySem.W.nsIn K mainGlobals "FieldError" = some (some (.ref CF))) (rF : PySem.W.readsIn K CF (.type "type") = true) (gF : PySem.W.specialIn K (.ref CF) "__getattribute__" = some (some (.builtin "type.__getattribute__"))) (iF : PySem.W.findCls K (.ref CF) (.type "type") "__init__" = some (.val (.builtin "ValueError.__init__")))
    (aC_ibt : PySem.W.nsIn K mainGlobals "BadText" = some (some (.ref C_ibt))) (xC_ibt : K.lookup C_ibt = some (excClassObj nm_ibt q_ibt C_ibt N_ibt bs_ibt [.ref CF, .type "ValueError", .type "Exception", .type "BaseException", .type "object"] true sn_ibt sb_ibt ab_ibt co_ibt dd_ibt x0_ibt x1_ibt x2_ibt x3_ibt x5_ibt "ValueError.__new__")) (sa_ibt : PySem.W.findIn K (.ref C_ibt) "__setattr__" = some (some (.builtin "object.__setattr__"))) (ga_ibt : PySem.W.findIn K (.ref C_ibt) "__getattribute__" = some (some (.builtin "BaseException.__getattribute__"))) (gg_ibt : PySem.W.findIn K (.ref C_ibt) "__getattr__" = some none) (no_ibt : PySem.W.findIn K (.ref C_ibt) "at" = some none) (ic_ibt : PySem.W.findIn K (.ref C_ibt) "__init__" = some (some (.ref f_ibt))) (ti_ibt : PySem.W.typeIn K (.ref f_ibt) = some (.type "function")) (kc_ibt : PySem.W.keepIn K (.ref C_ibt) = true) (ec_ibt : PySem.W.subIn K (.ref C_ibt) (.type "BaseException") = some true) (tc_ibt : PySem.W.typeIn K (.ref C_ibt) = some (.type "type")) (hd_ibt : PySem.W.hasDictIn K C_ibt = true) (is_ibt : PySem.W.isClsIn K C_ibt = true) (sc_ibt : PySem.W.subIn K (.ref C_ibt) (.ref C_ibt) = some true) (l_ibt : K.lookup f_ibt = some ⟨oc_ibt, od_ibt, .func (PySem.W.fnOf "__init__" "BadText.__init__" (defArgs s_ibt) (defBody s_ibt) (defScope s_ibt) .none kV_ibt dc_ibt pm_ibt an_ibt cd_ibt ct_ibt), sl_ibt⟩) (c_ibt : PySem.W.codeIn K cd_ibt "BadText.__init__" = true) (k_ibt : PySem.W.keepIn K (.ref f_ibt) = true)
    (K_aK : PySem.W.nsIn K mainGlobals "Poly" = some (some (.ref C_po)))
    (K_pg : PySem.W.plainGet K C_po Str.empty = true)
    (K_hd : PySem.W.hasDictIn K C_po = true)
    (K_po : PySem.W.plainOver K C_po = true)
    (K_sa : PySem.W.findIn K (.ref C_po) "__setattr__" = some (some (.builtin "object.__setattr__")))
    (K_sf : PySem.W.selfFirst K C_po = true)
    (K_ha : PySem.W.findIn K (.ref C_po) "__class__" = some (some (.builtin "object.__class__")))
    (K_hn : PySem.W.specialIn K (.builtin "object.__class__") "__get__" = some (some (.builtin "getset_descriptor.__get__")))
    (K_htk : PySem.W.takesIn K (.builtin "object.__class__") = some true)
    (K_hm : PySem.W.mroIn K C_po (.type "object") = some true)
    (K_mk : PySem.W.makesIn K C_po = true)
    (K_kp : PySem.W.keepIn K (.ref C_po) = true)
    (K_no_coefficients : PySem.W.findIn K (.ref C_po) "coefficients" = some none)
    (K_rd : PySem.W.readsIn K C_po (.type "type") = true)
    (K_sg : PySem.W.specialIn K (.ref C_po) "__getattribute__" = some (some (.builtin "type.__getattribute__")))
    (K_at_pinit : PySem.W.findIn K (.ref C_po) "__init__" = some (some (.ref f_pinit)))
    (K_fn_pinit : PySem.W.isFn K (.ref f_pinit) = true)
    (K_l_pinit : K.lookup f_pinit = some ⟨oc_pinit, od_pinit, .func (PySem.W.fnOf "__init__" "Poly.__init__" (defArgs s_pinit) (defBody s_pinit) (defScope s_pinit) .none kV_pinit dc_pinit pm_pinit an_pinit cd_pinit ct_pinit), sl_pinit⟩)
    (K_c_pinit : PySem.W.codeIn K cd_pinit "Poly.__init__" = true)
    (K_k_pinit : PySem.W.keepIn K (.ref f_pinit) = true)
    (K_at_pstr : PySem.W.findIn K (.ref C_po) "__str__" = some (some (.ref f_pstr)))
    (K_fn_pstr : PySem.W.isFn K (.ref f_pstr) = true)
    (K_l_pstr : K.lookup f_pstr = some ⟨oc_pstr, od_pstr, .func (PySem.W.fnOf "__str__" "Poly.__str__" (defArgs s_pstr) (defBody s_pstr) (defScope s_pstr) .none kV_pstr dc_pstr pm_pstr an_pstr cd_pstr ct_pstr), sl_pstr⟩)
    (K_c_pstr : PySem.W.codeIn K cd_pstr "Poly.__str__" = true)
    (K_k_pstr : PySem.W.keepIn K (.ref f_pstr) = true)
    (K_at_peq : PySem.W.findIn K (.ref C_po) "__eq__" = some (some (.ref f_peq)))
    (K_fn_peq : PySem.W.isFn K (.ref f_peq) = true)
    (K_l_peq : K.lookup f_peq = some ⟨oc_peq, od_peq, .func (PySem.W.fnOf "__eq__" "Poly.__eq__" (defArgs s_peq) (defBody s_peq) (defScope s_peq) .none kV_peq dc_peq pm_peq an_peq cd_peq ct_peq), sl_peq⟩)
    (K_c_peq : PySem.W.codeIn K cd_peq "Poly.__eq__" = true)
    (K_k_peq : PySem.W.keepIn K (.ref f_peq) = true)
    (K_at_pread : PySem.W.findCls K (.ref C_po) (.type "type") "read" = some (.get (.builtin "classmethod.__get__") (.ref p_pread) .none (.ref C_po)))
    (K_rc_pread : PySem.W.recIn K p_pread "classmethod" = some (.ref f_pread :: r_pread))
    (K_fi_pread : PySem.W.fnIn K f_pread = true)
    (K_l_pread : K.lookup f_pread = some ⟨oc_pread, od_pread, .func (PySem.W.fnOf "read" "Poly.read" (defArgs s_pread) (defBody s_pread) (defScope s_pread) .none kV_pread dc_pread pm_pread an_pread cd_pread ct_pread), sl_pread⟩)
    (K_c_pread : PySem.W.codeIn K cd_pread "Poly.read" = true)
    (K_k_pread : PySem.W.keepIn K (.ref f_pread) = true)
    (z_int : PySem.W.nsIn K mainGlobals "int" = some none)
    (z_len : PySem.W.nsIn K mainGlobals "len" = some none)
    (z_abs : PySem.W.nsIn K mainGlobals "abs" = some none)
    (z_isinstance : PySem.W.nsIn K mainGlobals "isinstance" = some none)
    (z_bool : PySem.W.nsIn K mainGlobals "bool" = some none)
    (z_tuple : PySem.W.nsIn K mainGlobals "tuple" = some none)
    (z_list : PySem.W.nsIn K mainGlobals "list" = some none)
    (z_str : PySem.W.nsIn K mainGlobals "str" = some none)
    (z_range : PySem.W.nsIn K mainGlobals "range" = some none)
    (z_max : PySem.W.nsIn K mainGlobals "max" = some none)
    (z_min : PySem.W.nsIn K mainGlobals "min" = some none)
    (z_sorted : PySem.W.nsIn K mainGlobals "sorted" = some none)
    (z_set : PySem.W.nsIn K mainGlobals "set" = some none)
    (z_all : PySem.W.nsIn K mainGlobals "all" = some none)
    (z_enumerate : PySem.W.nsIn K mainGlobals "enumerate" = some none)
    (g_MOST_DIGITS : PySem.W.nsIn K mainGlobals "MOST_DIGITS" = some (some (.int 30 tM))) :
    ∃ fd : FuncData, (∀ (s : Shared) (v : Value), BindsTo s fd ⟨[v], []⟩ [("_law_script", v)]) ∧ ∀ base : Heap, K.In base → base.Ns mainGlobals mg → FnOk P w K mg base CX0 7 fa fd ["_law_script"] (spLaw K) := by
  have e := hfa.symm.trans (PySem.W.mg_of X G a_law)
  cases e
  have T : Txt mg := ⟨PySem.W.mg_none_of X G z_int, PySem.W.mg_none_of X G z_len, PySem.W.mg_none_of X G z_abs, PySem.W.mg_none_of X G z_isinstance, PySem.W.mg_none_of X G z_bool, PySem.W.mg_none_of X G z_tuple, PySem.W.mg_none_of X G z_list, PySem.W.mg_none_of X G z_str, PySem.W.mg_none_of X G z_range, PySem.W.mg_none_of X G z_max, PySem.W.mg_none_of X G z_min, PySem.W.mg_none_of X G z_sorted, PySem.W.mg_none_of X G z_set⟩
  have n_all := PySem.W.mg_none_of X G z_all
  have n_enumerate := PySem.W.mg_none_of X G z_enumerate
  have TF : FErr K mg CF := ⟨PySem.W.mg_of X G aF, rF, gF, iF⟩
  have F_ibt := fun_mk (st := s_ibt) l_ibt c_ibt k_ibt
  have b_ibt := F_ibt.binds (ps := ["self", "at"]) fun _ _ _ _ _ _ us hl => match us, hl with | [_, _], _ => rfl
  have E_ibt : ErrC K mg "BadText" "at" C_ibt f_ibt := ⟨PySem.W.mg_of X G aC_ibt, ⟨⟨_, _, _, _, _, _, _, _, _, _, _, _, _, _, _, xC_ibt, rfl⟩, sa_ibt, ec_ibt, tc_ibt, kc_ibt⟩, no_ibt, ic_ibt, ti_ibt, ⟨ga_ibt, gg_ibt, ec_ibt, hd_ibt⟩, exm_me ec_ibt is_ibt tc_ibt sc_ibt⟩
  have TC : PoT K mg C_po := ⟨PySem.W.mg_of X G K_aK, ⟨K_pg, K_hd, K_po, K_sa⟩, K_no_coefficients, K_sf, ⟨⟨K_pg, K_hd, K_po, K_sa⟩, K_ha, K_hn, K_htk, K_hm, if_pos (beq_self_eq_true _)⟩⟩
  have F_pinit := fun_mk (st := s_pinit) K_l_pinit K_c_pinit K_k_pinit
  have b_pinit := F_pinit.binds (ps := ["self", "coefficients"]) fun _ _ _ _ _ _ us hl => match us, hl with | [_, _], _ => rfl
  have F_pstr := fun_mk (st := s_pstr) K_l_pstr K_c_pstr K_k_pstr
  have b_pstr := F_pstr.binds (ps := ["self"]) fun _ _ _ _ _ _ us hl => match us, hl with | [_], _ => rfl
  have M_pstr : Meth K C_po "__str__" f_pstr := ⟨K_at_pstr, K_fn_pstr, K_k_pstr⟩
  have F_peq := fun_mk (st := s_peq) K_l_peq K_c_peq K_k_peq
  have b_peq := F_peq.binds (ps := ["self", "other"]) fun _ _ _ _ _ _ us hl => match us, hl with | [_, _], _ => rfl
  have M_peq : Meth K C_po "__eq__" f_peq := ⟨K_at_peq, K_fn_peq, K_k_peq⟩
  have F_pread := fun_mk (st := s_pread) K_l_pread K_c_pread K_k_pread
  have b_pread := F_pread.binds (ps := ["cls", "text"]) fun _ _ _ _ _ _ us hl => match us, hl with | [_, _], _ => rfl
  have M_pread : ClX.CMet K C_po (.type "type") "read" p_pread f_pread := ⟨K_at_pread, ⟨_, K_rc_pread⟩, K_fi_pread⟩
  have CR : ClX.CRead K C_po (.type "type") := ⟨K_rd, K_sg⟩
  have F_isnum := fun_mk (st := s_isnum) l_isnum c_isnum k_isnum
  have b_isnum := F_isnum.binds (ps := ["word", "most"]) fun _ _ _ _ _ _ us hl => match us, hl with | [_, _], _ => rfl
  have F_isint := fun_mk (st := s_isint) l_isint c_isint k_isint
  have b_isint := F_isint.binds (ps := ["word"]) fun _ _ _ _ _ _ us hl => match us, hl with | [_], _ => rfl
  have F_cell := fun_mk (st := s_cell) l_cell c_cell k_cell
  have b_cell := F_cell.binds (ps := ["_law_script", "_law_k"]) fun _ _ _ _ _ _ us hl => match us, hl with | [_, _], _ => rfl
  have F_draws := fun_mk (st := s_draws) l_draws c_draws k_draws
  have b_draws := F_draws.binds (ps := ["_law_cell_here", "_law_sizes"]) fun _ _ _ _ _ _ us hl => match us, hl with | [_, _], _ => rfl
  have F_lisint := fun_mk (st := s_lisint) l_lisint c_lisint k_lisint
  have b_lisint := F_lisint.binds (ps := ["_law_actual"]) fun _ _ _ _ _ _ us hl => match us, hl with | [_], _ => rfl
  have F_lplain := fun_mk (st := s_lplain) l_lplain c_lplain k_lplain
  have b_lplain := F_lplain.binds (ps := ["_law_row_here"]) fun _ _ _ _ _ _ us hl => match us, hl with | [_], _ => rfl
  have F_lrow := fun_mk (st := s_lrow) l_lrow c_lrow k_lrow
  have b_lrow := F_lrow.binds (ps := ["_law_cell_here", "_law_many", "_law_reach"]) fun _ _ _ _ _ _ us hl => match us, hl with | [_, _, _], _ => rfl
  have F_lisw := fun_mk (st := s_lisw) l_lisw c_lisw k_lisw
  have b_lisw := F_lisw.binds (ps := ["_law_word"]) fun _ _ _ _ _ _ us hl => match us, hl with | [_], _ => rfl
  have F_lfault := fun_mk (st := s_lfault) l_lfault c_lfault k_lfault
  have b_lfault := F_lfault.binds (ps := ["_law_words"]) fun _ _ _ _ _ _ us hl => match us, hl with | [_], _ => rfl
  have F_ldue := fun_mk (st := s_ldue) l_ldue c_ldue k_ldue
  have b_ldue := F_ldue.binds (ps := ["_law_words"]) fun _ _ _ _ _ _ us hl => match us, hl with | [_], _ => rfl
  have F_ltold := fun_mk (st := s_ltold) l_ltold c_ltold k_ltold
  have b_ltold := F_ltold.binds (ps := ["_law_words"]) fun _ _ _ _ _ _ us hl => match us, hl with | [_], _ => rfl
  have F_law := fun_mk (st := s_law) l_law c_law k_law
  have m_MOST_DIGITS := PySem.W.mg_of X G g_MOST_DIGITS
  refine ⟨PySem.W.fnOf "law" "law" (defArgs s_law) (defBody s_law) (defScope s_law) .none kV_law dc_law pm_law an_law cd_law ct_law, fun s v => .of_eq rfl, fun base _ _ => ?_⟩
  have x_ibt : ErP P w K mg base "BadText" "at" C_ibt okNat := ⟨_, _, _, E_ibt, ok_ibt TF E_ibt.oex E_ibt.no F_ibt, b_ibt⟩
  have d_isnum : Cl P w K mg base CX0 1 "is_number" spIsNumM := ⟨_, _, _, ok_isnumM T F_isnum, PySem.W.mg_of X G a_isnum, k_isnum, b_isnum⟩
  have d_isint : Cl P w K mg base CX0 2 "is_integer" spIsIntW := ⟨_, _, _, ok_isint T m_MOST_DIGITS F_isint d_isnum, PySem.W.mg_of X G a_isint, k_isint, b_isint⟩
  have d_cell : Cl P w K mg base CX0 1 "_law_cell" (spCellL K) := ⟨_, _, _, ok_cell T F_cell, PySem.W.mg_of X G a_cell, k_cell, b_cell⟩
  have d_draws : Cl P w K mg base CX0 1 "_law_draws" (spDraws K) := ⟨_, _, _, ok_draws T F_draws, PySem.W.mg_of X G a_draws, k_draws, b_draws⟩
  have d_lplain : Cl P w K mg base CX0 1 "_law_plain" (spPlain K) := ⟨_, _, _, ok_lplain T F_lplain, PySem.W.mg_of X G a_lplain, k_lplain, b_lplain⟩
  have d_lrow : Cl P w K mg base CX0 2 "_law_row" spRow := ⟨_, _, _, ok_lrow F_lrow d_draws, PySem.W.mg_of X G a_lrow, k_lrow, b_lrow⟩
  have d_lisw : Cl P w K mg base CX0 1 "_law_is_word" spLisW := ⟨_, _, _, ok_lisw T n_all F_lisw, PySem.W.mg_of X G a_lisw, k_lisw, b_lisw⟩
  have d_lfault : Cl P w K mg base CX0 2 "_law_fault" (spLfault K) := ⟨_, _, _, ok_lfault T F_lfault d_lisw, PySem.W.mg_of X G a_lfault, k_lfault, b_lfault⟩
  have d_ldue : Cl P w K mg base CX0 3 "_law_due" (spLdue K) := ⟨_, _, _, ok_ldue T F_ldue d_lfault d_lplain, PySem.W.mg_of X G a_ldue, k_ldue, b_ldue⟩
  have c_pil : Ma P w K mg base 2 C_po (spPI C_po false K) := ⟨_, _, _, ⟨K_mk, K_at_pinit, K_fn_pinit, K_kp⟩, ok_pinit false T TC F_pinit, b_pinit⟩
  have c_pit : Ma P w K mg base 2 C_po (spPI C_po true K) := ⟨_, _, _, ⟨K_mk, K_at_pinit, K_fn_pinit, K_kp⟩, ok_pinit true T TC F_pinit, b_pinit⟩
  have c_read : CmN P w K mg base 4 C_po "read" (spPread C_po C_ibt K) := ⟨_, _, _, _, _, CR, M_pread, ok_pread T n_enumerate TC F_pread d_isint x_ibt c_pil, b_pread⟩
  have c_str : Me P w K mg base 1 C_po "__str__" (spPstr C_po K) := ⟨_, _, _, M_pstr, ok_pstr T TC F_pstr, b_pstr⟩
  have c_eq : Me P w K mg base 1 C_po "__eq__" (spPeq C_po K) := ⟨_, _, _, M_peq, ok_peq T TC F_peq, b_peq⟩
  have d_lisE : ClP P w K mg base 1 "_law_is_integer" spIsIntE := ⟨_, _, _, ok_lisintE T F_lisint, PySem.W.mg_of X G a_lisint, k_lisint, b_lisint⟩
  have d_ltold : Cl P w K mg base CX0 5 "_law_told" spLtold := ⟨_, _, _, ok_ltold T TC E_ibt F_ltold c_read d_lisE, PySem.W.mg_of X G a_ltold, k_ltold, b_ltold⟩
  exact ok_law (CT := C_ibt) T TC F_law d_cell d_draws d_lrow d_lplain d_ltold d_ldue c_pil c_read c_str c_eq
theorem walk {l : PySem.W.OpenLaw} {q : Program} {loose : List Str} {XP : (Str → Option Value) → Heap → Prop} {YP : World → Heap → Prop} {d : DefRec} {K : Params → PySem.W.Frag} (hn : l.most = some 63) (hdf : d.params.defaults = [])
    (hY : ∀ (w : World) (h : Heap), YP w h → (K w.params).In h)
    (F : ∀ (w : World) (mg : Str → Option Value) (fa : Addr) (h : Heap), (K w.params).In h → h.Ns mainGlobals mg → mg d.name = some (.ref fa) →
      ∃ fd : FuncData, (∀ (s : Shared) (u : Value), BindsTo s fd ⟨[u], []⟩ [("_law_script", u)]) ∧ ∀ base : Heap, (K w.params).In base → base.Ns mainGlobals mg → FnOk l.prog w (K w.params) mg base CX0 7 fa fd ["_law_script"] (spLaw (K w.params))) :
    PySem.W.WalkO q loose XP YP l.row.toRowW d [] (fun f vs => PySem.call f vs) :=
  L2.walk_of (n := 63) (k := 7) (x := "_law_script") (CX := fun _ => CX0) (sp := fun w => spLaw (K w.params)) hn (by decide) hdf ⟨rfl, by decide, by decide⟩ hY F (fun _ _ a ns hl _ hS => ⟨a, ns, rfl, hS, hl, fun _ => rfl⟩) fun _ _ _ _ _ z => z
end My
open PySem PySem.W PyProof.Rows
set_option maxRecDepth 100000 in
set_option maxHeartbeats 0 in
theorem PySem.Challenge.cw_everyfield_k33_texts_of_polynomials_holds : PySem.Challenge.rw_everyfield_k33_texts_of_polynomials.Holds := by
  w_on; o_law; k_head; (case hw => w_witness2)
  k_fill
  refine My.walk (l := PySem.Challenge.rw_everyfield_k33_texts_of_polynomials) rfl rfl (fun w h Y => PySem.W.kIn_of Y) ?F
  case F =>
    intro w mg fa h KX G hmg
    refine' My.all_mk KX G hmg ?a_isnum ?l_isnum ?c_isnum ?k_isnum ?a_isint ?l_isint ?c_isint ?k_isint ?a_cell ?l_cell ?c_cell ?k_cell ?a_draws ?l_draws ?c_draws ?k_draws ?a_lisint ?l_lisint ?c_lisint ?k_lisint ?a_lplain ?l_lplain ?c_lplain ?k_lplain ?a_lrow ?l_lrow ?c_lrow ?k_lrow ?a_lisw ?l_lisw ?c_lisw ?k_lisw ?a_lfault ?l_lfault ?c_lfault ?k_lfault ?a_ldue ?l_ldue ?c_ldue ?k_ldue ?a_ltold ?l_ltold ?c_ltold ?k_ltold ?a_law ?l_law ?c_law ?k_law ?aF ?rF ?gF ?iF ?aC_ibt ?xC_ibt ?sa_ibt ?ga_ibt ?gg_ibt ?no_ibt ?ic_ibt ?ti_ibt ?kc_ibt ?ec_ibt ?tc_ibt ?hd_ibt ?is_ibt ?sc_ibt ?l_ibt ?c_ibt ?k_ibt ?K_aK ?K_pg ?K_hd ?K_po ?K_sa ?K_sf ?K_ha ?K_hn ?K_htk ?K_hm ?K_mk ?K_kp ?K_no_coefficients ?K_rd ?K_sg ?K_at_pinit ?K_fn_pinit ?K_l_pinit ?K_c_pinit ?K_k_pinit ?K_at_pstr ?K_fn_pstr ?K_l_pstr ?K_c_pstr ?K_k_pstr ?K_at_peq ?K_fn_peq ?K_l_peq ?K_c_peq ?K_k_peq ?K_at_pread ?K_rc_pread ?K_fi_pread ?K_l_pread ?K_c_pread ?K_k_pread ?z_int ?z_len ?z_abs ?z_isinstance ?z_bool ?z_tuple ?z_list ?z_str ?z_range ?z_max ?z_min ?z_sorted ?z_set ?z_all ?z_enumerate ?g_MOST_DIGITS
    (case a_isnum => k_is)
    (case l_isnum => k_is)
    (case c_isnum => k_is)
    (case k_isnum => k_is)
    (case a_isint => k_is)
    (case l_isint => k_is)
    (case c_isint => k_is)
    (case k_isint => k_is)
    (case a_cell => k_is)
    (case l_cell => k_is)
    (case c_cell => k_is)
    (case k_cell => k_is)
    (case a_draws => k_is)
    (case l_draws => k_is)
    (case c_draws => k_is)
    (case k_draws => k_is)
    (case a_lisint => k_is)
    (case l_lisint => k_is)
    (case c_lisint => k_is)
    (case k_lisint => k_is)
    (case a_lplain => k_is)
    (case l_lplain => k_is)
    (case c_lplain => k_is)
    (case k_lplain => k_is)
    (case a_lrow => k_is)
    (case l_lrow => k_is)
    (case c_lrow => k_is)
    (case k_lrow => k_is)
    (case a_lisw => k_is)
    (case l_lisw => k_is)
    (case c_lisw => k_is)
    (case k_lisw => k_is)
    (case a_lfault => k_is)
    (case l_lfault => k_is)
    (case c_lfault => k_is)
    (case k_lfault => k_is)
    (case a_ldue => k_is)
    (case l_ldue => k_is)
    (case c_ldue => k_is)
    (case k_ldue => k_is)
    (case a_ltold => k_is)
    (case l_ltold => k_is)
    (case c_ltold => k_is)
    (case k_ltold => k_is)
    (case a_law => k_is)
    (case l_law => k_is)
    (case c_law => k_is)
    (case k_law => k_is)
    (case aF => k_is)
    (case rF => k_is)
    (case gF => k_is)
    (case iF => k_is)
    (case aC_ibt => k_is)
    (case xC_ibt => k_is)
    (case sa_ibt => k_is)
    (case ga_ibt => k_is)
    (case gg_ibt => k_is)
    (case no_ibt => k_is)
    (case ic_ibt => k_is)
    (case ti_ibt => k_is)
    (case kc_ibt => k_is)
    (case ec_ibt => k_is)
    (case tc_ibt => k_is)
    (case hd_ibt => k_is)
    (case is_ibt => k_is)
    (case sc_ibt => k_is)
    (case l_ibt => k_is)
    (case c_ibt => k_is)
    (case k_ibt => k_is)
    (case K_aK => k_is)
    (case K_pg => k_is)
    (case K_hd => k_is)
    (case K_po => k_is)
    (case K_sa => k_is)
    (case K_sf => k_is)
    (case K_ha => k_is)
    (case K_hn => k_is)
    (case K_htk => k_is)
    (case K_hm => k_is)
    (case K_mk => k_is)
    (case K_kp => k_is)
    (case K_no_coefficients => k_is)
    (case K_rd => k_is)
    (case K_sg => k_is)
    (case K_at_pinit => k_is)
    (case K_fn_pinit => k_is)
    (case K_l_pinit => k_is)
    (case K_c_pinit => k_is)
    (case K_k_pinit => k_is)
    (case K_at_pstr => k_is)
    (case K_fn_pstr => k_is)
    (case K_l_pstr => k_is)
    (case K_c_pstr => k_is)
    (case K_k_pstr => k_is)
    (case K_at_peq => k_is)
    (case K_fn_peq => k_is)
    (case K_l_peq => k_is)
    (case K_c_peq => k_is)
    (case K_k_peq => k_is)
    (case K_at_pread => k_is)
    (case K_rc_pread => k_is)
    (case K_fi_pread => k_is)
    (case K_l_pread => k_is)
    (case K_c_pread => k_is)
    (case K_k_pread => k_is)
    (case z_int => k_is)
    (case z_len => k_is)
    (case z_abs => k_is)
    (case z_isinstance => k_is)
    (case z_bool => k_is)
    (case z_tuple => k_is)
    (case z_list => k_is)
    (case z_str => k_is)
    (case z_range => k_is)
    (case z_max => k_is)
    (case z_min => k_is)
    (case z_sorted => k_is)
    (case z_set => k_is)
    (case z_all => k_is)
    (case z_enumerate => k_is)
    (case g_MOST_DIGITS => k_is)
