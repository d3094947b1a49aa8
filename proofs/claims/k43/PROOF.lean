import PyProof.Rows.All
import Wide.All
import OpenK.AllK
import Wide.FinOn
import PyProof.NoPylong
import Flt.Len
import HandS.ForMost
import HandS.ForExc
import HandS.Wide
import HandS.Gcd
import HandS.IsInst
import HandS.Evl
import HandS.Flow
import HandS.Iter
import HandS.ExcInit
import HandS.ExcField
import HandS.ExcCtx
import HandS.HotCalls
import HandS.ExcInitHot
import HandS.TupLe
import HandS.TupAny
import HandS.Conv
import HandS.Strs
import HandS.SetFor
import HandS.Zip
import HandS.Star
import HandS.ClsMeth
import HandS.Codes
import HandS.SlotsOwn
import HandS.Walk
import HandS.StrMore
import HandS.FStr
import HandS.FStrTup
import HandS.Style
import HandS.TryMany
import HandS.ExcIs
import HandS.Rev
import HandS.ListEq
import HandS.Small
import KE.GoesMore
import KE.GoesEnum
import PyProof.Draws
import Flt.RightSqrt
import HandS.NoneIn
import PySem.Challenge.RW_everyfield_k43_matrices_written_and_read
set_option Elab.async false
set_option linter.all false
set_option maxRecDepth 100000
set_option maxHeartbeats 4000000
set_option exponentiation.threshold 20000
namespace My
open PySem PySem.Spec PyProof.Rows L2
def top (i : Nat) : Stmt := PySem.Challenge.pw_everyfield_k43_matrices_written_and_read.main.body.getD i (.Pass ⟨0, 0, 0, 0⟩)
-- part trim
/-! rows without zeros at the end -/
def tsz (l : List Int) : Nat → Nat
  | 0 => 0
  | k + 1 => if l.getD k 0 = 0 then tsz l k else k + 1
def trim (l : List Int) : List Int := l.take (tsz l l.length)
/-- the last one is not 0 -/
def Trim (l : List Int) : Prop := ∀ k, l.length = k + 1 → l.getD k 0 ≠ 0
theorem tsz_le (l : List Int) : ∀ k, tsz l k ≤ k
  | 0 => Nat.le_refl _
  | k + 1 => by
    unfold tsz
    split
    · exact Nat.le_succ_of_le (tsz_le l k)
    · exact Nat.le_refl _
theorem tsz_zero (l : List Int) : ∀ k i, tsz l k ≤ i → i < k → l.getD i 0 = 0
  | 0, i, _, h => absurd h (Nat.not_lt_zero i)
  | k + 1, i, h1, h2 => by
    unfold tsz at h1
    split at h1
    · rename_i c
      by_cases e : i = k
      · rw [e]
        exact c
      · exact tsz_zero l k i h1 (by omega)
    · omega
theorem tsz_last (l : List Int) : ∀ k n, tsz l k = n + 1 → l.getD n 0 ≠ 0
  | 0, n, h => by cases h
  | k + 1, n, h => by
    unfold tsz at h
    split at h
    · exact tsz_last l k n h
    · rename_i c
      cases h
      exact c
theorem getD_of {l : List Int} {i : Nat} {z : Int} (h : l[i]? = some z) : l.getD i 0 = z := by
  rw [List.getD_eq_getElem?_getD, h] <;> rfl
theorem getD_ge {l : List Int} {i : Nat} (h : l.length ≤ i) : l.getD i 0 = 0 := by
  rw [List.getD_eq_getElem?_getD, List.getElem?_eq_none h] <;> rfl
theorem getD_at {l : List Int} {i : Nat} (h : i < l.length) : l[i]? = some (l.getD i 0) := by
  rw [List.getD_eq_getElem?_getD, List.getElem?_eq_getElem h] <;> rfl
theorem getD_take (l : List Int) (n i : Nat) : (l.take n).getD i 0 = if i < n then l.getD i 0 else 0 := by
  rw [List.getD_eq_getElem?_getD, List.getElem?_take]
  split
  · rw [List.getD_eq_getElem?_getD]
  · rfl
theorem getD_map {f : Int → Int} (h0 : f 0 = 0) (l : List Int) (i : Nat) : (l.map f).getD i 0 = f (l.getD i 0) := by
  rw [List.getD_eq_getElem?_getD, List.getD_eq_getElem?_getD, List.getElem?_map]
  cases l[i]? with
  | none => exact h0.symm
  | some z => rfl
theorem getD_app0 (l : List Int) (k i : Nat) : (l ++ List.replicate k 0).getD i 0 = l.getD i 0 := by
  rw [List.getD_eq_getElem?_getD, List.getD_eq_getElem?_getD]
  by_cases c : i < l.length
  · rw [List.getElem?_append_left c]
  · rw [List.getElem?_append_right (by omega), List.getElem?_eq_none (show l.length ≤ i by omega), List.getElem?_replicate]
    split <;> rfl
theorem trim_len (l : List Int) : (trim l).length = tsz l l.length := by
  unfold trim
  rw [List.length_take]
  have := tsz_le l l.length
  omega
theorem trim_few (l : List Int) : (trim l).length ≤ l.length := by
  rw [trim_len]
  exact tsz_le l l.length
theorem trim_mem {l : List Int} {z : Int} (h : z ∈ trim l) : z ∈ l := List.mem_of_mem_take h
theorem trim_get (l : List Int) (i : Nat) : (trim l).getD i 0 = l.getD i 0 := by
  unfold trim
  rw [getD_take]
  split
  · rfl
  · rename_i c
    by_cases d : i < l.length
    · exact (tsz_zero l l.length i (by omega) d).symm
    · exact (getD_ge (by omega)).symm
theorem trim_trim (l : List Int) : Trim (trim l) := fun k h => by
  rw [trim_len] at h
  rw [trim_get]
  exact tsz_last l l.length k h
theorem Trim.ext {a b : List Int} (ha : Trim a) (hb : Trim b) (h : ∀ i, a.getD i 0 = b.getD i 0) : a = b := by
  have hl : a.length = b.length := by
    rcases Nat.lt_trichotomy a.length b.length with c | c | c
    · obtain ⟨k, hk⟩ : ∃ k, b.length = k + 1 := ⟨b.length - 1, by omega⟩
      have := hb k hk
      rw [← h k, getD_ge (by omega)] at this
      exact absurd rfl this
    · exact c
    · obtain ⟨k, hk⟩ : ∃ k, a.length = k + 1 := ⟨a.length - 1, by omega⟩
      have := ha k hk
      rw [h k, getD_ge (by omega)] at this
      exact absurd rfl this
  refine List.ext_getElem? fun i => ?_
  by_cases c : i < a.length
  · rw [getD_at c, getD_at (by omega), h i]
  · rw [List.getElem?_eq_none (by omega), List.getElem?_eq_none (by omega)]
theorem trim_ext {a b : List Int} (h : ∀ i, a.getD i 0 = b.getD i 0) : trim a = trim b :=
  (trim_trim a).ext (trim_trim b) fun i => by rw [trim_get, trim_get, h i]
theorem trim_of {l : List Int} (h : Trim l) : trim l = l := (trim_trim l).ext h fun i => trim_get l i
theorem trim_nil : trim [] = [] := rfl
theorem Trim.nil : Trim [] := fun k h => by cases h
theorem Trim.map {l : List Int} {f : Int → Int} (h : Trim l) (h0 : f 0 = 0) (hf : ∀ z, f z = 0 → z = 0) : Trim (l.map f) := fun k hk => by
  rw [List.length_map] at hk
  rw [getD_map h0]
  exact fun e => h k hk (hf _ e)
/-- sums and differences by places -/
theorem getD_zip {f : Int → Int → Int} (a b : List Int) (hl : a.length = b.length) (h0 : f 0 0 = 0) (i : Nat) : (List.zipWith f a b).getD i 0 = f (a.getD i 0) (b.getD i 0) := by
  rw [List.getD_eq_getElem?_getD, List.getElem?_zipWith]
  by_cases c : i < a.length
  · rw [getD_at c, getD_at (show i < b.length by omega)] <;> rfl
  · rw [List.getElem?_eq_none (by omega), List.getElem?_eq_none (show b.length ≤ i by omega), getD_ge (by omega), getD_ge (show b.length ≤ i by omega), h0] <;> rfl
def rngN (n : Nat) (f : Nat → Int) : List Int := (List.range n).map f
theorem rngN_len (n : Nat) (f : Nat → Int) : (rngN n f).length = n := by
  unfold rngN
  rw [List.length_map, List.length_range]
theorem rngN_at {n : Nat} {f : Nat → Int} {i : Nat} (h : i < n) : (rngN n f)[i]? = some (f i) := by
  unfold rngN
  rw [List.getElem?_map, List.getElem?_range h] <;> rfl
theorem rngN_get (n : Nat) (f : Nat → Int) (i : Nat) : (rngN n f).getD i 0 = if i < n then f i else 0 := by
  split
  · rename_i c
    exact getD_of (rngN_at c)
  · rename_i c
    exact getD_ge (by rw [rngN_len]; omega)
/-- the polynomial's rows: sum (sign s), product -/
def pplus (s : Int) (a b : List Int) : List Int := trim (rngN (max a.length b.length) fun i => a.getD i 0 + s * b.getD i 0)
theorem pplus_get (s : Int) (a b : List Int) (i : Nat) : (pplus s a b).getD i 0 = a.getD i 0 + s * b.getD i 0 := by
  unfold pplus
  rw [trim_get, rngN_get]
  split
  · rfl
  · rw [getD_ge (show a.length ≤ i by omega), getD_ge (show b.length ≤ i by omega)]
    simp
/-- the sum of f below n -/
def sumN (f : Nat → Int) : Nat → Int
  | 0 => 0
  | n + 1 => sumN f n + f n
theorem sumN_congr {f g : Nat → Int} : ∀ n, (∀ i, i < n → f i = g i) → sumN f n = sumN g n
  | 0, _ => rfl
  | n + 1, h => by
    unfold sumN
    rw [sumN_congr n fun i hi => h i (by omega), h n (by omega)]
theorem sumN_zero (n : Nat) : sumN (fun _ => 0) n = 0 := by
  induction n with
  | zero => rfl
  | succ n ih => unfold sumN; rw [ih]; rfl
theorem sumN_more {f : Nat → Int} {n : Nat} : ∀ m, (∀ i, n ≤ i → f i = 0) → n ≤ m → sumN f m = sumN f n
  | 0, _, h => by rw [show n = 0 by omega]
  | m + 1, h0, h => by
    by_cases e : n = m + 1
    · rw [e]
    · show sumN f m + f m = sumN f n
      rw [sumN_more m h0 (by omega), h0 m (by omega), Int.add_zero]
/-- the coefficient at k of the product -/
def cnv (a b : List Int) (k : Nat) : Int := sumN (fun i => a.getD i 0 * (if i ≤ k then b.getD (k - i) 0 else 0)) a.length
def pmul (a b : List Int) : List Int := trim (rngN (a.length + b.length) (cnv a b))
theorem cnv_far {a b : List Int} {k : Nat} (h : a.length + b.length ≤ k + 1) : cnv a b k = 0 := by
  unfold cnv
  rw [sumN_congr (g := fun _ => 0) _ fun i hi => ?_, sumN_zero]
  split
  · rw [getD_ge (show b.length ≤ k - i by omega), Int.mul_zero]
  · rw [Int.mul_zero]
theorem pmul_get (a b : List Int) (k : Nat) : (pmul a b).getD k 0 = cnv a b k := by
  unfold pmul
  rw [trim_get, rngN_get]
  split
  · rfl
  · exact (cnv_far (by omega)).symm
/-- the value at x -/
def pev : List Int → Int → Int
  | [], _ => 0
  | c :: l, x => c + x * pev l x
theorem pev_trim (l : List Int) (x : Int) : pev (trim l) x = pev l x := by
  unfold trim
  have key : ∀ (l : List Int) (n : Nat), (∀ i, n ≤ i → l.getD i 0 = 0) → pev (l.take n) x = pev l x := fun l => by
    induction l with
    | nil => intro n _; rw [List.take_nil]
    | cons c l ih =>
      intro n h
      cases n with
      | zero =>
        have hc : c = 0 := h 0 (Nat.le_refl _)
        have hl := ih 0 fun i _ => h (i + 1) (Nat.zero_le _)
        rw [List.take_zero] at hl ⊢
        show 0 = c + x * pev l x
        rw [← hl, hc]
        show (0 : Int) = 0 + x * 0
        rw [Int.mul_zero] <;> rfl
      | succ n =>
        rw [List.take_succ_cons]
        show c + x * pev (l.take n) x = c + x * pev l x
        rw [ih n fun i hi => h (i + 1) (by omega)]
  refine key l _ fun i hi => ?_
  by_cases c : i < l.length
  · exact tsz_zero l _ i hi c
  · exact getD_ge (by omega)
theorem pev_drop {l : List Int} {i : Nat} {c : Int} (h : l[i]? = some c) (x : Int) : pev (l.drop i) x = c + x * pev (l.drop (i + 1)) x := by
  have hi := (List.getElem?_eq_some_iff.mp h).1
  rw [List.drop_eq_getElem_cons hi]
  rw [List.getElem?_eq_getElem hi] at h
  cases h
  rfl
/-- the value, term by term -/
theorem pev_take {l : List Int} {i : Nat} {c : Int} (h : l[i]? = some c) (x : Int) : pev (l.take (i + 1)) x = pev (l.take i) x + c * x ^ i := by
  induction l generalizing i with
  | nil => cases h
  | cons d l ih =>
    cases i with
    | zero =>
      cases h
      rw [List.take_succ_cons, List.take_zero, List.take_zero]
      show c + x * 0 = 0 + c * x ^ 0
      simp
    | succ i =>
      have := ih (i := i) h
      rw [List.take_succ_cons, List.take_succ_cons]
      show d + x * pev (l.take (i + 1)) x = d + x * pev (l.take i) x + c * x ^ (i + 1)
      rw [this, Int.mul_add, Int.pow_succ]
      have e : x * (c * x ^ i) = c * (x ^ i * x) := by rw [Int.mul_left_comm, Int.mul_comm x]
      rw [e]
      omega

structure Cl (P : Program) (w : World) (K : PySem.W.Frag) (mg : Str → Option Value) (base : Heap) (CX : CXT) (k : Nat) (x : Str) (sp : Sp) : Prop where
  ex : ∃ (f : Addr) (fd : FuncData) (ps : List Str), FnOk P w K mg base CX k f fd ps sp ∧ mg x = some (.ref f) ∧ PySem.W.keepIn K (.ref f) = true ∧ Binds K fd ps []
theorem pe_cl {X : Cx} {k j : Nat} {x : Str} {sp : Sp} {p pos : Pos} {e : Expr} {es : List Expr} {t : TA} (c : Cl X.prog X.w X.K X.mg X.base CX0 k x sp) (hr : Room j X.A) (ha : PA X (e :: es) t) (hk : k ≤ j := by decide) (hg : Gl X x := by rfl)
    (hdb : (x == ("__debug__" : Str)) = false := by decide) (he : starEach (e :: es) X.env = (false, eval e X.env) :: starEach es X.env := by rfl) (hpl : (backTo pos (starEach es X.env)).any (·.1) = false := by rfl) :
    PE X (.Call (.Name x p) (e :: es) [] pos) (tCall sp [] E0 t) := by
  obtain ⟨f, fd, ps, F, hm, kp, b⟩ := c.ex
  exact pe_call F (hr.mono hk) hg hm kp b .nil pass0 ha hdb he hpl
structure Txt (mg : Str → Option Value) : Prop where
  int : mg "int" = none
  len : mg "len" = none
  abs : mg "abs" = none
  isinstance : mg "isinstance" = none
  bool : mg "bool" = none
  tuple : mg "tuple" = none
  list : mg "list" = none
  str : mg "str" = none
  range : mg "range" = none
  max : mg "max" = none
  min : mg "min" = none
  sorted : mg "sorted" = none
  set : mg "set" = none
theorem if_pos_of {c : Bool} {A B : Prop} (hc : c = true) (h : A) : if c = true then A else B := by
  rw [if_pos hc]
  exact h
theorem if_neg_of {c : Bool} {A B : Prop} (hc : c = false) (h : B) : if c = true then A else B := by
  rw [hc, if_neg Bool.false_ne_true]
  exact h
theorem same_upd {H : Hp} {p : Addr} {o : HO} (h : H p = none) : Same H (upd H p o) := fun b u e => by
  rw [upd_ne (ne_of_none e h)]
  exact e
/-- a call of a def that may raise, where it doesn't -/
theorem pe_cl0 {X : Cx} {k j : Nat} {x : Str} {sp : Sp} {p pos : Pos} {e : Expr} {es : List Expr} {t : TA} (c : Cl X.prog X.w X.K X.mg X.base (L2.CX X.prog X.w) k x sp) (hr : Room j X.A) (ha : PA X (e :: es) t) (hk : k ≤ j := by decide) (hg : Gl X x := by rfl)
    (hdb : (x == ("__debug__" : Str)) = false := by decide) (he : starEach (e :: es) X.env = (false, eval e X.env) :: starEach es X.env := by rfl) (hpl : (backTo pos (starEach es X.env)).any (·.1) = false := by rfl) :
    PE X (.Call (.Name x p) (e :: es) [] pos) (tCall sp [] E0 t) := by
  obtain ⟨f, fd, ps, F, hm, kp, b⟩ := c.ex
  exact pe_call F (hr.mono hk) hg hm kp b .nil passL ha hdb he hpl
/-- a call of a def that may raise, in a def or try that takes it -/
theorem pe_clX {X : Cx} {W : WX} {k j : Nat} {x : Str} {sp : Sp} {p pos : Pos} {e : Expr} {es : List Expr} {t : TA} (c : Cl X.prog X.w X.K X.mg X.base (L2.CX X.prog X.w) k x sp) (hr : Room j X.A) (tk : Takes X W) (ha : PA X (e :: es) t) (hk : k ≤ j := by decide) (hg : Gl X x := by rfl)
    (hdb : (x == ("__debug__" : Str)) = false := by decide) (he : starEach (e :: es) X.env = (false, eval e X.env) :: starEach es X.env := by rfl) (hpl : (backTo pos (starEach es X.env)).any (·.1) = false := by rfl) :
    PE X (.Call (.Name x p) (e :: es) [] pos) (tCallS sp (WE W) t) := by
  obtain ⟨f, fd, ps, F, hm, kp, b⟩ := c.ex
  exact pe_callS F (hr.mono hk) hg hm kp b (fun σ => passAt tk σ) ha hdb he hpl
/-- FieldError, and what its __init__ is -/
structure FErr (K : PySem.W.Frag) (mg : Str → Option Value) (C : Addr) : Prop where
  g : mg "FieldError" = some (.ref C)
  rd : PySem.W.readsIn K C (.type "type") = true
  ga : PySem.W.specialIn K (.ref C) "__getattribute__" = some (some (.builtin "type.__getattribute__"))
  fi : PySem.W.findCls K (.ref C) (.type "type") "__init__" = some (.val (.builtin "ValueError.__init__"))
theorem pe_feinit {X : Cx} {CF : Addr} {e : Expr} {es : List Expr} {ta : TA} {p1 p2 pos : Pos} {pl : Sem Bool} (F : FErr X.K X.mg CF) (ha : PA X (e :: es) ta) (hg : Gl X "FieldError" := by rfl)
    (hc : eval (.Call (.Attribute (.Name "FieldError" p1) "__init__" p2) (e :: es) [] pos) X.env = (do
      let ov ← eval (.Name "FieldError" p1) X.env
      standAt p2.atName
      let (f, first) ← holding [ov] (getMethod ov "__init__" pl)
      callWith pos f first (backTo pos (starEach (e :: es) X.env)) (backToKw pos (keywordEach [] X.env))) := by rfl)
    (he : starEach (e :: es) X.env = (false, eval e X.env) :: starEach es X.env := by rfl) (hpl : (backTo pos (starEach es X.env)).any (·.1) = false := by rfl) :
    PE X (.Call (.Attribute (.Name "FieldError" p1) "__init__" p2) (e :: es) [] pos) (tVeI X.K ta) := by
  refine ⟨fun pins s σ H Q I h => ?_⟩
  refine PySem.W.methodCall_KW (ld_glob I hg F.g ?_ (by decide)) hc
  refine PySem.W.method_cls I.kIn F.ga (PySem.W.cls_value I.kIn F.rd F.fi (by decide +kernel) ?_)
  show wpAny _ _ (callWith pos (Value.builtin "ValueError.__init__") [] (backTo pos (starEach (e :: es) X.env)) []) _ _ _
  refine PyProof.Rows.callWith_method1 (thn (ha.run pos pins _ σ H _ (I.tok _) h) fun us s1 ⟨vs, H1, I1, r1, a, C, ws, ev, hl, T, ea, q⟩ => ?_) he hpl
  subst ev
  cases r1 with
  | @cons _ u0 _ ur ra rw' =>
    obtain rfl : u0 = Value.ref a := ra
    have hlen : ur.length ≤ sizeLine := by
      rw [← Paired.length rw', sizeLine_eq]
      omega
    exact oinit_ok T I1 ea hlen fun s' J => ⟨.non, H1, J, rfl, q⟩
/-- an own error class with one attribute, and its __init__ by its promise -/
def spInit (C : Addr) (fld : Str) : Sp := fun vs H Q _ => ∃ (a : Addr) (v : V), vs = [.ref a, v] ∧ H a = some (exo a C none) ∧
  ∀ d, H d = none → d ≠ a → Q .non (upd (upd H d (exd d [(fld, v)])) a (exo a C (some d)))
structure ErrC (K : PySem.W.Frag) (mg : Str → Option Value) (nm fld : Str) (C fI : Addr) : Prop where
  g : mg nm = some (.ref C)
  oex : OexC K C
  no : PySem.W.findIn K (.ref C) fld = some none
  iC : PySem.W.findIn K (.ref C) "__init__" = some (some (.ref fI))
  tI : PySem.W.typeIn K (.ref fI) = some (.type "function")
  xf : XfC K C
  te : PySem.W.exmOne K (.ref C) (.ref C) = some true
structure Er (P : Program) (w : World) (K : PySem.W.Frag) (mg : Str → Option Value) (base : Heap) (nm fld : Str) (C : Addr) : Prop where
  ex : ∃ (fI : Addr) (fd : FuncData) (ps : List Str), ErrC K mg nm fld C fI ∧ FnOk P w K mg base CX0 1 fI fd ps (spInit C fld) ∧ Binds K fd ps []
theorem Er.c {P : Program} {w : World} {K : PySem.W.Frag} {mg : Str → Option Value} {base : Heap} {nm fld : Str} {C : Addr} (e : Er P w K mg base nm fld C) : ∃ fI, ErrC K mg nm fld C fI := by
  obtain ⟨fI, _, _, T, _⟩ := e.ex
  exact ⟨fI, T⟩
theorem exm_me {K : PySem.W.Frag} {S : Addr} (h1 : PySem.W.subIn K (.ref S) (.type "BaseException") = some true) (h2 : PySem.W.isClsIn K S = true) (h3 : PySem.W.typeIn K (.ref S) = some (.type "type")) (h4 : PySem.W.subIn K (.ref S) (.ref S) = some true) :
    PySem.W.exmOne K (.ref S) (.ref S) = some true := by
  have e1 : (PySem.W.subIn K (.ref S) (.type "BaseException") == some true) = true := by rw [h1] <;> rfl
  have h2' : (PySem.W.clsIn K S).isSome = true := h2
  have e2 : ((PySem.W.clsIn K S).isSome && PySem.W.typeIn K (.ref S) == some (.type "type")) = true := by rw [h2', h3] <;> rfl
  unfold PySem.W.exmOne
  rw [if_pos e1]
  show (if ((PySem.W.clsIn K S).isSome && PySem.W.typeIn K (.ref S) == some (.type "type")) = true then PySem.W.subIn K (.ref S) (.ref S) else none) = some true
  rw [if_pos e2]
  exact h4
/-- raise C(v): the argument, then what C's own __init__ asks (mk1 answers it) -/
theorem ps_raise1 {X : Cx} {W : WX} {x fld : Str} {C : Addr} {j : Nat} {e : Expr} {ta : TA} {p pos pos' : Pos} (c : Er X.prog X.w X.K X.mg X.base x fld C) (hr : Room j X.A) (tk : Takes X W) (ha : PA X [e] ta) (hj : 2 ≤ j := by decide) (hcalm : X.calm = true := by rfl) (hg : Gl X x := by rfl)
    (hdb : (x == ("__debug__" : Str)) = false := by decide) (he : starEach [e] X.env = (false, eval e X.env) :: starEach [] X.env := by rfl) (hpl : (backTo pos (starEach [] X.env)).any (·.1) = false := by rfl) :
    PS X (.Raise (some (.Call (.Name x p) [e] [] pos)) none pos') (fun _ σ H => tMkO C (spInit C fld) [] ta σ H fun cls d H' => W cls d σ H') := by
  obtain ⟨fI, fd, ps, T, F, b⟩ := c.ex
  exact ps_raise hcalm tk (pmk_oex (X := X) (p := p) (pos := pos) T.oex T.iC T.tI F (hr.mono hj) b .nil (fun _ _ _ _ _ _ _ h => h.elim) hg T.g ha hdb he hpl)
theorem mk1 {C : Addr} {fld : Str} {v : V} {H1 : Hp} {Q : XK} (k : ∀ d H2, Same H1 H2 → H1 d = none → H2 d = some (.xd [(fld, v)]) → Q (.ref C) (some d) H2) :
    ([v] : List V).length ≤ 1000 ∧ ∀ a, H1 a = none → spInit C fld (.ref a :: ([v] ++ [])) (upd H1 a (exo a C none))
      (fun u H2 => u = .non ∧ ∃ (d : Addr) (fs : List (Str × V)), H2 a = some (exo a C (some d)) ∧ H2 d = some (exd d fs) ∧ H1 d = none ∧ Q (.ref C) (some d) (upd (del H2 a) d (.xd fs))) (fun _ _ _ => False) := by
  refine ⟨(by show 1 ≤ 1000; decide), fun a ha => ⟨a, v, rfl, upd_same, fun d hd hda => ⟨rfl, d, [(fld, v)], upd_same, ?_, ?_, ?_⟩⟩⟩
  · rw [upd_ne hda, upd_same]
  · rw [upd_ne hda] at hd
    exact hd
  · rw [upd_ne hda] at hd
    refine k d _ (fun b o e => ?_) hd upd_same
    have hba := ne_of_none e ha
    have hbd := ne_of_none e hd
    rw [upd_ne hbd, del_ne hba, upd_ne hba, upd_ne hbd, upd_ne hba]
    exact e
/-! the same for exceptions whose context is None -/
theorem passN {X : Cx} : Passes (L2N.CX X.prog X.w) X E0 := fun _ _ _ _ _ _ _ ⟨_, _, _, _, _, _, _, _, _, _, _, _, z⟩ => z.elim
theorem takes0N {X : Cx} : L2N.Takes X (fun _ _ _ _ => False) := fun _ _ ⟨_, _, _, _, _, _, _, _, _, _, _, _, _, _, _, _, z⟩ => z.elim
theorem okN {P : Program} {w : World} {K : PySem.W.Frag} {mg : Str → Option Value} {base : Heap} {x qual : Str} {st : Stmt} {f : Addr} {fd : FuncData} {N ps : List Str} {k : Nat} {sp : Sp} (F : Fun K x qual st f fd) (S : FnScope N ps (defScope st)) (len : ∀ vs H Q E, sp vs H Q E → vs.length = ps.length)
    (body : ∀ (cdv : Value) (A : Around) (outer : List Env) (s : Shared) (H : Hp) (vs : List V) (Q : VK) (E : XK), Room k (A.deeper (envOfC qual (defScope st) s.heap.objs.size f cdv)) → sp vs H Q E →
      ∃ t, PSs (cxOf (L2N.CX P w) P w K mg base N qual (defScope st) f cdv A outer s H E) (defBody st) t ∧ t { nx := fun _ H' => Q .non H', rt := Q } (start N vs) H) : FnOk P w K mg base (L2N.CX P w) (k + 1) f fd ps sp := by
  obtain ⟨oc, od, kV, doc, pm, an, cdv, ct, osl, rfl, lk, hcd⟩ := F.ex
  exact fn_of lk hcd S len fun A outer s H vs Q E hr h => body cdv A outer s H vs Q E hr h
/-- a call of such a def, where it doesn't raise -/
theorem pe_clN0 {X : Cx} {k j : Nat} {x : Str} {sp : Sp} {p pos : Pos} {e : Expr} {es : List Expr} {t : TA} (c : Cl X.prog X.w X.K X.mg X.base (L2N.CX X.prog X.w) k x sp) (hr : Room j X.A) (ha : PA X (e :: es) t) (hk : k ≤ j := by decide) (hg : Gl X x := by rfl)
    (hdb : (x == ("__debug__" : Str)) = false := by decide) (he : starEach (e :: es) X.env = (false, eval e X.env) :: starEach es X.env := by rfl) (hpl : (backTo pos (starEach es X.env)).any (·.1) = false := by rfl) :
    PE X (.Call (.Name x p) (e :: es) [] pos) (tCall sp [] E0 t) := by
  obtain ⟨f, fd, ps, F, hm, kp, b⟩ := c.ex
  exact pe_call F (hr.mono hk) hg hm kp b .nil passN ha hdb he hpl
theorem pe_clNX {X : Cx} {W : WX} {k j : Nat} {x : Str} {sp : Sp} {p pos : Pos} {e : Expr} {es : List Expr} {t : TA} (c : Cl X.prog X.w X.K X.mg X.base (L2N.CX X.prog X.w) k x sp) (hr : Room j X.A) (tk : L2N.Takes X W) (ha : PA X (e :: es) t) (hk : k ≤ j := by decide) (hg : Gl X x := by rfl)
    (hdb : (x == ("__debug__" : Str)) = false := by decide) (he : starEach (e :: es) X.env = (false, eval e X.env) :: starEach es X.env := by rfl) (hpl : (backTo pos (starEach es X.env)).any (·.1) = false := by rfl) :
    PE X (.Call (.Name x p) (e :: es) [] pos) (tCallS sp (WE W) t) := by
  obtain ⟨f, fd, ps, F, hm, kp, b⟩ := c.ex
  exact pe_callS F (hr.mono hk) hg hm kp b (fun σ => L2N.passAt tk σ) ha hdb he hpl
theorem pmk_oexN {X : Cx} {e : Expr} {es : List Expr} {ta : TA} {p pos : Pos} {x : Str} {C fI : Addr} {k : Nat} {fd : FuncData} {ps : List Str} {sp : Sp} {ds : List Value} {dvs : List V} (T : OexC X.K C) (iC : PySem.W.findIn X.K (.ref C) "__init__" = some (some (.ref fI))) (tI : PySem.W.typeIn X.K (.ref fI) = some (.type "function"))
    (F1 : FnOk X.prog X.w X.K X.mg X.base CX0 k fI fd ps sp) (hr : Room (k + 1) X.A) (hb : Binds X.K fd ps ds) (hd : Vals dvs ds) (hg : Gl X x) (hm : X.mg x = some (.ref C)) (ha : PA X (e :: es) ta)
    (hdb : (x == ("__debug__" : Str)) = false) (he : starEach (e :: es) X.env = (false, eval e X.env) :: starEach es X.env) (hpl : (backTo pos (starEach es X.env)).any (·.1) = false) :
    L2N.PMk X (.Call (.Name x p) (e :: es) [] pos) (tMkO C sp dvs ta) := by
  intro pins s σ H Q I h
  obtain ⟨nm, q, N, bs, bm, sn, sub, ab, col, dd, k0, k1, k2, k3, k5, hC, hbm⟩ := T.cls
  refine wpAny_Call_Name_kw (ld_glob I hg hm ?_ hdb)
  refine PySem.W.callWith_K (h₀ := X.base) I.ok.mod.kin T.kC (thn (ha.run pos pins s σ H _ I h) fun us st got => ?_) he hpl
  obtain ⟨vs, G1, I1, r1, hz, q1⟩ := got
  refine ⟨I1.kIn, ?_⟩
  show wpAny _ _ (call (.ref C) us) _ _ _
  obtain ⟨hp, g, dr, tk, os⟩ := st
  generalize ex : hp.objs.size + 1 = x1 at *
  have le1 : hp.objs.size ≤ x1 := by omega
  have sp1 := q1 x1 (I1.hok.fresh le1)
  have old : ∀ b o, hp.get? b = some o → ((hp.push (PySem.W.kdv_tup us)).push (PySem.HandSPX.excO C hp.objs.size)).get? b = some o := fun b o z =>
    Heap.get?_push_of_some _ (Heap.get?_push_of_some _ z)
  have new1 : ((hp.push (PySem.W.kdv_tup us)).push (PySem.HandSPX.excO C hp.objs.size)).get? x1 = some (PySem.HandSPX.excO C hp.objs.size) := by
    subst ex
    heap_get
  have I2 := I1.laid (t' := tk) (a := x1) (o := exo x1 C none) old le1 (exo_ok new1)
  have rel : Vals (V.ref x1 :: (vs ++ dvs)) (Value.ref x1 :: (us ++ ds)) := .cons rfl (r1.append hd)
  have few : us.length ≤ sizeLine := by
    have := Paired.length r1
    rw [sizeLine_eq]
    omega
  have many : (Value.ref x1 :: us ++ ds).length = ps.length := by
    have z := rel.length
    rw [F1.len _ _ _ _ sp1] at z
    exact z.symm
  have run := F1.run _ X.stack _ _ ⟨Value.ref x1 :: us, []⟩ (Value.ref x1 :: (us ++ ds)) _ _ (fun _ _ _ => False) (hr.make C us []) (I2.env0.make C us []) (hb _ (Value.ref x1 :: us) I2.kIn many) rel sp1
  refine wpAny_call (PySem.HandSPX.call_own F.excBase_ValueError (fun Y => PySem.HandSPX.refsVE_contains Y bm hbm) (I1.kIn _ _ hC) (PySem.W.looks_findIn I1.kIn iC) (fun self => PySem.W.bind_fn I1.kIn self tI) few ?_)
  subst ex
  refine codeAny_mono run fun r s' back => ?_
  cases r with
  | error er => exact False.elim back
  | ok fl =>
    cases fl with
    | ret u =>
      obtain ⟨v, H2, os2, bare2, un2, hok2, rv, ev, d, fs, ea, ed, hd1, q2⟩ := back
      subst ev
      obtain ⟨h2, g2, d2, t2, os'⟩ := s'
      obtain ⟨t0, G, J, kG, ge, hoe, na⟩ := mk_end0 (d2 := d2) (t2 := t2) I1 le1 old un2 hok2 os2 bare2 ea ed hd1
      exact ⟨rv, _, _, _, ⟨G, g2, d2, t2, os'⟩, _, .ref C, some d, rfl, J, kG, ge, hoe, ⟨rfl, rfl, fun vs z => by cases z; rfl⟩, rfl, rfl, na, rfl, bare2, raises_own T.exC T.tyC, q2⟩
    | next => exact False.elim back
    | brk => exact False.elim back
    | cont => exact False.elim back
theorem ps_raise1N {X : Cx} {W : WX} {x fld : Str} {C : Addr} {j : Nat} {e : Expr} {ta : TA} {p pos pos' : Pos} (c : Er X.prog X.w X.K X.mg X.base x fld C) (hr : Room j X.A) (tk : L2N.Takes X W) (ha : PA X [e] ta) (hj : 2 ≤ j := by decide) (hcalm : X.calm = true := by rfl) (hg : Gl X x := by rfl)
    (hdb : (x == ("__debug__" : Str)) = false := by decide) (he : starEach [e] X.env = (false, eval e X.env) :: starEach [] X.env := by rfl) (hpl : (backTo pos (starEach [] X.env)).any (·.1) = false := by rfl) :
    PS X (.Raise (some (.Call (.Name x p) [e] [] pos)) none pos') (fun _ σ H => tMkO C (spInit C fld) [] ta σ H fun cls d H' => W cls d σ H') := by
  obtain ⟨fI, fd, ps, T, F, b⟩ := c.ex
  exact L2N.ps_raise hcalm tk (pmk_oexN (X := X) (p := p) (pos := pos) T.oex T.iC T.tI F (hr.mono hj) b .nil hg T.g ha hdb he hpl)
section
variable {P : Program} {w : World} {K : PySem.W.Frag} {mg : Str → Option Value} {base : Heap}
-- part gen2
/-- an isinstance of an int -/
theorem isi_int {K : PySem.W.Frag} {i : Int} {T : String} {b : Bool} {H : Hp} {Q : VK} (h : kitB "int" T = some b) (q : Q (.bl b) H) : rIsi K [.int i, .ty T] H Q :=
  ⟨_, _, _, _, b, rfl, .ty T, .base (.int i), kit_ty h, q⟩
theorem isi_tup {K : PySem.W.Frag} {a : Addr} {xs : List V} {T : String} {b : Bool} {H : Hp} {Q : VK} (ha : H a = some (.tup xs)) (h : kitB "tuple" T = some b) (q : Q (.bl b) H) : rIsi K [.ref a, .ty T] H Q :=
  ⟨_, _, _, _, b, rfl, .ty T, .base (.tup ha), kit_ty h, q⟩
theorem isi_bl {K : PySem.W.Frag} {x : Bool} {T : String} {b : Bool} {H : Hp} {Q : VK} (h : kitB "bool" T = some b) (q : Q (.bl b) H) : rIsi K [.bl x, .ty T] H Q :=
  ⟨_, _, _, _, b, rfl, .ty T, .base (.bl x), kit_ty h, q⟩
theorem isi_lst {K : PySem.W.Frag} {a : Addr} {xs : List V} {T : String} {b : Bool} {H : Hp} {Q : VK} (ha : H a = some (.lst xs)) (h : kitB "list" T = some b) (q : Q (.bl b) H) : rIsi K [.ref a, .ty T] H Q :=
  ⟨_, _, _, _, b, rfl, .ty T, .base (.lst ha), kit_ty h, q⟩
/-- the law's own promise -/
def spLaw (K : PySem.W.Frag) : Sp := fun vs H Q _ => ∃ (a : Addr) (ns : List Int), vs = [.ref a] ∧ SqL K H a (ns.map V.int) ∧ ns.length ≤ 63 ∧ ∀ H', Q (.bl true) H'
/-- a test by an own truth -/
theorem pt_own {X : Cx} {a : Expr} {ta : TE} {r : V → Hp → (Bool → Hp → Prop) → Prop} (ha : PE X a ta) (hr : TruR X r) (he : ∀ whole, isTrue a X.env whole = (do let v ← whole; standAt a.pos; holding [v] (truthy v)) := by intro _; rfl) :
    PT X a (fun σ H Q => ta σ H fun x H' => r x H' Q) :=
  ⟨fun pins s σ H Q I h => isTrue_plain (thn (ha.run pins s σ H _ I h) fun v s1 ⟨x, H1, I1, r1, q1⟩ => hr pins s1 σ H1 x v Q I1 r1 q1) (he _)⟩
-- part pool
/-- a pool: three values -/
def PoolAt (H : Hp) (p : Addr) : Prop := ∃ (c n : Int) (b : Bool), H p = some (.lst [.int c, .int n, .bl b])
def spPool : Sp := fun vs H Q _ => ∃ c : Int, vs = [.int c] ∧ ∀ p H', H p = none → Same H H' → PoolAt H' p → Q (.ref p) H'
abbrev s_pool : Stmt := top 16
theorem sc_pool : FnScope ["_law_cell_here"] ["_law_cell_here"] (defScope s_pool) := ⟨rfl, rfl, rfl, by decide +kernel, rfl, by decide +kernel, by decide +kernel⟩
theorem ok_pool {f : Addr} {fd : FuncData} (F : Fun K "_law_pool" "_law_pool" s_pool f fd) : FnOk P w K mg base CX0 1 f fd ["_law_cell_here"] spPool := by
  refine F.ok sc_pool (fun vs H Q E h => ?_) (fun cdv A outer s H vs Q E hr h => ?_)
  · obtain ⟨c, rfl, _⟩ := h
    rfl
  · obtain ⟨c, rfl, k⟩ := h
    refine ⟨_, (pss_one (ps_ret (pe_lst (pa_cons (pv 0) (pa_cons pe_int (pa_cons (pe_cmpR op_ge (pv 0) (pe_op op_pow pe_int pe_int) (nomark _)) pa_nil)))))), ?_⟩
    refine ⟨_, rfl, _, rfl, _, _, rfl, rfl, ⟨by decide, by decide, by decide⟩, _, _, rfl, rfl, (by show 3 ≤ sizeLine; decide), fun p hp => ?_⟩
    exact k p _ hp (same_upd hp) ⟨_, _, _, upd_same⟩

abbrev s_take : Stmt := top 17
theorem sc_take : FnScope ["_law_pool_here", "_law_limit", "_law_drawn", "_law_mixed"] ["_law_pool_here", "_law_limit"] (defScope s_take) := ⟨rfl, rfl, rfl, by decide +kernel, rfl, by decide +kernel, by decide +kernel⟩
def spTake : Sp := fun vs H Q _ => ∃ (p : Addr) (m : Int), vs = [.ref p, .int m] ∧ PoolAt H p ∧ 0 < m ∧ m.natAbs.log2 < 9000 ∧
  ∀ v H', 0 ≤ v → v < m → (∀ q, q ≠ p → H' q = H q) → PoolAt H' p → Q (.int v) H'
theorem mix_small (z : Int) : (z % 2147483647).natAbs < 2 ^ 64 := by
  have h1 := Int.emod_nonneg z (show (2147483647 : Int) ≠ 0 by decide)
  have h2 := Int.emod_lt_of_pos z (show (0 : Int) < 2147483647 by decide)
  have : (2147483647 : Nat) < 2 ^ 64 := by decide
  omega
theorem ok_take {f : Addr} {fd : FuncData} (T : Txt mg) (F : Fun K "_law_take" "_law_take" s_take f fd) : FnOk P w K mg base CX0 1 f fd ["_law_pool_here", "_law_limit"] spTake := by
  refine F.ok sc_take (fun vs H Q E h => ?_) (fun cdv A outer s H vs Q E hr h => ?_)
  · obtain ⟨p, m, rfl, _⟩ := h
    rfl
  · obtain ⟨p, m, rfl, ⟨c, n, b, hp⟩, hm, hb, k⟩ := h
    refine ⟨_, (pss_cons (ps_asg (pe_op op_add (pe_ix ix_list (pv 0) pe_int (fun _ _ => rfl)) pe_int) (pg_sub (pv 0) pe_int set_list))
 (pss_cons (ps_if (pt_val (pe_ix ix_list (pv 0) pe_int (fun _ _ => rfl))) (pss_cons (ps_set (i := 2) sc_take.nd rfl (Or.inl rfl) (pe_op op_mod (pe_callTy call_int1 (by rfl) T.int boot_int (pa_cons (pe_ix ix_list (pv 0) pe_int (fun _ _ => rfl)) pa_nil)) (pv 1)))
 (pss_cons (ps_asg (pe_op op_fdivW (pe_callTy call_int1 (by rfl) T.int boot_int (pa_cons (pe_ix ix_list (pv 0) pe_int (fun _ _ => rfl)) pa_nil)) (pv 1)) (pg_sub (pv 0) pe_int set_list))
 (pss_one (ps_ret (pv 2))))) pss_nil)
 (pss_cons (ps_set (i := 3) sc_take.nd rfl (Or.inl rfl) (pe_op op_mod (pe_callTy call_int1 (by rfl) T.int boot_int (pa_cons (pe_op op_add (pe_op op_add (pe_op op_mul (pe_ix ix_list (pv 0) pe_int (fun _ _ => rfl)) pe_int) (pe_op op_mul (pe_ix ix_list (pv 0) pe_int (fun _ _ => rfl)) pe_int)) pe_int) pa_nil)) pe_int))
 (pss_one (ps_ret (pe_op op_mod (pe_op op_fdivW (pe_callTy call_int1 (by rfl) T.int boot_int (pa_cons (pe_op op_mod (pe_op op_pow (pv 3) pe_int) pe_int) pa_nil)) pe_int) (pv 1))))))), ?_⟩
    refine ⟨_, rfl, p, _, _, _, rfl, rfl, SqL.of hp, rfl, _, _, rfl, rfl, _, rfl, p, _, _, _, rfl, rfl, hp, rfl, ?_⟩
    refine ⟨_, rfl, p, _, _, _, rfl, rfl, SqL.of upd_same, rfl, b, rfl, ?_⟩
    cases b with
    | true =>
      refine iteT ?_
      refine ⟨_, rfl, p, _, _, _, rfl, rfl, SqL.of upd_same, rfl, .inl ⟨_, rfl, _, rfl, _, _, rfl, rfl, hm, ?_⟩⟩
      refine ⟨_, rfl, p, _, _, _, rfl, rfl, SqL.of upd_same, rfl, .inl ⟨_, rfl, _, rfl, _, _, rfl, rfl, ⟨hm, hb⟩, _, rfl, p, _, _, _, rfl, rfl, upd_same, rfl, ?_⟩⟩
      refine ⟨_, rfl, k _ _ (Int.emod_nonneg _ (by omega)) (Int.emod_lt_of_pos _ hm) (fun q hq => ?_) ⟨_, _, _, upd_same⟩⟩
      rw [upd_ne hq, upd_ne hq]
    | false =>
      refine iteF ?_
      refine ⟨_, rfl, p, _, _, _, rfl, rfl, SqL.of upd_same, rfl, _, _, rfl, rfl, (.inr ⟨by decide, by decide⟩), _, rfl, p, _, _, _, rfl, rfl, SqL.of upd_same, rfl, _, _, rfl, rfl, (.inr ⟨by decide, by decide⟩), _, _, rfl, rfl, _, _, rfl, rfl, .inl ⟨_, rfl, _, _, rfl, rfl, (by show (0 : Int) < 2147483647; decide), ?_⟩⟩
      refine ⟨_, rfl, _, _, rfl, rfl, ⟨by decide, by decide, mix_small _⟩, _, _, rfl, rfl, (by show (0 : Int) < 2147483647; decide), .inl ⟨_, rfl, _, _, rfl, rfl, ⟨by decide, by decide⟩, _, rfl, _, _, rfl, rfl, hm, ?_⟩⟩
      refine k _ _ (Int.emod_nonneg _ (by omega)) (Int.emod_lt_of_pos _ hm) (fun q hq => ?_) ⟨_, _, _, upd_same⟩
      rw [upd_ne hq]
-- part cell

abbrev s_cell : Stmt := top 18
theorem sc_cell : FnScope ["_law_script", "_law_k"] ["_law_script", "_law_k"] (defScope s_cell) := ⟨rfl, rfl, rfl, by decide +kernel, rfl, by decide +kernel, by decide +kernel⟩
def spCellL (K : PySem.W.Frag) : Sp := fun vs H Q _ => ∃ (a : Addr) (ns : List Int) (k : Nat), vs = [.ref a, .int (k : Int)] ∧ SqL K H a (ns.map V.int) ∧ ∀ v, Q (.int v) H
theorem ok_cell {f : Addr} {fd : FuncData} (T : Txt mg) (F : Fun K "_law_cell" "_law_cell" s_cell f fd) : FnOk P w K mg base CX0 1 f fd ["_law_script", "_law_k"] (spCellL K) := by
  refine F.ok sc_cell (fun vs H Q E h => ?_) (fun cdv A outer s H vs Q E hr h => ?_)
  · obtain ⟨a, ns, k, rfl, _⟩ := h
    rfl
  · obtain ⟨a, ns, k, rfl, hS, q⟩ := h
    refine ⟨_, (pss_cons (ps_if (pt_cmpR op_lt (pv 1) (pe_callB call_len_seq (by rfl) T.len PySem.boot_len (pa_cons (pv 0) pa_nil)) (nomark _)) (pss_one (ps_ret (pe_ix ix_list (pv 0) (pv 1) (fun _ _ => rfl)))) pss_nil)
 (pss_one (ps_ret pe_int))), ?_⟩
    refine ⟨_, rfl, _, rfl, a, _, rfl, .inl hS, _, _, rfl, rfl, _, rfl, ?_⟩
    rw [List.length_map]
    by_cases c : k < ns.length
    · refine if_pos_of (decide_eq_true (by omega)) ?_
      refine ⟨_, rfl, _, rfl, a, _, _, .int ns[k], rfl, rfl, hS, atI_nat (by rw [List.getElem?_map, List.getElem?_eq_getElem c]; rfl), ?_⟩
      exact q _
    · refine if_neg_of (decide_eq_false (by omega)) ?_
      exact q _
-- part maps
/-! comprehensions and loops whose turns leave what stood before as it was -/
/-- the list that a comprehension makes: f i behind i turns -/
def PvM (H1 : Hp) (D : Addr) (f : Nat → List V) (i : Nat) (H : Hp) : Prop := Same H1 H ∧ H D = some (.lst (f i))
theorem PvM.zero {H1 : Hp} {D : Addr} {f : Nat → List V} (hD : H1 D = none) (h0 : f 0 = []) : PvM H1 D f 0 (upd H1 D (.lst [])) := ⟨same_upd hD, by rw [h0]; exact upd_same⟩
theorem PvM.push {H1 H4 : Hp} {D : Addr} {f : Nat → List V} {i : Nat} {y : V} (hD : H1 D = none) (s : Same H1 H4) (hd : H4 D = some (.lst (f i))) (few : (f i).length < 1000) (hf : f (i + 1) = f i ++ [y]) :
    ∃ acc, H4 D = some (.lst acc) ∧ acc.length < sizeLine ∧ PvM H1 D f (i + 1) (upd H4 D (.lst (acc ++ [y]))) :=
  ⟨f i, hd, small1000 (by omega), fun b o eb => by
    rw [upd_ne (ne_of_none eb hD)]
    exact s b o eb, by rw [hf]; exact upd_same⟩
theorem PvM.skip {H1 H4 : Hp} {D : Addr} {f : Nat → List V} {i : Nat} (s : Same H1 H4) (hd : H4 D = some (.lst (f i))) (hf : f (i + 1) = f i) : PvM H1 D f (i + 1) H4 := ⟨s, by rw [hf]; exact hd⟩
section
variable {J : It} {n : Nat} {G : Hp → Prop} {Y : Nat → Hp → V → Hp → Prop}
theorem lcW (w : Walk J n G Y) {g : TG} {tt : TT} {te : TE} {vs : List Nat} {σ : L2.St} {H1 : Hp} {D : Addr} {Qd : Hp → Prop} (f : Nat → List V) (hD : H1 D = none) (h0 : f 0 = []) (hG : ∀ H, Same H1 H → G H)
    (hs : ∀ i x H H', i < n → Same H1 H → H D = some (.lst (f i)) → Y i H x H' → g x (wipe σ vs) H' fun σ2 H2 => wipe σ2 vs = wipe σ vs ∧ tt σ2 H2 fun b H3 =>
      if b = true then te σ2 H3 fun y H4 => ∃ acc, H4 D = some (.lst acc) ∧ acc.length < sizeLine ∧ PvM H1 D f (i + 1) (upd H4 D (.lst (acc ++ [y]))) else PvM H1 D f (i + 1) H3) (hd : ∀ H, Same H1 H → H D = some (.lst (f n)) → Qd H) :
    ∃ W : Nat → Nat → Hp → Prop, (∃ m, W 0 m (upd H1 D (.lst []))) ∧ ∀ i m H, W i m H →
      (J.stop i H ∧ Qd H) ∨ (J.go i H ∧ ∃ Nx : Hp → Prop, (∀ H', Nx H' → ∃ m', m' < m ∧ W (i + 1) m' H') ∧ ∀ x H', J.yld i H x H' → g x (wipe σ vs) H' fun σ2 H2 => wipe σ2 vs = wipe σ vs ∧ tt σ2 H2 fun b H3 =>
        if b = true then te σ2 H3 fun y H4 => ∃ acc, H4 D = some (.lst acc) ∧ acc.length < sizeLine ∧ Nx (upd H4 D (.lst (acc ++ [y]))) else Nx H3) :=
  lc_it w (PvM H1 D f) (PvM.zero hD h0) (fun _ H _ h => hG H h.1) (fun i x H H' hi h y => hs i x H H' hi h.1 h.2 y) fun H h => hd H h.1 h.2
end
/-- the first i of a row -/
abbrev tkV (l : List V) (i : Nat) : List V := l.take i
theorem tkV_succ {l : List V} {i : Nat} {y : V} (h : l[i]? = some y) : tkV l (i + 1) = tkV l i ++ [y] := by
  show l.take (i + 1) = l.take i ++ [y]
  rw [List.take_add_one, h]
  rfl
theorem tkV_len (l : List V) (i : Nat) : (tkV l i).length ≤ l.length := by
  show (l.take i).length ≤ l.length
  rw [List.length_take]
  omega
theorem tkV_all (l : List V) : tkV l l.length = l := List.take_length
/-- the turn of a map ends -/
theorem mapEnd {H1 H4 : Hp} {D : Addr} {ys : List V} {i : Nat} {y : V} (hD : H1 D = none) (few : ys.length < 1000) (s : Same H1 H4) (hd : H4 D = some (.lst (tkV ys i))) (hy : ys[i]? = some y) :
    ∃ acc, H4 D = some (.lst acc) ∧ acc.length < sizeLine ∧ PvM H1 D (tkV ys) (i + 1) (upd H4 D (.lst (acc ++ [y]))) :=
  PvM.push hD s hd (Nat.lt_of_le_of_lt (tkV_len ys i) few) (tkV_succ hy)
theorem map_at {α : Type} {f : α → V} {l : List α} {i : Nat} {z : α} (h : l[i]? = some z) : (l.map f)[i]? = some (f z) := by
  rw [List.getElem?_map, h]
  rfl
theorem pow_small {z : Int} {n m : Nat} (h : z.natAbs < 2 ^ n) (hnm : n ≤ m) : z.natAbs < 2 ^ m := Nat.lt_of_lt_of_le h (Nat.pow_le_pow_right (by decide) hnm)
theorem flat_rep {α : Type} (x : α) : ∀ m : Nat, (List.replicate m [x]).flatten = List.replicate m x
  | 0 => rfl
  | m + 1 => by rw [List.replicate_succ, List.flatten_cons, flat_rep x m, List.replicate_succ, List.singleton_append]
/-- len of a list or tuple, the frame named -/
def rLenS (K : PySem.W.Frag) : List V → Hp → VK → Prop := fun xs H Q => ∃ p ys, xs = [V.ref p] ∧ (SqL K H p ys ∨ SqT K H p ys) ∧ Q (V.int (ys.length : Int)) H
theorem call_len_seqK {X : Cx} {K : PySem.W.Frag} (hK : X.K = K) : CallR X (.builtin "len") (rLenS K) := by
  subst hK
  exact call_len_seq
/-- o.f, the frame named -/
theorem pe_fldK {X : Cx} {K : PySem.W.Frag} {e : Expr} {f : Str} {pos : Pos} {ta : TE} (hK : X.K = K) (he : PE X e ta) (hb : attributeBase e f X.env (eval e X.env) = eval e X.env) : PE X (.Attribute e f pos) (tFld K ta f) := by
  subst hK
  exact pe_fld he hb
/-- range(n): 0, 1, .. -/
theorem walk_range0 {n : Nat} : Walk (Itr 0 n) n (fun _ => True) (YFn fun i => .int (i : Int)) :=
  walk_range.mono (fun _ _ => trivial) fun i H x H' _ _ y => ⟨y.1, y.2.trans (congrArg V.int (Int.zero_add _))⟩
section
variable {J : It} {n : Nat} {G : Hp → Prop} {Y : Nat → Hp → V → Hp → Prop}
/-- a comprehension that makes the row ys -/
theorem lcMap (w : Walk J n G Y) {g : TG} {tt : TT} {te : TE} {vs : List Nat} {σ : L2.St} {H1 : Hp} {D : Addr} {Qd : Hp → Prop} (ys : List V) (hl : ys.length = n) (hD : H1 D = none) (hG : ∀ H, Same H1 H → G H)
    (hs : ∀ i x H H', i < n → Same H1 H → H D = some (.lst (tkV ys i)) → Y i H x H' → g x (wipe σ vs) H' fun σ2 H2 => wipe σ2 vs = wipe σ vs ∧ tt σ2 H2 fun b H3 =>
      if b = true then te σ2 H3 fun y H4 => ∃ acc, H4 D = some (.lst acc) ∧ acc.length < sizeLine ∧ PvM H1 D (tkV ys) (i + 1) (upd H4 D (.lst (acc ++ [y]))) else PvM H1 D (tkV ys) (i + 1) H3) (hd : ∀ H, Same H1 H → H D = some (.lst ys) → Qd H) :
    ∃ W : Nat → Nat → Hp → Prop, (∃ m, W 0 m (upd H1 D (.lst []))) ∧ ∀ i m H, W i m H →
      (J.stop i H ∧ Qd H) ∨ (J.go i H ∧ ∃ Nx : Hp → Prop, (∀ H', Nx H' → ∃ m', m' < m ∧ W (i + 1) m' H') ∧ ∀ x H', J.yld i H x H' → g x (wipe σ vs) H' fun σ2 H2 => wipe σ2 vs = wipe σ vs ∧ tt σ2 H2 fun b H3 =>
        if b = true then te σ2 H3 fun y H4 => ∃ acc, H4 D = some (.lst acc) ∧ acc.length < sizeLine ∧ Nx (upd H4 D (.lst (acc ++ [y]))) else Nx H3) :=
  lcW w (tkV ys) hD rfl hG hs fun H s h => hd H s (by rw [h, ← hl, tkV_all])
end
-- part menu
theorem allN {R : V → Prop} : ∀ x ∈ ([] : List V), R x := fun _ h => nomatch h
theorem allC {R : V → Prop} {a : V} {l : List V} (h : R a) (t : ∀ x ∈ l, R x) : ∀ x ∈ a :: l, R x := fun x hx => by
  rcases List.mem_cons.mp hx with e | e
  · rw [e]
    exact h
  · exact t x e
/-- an item at an open place in bounds -/
theorem at_some {xs : List V} {v : Int} (h0 : 0 ≤ v) (h1 : v < xs.length) : ∃ x, atI xs v = some x ∧ x ∈ xs := by
  have hv : ((v.toNat : Nat) : Int) = v := Int.toNat_of_nonneg h0
  have hl : v.toNat < xs.length := by omega
  have z : atI xs ((v.toNat : Nat) : Int) = some xs[v.toNat] := atI_nat (List.getElem?_eq_getElem hl)
  rw [hv] at z
  exact ⟨xs[v.toNat], z, List.getElem_mem hl⟩
def SameBut (p : Addr) (H H' : Hp) : Prop := ∀ b o, b ≠ p → H b = some o → H' b = some o
theorem SameBut.of {p : Addr} {H H' : Hp} (e : ∀ q, q ≠ p → H' q = H q) : SameBut p H H' := fun b o hb h => by
  rw [e b hb]
  exact h
theorem SameBut.trans {p : Addr} {H H1 H2 : Hp} (a : SameBut p H H1) (b : SameBut p H1 H2) : SameBut p H H2 := fun c o hc h => b c o hc (a c o hc h)
theorem sbut {p : Addr} {H H' : Hp} (s : Same H H') : SameBut p H H' := fun b o _ h => s b o h
/-- what was tracked ahead of the pool -/
theorem SameBut.same {p : Addr} {H0 H H' : Hp} (s : Same H0 H) (np : H0 p = none) (e : SameBut p H H') : Same H0 H' := fun b o h => e b o (ne_of_none h np) (s b o h)
theorem PoolAt.same {H H' : Hp} {p : Addr} (h : PoolAt H p) (s : Same H H') : PoolAt H' p := by
  obtain ⟨x, y, z, e⟩ := h
  exact ⟨x, y, z, s _ _ e⟩
theorem PoolAt.new {H : Hp} {p a : Addr} (h : PoolAt H p) (n : H a = none) : a ≠ p := fun e => by
  obtain ⟨x, y, z, q⟩ := h
  rw [e, q] at n
  cases n
-- part eqints
theorem eqvAll_ints : ∀ l m : List Int, PyData.eqvAll (l.map PyData.int) (m.map PyData.int) = decide (l = m)
  | [], [] => by rw [List.map_nil, PyData.eqvAll]; rfl
  | [], b :: m => by rw [List.map_nil, List.map_cons, PyData.eqvAll] <;> first | (exact (decide_eq_false (by simp)).symm) | skip
  | a :: l, [] => by rw [List.map_nil, List.map_cons, PyData.eqvAll] <;> first | (exact (decide_eq_false (by simp)).symm) | skip
  | a :: l, b :: m => by
    rw [List.map_cons, List.map_cons, PyData.eqvAll, PyData.eqv, eqvAll_ints l m]
    by_cases c : a = b
    · subst c
      by_cases c2 : l = m
      · subst c2
        simp
      · simp [c2]
    · simp [c]
theorem eqv_ints (l m : List Int) : PyData.eqv (.list (l.map PyData.int)) (.list (m.map PyData.int)) = decide (l = m) := by
  rw [PyData.eqv]
  exact eqvAll_ints l m
theorem eqv_intsT (l m : List Int) : PyData.eqv (.tuple (l.map PyData.int)) (.tuple (m.map PyData.int)) = decide (l = m) := by
  rw [PyData.eqv]
  exact eqvAll_ints l m
theorem canLay_ints : ∀ l : List Int, PyData.canLayAll0 (l.map PyData.int) = true
  | [] => by rw [List.map_nil, PyData.canLayAll0]
  | a :: l => by rw [List.map_cons, PyData.canLayAll0, PyData.canLay0, canLay_ints l]; rfl
theorem depth_ints : ∀ l : List Int, PyData.depthAll (l.map PyData.int) = 0
  | [] => by rw [List.map_nil, PyData.depthAll]
  | a :: l => by rw [List.map_cons, PyData.depthAll, PyData.depth, depth_ints l]; rfl
theorem shaped_ints (l : List Int) : SeqAt.shaped (.list (l.map PyData.int)) = true := by
  unfold SeqAt.shaped
  rw [PyData.canLay0, canLay_ints, PyData.depth, depth_ints]
  rfl
theorem shaped_intsT (l : List Int) : SeqAt.shaped (.tuple (l.map PyData.int)) = true := by
  unfold SeqAt.shaped
  rw [PyData.canLay0, canLay_ints, PyData.depth, depth_ints]
  rfl
theorem dpAll_ints {K : PySem.W.Frag} {H : Hp} : ∀ l : List Int, DpAll K H (l.map V.int) (l.map PyData.int)
  | [] => .nil
  | a :: l => .cons (.int a) (dpAll_ints l)
theorem dp_lst {K : PySem.W.Frag} {H : Hp} {a : Addr} {l : List Int} (h : SqL K H a (l.map V.int)) : Dp K H (.ref a) (.list (l.map PyData.int)) := .lst h (dpAll_ints l)
theorem dp_tup {K : PySem.W.Frag} {H : Hp} {a : Addr} {l : List Int} (h : SqT K H a (l.map V.int)) : Dp K H (.ref a) (.tuple (l.map PyData.int)) := .tup h (dpAll_ints l)
theorem hu64 {k : Nat} {A : Around} (hr : Room k A) : A.units + 64 < cLine := by
  have := hr.un
  omega
theorem item_int {l : List Int} {i : Nat} {y : V} (h : (l.map V.int)[i]? = some y) : ∃ z : Int, y = .int z ∧ l[i]? = some z := by
  rw [List.getElem?_map] at h
  cases e : l[i]? with
  | none =>
    rw [e] at h
    cases h
  | some z =>
    rw [e] at h
    exact ⟨z, (Option.some.inj h).symm, rfl⟩
-- part enumt
/-! enumerate(tuple) -/
set_option maxHeartbeats 1000000 in
theorem meets_enumerate_newB0 {v : Value} {o : Obj} {H : Heap → Prop} (B : Begins v o H) :
    Meets (Builtin.«enumerate.__new__» ⟨[.type "enumerate", v], []⟩) (fun _ R s => H s.heap ∧
      R (.ok (.ret (.ref (s.heap.push o).objs.size))) { s with heap := (s.heap.push o).push { cls := .type "enumerate", data := .fields #[.none, .bool false, .ref s.heap.objs.size, rawInt 0, .none, .none] } }) :=
  .of_wp fun prog w A R s h => by
    obtain ⟨hp, g, d, tk, os⟩ := s; obtain ⟨h1, h⟩ := h
    have hsub := sub_enumerate
    have q1 : ∀ {A' : Around} {E : Value → Shared → Prop} {Q : Value → Shared → Prop}, Q (.ref hp.objs.size) ⟨hp.push o, g, d, tk, os⟩ → wpAny (model prog w) A' (pyIter v) Q E ⟨hp, g, d, tk, os⟩ :=
      fun q => B.iter prog w _ _ ⟨hp, g, d, tk, os⟩ _ h1 q
    wp_walk using q1
    refine wpAny_stack_any fun st => wpAny_pure ?_
    split
    · rename_i c _ _ _ _ _
      cases (c == Value.type "enumerate")
      · wp_walk using q1
        exact ⟨_, rfl, h⟩
      · wp_walk using q1
        exact ⟨_, rfl, h⟩
    · wp_walk using q1
      exact ⟨_, rfl, h⟩
theorem call_enumerateT {prog : Program} {w : World} {A : Around} {E : Value → Shared → Prop} {s : Shared} {l : Addr} {items : Array Value} {Q : Value → Shared → Prop} (hL : s.heap.IsTuple l items)
    (h : ∀ h', IsEnum h' (s.heap.objs.size + 1) s.heap.objs.size 0 .none → h'.IsTupleIter s.heap.objs.size l 0 → h'.objs.size = s.heap.objs.size + 2 →
      (∀ b o, s.heap.get? b = some o → h'.get? b = some o) → Q (.ref (s.heap.objs.size + 1)) { s with heap := h' }) :
    wpAny (model prog w) A (call (.type "enumerate") [.ref l]) Q E s := by
  have B := begins_tuple l items
  refine callType_new F.called_enumerate (by decide) (F.typeCall_enumerate_1 _) (F.newCall_enumerate_1 _) (fun obj => F.args_object_init_2 obj _) F.entry_enumerate_new
    (meets_enumerate_newB0 B) ⟨hL, ?_⟩
  have hz : (s.heap.push { cls := .type "tuple_iterator", data := .fields #[.ref l, .int 0 0] }).objs.size = s.heap.objs.size + 1 := Heap.size_push ..
  show _ ∧ _
  rw [hz]
  have he : IsEnum ((s.heap.push { cls := .type "tuple_iterator", data := .fields #[.ref l, .int 0 0] }).push
      { cls := .type "enumerate", data := .fields #[.none, .bool false, .ref s.heap.objs.size, rawInt 0, .none, .none] }) (s.heap.objs.size + 1) s.heap.objs.size 0 .none := by
    have := Heap.get?_push_size (s.heap.push { cls := .type "tuple_iterator", data := .fields #[.ref l, .int 0 0] })
      (o := { cls := .type "enumerate", data := .fields #[.none, .bool false, .ref s.heap.objs.size, rawInt 0, .none, .none] }) rfl
    rw [hz] at this; exact this
  refine ⟨⟨_, he, rfl⟩, h _ he ⟨_, Heap.get?_push_of_some _ (Heap.get?_push_size _ rfl), rfl, rfl⟩ (by rw [Heap.size_push, hz]) fun b o x => Heap.get?_push_of_some _ (Heap.get?_push_of_some _ x)⟩
/-- the tuple at a, each item in a new pair -/
def IteT (K : PySem.W.Frag) (a : Addr) : It :=
  ⟨fun i H => ∃ (xs : List V) (x : V), SqT K H a xs ∧ xs[i]? = some x, fun i H v H' => ∃ T x, v = .ref T ∧ H T = none ∧ H' = upd H T (.tup [.int (i : Nat), x]) ∧ ∀ xs, SqT K H a xs → xs[i]? = some x, fun i H => ∃ xs : List V, SqT K H a xs ∧ xs.length = i⟩
theorem turn_enumT {P : Program} {w : World} {K : PySem.W.Frag} {elts : List Expr} {kk : Nat} {tpos : Pos} (a e it : Addr) :
    Turn P w K (.Tuple elts kk tpos) (IteT K a) [e, it] e (fun i h => (∃ old, IsEnum h e it ((i : Nat) : Int) old) ∧ h.IsTupleIter it a i ∧ e ≠ it ∧ a ≠ it ∧ a ≠ e) where
  mem := by simp
  obj := fun i h st b hb => by
    obtain ⟨⟨old, he⟩, ⟨o, ho, hc, hd⟩, _⟩ := st
    have e' : b = e ∨ b = it := by simpa using hb
    rcases e' with z | z
    · rw [z]; exact ⟨_, he, fun v q => nomatch q⟩
    · rw [z]; exact ⟨o, ho, fun v q => by rw [hd] at q; cases q⟩
  keep := fun i h h' st k => let ⟨⟨old, he⟩, hi, hne⟩ := st; ⟨⟨old, k e (by simp) _ he⟩, hi.at fun o q => k it (by simp) o q, hne⟩
  item := by
    intro X hP hw hK hc i pins s σ H E I hf st hg
    subst hP hw hK
    obtain ⟨⟨old, he⟩, hit, hne, hai, hae⟩ := st
    obtain ⟨xs, x, hq, hx⟩ := hg
    obtain ⟨its, rv, p, hz⟩ := I.tuple hq
    obtain ⟨u, hu, ru⟩ := rv.get hx
    have hel : e < s.heap.objs.size := Heap.lt_size he
    have hil : it < s.heap.objs.size := by obtain ⟨_, q, _⟩ := hit; exact Heap.lt_size q
    have hi : i < its.toArray.size := by simpa using (List.getElem?_eq_some_iff.mp hu).1
    refine wpAny_pyNext_enum_itemD (Draws.tuple (A := X.A.in1) (I.ok.hd hc) it a hai its.toArray) he ⟨hit, p⟩ hi hne (by simp [hne, Ne.symm hae]) fun x' h' tk hx' ho hst hT hsz hk => ?_
    have ex : x' = u := by
      have z : its.toArray[i]? = some x' := hx'
      rw [List.getElem?_toArray, hu] at z
      exact (Option.some.inj z).symm
    subst ex
    refine ⟨_, rfl, wpAny_letOwnedTupleGo_enum (s := { s with heap := h', toks := tk + 1 }) ho fun h'' he' sb => ?_⟩
    have hT2 : h''.get? s.heap.objs.size = some { cls := .type "tuple", data := .seq #[.int i tk, x'] } := (sb.2 _ (Nat.ne_of_gt hel)).trans hT
    have new : ObjOk X.prog X.w (upd H s.heap.objs.size (.tup [.int (i : Nat), x])) h'' s.heap.objs.size (.tup [.int (i : Nat), x]) :=
      ⟨by show 2 ≤ sizeLine; decide, [.int i tk, x'], .cons ⟨_, rfl⟩ (.cons ru .nil), ⟨_, hT2, rfl, _, rfl⟩⟩
    have I1 : Inv X pins σ (upd H s.heap.objs.size (.tup [.int (i : Nat), x])) { s with heap := h'', toks := tk + 1 } :=
      I.turnedNew (ch := [e, it]) (fun b ob hb q => (sb.2 b (fun z => hb (by simp [z]))).trans (hk b ob (fun z => hb (by simp [z])) (fun z => hb (by simp [z])) q)) hf (Nat.le_refl _) new
    refine ⟨.ref s.heap.objs.size, _, I1, rfl, ⟨_, x, rfl, I.hok.fresh (Nat.le_refl _), rfl, fun ys hy => by rw [I.tuple_inj hy hq]; exact hx⟩, ⟨⟨x', ?_⟩, hst.1.at fun o q => (sb.2 it (Ne.symm hne)).trans q, hne, hai, hae⟩, fun b hb => ?_⟩
    · have e1 : ((i + 1 : Nat) : Int) = (i : Int) + 1 := by omega
      rw [e1]; exact he'
    · have hb' : b < s.heap.objs.size := by
        have e' : b = e ∨ b = it := by simpa using hb
        rcases e' with z | z
        · rw [z]; exact hel
        · rw [z]; exact hil
      rw [upd_ne (Nat.ne_of_lt hb')]
      exact (hf b hb).1
  done := by
    intro X hP hw hK hc i pins s σ H E I hf st hg
    subst hP hw hK
    obtain ⟨⟨old, he⟩, hit, hne, hai, hae⟩ := st
    obtain ⟨xs, hq, hx⟩ := hg
    obtain ⟨its, rv, p, hz⟩ := I.tuple hq
    obtain ⟨f0, f1, f2, f3, f4, f5⟩ := hf it (by simp)
    have hl := rv.length
    have e2 : i = its.toArray.size := by simp; omega
    subst e2
    exact wpAny_pyNext_enum_endD (Draws.tuple (A := X.A.in1) (I.ok.hd hc) it a hai its.toArray) he ⟨hit, p⟩ fun h' eb => ⟨rfl, I.turned (t' := s.toks) (fun b o hb q => eb b o hb q) f0 f1 f3 f4 f5⟩
  self := fun A i s Q E st h => let ⟨⟨_, he⟩, _⟩ := st; wpAny_pyIter_enum he h
def iEnumT (K : PySem.W.Frag) (ta : TA) : TI := fun σ H R => ta σ H fun vs H1 => ∃ a xs, vs = [.ref a] ∧ SqT K H1 a xs ∧ R (IteT K a) H1
theorem pi_enumT {X : Cx} {e : Expr} {ta : TA} {p pos tpos : Pos} {elts : List Expr} {kk : Nat} (hg : Gl X "enumerate") (hm : X.mg "enumerate" = none) (ha : PA X [e] ta) (hs : starEach [e] X.env = [(false, eval e X.env)] := by rfl) :
    PI X (.Tuple elts kk tpos) (.Call (.Name "enumerate" p) [e] [] pos) (iEnumT X.K ta) := by
  refine ⟨fun pins s σ H R I h => ?_⟩
  refine Call_ (ld_blt I hg hm boot_enumerate (PyProof.Rows.callWith_type1 (thn (ha.run pos pins s σ H _ I h) fun us s1 ⟨vs, H1, I1, r1, q1⟩ => ?_) hs rfl))
  obtain ⟨a, xs, ex, hq, q⟩ := q1
  subst ex
  cases r1 with
  | cons r rr =>
    cases rr
    cases r
    obtain ⟨its, rv, p', hz⟩ := I1.tuple hq
    have al : a < s1.heap.objs.size := by obtain ⟨_, q, _⟩ := p'; exact Heap.lt_size q
    refine call_enumerateT p' fun h' he hit hsz hk => wpAny_pyIter_enum he ?_
    have I2 : Inv X pins σ H1 { s1 with heap := h' } := I1.kept (t' := s1.toks) hk
    refine ⟨s1.heap.objs.size + 1, [s1.heap.objs.size + 1, s1.heap.objs.size], _, _, H1, rfl, I2, turn_enumT a (s1.heap.objs.size + 1) s1.heap.objs.size, ⟨⟨.none, he⟩, hit, Nat.succ_ne_self _, Nat.ne_of_lt al, Nat.ne_of_lt (Nat.lt_succ_of_lt al)⟩, fun b hb => ?_, q⟩
    have e' : b = s1.heap.objs.size + 1 ∨ b = s1.heap.objs.size := by simpa using hb
    have hle : s1.heap.objs.size ≤ b := by
      rcases e' with z | z
      · rw [z]; exact Nat.le_add_right _ _
      · rw [z]; exact Nat.le_refl _
    exact I1.fpOk hle (I1.hok.fresh hle)
theorem walk_enumT {K : PySem.W.Frag} {a : Addr} {xs : List V} : Walk (IteT K a) xs.length (fun H => SqT K H a xs) (YPair (fun i => some (.int (i : Nat))) (fun i => xs[i]?)) := by
  refine ⟨fun i _ hi q => ⟨xs, xs[i], q, by simp [hi]⟩, fun _ q => ⟨xs, q, rfl⟩, fun i H v H' _ q y => ?_⟩
  obtain ⟨T, x, h1, h2, h3, h4⟩ := y
  exact ⟨T, .int (i : Nat), x, h1, h2, h3, rfl, h4 xs q⟩
-- part ownops
/-! operators of an own class -/
/-- a method of the class at C, by its promise -/
structure Me (P : Program) (w : World) (K : PySem.W.Frag) (mg : Str → Option Value) (base : Heap) (k : Nat) (C : Addr) (m : Str) (sp : Sp) : Prop where
  ex : ∃ (f : Addr) (fd : FuncData) (ps : List Str), Meth K C m f ∧ FnOk P w K mg base CX0 k f fd ps sp ∧ Binds K fd ps []
section
variable {X : Cx} {C : Addr} {m : Str} {sp : Sp} {k j : Nat}
theorem inst_of {pins : List (Addr × Obj)} {σ : L2.St} {H : Hp} {s : Shared} {a dx : Addr} {fs : List (Str × V)} (I : Inv X pins σ H s) (e : H a = some (.ins C dx fs)) : ∃ ox od, PySem.W.InstAt s.heap a ox C od := by
  obtain ⟨mA, O, _⟩ := ins_get I.hok e
  obtain ⟨od, J, _⟩ := O.look
  exact ⟨_, _, J⟩
/-- x op y of two instances -/
def rOwn2 (C : Addr) (sp : Sp) : R2 := fun x y H Q => ∃ a b dx dy fs gs, x = .ref a ∧ y = .ref b ∧ H a = some (.ins C dx fs) ∧ H b = some (.ins C dy gs) ∧ sp [x, y] H Q E0
theorem op_own2 {op : Operator} (c : Me X.prog X.w X.K X.mg X.base k C m sp) (hr : Room j X.A) (sf : PySem.W.selfFirst X.K C = true) (hm : PySem.dunder op.info.2 = m := by decide +kernel) (hk : k ≤ j := by decide) : OpR X (binaryOp op) (rOwn2 C sp) := by
  obtain ⟨f, fd, ps, M, F, b⟩ := c.ex
  intro pins s σ H x y v u Q I rx ry h
  obtain ⟨a, b', dx, dy, fs, gs, rfl, rfl, ha, hb, q⟩ := h
  cases (show v = Value.ref a from rx)
  cases (show u = Value.ref b' from ry)
  obtain ⟨ox, od, J⟩ := inst_of I ha
  obtain ⟨oy, od', J'⟩ := inst_of I hb
  obtain ⟨mm, hF⟩ := I.fr
  refine PySem.W.binop_K hF I.ok.mod.kin J J'.type sf (by rw [hm]; exact M.at_) M.fn ?_
  refine wpAny_mono (run_fn (us := [.ref a, .ref b']) (vs := [.ref a, .ref b']) F (hr.mono hk) b .nil pass0 I (.cons rfl (.cons rfl .nil)) q) (fun u' s' z => ?_) fun _ _ x => x
  obtain ⟨z', H', I', rz, qz⟩ := z
  exact SlX.cmpback rz ⟨z', H', I', rz, qz⟩
/-- op x of an instance -/
def rOwn1 (C : Addr) (sp : Sp) : V → Hp → VK → Prop := fun x H Q => ∃ a dx fs, x = .ref a ∧ H a = some (.ins C dx fs) ∧ sp [x] H Q E0
theorem un_inv1 (c : Me X.prog X.w X.K X.mg X.base k C "__invert__" sp) (hr : Room j X.A) (hk : k ≤ j := by decide) : UnR X (unaryOp .Invert) (rOwn1 C sp) := by
  obtain ⟨f, fd, ps, M, F, b⟩ := c.ex
  intro pins s σ H x v Q I rx h
  obtain ⟨a, dx, fs, rfl, ha, q⟩ := h
  cases (show v = Value.ref a from rx)
  obtain ⟨ox, od, J⟩ := inst_of I ha
  obtain ⟨mm, hF⟩ := I.fr
  exact PySem.W.ksp_inv hF I.ok.mod.kin J M.at_ M.fn (run_fn (us := [.ref a]) (vs := [.ref a]) F (hr.mono hk) b .nil pass0 I (.cons rfl .nil) q)
theorem un_neg1 (c : Me X.prog X.w X.K X.mg X.base k C "__neg__" sp) (hr : Room j X.A) (hk : k ≤ j := by decide) : UnR X (unaryOp .USub) (rOwn1 C sp) := by
  obtain ⟨f, fd, ps, M, F, b⟩ := c.ex
  intro pins s σ H x v Q I rx h
  obtain ⟨a, dx, fs, rfl, ha, q⟩ := h
  cases (show v = Value.ref a from rx)
  obtain ⟨ox, od, J⟩ := inst_of I ha
  obtain ⟨mm, hF⟩ := I.fr
  exact PySem.W.ksp_neg hF I.ok.mod.kin J M.at_ M.fn (run_fn (us := [.ref a]) (vs := [.ref a]) F (hr.mono hk) b .nil pass0 I (.cons rfl .nil) q)
/-- x in y, y an instance: the answer a bool -/
def rOwnIn (neg : Bool) (C : Addr) (sp : Sp) : R2 := fun x y H Q => ∃ b dx fs, y = .ref b ∧ H b = some (.ins C dx fs) ∧ sp [y, x] H (fun v H' => ∃ c : Bool, v = .bl c ∧ Q (.bl (if neg then !c else c)) H') E0
theorem op_in_own (c : Me X.prog X.w X.K X.mg X.base k C "__contains__" sp) (hr : Room j X.A) (hk : k ≤ j := by decide) : OpR X (compareOp .In) (rOwnIn false C sp) := by
  obtain ⟨f, fd, ps, M, F, b⟩ := c.ex
  intro pins s σ H x y v u Q I rx ry h
  obtain ⟨a, dx, fs, rfl, ha, q⟩ := h
  cases (show u = Value.ref a from ry)
  obtain ⟨ox, od, J⟩ := inst_of I ha
  obtain ⟨mm, hF⟩ := I.fr
  refine PySem.W.in_K hF I.ok.mod.kin J M.at_ M.fn (wpAny_mono (run_fn (us := [.ref a, v]) (vs := [.ref a, x]) F (hr.mono hk) b .nil pass0 I (.cons rfl (.cons rx .nil)) q) (fun u' s' z => ?_) fun _ _ x => x)
  obtain ⟨z', H', I', rz, d, ez, qz⟩ := z
  subst ez
  cases (show u' = Value.bool d from rz)
  exact wpAny_truthy_bool ⟨.bl d, H', I', rfl, qz⟩
theorem op_notIn_own (c : Me X.prog X.w X.K X.mg X.base k C "__contains__" sp) (hr : Room j X.A) (hk : k ≤ j := by decide) : OpR X (compareOp .NotIn) (rOwnIn true C sp) := by
  obtain ⟨f, fd, ps, M, F, b⟩ := c.ex
  intro pins s σ H x y v u Q I rx ry h
  obtain ⟨a, dx, fs, rfl, ha, q⟩ := h
  cases (show u = Value.ref a from ry)
  obtain ⟨ox, od, J⟩ := inst_of I ha
  obtain ⟨mm, hF⟩ := I.fr
  refine PySem.W.notIn_K hF I.ok.mod.kin J M.at_ M.fn (wpAny_mono (run_fn (us := [.ref a, v]) (vs := [.ref a, x]) F (hr.mono hk) b .nil pass0 I (.cons rfl (.cons rx .nil)) q) (fun u' s' z => ?_) fun _ _ x => x)
  obtain ⟨z', H', I', rz, d, ez, qz⟩ := z
  subst ez
  cases (show u' = Value.bool d from rz)
  exact wpAny_truthy_bool ⟨.bl (!d), H', I', rfl, qz⟩
/-- x == y of two instances -/
theorem op_eq_own (c : Me X.prog X.w X.K X.mg X.base k C "__eq__" sp) (hr : Room j X.A) (hk : k ≤ j := by decide) : OpR X (compareOp .Eq) (rOwn2 C sp) := by
  obtain ⟨f, fd, ps, M, F, b⟩ := c.ex
  intro pins s σ H x y v u Q I rx ry h
  obtain ⟨a, b', dx, dy, fs, gs, rfl, rfl, ha, hb, q⟩ := h
  cases (show v = Value.ref a from rx)
  cases (show u = Value.ref b' from ry)
  obtain ⟨ox, od, J⟩ := inst_of I ha
  obtain ⟨oy, od', J'⟩ := inst_of I hb
  obtain ⟨mm, hF⟩ := I.fr
  show wpAny _ _ (richCompare .Eq (.ref a) (.ref b')) _ _ _
  refine PySem.W.cmp_K (op := .Eq) (tb := .ref C) hr.units0 hF I.ok.mod.kin J J'.type (by unfold PySem.W.notFirst; simp) M.at_ M.fn ?_
  refine wpAny_mono (run_fn (us := [.ref a, .ref b']) (vs := [.ref a, .ref b']) F (hr.mono hk) b .nil pass0 I (.cons rfl (.cons rfl .nil)) q) (fun u' s' z => ?_) fun _ _ x => x
  obtain ⟨z', H', I', rz, qz⟩ := z
  exact SlX.cmpback rz ⟨z', H', I', rz, qz⟩
/-- the truth of an instance, by its __bool__ -/
def rTruOwn (C : Addr) (sp : Sp) : V → Hp → (Bool → Hp → Prop) → Prop := fun x H Q => ∃ a dx fs, x = .ref a ∧ H a = some (.ins C dx fs) ∧ sp [x] H (fun v H' => ∃ c : Bool, v = .bl c ∧ Q c H') E0
theorem tru_own (c : Me X.prog X.w X.K X.mg X.base k C "__bool__" sp) (hr : Room j X.A) (hk : k ≤ j := by decide) : TruR X (rTruOwn C sp) := by
  obtain ⟨f, fd, ps, M, F, b⟩ := c.ex
  intro pins s σ H x v Q I rx h
  obtain ⟨a, dx, fs, rfl, ha, q⟩ := h
  cases (show v = Value.ref a from rx)
  obtain ⟨ox, od, J⟩ := inst_of I ha
  obtain ⟨mm, hF⟩ := I.fr
  refine PySem.W.truthy_K hF I.ok.mod.kin J M.at_ M.fn (wpAny_mono (run_fn (us := [.ref a]) (vs := [.ref a]) F (hr.mono hk) b .nil pass0 I (.cons rfl .nil) q) (fun u' s' z => ?_) fun _ _ x => x)
  obtain ⟨z', H', I', rz, d, ez, qz⟩ := z
  subst ez
  cases (show u' = Value.bool d from rz)
  exact ⟨H', I', qz⟩
end
/-- a class that makes instances, its __init__ by its promise (it may raise, and here doesn't) -/
structure Ma (P : Program) (w : World) (K : PySem.W.Frag) (mg : Str → Option Value) (base : Heap) (k : Nat) (C : Addr) (sp : Sp) : Prop where
  ex : ∃ (f : Addr) (fd : FuncData) (ps : List Str), Mk K C f ∧ FnOk P w K mg base (L2N.CX P w) k f fd ps sp ∧ Binds K fd ps []
section
variable {X : Cx} {C : Addr} {x : Str} {sp : Sp} {k j i : Nat} {p pos : Pos} {e : Expr} {es : List Expr} {t : TA}
theorem pe_ma (c : Ma X.prog X.w X.K X.mg X.base k C sp) (hr : Room j X.A) (hm : X.mg x = some (.ref C)) (ha : PA X (e :: es) t) (hk : k + 1 ≤ j := by decide) (hg : Gl X x := by rfl)
    (hdb : (x == ("__debug__" : Str)) = false := by decide) (he : starEach (e :: es) X.env = (false, eval e X.env) :: starEach es X.env := by rfl) (hpl : (backTo pos (starEach es X.env)).any (·.1) = false := by rfl) :
    PE X (.Call (.Name x p) (e :: es) [] pos) (tMake C sp [] E0 t) := by
  obtain ⟨f, fd, ps, M, F, b⟩ := c.ex
  exact pe_make M F (hr.mono hk) hg hm b .nil passN ha hdb he hpl
/-- cls(..), cls a parameter that holds the class -/
def tMakeL (i : Nat) (C : Addr) (sp : Sp) (t : TA) : TE := fun σ H Q => σ[i]? = some (some (.ref C)) ∧ tMake C sp [] E0 t σ H Q
theorem pe_maL (c : Ma X.prog X.w X.K X.mg X.base k C sp) (hr : Room j X.A) (hN : X.N[i]? = some x) (ha : PA X (e :: es) t) (hk : k + 1 ≤ j := by decide)
    (hv : Vis X.env.scope x := by first | exact Or.inl rfl | exact Or.inr (Or.inl rfl) | exact Or.inr (Or.inr rfl))
    (hdb : (x == ("__debug__" : Str)) = false := by decide) (hcd : (x == ("__classdict__" : Str)) = false := by decide)
    (he : starEach (e :: es) X.env = (false, eval e X.env) :: starEach es X.env := by rfl) (hpl : (backTo pos (starEach es X.env)).any (·.1) = false := by rfl) :
    PE X (.Call (.Name x p) (e :: es) [] pos) (tMakeL i C sp t) := by
  obtain ⟨f, fd, ps, M, F, b⟩ := c.ex
  refine ⟨fun pins s σ H Q I h => ?_⟩
  obtain ⟨at_i, rest⟩ := h
  refine wpAny_Call_Name_kw (thn ((pe_var (pos := p) hN hv hdb hcd).run pins s σ H (fun v G => v = .ref C ∧ G = H) I ⟨.ref C, at_i, rfl, rfl⟩) fun u s1 ⟨v, G, I1, r1, e1, e2⟩ => ?_)
  subst e1
  subst e2
  cases r1
  refine PySem.W.callWith_K (h₀ := X.base) I.ok.mod.kin M.kp (thn (ha.run pos pins s1 σ _ _ I1 rest) fun us s2 ⟨vs, G2, I2, r, q⟩ => ⟨I2.kIn, ?_⟩) he hpl
  exact run_make M F (hr.mono hk) b .nil passN I2 r q
end
-- part ownops2
/-! bool(x) and x == y, where y is no instance; classmethods by FnR; C(..) in a try -/
section
variable {X : Cx} {C : Addr} {m : Str} {sp : Sp} {k j : Nat}
/-- bool(x) of an instance -/
def rBoolOwn (C : Addr) (sp : Sp) : List V → Hp → VK → Prop := fun xs H Q => ∃ a dx fs, xs = [.ref a] ∧ H a = some (.ins C dx fs) ∧ sp [.ref a] H (fun v H' => ∃ c : Bool, v = .bl c ∧ Q (.bl c) H') E0
theorem new_bool_any {prog : Program} {w : World} (x : Value) : MeetsIn prog w (Builtin.«bool.__new__» ⟨[.type "bool", x], []⟩)
    (fun A R s => wpAny (model prog w) A.in1 (truthy x) (fun b s1 => R (.ok (.ret (.bool b))) s1) (fun e s1 => R (.error e) s1) s) :=
  .of_wp fun A R s h => by
    have no_bool := F.conv_sub_bool
    unfold Builtin.«bool.__new__»
    generalize same : truthy = TX
    wp_walk
    subst same
    refine wpAny_mono h (fun b s1 hR => ?_) fun _ _ z => z
    exact wpAny_pure ⟨_, rfl, hR⟩
theorem cr_boolOwn (c : Me X.prog X.w X.K X.mg X.base k C "__bool__" sp) (hr : Room j X.A) (hk : k + 2 ≤ j := by decide) : CallR X (.type "bool") (rBoolOwn C sp) := by
  obtain ⟨f, fd, ps, M, F, b⟩ := c.ex
  intro pins s σ H xs us Q I r h
  obtain ⟨a, dx, fs, rfl, ha, q⟩ := h
  obtain rfl := Vals.ref1 r
  obtain ⟨ox, od, J⟩ := inst_of I ha
  obtain ⟨mm, hF⟩ := I.fr
  have many : ([Value.ref a] : List Value).length = ps.length := F.len [.ref a] _ _ _ q
  have bound := b s [.ref a] I.kIn (by rw [List.append_nil]; exact many)
  rw [List.append_nil] at bound
  refine callType_newIn PySem.F.called_bool PySem.F.newNe_bool (PySem.F.typeCall_bool_1 _) (PySem.F.newCall_bool_1 _) (fun obj => PySem.F.args_object_init_2 obj _) PySem.F.entry_bool_new (new_bool_any _) ?_
  refine PySem.W.truthy_K hF I.ok.mod.kin J M.at_ M.fn (wpAny_call (codeAny_mono (F.run _ X.stack s H ⟨[.ref a], []⟩ [.ref a] [.ref a] _ E0 ((hr.mono hk).in1.in1) (I.env0.in1.in1) bound (.cons rfl .nil) q) fun r s' hq => ?_))
  cases r with
  | error e => exact False.elim hq
  | ok fl =>
    cases fl with
    | ret u =>
      obtain ⟨z', H', I', rz, d, ez, qz⟩ := I.after hq
      subst ez
      cases (show u = Value.bool d from rz)
      exact ⟨rfl, .bl d, H', I', rfl, qz⟩
    | next => exact False.elim hq
    | brk => exact False.elim hq
    | cont => exact False.elim hq
/-- x == y, y a tuple -/
def rOwnT (C : Addr) (sp : Sp) : R2 := fun x y H Q => ∃ a b dx fs zs, x = .ref a ∧ y = .ref b ∧ H a = some (.ins C dx fs) ∧ H b = some (.tup zs) ∧ sp [x, y] H Q E0
theorem op_eq_ownT (c : Me X.prog X.w X.K X.mg X.base k C "__eq__" sp) (hr : Room j X.A) (nf : PySem.W.subIn X.K (.type "tuple") (.ref C) = some false) (hk : k ≤ j := by decide) : OpR X (compareOp .Eq) (rOwnT C sp) := by
  obtain ⟨f, fd, ps, M, F, b⟩ := c.ex
  intro pins s σ H x y v u Q I rx ry h
  obtain ⟨a, b', dx, fs, zs, rfl, rfl, ha, hb, q⟩ := h
  cases (show v = Value.ref a from rx)
  cases (show u = Value.ref b' from ry)
  obtain ⟨ox, od, J⟩ := inst_of I ha
  obtain ⟨_, _, _, o, h1, h2, _⟩ := (show ObjOk X.prog X.w H s.heap b' (.tup zs) from I.hok b' _ hb)
  obtain ⟨mm, hF⟩ := I.fr
  show wpAny _ _ (richCompare .Eq (.ref a) (.ref b')) _ _ _
  refine PySem.W.cmp_K (op := .Eq) (tb := .type "tuple") hr.units0 hF I.ok.mod.kin J (fun A Q E s k q => wpAny_typeOf_ref (k _ _ h1) (by rw [h2]; exact q)) (by unfold PySem.W.notFirst; rw [nf]; simp) M.at_ M.fn ?_
  refine wpAny_mono (run_fn (us := [.ref a, .ref b']) (vs := [.ref a, .ref b']) F (hr.mono hk) b .nil pass0 I (.cons rfl (.cons rfl .nil)) q) (fun u' s' z => ?_) fun _ _ x => x
  obtain ⟨z', H', I', rz, qz⟩ := z
  exact SlX.cmpback rz ⟨z', H', I', rz, qz⟩
end
/-- a classmethod by what its call does -/
structure CmR (P : Program) (w : World) (K : PySem.W.Frag) (mg : Str → Option Value) (base : Heap) (k : Nat) (C : Addr) (m : Str) (sp : Sp) : Prop where
  ex : ∃ (mc : Value) (p g : Addr), ClX.CRead K C mc ∧ ClX.CMet K C mc m p g ∧ FnR P w K mg base CX0 k g sp
theorem pe_cmR {X : Cx} {C : Addr} {m : Str} {sp : Sp} {k j : Nat} {o e : Expr} {es : List Expr} {ta : TE} {t : TA} {apos pos : Pos} {pl : Sem Bool} (c : CmR X.prog X.w X.K X.mg X.base k C m sp) (hr : Room j X.A) (he : PE X o ta) (ha : PA X (e :: es) t) (hk : k ≤ j := by decide)
    (hst : starEach (e :: es) X.env = (false, eval e X.env) :: starEach es X.env := by rfl) (hpl : (backTo pos (starEach es X.env)).any (·.1) = false := by rfl)
    (ht : eval (.Call (.Attribute o m apos) (e :: es) [] pos) X.env = (do
      let got ← eval o X.env
      standAt apos.atName
      let (fn, fst) ← holding [got] (getMethod got m pl)
      callWith pos fn fst (backTo pos (starEach (e :: es) X.env)) (backToKw pos (keywordEach [] X.env))) := by rfl) :
    PE X (.Call (.Attribute o m apos) (e :: es) [] pos) (ClX.tCMeth C sp E0 ta t) := by
  obtain ⟨mc, p, g, r, c, F⟩ := c.ex
  exact ClX.pe_cmeth he r c F (hr.mono hk) pass0 ha hst hpl ht
theorem pe_cmR0 {X : Cx} {C : Addr} {m : Str} {sp : Sp} {k j : Nat} {o : Expr} {ta : TE} {apos pos : Pos} {pl : Sem Bool} (c : CmR X.prog X.w X.K X.mg X.base k C m sp) (hr : Room j X.A) (he : PE X o ta) (hk : k ≤ j := by decide)
    (ht : eval (.Call (.Attribute o m apos) [] [] pos) X.env = (do
      let got ← eval o X.env
      standAt apos.atName
      let (fn, fst) ← holding [got] (getMethod got m pl)
      callWith pos fn fst (backTo pos (starEach [] X.env)) (backToKw pos (keywordEach [] X.env))) := by rfl) :
    PE X (.Call (.Attribute o m apos) [] [] pos) (ClX.tCMeth C sp E0 ta tNil) := by
  obtain ⟨mc, p, g, r, c, F⟩ := c.ex
  refine ⟨fun pins s σ H Q I h => ?_⟩
  refine PySem.W.methodCall_KW (pl := pl) (thn (he.run pins s σ H _ I h) fun u s1 ⟨x, H1, I1, rx, ex, q⟩ => ?_) ht
  subst ex
  obtain rfl : u = Value.ref C := rx
  refine ClX.getmethcm_ok I1 r c fun s2 I2 => ?_
  have hq := ClX.pin_at I2
  show wpAny _ _ (callWith pos (Value.ref s1.heap.objs.size) [] (backTo pos (starEach [] X.env)) []) _ _ _
  refine PySem.W.callWith_M0 (K := X.K) (g := g) (self := .ref C) ?_ c.fi ?_
  · exact ⟨hq, I2.kIn⟩
  · exact ClX.run_cm (us := []) (vs := []) F (hr.mono hk) pass0 I2 .nil q
/-- C(..) whose __init__ may raise, in a try that takes it -/
def tMakeS (C : Addr) (sp : Sp) (E : L2.St → XK) (t : TA) : TE := fun σ H Q => tMake C sp [] (E σ) t σ H Q
theorem pe_maX {X : Cx} {W : WX} {C : Addr} {x : Str} {sp : Sp} {k j : Nat} {p pos : Pos} {e : Expr} {es : List Expr} {t : TA} (c : Ma X.prog X.w X.K X.mg X.base k C sp) (hr : Room j X.A) (tk : L2N.Takes X W) (hm : X.mg x = some (.ref C)) (ha : PA X (e :: es) t) (hk : k + 1 ≤ j := by decide) (hg : Gl X x := by rfl)
    (hdb : (x == ("__debug__" : Str)) = false := by decide) (he : starEach (e :: es) X.env = (false, eval e X.env) :: starEach es X.env := by rfl) (hpl : (backTo pos (starEach es X.env)).any (·.1) = false := by rfl) :
    PE X (.Call (.Name x p) (e :: es) [] pos) (tMakeS C sp (WE W) t) := by
  obtain ⟨f, fd, ps, M, F, b⟩ := c.ex
  refine ⟨fun pins s σ H Q I h => ?_⟩
  refine wpAny_Call_Name_kw (ld_glob I hg hm ?_ hdb)
  refine PySem.W.callWith_K (h₀ := X.base) I.ok.mod.kin M.kp (thn (ha.run pos pins s σ H _ I h) fun us s1 ⟨vs, H1, I1, r, q⟩ => ⟨I1.kIn, ?_⟩) he hpl
  generalize ez : s1.heap.objs.size = z
  have le0 : s1.heap.objs.size ≤ z := by rw [ez]; exact Nat.le_refl z
  have asks := q (z + 1) z (I1.hok.fresh (Nat.le_succ_of_le le0)) (I1.hok.fresh le0) (Nat.ne_of_lt (Nat.lt_succ_self z))
  have laid := Inv.made (C := C) I1
  rw [ez] at laid
  have rel : Vals (V.ref (z + 1) :: vs) (Value.ref (z + 1) :: us) := .cons rfl r
  rw [List.append_nil] at asks
  have many : (Value.ref (z + 1) :: us).length = ps.length := by
    rw [← rel.length]
    exact F.len _ _ _ _ asks
  have bound := b _ (Value.ref (z + 1) :: us) laid.kIn (by rw [List.append_nil]; exact many)
  rw [List.append_nil] at bound
  have runs := F.run _ X.stack _ _ ⟨Value.ref (z + 1) :: us, []⟩ (Value.ref (z + 1) :: us) _ _ (WE W σ) ((hr.mono hk).make C us []) (laid.env0.make C us []) bound rel asks
  subst ez
  refine wpAny_call (make_map (f := f) I1.kIn M.makes M.init (beq_iff_eq.mp M.fn) (codeAny_mono runs fun r' s' back => ?_))
  cases r' with
  | error er => exact L2N.passAt tk σ pins _ _ er s' laid back
  | ok fl =>
    cases fl with
    | ret u =>
      obtain ⟨v, H', I3, rv, ev, q3⟩ := laid.after back
      subst ev
      cases (show u = Value.none from rv)
      exact ⟨rfl, .ref _, H', I3, rfl, q3⟩
    | next => exact False.elim back
    | brk => exact False.elim back
    | cont => exact False.elim back
theorem kit_ownF {C : Addr} {U : String} (h2 : PySem.W.isClsIn K C = true) (h3 : PySem.W.typeIn K (.ref C) = some (.type "type")) (h : PySem.W.subIn K (.type U) (.ref C) = some false) : PySem.W.kitOne K (.type U) (.ref C) = some false := by
  have h2' : (PySem.W.clsIn K C).isSome = true := h2
  have e2 : ((PySem.W.clsIn K C).isSome && PySem.W.typeIn K (.ref C) == some (.type "type")) = true := by rw [h2', h3] <;> rfl
  unfold PySem.W.kitOne
  rw [if_neg (by simp)]
  show (if ((PySem.W.clsIn K C).isSome && PySem.W.typeIn K (.ref C) == some (.type "type")) = true then PySem.W.subIn K (.type U) (.ref C) else none) = some false
  rw [if_pos e2]
  exact h
-- part clsm
/-- a call of a classmethod without arguments -/
structure Cm (P : Program) (w : World) (K : PySem.W.Frag) (mg : Str → Option Value) (base : Heap) (k : Nat) (C : Addr) (m : Str) (sp : Sp) : Prop where
  ex : ∃ (mc : Value) (p g : Addr) (fd : FuncData) (ps : List Str), ClX.CRead K C mc ∧ ClX.CMet K C mc m p g ∧ FnOk P w K mg base CX0 k g fd ps sp ∧ Binds K fd ps []
theorem fnR_of {P : Program} {w : World} {K : PySem.W.Frag} {mg : Str → Option Value} {base : Heap} {CX : CXT} {k : Nat} {f : Addr} {fd : FuncData} {ps : List Str} {sp : Sp} (F : FnOk P w K mg base CX k f fd ps sp) (b : Binds K fd ps []) : FnR P w K mg base CX k f sp :=
  fun A outer s H us vs Q E hr e0 r h => by
    have hl : us.length = ps.length := by
      rw [← r.length]
      exact F.len _ _ _ _ h
    have z := b s us (e0.mod.kin.keeps fun b o e => (e0.bs b o e).1) (by rw [List.append_nil]; exact hl)
    rw [List.append_nil] at z
    exact F.run A outer s H ⟨us, []⟩ us vs Q E hr e0 z r h
theorem pe_cm {X : Cx} {C : Addr} {m : Str} {sp : Sp} {k j : Nat} {o e : Expr} {es : List Expr} {ta : TE} {t : TA} {apos pos : Pos} {pl : Sem Bool} (c : Cm X.prog X.w X.K X.mg X.base k C m sp) (hr : Room j X.A) (he : PE X o ta) (ha : PA X (e :: es) t) (hk : k ≤ j := by decide)
    (hst : starEach (e :: es) X.env = (false, eval e X.env) :: starEach es X.env := by rfl) (hpl : (backTo pos (starEach es X.env)).any (·.1) = false := by rfl)
    (ht : eval (.Call (.Attribute o m apos) (e :: es) [] pos) X.env = (do
      let got ← eval o X.env
      standAt apos.atName
      let (fn, fst) ← holding [got] (getMethod got m pl)
      callWith pos fn fst (backTo pos (starEach (e :: es) X.env)) (backToKw pos (keywordEach [] X.env))) := by rfl) :
    PE X (.Call (.Attribute o m apos) (e :: es) [] pos) (ClX.tCMeth C sp E0 ta t) := by
  obtain ⟨mc, p, g, fd, ps, r, c, F, b⟩ := c.ex
  exact ClX.pe_cmeth he r c (fnR_of F b) (hr.mono hk) pass0 ha hst hpl ht
theorem pe_cm0 {X : Cx} {C : Addr} {m : Str} {sp : Sp} {k j : Nat} {o : Expr} {ta : TE} {apos pos : Pos} {pl : Sem Bool} (c : Cm X.prog X.w X.K X.mg X.base k C m sp) (hr : Room j X.A) (he : PE X o ta) (hk : k ≤ j := by decide)
    (ht : eval (.Call (.Attribute o m apos) [] [] pos) X.env = (do
      let got ← eval o X.env
      standAt apos.atName
      let (fn, fst) ← holding [got] (getMethod got m pl)
      callWith pos fn fst (backTo pos (starEach [] X.env)) (backToKw pos (keywordEach [] X.env))) := by rfl) :
    PE X (.Call (.Attribute o m apos) [] [] pos) (ClX.tCMeth C sp E0 ta tNil) := by
  obtain ⟨mc, p, g, fd, ps, r, c, F, b⟩ := c.ex
  refine ⟨fun pins s σ H Q I h => ?_⟩
  refine PySem.W.methodCall_KW (pl := pl) (thn (he.run pins s σ H _ I h) fun u s1 ⟨x, H1, I1, rx, ex, q⟩ => ?_) ht
  subst ex
  obtain rfl : u = Value.ref C := rx
  have notin : X.base.get? s1.heap.objs.size = none := by
    cases z : X.base.get? s1.heap.objs.size with
    | none => rfl
    | some o => exact absurd (Heap.lt_size (I1.bk _ o z)) (Nat.lt_irrefl _)
  refine ClX.getmethcm_ok I1 r c fun s2 I2 => ?_
  have hq := ClX.pin_at I2
  have hL : s1.heap.objs.size ≠ X.env.locals := (I2.pin (s1.heap.objs.size, PySem.W.methodObj (.ref g) (.ref C)) (List.mem_append_right _ List.mem_cons_self)).2.2.1
  show wpAny _ _ (callWith pos (Value.ref s1.heap.objs.size) [] (backTo pos (starEach [] X.env)) []) _ _ _
  refine PySem.W.callWith_M0 (K := X.K) (g := g) (self := .ref C) ?_ c.fi ?_
  · exact ⟨hq, I2.kIn⟩
  · have z := ClX.run_cm (us := []) (vs := []) (fnR_of F b) (hr.mono hk) pass0 I2 .nil q
    exact z
-- part meths
/-! o.m(..) of an own class, by its promise -/
section
variable {X : Cx} {C : Addr} {m : Str} {sp : Sp} {k j : Nat} {o e : Expr} {es : List Expr} {ta : TE} {t : TA} {apos pos : Pos} {pl : Sem Bool}
theorem pe_me0 (c : Me X.prog X.w X.K X.mg X.base k C m sp) (cl : Cls X.K C) (hr : Room j X.A) (he : PE X o ta) (hk : k ≤ j := by decide)
    (ht : eval (.Call (.Attribute o m apos) [] [] pos) X.env = (do
      let ov ← eval o X.env
      standAt apos.atName
      let (f, first) ← holding [ov] (getMethod ov m pl)
      callWith pos f first (backTo pos (starEach [] X.env)) (backToKw pos (keywordEach [] X.env))) := by rfl) :
    PE X (.Call (.Attribute o m apos) [] [] pos) (tMeth C m sp [] E0 ta tNil) := by
  obtain ⟨f, fd, ps, M, F, b⟩ := c.ex
  exact pe_meth0 he cl M F (hr.mono hk) b .nil pass0 ht
theorem pe_me (c : Me X.prog X.w X.K X.mg X.base k C m sp) (cl : Cls X.K C) (hr : Room j X.A) (he : PE X o ta) (ha : PA X (e :: es) t) (hk : k ≤ j := by decide)
    (hst : starEach (e :: es) X.env = (false, eval e X.env) :: starEach es X.env := by rfl) (hpl : (backTo pos (starEach es X.env)).any (·.1) = false := by rfl)
    (ht : eval (.Call (.Attribute o m apos) (e :: es) [] pos) X.env = (do
      let ov ← eval o X.env
      standAt apos.atName
      let (f, first) ← holding [ov] (getMethod ov m pl)
      callWith pos f first (backTo pos (starEach (e :: es) X.env)) (backToKw pos (keywordEach [] X.env))) := by rfl) :
    PE X (.Call (.Attribute o m apos) (e :: es) [] pos) (tMeth C m sp [] E0 ta t) := by
  obtain ⟨f, fd, ps, M, F, b⟩ := c.ex
  exact pe_meth he cl M F (hr.mono hk) b .nil pass0 ha hst hpl ht
end
/-- a class whose instances are called, by the promise of its __call__ -/
structure Co (P : Program) (w : World) (K : PySem.W.Frag) (mg : Str → Option Value) (base : Heap) (k : Nat) (C : Addr) (sp : Sp) : Prop where
  ex : ∃ g, StX.CallO K C g ∧ FnR P w K mg base CX0 k g sp
def tCallI (C : Addr) (sp : Sp) (tf : TE) (t : TA) : TE := fun σ H Q => tf σ H fun y H1 => ∃ a, y = V.ref a ∧ t σ H1 fun vs H2 => ((∃ dx vs, SlX.Slt H2 a C dx vs) ∨ ∃ dx fs, H2 a = some (.ins C dx fs)) ∧ sp (V.ref a :: vs) H2 Q E0
theorem pe_inst {X : Cx} {C : Addr} {sp : Sp} {k j : Nat} {fe e : Expr} {es : List Expr} {tf : TE} {t : TA} {pos : Pos} (c : Co X.prog X.w X.K X.mg X.base k C sp) (hr : Room j X.A) (hf : PE X fe tf) (ha : PA X (e :: es) t) (hk : k ≤ j := by decide)
    (ht : eval (.Call fe (e :: es) [] pos) X.env = (do callWith pos (← eval fe X.env) [] (backTo pos (starEach (e :: es) X.env)) (backToKw pos (keywordEach [] X.env))) := by rfl)
    (he : starEach (e :: es) X.env = (false, eval e X.env) :: starEach es X.env := by rfl) (hpl : (backTo pos (starEach es X.env)).any (·.1) = false := by rfl) :
    PE X (.Call fe (e :: es) [] pos) (tCallI C sp tf t) := by
  obtain ⟨g, c, F⟩ := c.ex
  exact StX.pe_callO hf c F (hr.mono hk) pass0 ha ht he hpl
-- part errpa
/-! own errors of one attribute whose __init__ asks something of the argument -/
def spInitP (C : Addr) (fld : Str) (ok : V → Prop) : Sp := fun vs H Q _ => ∃ (a : Addr) (v : V), vs = [.ref a, v] ∧ ok v ∧ H a = some (exo a C none) ∧
  ∀ d, H d = none → d ≠ a → Q .non (upd (upd H d (exd d [(fld, v)])) a (exo a C (some d)))
structure ErP (P : Program) (w : World) (K : PySem.W.Frag) (mg : Str → Option Value) (base : Heap) (nm fld : Str) (C : Addr) (ok : V → Prop) : Prop where
  ex : ∃ (fI : Addr) (fd : FuncData) (ps : List Str), ErrC K mg nm fld C fI ∧ FnOk P w K mg base CX0 1 fI fd ps (spInitP C fld ok) ∧ Binds K fd ps []
theorem ps_raiseP {X : Cx} {W : WX} {x fld : Str} {C : Addr} {ok : V → Prop} {j : Nat} {e : Expr} {ta : TA} {p pos pos' : Pos} (c : ErP X.prog X.w X.K X.mg X.base x fld C ok) (hr : Room j X.A) (tk : L2N.Takes X W) (ha : PA X [e] ta) (hj : 2 ≤ j := by decide) (hcalm : X.calm = true := by rfl) (hg : Gl X x := by rfl)
    (hdb : (x == ("__debug__" : Str)) = false := by decide) (he : starEach [e] X.env = (false, eval e X.env) :: starEach [] X.env := by rfl) (hpl : (backTo pos (starEach [] X.env)).any (·.1) = false := by rfl) :
    PS X (.Raise (some (.Call (.Name x p) [e] [] pos)) none pos') (fun _ σ H => tMkO C (spInitP C fld ok) [] ta σ H fun cls d H' => W cls d σ H') := by
  obtain ⟨fI, fd, ps, T, F, b⟩ := c.ex
  exact L2N.ps_raise hcalm tk (pmk_oexN (X := X) (p := p) (pos := pos) T.oex T.iC T.tI F (hr.mono hj) b .nil hg T.g ha hdb he hpl)
theorem mkP {C : Addr} {fld : Str} {ok : V → Prop} {v : V} {H1 : Hp} {Q : XK} (o : ok v) (k : ∀ d H2, Same H1 H2 → H1 d = none → H2 d = some (.xd [(fld, v)]) → Q (.ref C) (some d) H2) :
    ([v] : List V).length ≤ 1000 ∧ ∀ a, H1 a = none → spInitP C fld ok (.ref a :: ([v] ++ [])) (upd H1 a (exo a C none))
      (fun u H2 => u = .non ∧ ∃ (d : Addr) (fs : List (Str × V)), H2 a = some (exo a C (some d)) ∧ H2 d = some (exd d fs) ∧ H1 d = none ∧ Q (.ref C) (some d) (upd (del H2 a) d (.xd fs))) (fun _ _ _ => False) := by
  obtain ⟨h1, h2⟩ := mk1 (C := C) (fld := fld) (v := v) (H1 := H1) (Q := Q) k
  refine ⟨h1, fun a ha => ?_⟩
  obtain ⟨a', v', e, ha', q⟩ := h2 a ha
  exact ⟨a', v', e, by rw [show v' = v from by simpa using (List.cons.inj (List.cons.inj e).2).1.symm]; exact o, ha', q⟩
/-- an index that is written in a message -/
def okNat : V → Prop := fun v => ∃ n : Nat, v = .int (n : Int) ∧ n < 2 ^ 62
theorem log_nat {n : Nat} (h : n < 2 ^ 62) : (n : Int).natAbs.log2 < 1920 := by
  show n.log2 < 1920
  by_cases c : n = 0
  · rw [c]
    decide
  · have := (Nat.log2_lt c).mpr h
    omega
theorem str_len (x : Str) : x.length = (TL.tl x).length := TL.len_tl x
theorem num_len {n : Nat} (h : n < 2 ^ 62) : (Str.ofString (toString (n : Int))).length ≤ 19 := by
  rw [str_len, TL.tl_num]
  exact TL.numL_len (by decide) (Nat.lt_of_lt_of_le h (by decide))
theorem app_len (x y : Str) : (x ++ y).length = x.length + y.length := by
  rw [str_len, TL.tl_append, List.length_append, ← str_len, ← str_len]
theorem empty_app (x : Str) : Str.empty ++ x = x := TL.ext_tl (by rw [TL.tl_append] <;> rfl)
-- part errpb
abbrev s_ibt : Stmt := inClass (top 3) 0
theorem sc_ibt : FnScope ["self", "at"] ["self", "at"] (defScope s_ibt) := ⟨rfl, rfl, rfl, by decide +kernel, rfl, by decide +kernel, by decide +kernel⟩
theorem ok_ibt {f C CF : Addr} {fd : FuncData} (TF : FErr K mg CF) (hC : OexC K C) (hno : PySem.W.findIn K (.ref C) "at" = some none) (F : Fun K "__init__" "BadText.__init__" s_ibt f fd) : FnOk P w K mg base CX0 1 f fd ["self", "at"] (spInitP C "at" okNat) := by
  refine F.ok sc_ibt (fun vs H Q E h => ?_) (fun cdv A outer s H vs Q E hr h => ?_)
  · obtain ⟨a, v, rfl, _⟩ := h
    rfl
  · obtain ⟨a, v, rfl, ⟨n, rfl, hn⟩, ha, q⟩ := h
    refine ⟨_, (pss_cons (ps_expr (pe_feinit TF (pa_cons (pv 0) (pa_cons (pe_joined (.cons pe_str (.cons (pe_fmt (pv 1)) .nil))) pa_nil))))
 (pss_one (ps_ost (pv 0) (pv 1)))), ?_⟩
    refine ⟨_, rfl, _, rfl, by rw [empty_app, sizeLine_eq]; decide +kernel, _, rfl, .inr ⟨_, rfl, log_nat hn, _, rfl, ?_, ?_⟩⟩
    · rw [empty_app, app_len, sizeLine_eq]
      have e : (("the text is not of the right form at index " : Str)).length ≤ 100 := by decide +kernel
      have := num_len hn
      omega
    · refine ⟨a, C, _, rfl, (by show 1 ≤ 1000; decide), hC, ha, ?_⟩
      exact ⟨_, rfl, _, rfl, a, C, rfl, hC, hno, .inl ⟨ha, fun dx hn hne => q dx hn hne⟩⟩
-- part errm
abbrev s_ibr : Stmt := inClass (top 4) 0
theorem sc_ibr : FnScope ["self", "at"] ["self", "at"] (defScope s_ibr) := ⟨rfl, rfl, rfl, by decide +kernel, rfl, by decide +kernel, by decide +kernel⟩
theorem ok_ibr {f C CF : Addr} {fd : FuncData} (TF : FErr K mg CF) (hC : OexC K C) (hno : PySem.W.findIn K (.ref C) "at" = some none) (F : Fun K "__init__" "BadRow.__init__" s_ibr f fd) : FnOk P w K mg base CX0 1 f fd ["self", "at"] (spInitP C "at" okNat) := by
  refine F.ok sc_ibr (fun vs H Q E h => ?_) (fun cdv A outer s H vs Q E hr h => ?_)
  · obtain ⟨a, v, rfl, _⟩ := h
    rfl
  · obtain ⟨a, v, rfl, ⟨n, rfl, hn⟩, ha, q⟩ := h
    have ln := num_len hn
    have m1 : ("the row with index " : Str).length ≤ 100 := by decide +kernel
    have m2 : (" is not as long as the first one" : Str).length ≤ 100 := by decide +kernel
    refine ⟨_, (pss_cons (ps_expr (pe_feinit TF (pa_cons (pv 0) (pa_cons (pe_joined (.cons pe_str (.cons (pe_fmt (pv 1)) (.cons pe_str .nil)))) pa_nil))))
 (pss_one (ps_ost (pv 0) (pv 1)))), ?_⟩
    refine ⟨_, rfl, _, rfl, by rw [empty_app, sizeLine_eq]; omega, _, rfl, .inr ⟨_, rfl, log_nat hn, _, rfl, by rw [empty_app, app_len, sizeLine_eq]; omega, ?_⟩⟩
    refine ⟨_, rfl, by rw [empty_app, app_len, app_len, sizeLine_eq]; omega, ?_⟩
    refine ⟨a, C, _, rfl, (by show 1 ≤ 1000; decide), hC, ha, ?_⟩
    exact ⟨_, rfl, _, rfl, a, C, rfl, hC, hno, .inl ⟨ha, fun dx hn hne => q dx hn hne⟩⟩
-- part errgr
/-! own errors whose __init__ keeps any promise; errors without arguments -/
structure ErG (P : Program) (w : World) (K : PySem.W.Frag) (mg : Str → Option Value) (base : Heap) (nm : Str) (C : Addr) (sp : Sp) : Prop where
  ex : ∃ (fI : Addr) (fd : FuncData) (ps : List Str), mg nm = some (.ref C) ∧ OexC K C ∧ PySem.W.findIn K (.ref C) "__init__" = some (some (.ref fI)) ∧ PySem.W.typeIn K (.ref fI) = some (.type "function") ∧ FnOk P w K mg base CX0 1 fI fd ps sp ∧ Binds K fd ps []
theorem ps_raiseG {X : Cx} {W : WX} {x : Str} {C : Addr} {sp : Sp} {j : Nat} {e : Expr} {es : List Expr} {ta : TA} {p pos pos' : Pos} (c : ErG X.prog X.w X.K X.mg X.base x C sp) (hr : Room j X.A) (tk : L2N.Takes X W) (ha : PA X (e :: es) ta) (hj : 2 ≤ j := by decide) (hcalm : X.calm = true := by rfl) (hg : Gl X x := by rfl)
    (hdb : (x == ("__debug__" : Str)) = false := by decide) (he : starEach (e :: es) X.env = (false, eval e X.env) :: starEach es X.env := by rfl) (hpl : (backTo pos (starEach es X.env)).any (·.1) = false := by rfl) :
    PS X (.Raise (some (.Call (.Name x p) (e :: es) [] pos)) none pos') (fun _ σ H => tMkO C sp [] ta σ H fun cls d H' => W cls d σ H') := by
  obtain ⟨fI, fd, ps, g, T, iC, tI, F, b⟩ := c.ex
  exact L2N.ps_raise hcalm tk (pmk_oexN (X := X) (p := p) (pos := pos) T iC tI F (hr.mono hj) b .nil hg g ha hdb he hpl)
-- part errgf
/-- {t}, t a tuple of ints -/
theorem repr_ints {prog : Program} {w : World} : ∀ {l : List Int} {its : List Value}, Vals (l.map V.int) its → (∀ i ∈ l, i.natAbs.log2 < 1920) → ReprAll prog w its (l.map fun i => Str.ofString (toString i))
  | [], _, r, _ => by
    cases r
    exact .nil
  | i :: l, _, r, h => by
    cases r with
    | cons r1 r2 =>
      obtain ⟨t, rfl⟩ := r1
      exact .cons (ReprIs.int t (h i List.mem_cons_self)) (repr_ints r2 fun z hz => h z (List.mem_cons_of_mem _ hz))
theorem piled_ints : ∀ l : List Int, (∀ i ∈ l, i.natAbs.log2 < 1920) → piled (l.map fun i => Str.ofString (toString i)) ≤ l.length * 1925
  | [], _ => Nat.zero_le _
  | i :: l, h => by
    have h1 := int_text_len_1921 (h i List.mem_cons_self)
    have h2 := piled_ints l fun z hz => h z (List.mem_cons_of_mem _ hz)
    rw [List.map_cons, piled_cons, List.length_cons, Nat.succ_mul]
    omega
def tFmtI (K : PySem.W.Frag) (te : TE) : TE := fun σ H Q => te σ H fun x H1 => ∃ (a : Addr) (l : List Int), x = .ref a ∧ SqT K H1 a (l.map V.int) ∧ (∀ i ∈ l, i.natAbs.log2 < 1920) ∧ l.length ≤ 10 ∧ ∀ m : Str, m.length ≤ 20000 → Q (.str m) H1
theorem pe_fmtI {X : Cx} {e : Expr} {te : TE} {pos : Pos} {k : Nat} (hr : Room k X.A) (he : PE X e te) : PE X (.FormattedValue e (-1) none pos) (tFmtI X.K te) := by
  refine ⟨fun pins s σ H Q I h => wpAny_FormattedValue_plain (thn (he.run pins s σ H _ I h) fun v s1 hv => ?_)⟩
  obtain ⟨x, H1, I1, r1, a, l, rfl, ht, hc, few, q⟩ := hv
  cases r1
  obtain ⟨its, rv, ⟨o, ho, hcl, n, hd⟩, _⟩ := I1.tuple ht
  have h1 := piled_ints l hc
  have h2 := fmt_text (l.map fun i => Str.ofString (toString i))
  have hu := hr.units
  have h3 : l.length * 1925 ≤ 10 * 1925 := Nat.mul_le_mul_right _ few
  exact fmt_tuple (ts := l.map fun i => Str.ofString (toString i)) (by omega) ho hcl hd (repr_ints rv hc) (by rw [sizeLine_eq]; omega) fun m u tk hm => ⟨.str m, H1, I1.tok _, ⟨u, rfl⟩, q m (by omega)⟩
-- part erru
/-! two fields -/
def spInit2 (C : Addr) (f1 f2 : Str) (ok : V → V → Hp → Prop) : Sp := fun vs H Q _ => ∃ (a : Addr) (v1 v2 : V), vs = [.ref a, v1, v2] ∧ ok v1 v2 H ∧ H a = some (exo a C none) ∧
  ∀ d, H d = none → d ≠ a → Q .non (upd (upd (upd H d (exd d [(f1, v1)])) a (exo a C (some d))) d (exd d [(f2, v2), (f1, v1)]))
theorem mk2 {C : Addr} {f1 f2 : Str} {ok : V → V → Hp → Prop} {v1 v2 : V} {H1 : Hp} {Q : XK} (o : ∀ a, H1 a = none → ok v1 v2 (upd H1 a (exo a C none))) (k : ∀ d H2, Same H1 H2 → H1 d = none → H2 d = some (.xd [(f2, v2), (f1, v1)]) → Q (.ref C) (some d) H2) :
    ([v1, v2] : List V).length ≤ 1000 ∧ ∀ a, H1 a = none → spInit2 C f1 f2 ok (.ref a :: ([v1, v2] ++ [])) (upd H1 a (exo a C none))
      (fun u H2 => u = .non ∧ ∃ (d : Addr) (fs : List (Str × V)), H2 a = some (exo a C (some d)) ∧ H2 d = some (exd d fs) ∧ H1 d = none ∧ Q (.ref C) (some d) (upd (del H2 a) d (.xd fs))) (fun _ _ _ => False) := by
  refine ⟨(by show 2 ≤ 1000; decide), fun a ha => ⟨a, v1, v2, rfl, o a ha, upd_same, fun d hd hda => ⟨rfl, d, [(f2, v2), (f1, v1)], ?_, upd_same, ?_, ?_⟩⟩⟩
  · rw [upd_ne (Ne.symm hda), upd_same]
  · rw [upd_ne hda] at hd
    exact hd
  · rw [upd_ne hda] at hd
    refine k d _ (fun b o e => ?_) hd upd_same
    have hba := ne_of_none e ha
    have hbd := ne_of_none e hd
    rw [upd_ne hbd, del_ne hba, upd_ne hbd, upd_ne hba, upd_ne hbd, upd_ne hba]
    exact e
def okTup (K : PySem.W.Frag) (v : V) (H : Hp) : Prop := ∃ (t : Addr) (l : List Int), v = .ref t ∧ SqT K H t (l.map V.int) ∧ (∀ i ∈ l, i.natAbs.log2 < 1920) ∧ l.length ≤ 10
def okTT (K : PySem.W.Frag) : V → V → Hp → Prop := fun v1 v2 H => okTup K v1 H ∧ okTup K v2 H
def okTN (K : PySem.W.Frag) : V → V → Hp → Prop := fun v1 v2 H => okTup K v1 H ∧ okNat v2
abbrev s_ius : Stmt := inClass (top 5) 0
theorem sc_ius : FnScope ["self", "first", "second"] ["self", "first", "second"] (defScope s_ius) := ⟨rfl, rfl, rfl, by decide +kernel, rfl, by decide +kernel, by decide +kernel⟩
theorem ok_iusT {f C CF : Addr} {fd : FuncData} (TF : FErr K mg CF) (hC : OexC K C) (n1 : PySem.W.findIn K (.ref C) "first" = some none) (n2 : PySem.W.findIn K (.ref C) "second" = some none) (F : Fun K "__init__" "UnlikeShapes.__init__" s_ius f fd) : FnOk P w K mg base CX0 1 f fd ["self", "first", "second"] (spInit2 C "first" "second" (okTT K)) := by
  refine F.ok sc_ius (fun vs H Q E h => ?_) (fun cdv A outer s H vs Q E hr h => ?_)
  · obtain ⟨a, v1, v2, rfl, _⟩ := h
    rfl
  · obtain ⟨a, v1, v2, rfl, ⟨⟨t, l, rfl, ht, hl, few⟩, ⟨t', l', rfl, ht', hl', few'⟩⟩, ha, q⟩ := h
    have m1 : ("the shapes " : Str).length ≤ 100 := by decide +kernel
    have m2 : (" and " : Str).length ≤ 100 := by decide +kernel
    have m3 : (" do not go together" : Str).length ≤ 100 := by decide +kernel
    refine ⟨_, (pss_cons (ps_expr (pe_feinit TF (pa_cons (pv 0) (pa_cons (pe_joined (.cons pe_str (.cons (pe_fmtI hr (pv 1)) (.cons pe_str (.cons (pe_fmtI hr (pv 2)) (.cons pe_str .nil)))))) pa_nil))))
 (pss_cons (ps_ost (pv 0) (pv 1))
 (pss_one (ps_ost (pv 0) (pv 2))))), ?_⟩
    refine ⟨_, rfl, _, rfl, by rw [empty_app, sizeLine_eq]; omega, _, rfl, t, l, rfl, ht, hl, few, fun m hm => ⟨_, rfl, by rw [empty_app, app_len, sizeLine_eq]; omega, ?_⟩⟩
    refine ⟨_, rfl, by rw [empty_app, app_len, app_len, sizeLine_eq]; omega, _, rfl, t', l', rfl, ht', hl', few', fun m' hm' => ⟨_, rfl, by rw [empty_app, app_len, app_len, app_len, sizeLine_eq]; omega, ?_⟩⟩
    refine ⟨_, rfl, by rw [empty_app, app_len, app_len, app_len, app_len, sizeLine_eq]; omega, ?_⟩
    refine ⟨a, C, _, rfl, (by show 1 ≤ 1000; decide), hC, ha, ?_⟩
    refine ⟨_, rfl, _, rfl, a, C, rfl, hC, n1, .inl ⟨ha, fun dx hn hne => ?_⟩⟩
    exact ⟨_, rfl, _, rfl, a, C, rfl, hC, n2, .inr ⟨dx, _, upd_same, by rw [upd_ne hne]; exact upd_same, (by show 1 ≤ 900; decide), q dx hn hne⟩⟩
-- part objs
/-! comprehensions that make lists of objects -/
/-- what a heap but for D holds -/
def But (D : Addr) (H H' : Hp) : Prop := ∀ b o, b ≠ D → H b = some o → H' b = some o
theorem But.upd {D : Addr} {H : Hp} {o : HO} : But D H (upd H D o) := fun b u hb e => by
  rw [upd_ne hb]
  exact e
theorem But.of {D : Addr} {H H' : Hp} (s : Same H H') : But D H H' := fun b o _ e => s b o e
theorem sqT_but {K : PySem.W.Frag} {D q : Addr} {H H' : Hp} {xs : List V} (h : SqT K H q xs) (ne : q ≠ D) (k : But D H H') : SqT K H' q xs := by
  rcases h with (h | ⟨o, h⟩) | h
  · exact .inl (.inl (k _ _ ne h))
  · exact .inl (.inr ⟨o, k _ _ ne h⟩)
  · exact .inr h
theorem sqL_but {K : PySem.W.Frag} {D q : Addr} {H H' : Hp} {xs : List V} (h : SqL K H q xs) (ne : q ≠ D) (k : But D H H') : SqL K H' q xs := by
  rcases h with (h | ⟨o, h⟩) | h
  · exact .inl (.inl (k _ _ ne h))
  · exact .inl (.inr ⟨o, k _ _ ne h⟩)
  · exact .inr h
/-- what is told of the j-th object stands while only D changes -/
def Stab (D : Addr) (R : Nat → V → Hp → Prop) : Prop := ∀ j v H H', R j v H → v ≠ .ref D → But D H H' → R j v H'
def PvO (H1 : Hp) (D : Addr) (R : Nat → V → Hp → Prop) (i : Nat) (H : Hp) : Prop := Same H1 H ∧ ∃ acc, H D = some (.lst acc) ∧ acc.length = i ∧ ∀ j v, acc[j]? = some v → v ≠ .ref D ∧ R j v H
theorem objEnd {H1 H H4 : Hp} {D : Addr} {R : Nat → V → Hp → Prop} {i : Nat} {y : V} (st : Stab D R) (hD : H1 D = none) (p : PvO H1 D R i H) (s4 : Same H H4) (few : i < 1000) (ny : y ≠ .ref D) (ry : R i y H4) :
    ∃ acc, H4 D = some (.lst acc) ∧ acc.length < sizeLine ∧ PvO H1 D R (i + 1) (upd H4 D (.lst (acc ++ [y]))) := by
  obtain ⟨s, acc, ha, hl, hr⟩ := p
  refine ⟨acc, s4 _ _ ha, small1000 (by omega), fun b o eb => ?_, acc ++ [y], upd_same, ?_, fun j v hv => ?_⟩
  · rw [upd_ne (ne_of_none eb hD)]
    exact s4 b o (s b o eb)
  · rw [List.length_append, hl]
    rfl
  · by_cases c : j < acc.length
    · rw [List.getElem?_append_left c] at hv
      obtain ⟨nv, rv⟩ := hr j v hv
      exact ⟨nv, st j v _ _ (st j v _ _ rv nv (But.of s4)) nv But.upd⟩
    · rw [List.getElem?_append_right (by omega)] at hv
      have e : j = i := by
        by_cases e : j - acc.length = 0
        · omega
        · rw [List.getElem?_eq_none (by show 1 ≤ j - acc.length; omega)] at hv
          cases hv
      subst e
      rw [hl, Nat.sub_self] at hv
      cases hv
      exact ⟨ny, st j y _ _ ry ny But.upd⟩
section
variable {J : It} {n : Nat} {G : Hp → Prop} {Y : Nat → Hp → V → Hp → Prop}
theorem lcObj (w : Walk J n G Y) {g : TG} {tt : TT} {te : TE} {vs : List Nat} {σ : L2.St} {H1 : Hp} {D : Addr} {Qd : Hp → Prop} (R : Nat → V → Hp → Prop) (hD : H1 D = none) (hG : ∀ H, Same H1 H → G H)
    (hs : ∀ i x H H', i < n → PvO H1 D R i H → Y i H x H' → g x (wipe σ vs) H' fun σ2 H2 => wipe σ2 vs = wipe σ vs ∧ tt σ2 H2 fun b H3 =>
      if b = true then te σ2 H3 fun y H4 => ∃ acc, H4 D = some (.lst acc) ∧ acc.length < sizeLine ∧ PvO H1 D R (i + 1) (upd H4 D (.lst (acc ++ [y]))) else PvO H1 D R (i + 1) H3)
    (hd : ∀ H acc, Same H1 H → H D = some (.lst acc) → acc.length = n → (∀ j v, acc[j]? = some v → v ≠ .ref D ∧ R j v H) → Qd H) :
    ∃ W : Nat → Nat → Hp → Prop, (∃ m, W 0 m (upd H1 D (.lst []))) ∧ ∀ i m H, W i m H →
      (J.stop i H ∧ Qd H) ∨ (J.go i H ∧ ∃ Nx : Hp → Prop, (∀ H', Nx H' → ∃ m', m' < m ∧ W (i + 1) m' H') ∧ ∀ x H', J.yld i H x H' → g x (wipe σ vs) H' fun σ2 H2 => wipe σ2 vs = wipe σ vs ∧ tt σ2 H2 fun b H3 =>
        if b = true then te σ2 H3 fun y H4 => ∃ acc, H4 D = some (.lst acc) ∧ acc.length < sizeLine ∧ Nx (upd H4 D (.lst (acc ++ [y]))) else Nx H3) :=
  lc_it w (PvO H1 D R) ⟨same_upd hD, [], upd_same, rfl, fun j v h => by cases h⟩ (fun _ H _ h => hG H h.1) hs fun H h => by
    obtain ⟨s, acc, a, b, c⟩ := h
    exact hd H acc s a b c
end
/-- the j-th is a list of ints, a tuple of ints -/
def RL (w : Nat) (f : Nat → Nat → Int) : Nat → V → Hp → Prop := fun i v H => ∃ q, v = .ref q ∧ H q = some (.lst ((rngN w (f i)).map V.int))
def RT (g : Nat → List Int) : Nat → V → Hp → Prop := fun i v H => ∃ q, v = .ref q ∧ H q = some (.tup ((g i).map V.int))
theorem stab_RL {w : Nat} {f : Nat → Nat → Int} {D : Addr} : Stab D (RL w f) := fun j v H H' h nv k => by
  obtain ⟨q, rfl, h⟩ := h
  exact ⟨q, rfl, k _ _ (fun e => nv (by rw [e])) h⟩
theorem stab_RT {g : Nat → List Int} {D : Addr} : Stab D (RT g) := fun j v H H' h nv k => by
  obtain ⟨q, rfl, h⟩ := h
  exact ⟨q, rfl, k _ _ (fun e => nv (by rw [e])) h⟩
/-- an address that stands is no new one -/
theorem ref_ne {H : Hp} {q D : Addr} {o : HO} (hq : H q = none) (hD : H D = some o) : V.ref q ≠ V.ref D := fun e => by
  have := V.ref.inj e
  rw [this, hD] at hq
  cases hq
theorem pe_tupleOfK {X : Cx} {K : PySem.W.Frag} {p pos : Pos} {a : Expr} {ta : TE} (hK : X.K = K) (hg : Gl X "tuple") (hm : X.mg "tuple" = none) (ha : PE X a ta)
    (na : starEach [a] X.env = (false, eval a X.env) :: starEach [] X.env := by rfl) : PE X (.Call (.Name "tuple" p) [a] [] pos) (tThen ta (kTup K)) := by
  subst hK
  exact pe_tupleOf hg hm ha na
theorem ref_ne2 {H : Hp} {q D : Addr} {xs ys : List V} (hq : H q = some (.tup xs)) (hD : H D = some (.lst ys)) : V.ref q ≠ V.ref D := fun e => by
  have := V.ref.inj e
  rw [this, hD] at hq
  cases hq
/-! walks, the frame named -/
section
variable {X : Cx} {K : PySem.W.Frag} {e e2 : Expr} {te : TE} {ta : TA} {tg : Expr} {p pos tpos : Pos} {elts : List Expr} {kk : Nat}
theorem pi_listK (hK : X.K = K) (he : PE X e te) : PI X tg e (iList K te) := by
  subst hK
  exact pi_list he
theorem pi_tupK (hK : X.K = K) (he : PE X e te) : PI X tg e (iTup K te) := by
  subst hK
  exact pi_tup he
theorem pi_zipAK (hK : X.K = K) (hg : Gl X "zip") (hm : X.mg "zip" = none) (ha : PA X [e, e2] ta)
    (hs : starEach [e, e2] X.env = (false, eval e X.env) :: starEach [e2] X.env := by rfl) (hpl : (backTo pos (starEach [e2] X.env)).any (·.1) = false := by rfl) :
    PI X (.Tuple elts kk tpos) (.Call (.Name "zip" p) [e, e2] [] pos) (RZ.iZipA K ta) := by
  subst hK
  exact RZ.pi_zipA hg hm ha hs hpl
end
theorem walk_zipT {K : PySem.W.Frag} {a b : Addr} {xs ys : List V} {n : Nat} (hn : n = min xs.length ys.length) : Walk (RZ.ItzT K a b) n (fun H => SqT K H a xs ∧ SqT K H b ys) (YPair (fun i => xs[i]?) (fun i => ys[i]?)) := by
  subst hn
  refine ⟨fun i _ hi q => ?_, fun _ q => ⟨xs, ys, q.1, q.2, by omega⟩, fun i H v H' _ q y => ?_⟩
  · have h1 : i < xs.length := by omega
    have h2 : i < ys.length := by omega
    exact ⟨xs, ys, xs[i], ys[i], q.1, q.2, by simp [h1], by simp [h2]⟩
  · obtain ⟨T, x, z, h1, h2, h3, h4, h5⟩ := y
    exact ⟨T, x, z, h1, h2, h3, h4 xs q.1, h5 ys q.2⟩
-- part methn
/-! methods and operators of an own class that may raise -/
structure MeN (P : Program) (w : World) (K : PySem.W.Frag) (mg : Str → Option Value) (base : Heap) (k : Nat) (C : Addr) (m : Str) (sp : Sp) : Prop where
  ex : ∃ (f : Addr) (fd : FuncData) (ps : List Str), Meth K C m f ∧ FnOk P w K mg base (L2N.CX P w) k f fd ps sp ∧ Binds K fd ps []
section
variable {X : Cx} {W : WX} {C : Addr} {m : Str} {sp : Sp} {k j : Nat} {o e a b : Expr} {es : List Expr} {ta tb : TE} {t : TA} {apos pos : Pos} {pl : Sem Bool}
/-- x op y, where it doesn't raise -/
theorem op_own2N {op : Operator} (c : MeN X.prog X.w X.K X.mg X.base k C m sp) (hr : Room j X.A) (sf : PySem.W.selfFirst X.K C = true) (hm : PySem.dunder op.info.2 = m := by decide +kernel) (hk : k ≤ j := by decide) : OpR X (binaryOp op) (rOwn2 C sp) := by
  obtain ⟨f, fd, ps, M, F, b⟩ := c.ex
  intro pins s σ H x y v u Q I rx ry h
  obtain ⟨a, b', dx, dy, fs, gs, rfl, rfl, ha, hb, q⟩ := h
  cases (show v = Value.ref a from rx)
  cases (show u = Value.ref b' from ry)
  obtain ⟨ox, od, J⟩ := inst_of I ha
  obtain ⟨oy, od', J'⟩ := inst_of I hb
  obtain ⟨mm, hF⟩ := I.fr
  refine PySem.W.binop_K hF I.ok.mod.kin J J'.type sf (by rw [hm]; exact M.at_) M.fn ?_
  refine wpAny_mono (run_fn (us := [.ref a, .ref b']) (vs := [.ref a, .ref b']) F (hr.mono hk) b .nil passN I (.cons rfl (.cons rfl .nil)) q) (fun u' s' z => ?_) fun _ _ x => x
  obtain ⟨z', H', I', rz, qz⟩ := z
  exact SlX.cmpback rz ⟨z', H', I', rz, qz⟩
/-- x op y, what it raises is taken -/
def tOp2S (C : Addr) (sp : Sp) (E : L2.St → XK) (ta tb : TE) : TE := fun σ H Q => ta σ H fun x H1 => tb σ H1 fun y H2 => ∃ a b dx dy fs gs, x = .ref a ∧ y = .ref b ∧ H2 a = some (.ins C dx fs) ∧ H2 b = some (.ins C dy gs) ∧ sp [x, y] H2 Q (E σ)
theorem pe_op2X {op : Operator} (c : MeN X.prog X.w X.K X.mg X.base k C m sp) (hr : Room j X.A) (tk : L2N.Takes X W) (sf : PySem.W.selfFirst X.K C = true) (ha : PE X a ta) (hb : PE X b tb) (hm : PySem.dunder op.info.2 = m := by decide +kernel) (hk : k ≤ j := by decide) : PE X (.BinOp a op b pos) (tOp2S C sp (WE W) ta tb) := by
  obtain ⟨f, fd, ps, M, F, bb⟩ := c.ex
  refine ⟨fun pins s σ H Q I h => ?_⟩
  refine wpAny_BinOp (binT ha hb I h fun v u s2 x y H2 I2 rx ry q => ?_)
  obtain ⟨a, b', dx, dy, fs, gs, rfl, rfl, ha, hb, q⟩ := q
  cases (show v = Value.ref a from rx)
  cases (show u = Value.ref b' from ry)
  obtain ⟨ox, od, J⟩ := inst_of I2 ha
  obtain ⟨oy, od', J'⟩ := inst_of I2 hb
  obtain ⟨mm, hF⟩ := I2.fr
  refine PySem.W.binop_K hF I2.ok.mod.kin J J'.type sf (by rw [hm]; exact M.at_) M.fn ?_
  refine wpAny_mono (run_fnS (us := [.ref a, .ref b']) (vs := [.ref a, .ref b']) (E := WE W) F (hr.mono hk) bb (L2N.passAt tk σ) I2 (.cons rfl (.cons rfl .nil)) q) (fun u' s' z => ?_) fun _ _ x => x
  obtain ⟨z', H', I', rz, qz⟩ := z
  exact SlX.cmpback rz ⟨z', H', I', rz, qz⟩
theorem pe_meN0 (c : MeN X.prog X.w X.K X.mg X.base k C m sp) (cl : Cls X.K C) (hr : Room j X.A) (he : PE X o ta) (hk : k ≤ j := by decide)
    (ht : eval (.Call (.Attribute o m apos) [] [] pos) X.env = (do
      let ov ← eval o X.env
      standAt apos.atName
      let (f, first) ← holding [ov] (getMethod ov m pl)
      callWith pos f first (backTo pos (starEach [] X.env)) (backToKw pos (keywordEach [] X.env))) := by rfl) :
    PE X (.Call (.Attribute o m apos) [] [] pos) (tMeth C m sp [] E0 ta tNil) := by
  obtain ⟨f, fd, ps, M, F, b⟩ := c.ex
  exact pe_meth0 he cl M F (hr.mono hk) b .nil passN ht
theorem pe_meN (c : MeN X.prog X.w X.K X.mg X.base k C m sp) (cl : Cls X.K C) (hr : Room j X.A) (he : PE X o ta) (ha : PA X (e :: es) t) (hk : k ≤ j := by decide)
    (hst : starEach (e :: es) X.env = (false, eval e X.env) :: starEach es X.env := by rfl) (hpl : (backTo pos (starEach es X.env)).any (·.1) = false := by rfl)
    (ht : eval (.Call (.Attribute o m apos) (e :: es) [] pos) X.env = (do
      let ov ← eval o X.env
      standAt apos.atName
      let (f, first) ← holding [ov] (getMethod ov m pl)
      callWith pos f first (backTo pos (starEach (e :: es) X.env)) (backToKw pos (keywordEach [] X.env))) := by rfl) :
    PE X (.Call (.Attribute o m apos) (e :: es) [] pos) (tMeth C m sp [] E0 ta t) := by
  obtain ⟨f, fd, ps, M, F, b⟩ := c.ex
  exact pe_meth he cl M F (hr.mono hk) b .nil passN ha hst hpl ht
/-- o.m(..), what it raises is taken -/
def tMethS (C : Addr) (m : Str) (sp : Sp) (E : L2.St → XK) (ta : TE) (t : TA) : TE := fun σ H Q => ta σ H fun x H1 => ∃ a dx fs, x = .ref a ∧ H1 a = some (.ins C dx fs) ∧ fs.lookup m = none ∧ t σ H1 fun vs H2 => sp (x :: vs) H2 Q (E σ)
theorem pe_meX (c : MeN X.prog X.w X.K X.mg X.base k C m sp) (cl : Cls X.K C) (hr : Room j X.A) (tk : L2N.Takes X W) (he : PE X o ta) (ha : PA X (e :: es) t) (hk : k ≤ j := by decide)
    (hst : starEach (e :: es) X.env = (false, eval e X.env) :: starEach es X.env := by rfl) (hpl : (backTo pos (starEach es X.env)).any (·.1) = false := by rfl)
    (ht : eval (.Call (.Attribute o m apos) (e :: es) [] pos) X.env = (do
      let ov ← eval o X.env
      standAt apos.atName
      let (f, first) ← holding [ov] (getMethod ov m pl)
      callWith pos f first (backTo pos (starEach (e :: es) X.env)) (backToKw pos (keywordEach [] X.env))) := by rfl) :
    PE X (.Call (.Attribute o m apos) (e :: es) [] pos) (tMethS C m sp (WE W) ta t) := by
  obtain ⟨f, fd, ps, M, F, b⟩ := c.ex
  refine ⟨fun pins s σ H Q I h => ?_⟩
  refine PySem.W.methodCall_KW (pl := pl) (thn (he.run pins s σ H _ I h) fun u s1 ⟨x, H1, I1, rx, a, dx, fs, ex, ea, l, q⟩ => ?_) ht
  subst ex
  obtain rfl : u = Value.ref a := rx
  refine getmeth_ok I1 ea cl M l ?_
  exact PySem.W.callWith_K (first := [.ref a]) (h₀ := X.base) I1.ok.mod.kin M.kp (thn (ha.run pos pins s1 σ H1 _ I1 q) fun us s2 ⟨vs, H2, I2, r, q2⟩ => ⟨I2.kIn, run_fnS (us := .ref a :: us) (vs := .ref a :: vs) (E := WE W) F (hr.mono hk) b (L2N.passAt tk σ) I2 (.cons rfl r) q2⟩) hst hpl
theorem pe_meX0 (c : MeN X.prog X.w X.K X.mg X.base k C m sp) (cl : Cls X.K C) (hr : Room j X.A) (tk : L2N.Takes X W) (he : PE X o ta) (hk : k ≤ j := by decide)
    (ht : eval (.Call (.Attribute o m apos) [] [] pos) X.env = (do
      let ov ← eval o X.env
      standAt apos.atName
      let (f, first) ← holding [ov] (getMethod ov m pl)
      callWith pos f first (backTo pos (starEach [] X.env)) (backToKw pos (keywordEach [] X.env))) := by rfl) :
    PE X (.Call (.Attribute o m apos) [] [] pos) (tMethS C m sp (WE W) ta tNil) := by
  obtain ⟨f, fd, ps, M, F, b⟩ := c.ex
  refine ⟨fun pins s σ H Q I h => ?_⟩
  refine PySem.W.methodCall_KW (pl := pl) (thn (he.run pins s σ H _ I h) fun u s1 ⟨x, H1, I1, rx, a, dx, fs, ex, ea, l, q⟩ => ?_) ht
  subst ex
  obtain rfl : u = Value.ref a := rx
  refine getmeth_ok I1 ea cl M l ?_
  exact PySem.W.callWith_K0 (first := [.ref a]) I1.kIn M.kp (run_fnS (us := [.ref a]) (vs := [.ref a]) (E := WE W) F (hr.mono hk) b (L2N.passAt tk σ) I1 (.cons rfl .nil) q)
end
-- part repjoin
/-- 'a' * n -/
def repS (z : Str) (n : Nat) : Str := ⟨(List.replicate n z.cps).foldl (· ++ ·) #[]⟩
theorem tl_rep (a : Array Nat) : ∀ (n : Nat) (acc : Array Nat), ((List.replicate n a).foldl (· ++ ·) acc).toList = acc.toList ++ (List.replicate n a.toList).flatten
  | 0, acc => by simp
  | n + 1, acc => by
    rw [List.replicate_succ, List.foldl_cons, tl_rep a n, Array.toList_append, List.replicate_succ, List.flatten_cons, List.append_assoc]
theorem tl_repS (z : Str) (n : Nat) : TL.tl (repS z n) = (List.replicate n (TL.tl z)).flatten := by
  show ((List.replicate n z.cps).foldl (· ++ ·) #[]).toList = _
  rw [tl_rep]
  rfl
theorem tl_rep1 {z : Str} {c : Nat} (h : TL.tl z = [c]) (n : Nat) : TL.tl (repS z n) = List.replicate n c := by
  rw [tl_repS, h]
  clear h
  induction n with
  | zero => rfl
  | succ n ih => rw [List.replicate_succ, List.flatten_cons, ih, List.replicate_succ, List.singleton_append]
theorem op_rep_str {X : Cx} : OpR X (binaryOp .Mult) (fun x y H Q => ∃ (z : Str) (n : Int), x = .str z ∧ y = .int n ∧ 1 < n ∧ n < 2 ^ 20 ∧ z.length ≠ 0 ∧ z.length ≤ 10 ∧ Q (.str (repS z n.toNat)) H) := by
  intro pins s σ H x y v u Q I rx ry h
  obtain ⟨z, n, rfl, rfl, h1, h2, h3, h4, q⟩ := h
  obtain ⟨t, rfl⟩ := rx
  obtain ⟨t', rfl⟩ := ry
  have e1 : (n == 1) = false := beq_eq_false_iff_ne.mpr (by omega)
  have e2 : (z.length == 0) = false := beq_eq_false_iff_ne.mpr h3
  have small : z.length * n.toNat ≤ sizeLine := by
    rw [sizeLine_eq]
    refine Nat.le_trans (Nat.mul_le_mul h4 (show n.toNat ≤ 1048576 by omega)) (by decide)
  refine PySem.P.mul_str ?_ (fun _ _ => ?_) (fun _ _ => ?_) ?_
  · rw [decide_eq_false (by omega), decide_eq_false (by omega)]
    rfl
  · have : (2 ^ 63 - 1 : Int) / 1048576 ≤ (2 ^ 63 - 1) / n := by
      refine Int.le_ediv_of_mul_le (by omega) ?_
      have : (2 ^ 63 - 1 : Int) / 1048576 * n ≤ (2 ^ 63 - 1 : Int) / 1048576 * 1048576 := Int.mul_le_mul_of_nonneg_left (by omega) (by decide)
      refine Int.le_trans this (by decide)
    have : (2 ^ 63 - 1 : Int) / 1048576 = 8796093022207 := by decide
    omega
  · exact decide_eq_false (by omega)
  · rw [if_neg (by omega), e1, e2, if_neg (by decide)]
    refine ⟨?_, .str (repS z n.toNat), H, I.tok _, ⟨_, rfl⟩, q⟩
    show (repS z n.toNat).length ≤ sizeLine
    rw [str_len, tl_repS]
    have : (List.replicate n.toNat (TL.tl z)).flatten.length = n.toNat * (TL.tl z).length := by simp
    rw [this, ← str_len, Nat.mul_comm]
    omega
theorem joinL_two (S a b : List Nat) (r : List (List Nat)) : TL.joinL S (a :: b :: r) = a ++ (S ++ TL.joinL S (b :: r)) := rfl
theorem sum_le {k : Nat} : ∀ {ys : List Str}, (∀ y ∈ ys, y.length ≤ k) → (ys.map (·.length)).sum ≤ ys.length * k
  | [], _ => Nat.zero_le _
  | y :: ys, h => by
    have h1 := h y List.mem_cons_self
    have h2 := sum_le (k := k) (ys := ys) fun z hz => h z (List.mem_cons_of_mem _ hz)
    rw [List.map_cons, List.sum_cons, List.length_cons, Nat.succ_mul]
    omega
theorem joinL_len {S : List Nat} : ∀ ps : List (List Nat), (TL.joinL S ps).length ≤ (ps.map (·.length)).sum + ps.length * S.length
  | [] => Nat.zero_le _
  | [p] => by
    show p.length ≤ _
    simp only [List.map_cons, List.map_nil, List.sum_cons, List.sum_nil]
    omega
  | p :: q :: r => by
    have := joinL_len (S := S) (q :: r)
    rw [joinL_two, List.length_append, List.length_append, List.map_cons, List.sum_cons, List.length_cons, Nat.succ_mul]
    omega
theorem join_len {y : Str} {ws : List Str} {k : Nat} (h : ∀ z ∈ ws, z.length ≤ k) : (Txt.join y ws).length ≤ ws.length * k + ws.length * y.length := by
  rw [TL.join_eq, str_len, TL.tl_join]
  have := joinL_len (S := TL.tl y) (ws.map TL.tl)
  have s := sum_le h
  rw [List.length_map, List.map_map] at this
  have e : (ws.map ((·.length) ∘ TL.tl)) = ws.map (·.length) := List.map_congr_left fun z _ => (str_len z).symm
  rw [e, ← str_len] at this
  omega
-- part strs
theorem bl_eq {α : Type} (x y : α) [DecidableEq α] {f : α → V} (inj : ∀ a b, f a = f b → a = b) : decide (f x = f y) = decide (x = y) := by
  by_cases c : x = y
  · rw [c, decide_eq_true rfl, decide_eq_true rfl]
  · rw [decide_eq_false c, decide_eq_false fun h => c (inj _ _ h)]
theorem str_eq (x y : Str) : decide (V.str x = V.str y) = decide (x = y) := bl_eq x y fun _ _ h => V.str.inj h
theorem dpAll_strs {K : PySem.W.Frag} {H : Hp} : ∀ l : List Str, DpAll K H (l.map V.str) (l.map PyData.str)
  | [] => .nil
  | x :: l => .cons (.str x) (dpAll_strs l)
theorem eqvAll_strs : ∀ l m : List Str, PyData.eqvAll (l.map PyData.str) (m.map PyData.str) = decide (l = m)
  | [], [] => by rw [List.map_nil, PyData.eqvAll]; rfl
  | [], b :: m => by rw [List.map_nil, List.map_cons, PyData.eqvAll] <;> first | (exact (decide_eq_false (by simp)).symm) | skip
  | a :: l, [] => by rw [List.map_nil, List.map_cons, PyData.eqvAll] <;> first | (exact (decide_eq_false (by simp)).symm) | skip
  | a :: l, b :: m => by
    rw [List.map_cons, List.map_cons, PyData.eqvAll, PyData.eqv, eqvAll_strs l m]
    by_cases c : a = b
    · subst c
      by_cases d : l = m
      · subst d
        simp
      · simp [d]
    · simp [c]
theorem eqv_strs (l m : List Str) : PyData.eqv (.list (l.map PyData.str)) (.list (m.map PyData.str)) = decide (l = m) := by
  rw [PyData.eqv]
  exact eqvAll_strs l m
theorem canLay_strs : ∀ l : List Str, (∀ z ∈ l, PyData.strOk z = true) → PyData.canLayAll0 (l.map PyData.str) = true
  | [], _ => by rw [List.map_nil, PyData.canLayAll0]
  | a :: l, h => by rw [List.map_cons, PyData.canLayAll0, PyData.canLay0, canLay_strs l fun z hz => h z (List.mem_cons_of_mem _ hz), h a List.mem_cons_self]; rfl
theorem depth_strs : ∀ l : List Str, PyData.depthAll (l.map PyData.str) = 0
  | [] => by rw [List.map_nil, PyData.depthAll]
  | a :: l => by rw [List.map_cons, PyData.depthAll, PyData.depth, depth_strs l]; rfl
theorem shaped_strs {l : List Str} (h : ∀ z ∈ l, PyData.strOk z = true) : SeqAt.shaped (.list (l.map PyData.str)) = true := by
  unfold SeqAt.shaped
  rw [PyData.canLay0, canLay_strs l h, PyData.depth, depth_strs]
  rfl
theorem dp_strs {K : PySem.W.Frag} {H : Hp} {a : Addr} {l : List Str} (h : SqL K H a (l.map V.str)) : Dp K H (.ref a) (.list (l.map PyData.str)) := .lst h (dpAll_strs l)
theorem at_str {L : List Str} {i : Nat} {z : Str} (h : L[i]? = some z) : atI (L.map V.str) (i : Int) = some (V.str z) := atI_nat (by rw [List.getElem?_map, h]; rfl)
-- part intw
/-! the words that are integers -/
def dg (c : Nat) : Bool := decide (48 ≤ c) && decide (c ≤ 57)
def numC (m : Nat) (ds : List Nat) : Bool := (!ds.isEmpty && ds.all dg) && (decide (ds.length ≤ m) && (decide (ds = [48]) || !decide (ds.head? = some 48)))
def unsign (cs : List Nat) : List Nat := if cs.head? = some 45 then cs.tail else cs
def intC (cs : List Nat) : Bool := !decide (cs = [45, 48]) && numC 30 (unsign cs)
theorem dg_table : ∀ c, c < 128 → Unicode.isDigit c = dg c := by decide +kernel
theorem tl_lit0 : TL.tl ("0" : Str) = [48] := by decide +kernel
theorem tl_litm : TL.tl ("-" : Str) = [45] := by decide +kernel
theorem tl_litm0 : TL.tl ("-0" : Str) = [45, 48] := by decide +kernel
theorem str_iff {x y : Str} : x = y ↔ TL.tl x = TL.tl y := ⟨fun h => by rw [h], TL.ext_tl⟩
theorem dec_str {x : Str} {y : Str} {l : List Nat} (h : TL.tl y = l) : decide (x = y) = decide (TL.tl x = l) := by
  rw [← h]
  by_cases c : x = y
  · rw [decide_eq_true c, decide_eq_true (by rw [c])]
  · rw [decide_eq_false c, decide_eq_false fun e => c (TL.ext_tl e)]
theorem all_tl (z : Str) (f : Nat → Bool) : z.cps.all f = (TL.tl z).all f := (Array.all_toList).symm
/-- what the program asks of a word -/
def isNumM (z : Str) (m : Nat) : Bool := (Txt.isascii z && Txt.isdigit z) && (decide (z.length ≤ m) && (decide (z = "0") || !Txt.startswith z "0"))
theorem ascii_digit (z : Str) : (Txt.isascii z && Txt.isdigit z) = (!(TL.tl z).isEmpty && (TL.tl z).all dg) := by
  unfold Txt.isascii Txt.isdigit
  rw [all_tl, all_tl, str_len]
  generalize TL.tl z = cs
  have key : (cs.all (· < 128) && cs.all Unicode.isDigit) = cs.all dg := by
    rw [Bool.eq_iff_iff]
    simp only [Bool.and_eq_true, List.all_eq_true, decide_eq_true_eq]
    constructor
    · rintro ⟨h1, h2⟩ c hc
      rw [← dg_table c (h1 c hc)]
      exact h2 c hc
    · intro h
      have lt : ∀ c ∈ cs, c < 128 := fun c hc => by
        have := h c hc
        unfold dg at this
        simp only [Bool.and_eq_true, decide_eq_true_eq] at this
        omega
      exact ⟨lt, fun c hc => by rw [dg_table c (lt c hc)]; exact h c hc⟩
  rw [← key]
  cases cs with
  | nil => rfl
  | cons c cs =>
    rw [decide_eq_true (show (c :: cs).length > 0 from Nat.succ_pos _)]
    simp
theorem startswith_one (z : Str) {y : Str} {c : Nat} (h : TL.tl y = [c]) : Txt.startswith z y = decide ((TL.tl z).head? = some c) := by
  unfold Txt.startswith
  have hl : y.length = 1 := by rw [str_len, h]; rfl
  rw [StrLaws.subAt_eq, hl]
  show (decide (0 + 1 ≤ z.length) && (((TL.tl z).drop 0).take 1 == TL.tl y)) = _
  rw [h, str_len]
  cases TL.tl z with
  | nil => rfl
  | cons d ds =>
    by_cases e : d = c
    · subst e
      simp
    · simp [e]
theorem isNumM_eq (z : Str) (m : Nat) : isNumM z m = numC m (TL.tl z) := by
  unfold isNumM numC
  rw [ascii_digit, dec_str tl_lit0, startswith_one z tl_lit0, str_len]
theorem tl_prefix (z : Str) : TL.tl (Txt.removeprefix z "-") = unsign (TL.tl z) := by
  rw [StrLaws.removeprefix_eq]
  have h := startswith_one z tl_litm
  unfold Txt.startswith at h
  have hl : ("-" : Str).length = 1 := by decide +kernel
  unfold unsign
  by_cases c : (TL.tl z).head? = some 45
  · rw [decide_eq_true c] at h
    rw [if_pos h, if_pos c, TL.tl_mk, hl]
    show ((TL.tl z).drop 1).take (z.length - 1) = (TL.tl z).tail
    rw [str_len, List.drop_one, List.take_of_length_le (by rw [List.length_tail]; exact Nat.le_refl _)]
  · rw [decide_eq_false c] at h
    rw [if_neg (by rw [h]; exact Bool.false_ne_true), if_neg c]
def isIntW (z : Str) : Bool := !decide (z = "-0") && isNumM (Txt.removeprefix z "-") 30
theorem isIntW_eq (z : Str) : isIntW z = intC (TL.tl z) := by
  unfold isIntW intC
  rw [isNumM_eq, tl_prefix, dec_str tl_litm0]
/-- the integer that a word is -/
def valW (z : Str) : Int := (PySem.intText? z).getD 0
theorem dg_all {cs : List Nat} (h : cs.all dg = true) : NumText.AllDigits cs := fun c hc => by
  have := List.all_eq_true.mp h c hc
  unfold dg at this
  simp only [Bool.and_eq_true, decide_eq_true_eq] at this
  exact this
theorem int_reads {z : Str} (h : intC (TL.tl z) = true) : PySem.intText? z = some (valW z) ∧ z.length ≤ 640 := by
  unfold intC numC at h
  simp only [Bool.and_eq_true, Bool.not_eq_true', decide_eq_false_iff_not, decide_eq_true_eq] at h
  obtain ⟨_, ⟨h1, h2⟩, h3, _⟩ := h
  have ne : unsign (TL.tl z) ≠ [] := fun e => by rw [e] at h1; cases h1
  have short : (TL.tl z).length ≤ 31 := by
    unfold unsign at h3
    split at h3
    · rw [List.length_tail] at h3
      omega
    · omega
  have hlen : z.length ≤ 31 := by rw [str_len]; exact short
  have some_ : ∃ n, PySem.intText? z = some n := by
    unfold unsign at h2 ne
    by_cases c : (TL.tl z).head? = some 45
    · rw [if_pos c] at h2 ne
      obtain ⟨cs, hcs⟩ : ∃ cs, TL.tl z = 45 :: cs := by
        cases e : TL.tl z with
        | nil => rw [e] at c; cases c
        | cons d ds => rw [e] at c; exact ⟨ds, by rw [Option.some.inj c]⟩
      rw [hcs] at h2 ne
      exact ⟨_, PySem.intText_neg hcs (dg_all h2) ne (by omega)⟩
    · rw [if_neg c] at h2 ne
      exact ⟨_, PySem.intText_digits (dg_all h2) ne (by omega)⟩
  obtain ⟨n, hn⟩ := some_
  refine ⟨?_, by omega⟩
  unfold valW
  rw [hn]
  rfl
/-! texts of ints -/
theorem tl_numT (k : Int) : TL.tl (Str.ofString (toString k)) = if 0 ≤ k then TL.numL k.toNat else 45 :: TL.numL k.natAbs := by
  cases k with
  | ofNat n =>
    rw [if_pos (show 0 ≤ Int.ofNat n from Int.natCast_nonneg n)]
    exact TL.tl_num n
  | negSucc n =>
    rw [if_neg (by omega)]
    have e : toString (Int.negSucc n) = "-" ++ toString (n + 1) := rfl
    have e2 : TL.tl (Str.ofString (toString (((n + 1 : Nat) : Int)))) = TL.numL (n + 1) := TL.tl_num (n + 1)
    have e3 : toString (((n + 1 : Nat) : Int)) = toString (n + 1) := rfl
    rw [TL.tl_ofString, e, String.toList_append, List.map_append, ← TL.tl_ofString (toString (n + 1)), ← e3, e2]
    rfl
theorem numL_head {n : Nat} (h : 0 < n) : (TL.numL n).head? ≠ some 48 := by
  induction n using Nat.strongRecOn with
  | ind n ih =>
    by_cases c : n < 10
    · rw [TL.numL_lt c]
      intro e
      have := Option.some.inj e
      omega
    · rw [TL.numL_step (by omega)]
      have ne := TL.numL_ne (n / 10)
      have := ih (n / 10) (by omega) (by omega)
      cases e : TL.numL (n / 10) with
      | nil => exact absurd e ne
      | cons d ds =>
        rw [e] at this
        exact this
theorem dg_numL (n : Nat) : (TL.numL n).all dg = true := List.all_eq_true.mpr fun c hc => by
  have := TL.numL_digits n c hc
  unfold dg
  simp only [Bool.and_eq_true, decide_eq_true_eq]
  exact this
theorem numC_numL {n : Nat} (h : n < 10 ^ 30) : numC 30 (TL.numL n) = true := by
  unfold numC
  have hl := TL.numL_len (k := 30) (by decide) h
  have ne := TL.numL_ne n
  rw [dg_numL, decide_eq_true hl]
  have e1 : (TL.numL n).isEmpty = false := by
    cases e : TL.numL n with
    | nil => exact absurd e ne
    | cons d ds => rfl
  rw [e1]
  by_cases c : n = 0
  · subst c
    rw [TL.numL_lt (by decide)]
    decide
  · rw [decide_eq_false (numL_head (Nat.pos_of_ne_zero c))]
    simp
theorem numL_no45 (n : Nat) : (TL.numL n).head? ≠ some 45 := fun e => by
  cases h : TL.numL n with
  | nil => rw [h] at e; cases e
  | cons d ds =>
    rw [h] at e
    have hm : d ∈ TL.numL n := by rw [h]; exact List.mem_cons_self
    rw [Option.some.inj e] at hm
    exact TL.numL_free (n := n) (s := 45) (.inl (by decide)) hm
theorem intC_numT {k : Int} (h : k.natAbs < 10 ^ 30) : intC (TL.tl (Str.ofString (toString k))) = true := by
  rw [tl_numT]
  unfold intC unsign
  by_cases c : 0 ≤ k
  · rw [if_pos c, if_neg (numL_no45 _), numC_numL (by omega)]
    have : TL.numL k.toNat ≠ [45, 48] := fun e => numL_no45 k.toNat (by rw [e]; rfl)
    rw [decide_eq_false this]
    rfl
  · rw [if_neg c, if_pos (show (45 :: TL.numL k.natAbs).head? = some 45 from rfl), List.tail_cons, numC_numL h]
    have hp : 0 < k.natAbs := by omega
    have : (45 :: TL.numL k.natAbs) ≠ [45, 48] := fun e => numL_head hp (by rw [(List.cons.inj e).2]; rfl)
    rw [decide_eq_false this]
    rfl
theorem numT_val {k : Int} (h : k.natAbs < 10 ^ 30) : valW (Str.ofString (toString k)) = k := by
  have hl := TL.numL_len (k := 30) (n := k.natAbs) (by decide) h
  by_cases c : 0 ≤ k
  · obtain ⟨n, rfl⟩ := Int.eq_ofNat_of_zero_le c
    unfold valW
    rw [TL.int_num (by rw [Int.natAbs_natCast] at hl; omega)]
    rfl
  · have e : TL.tl (Str.ofString (toString k)) = 45 :: TL.numL k.natAbs := by rw [tl_numT, if_neg c]
    have hs : (Str.ofString (toString k)).length ≤ 4300 := by
      rw [str_len, e, List.length_cons]
      omega
    have := PySem.intText_neg (x := Str.ofString (toString k)) e (TL.numL_digits _) (TL.numL_ne _) hs
    unfold valW
    rw [this, TL.numL_val]
    show -((k.natAbs : Nat) : Int) = k
    omega
theorem free32_numT (k : Int) : 32 ∉ TL.tl (Str.ofString (toString k)) := fun h => (intText_free_32 k).mp h
-- part strown
/-! str(x) of an own instance -/
section
variable {X : Cx} {C : Addr} {sp : Sp} {k j : Nat}
def rStrOwn (C : Addr) (sp : Sp) : List V → Hp → VK → Prop := fun xs H Q => ∃ a dx fs, xs = [.ref a] ∧ H a = some (.ins C dx fs) ∧ sp [.ref a] H (fun v H' => ∃ z : Str, v = .str z ∧ Q (.str z) H') E0
theorem cr_strOwn (c : Me X.prog X.w X.K X.mg X.base k C "__str__" sp) (hr : Room j X.A) (hk : k + 2 ≤ j := by decide) : CallR X (.type "str") (rStrOwn C sp) := by
  obtain ⟨f, fd, ps, M, F, b⟩ := c.ex
  intro pins s σ H xs us Q I r h
  obtain ⟨a, dx, fs, rfl, ha, q⟩ := h
  obtain rfl := Vals.ref1 r
  obtain ⟨ox, od, J⟩ := inst_of I ha
  have many : ([Value.ref a] : List Value).length = ps.length := F.len [.ref a] _ _ _ q
  have bound := b s [.ref a] I.kIn (by rw [List.append_nil]; exact many)
  rw [List.append_nil] at bound
  refine PySem.W.kso_call (hr.mono hk).in1.in1.units0 I.kIn J M.at_ M.fn (wpAny_call (codeAny_mono (F.run _ X.stack s H ⟨[.ref a], []⟩ [.ref a] [.ref a] _ E0 ((hr.mono hk).in1.in1) (I.env0.in1.in1) bound (.cons rfl .nil) q) fun r s' hq => ?_))
  cases r with
  | error e => exact False.elim hq
  | ok fl =>
    cases fl with
    | ret u =>
      obtain ⟨z', H', I', rz, z, ez, qz⟩ := I.after hq
      subst ez
      obtain ⟨t, ht⟩ := (show ∃ t, u = Value.str z t from rz)
      subst ht
      exact ⟨.str z, H', I', ⟨t, rfl⟩, qz⟩
    | next => exact False.elim hq
    | brk => exact False.elim hq
    | cont => exact False.elim hq
end
/-- y.join(xs), the frame named: for the body of a try -/
def rJoin (K : PySem.W.Frag) : V → List V → Hp → VK → Prop := fun x xs H Q => ∃ a p, ∃ ys : List Str, x = .str a ∧ xs = [.ref p] ∧ (SqL K H p (ys.map V.str) ∨ SqT K H p (ys.map V.str)) ∧ (ys.map (·.length)).sum + ys.length * a.length ≤ 16777216 ∧ Q (.str (Txt.join a ys)) H
theorem pe_joinK {X : Cx} {K : PySem.W.Frag} {o e : Expr} {to te : TE} {apos pos : Pos} (hK : X.K = K) (ho : PE X o to) (he : PE X e te) (hs : starEach [e] X.env = [(false, eval e X.env)] := by rfl) (hbase : attributeBase o "join" X.env (eval o X.env) = eval o X.env := by rfl) (hline : (apos.endLine == pos.line) = true := by rfl) :
    PE X (.Call (.Attribute o "join" apos) [e] [] pos) (tM1 (rJoin K) to te) := by
  subst hK
  exact pe_join ho he hs hbase hline
-- part trk
/-! rules whose readings name the frame: for the body of a try and for except suites -/
section
variable {X : Cx} {K : PySem.W.Frag} {o e : Expr} {es : List Expr} {to : TE} {t : TA} {name : Str} {apos cpos : Pos} {T id : String} {r : V → List V → Hp → VK → Prop}
theorem pe_bm0K (hK : X.K = K) (pa : PlainAttrs T) (slot : Slot T name id) (ty : typeOf (.builtin id) = pure (.type "method_descriptor")) (hm : MtR X id r) (ho : PE X o to)
    (hb : attributeBase o name X.env (eval o X.env) = eval o X.env := by rfl) (hl : (apos.endLine == cpos.line) = true := by rfl) : PE X (.Call (.Attribute o name apos) [] [] cpos) (tBM0 K T r to) := by
  subst hK
  exact pe_bm0 pa slot ty hm ho hb hl
theorem pe_bmK (hK : X.K = K) (pa : PlainAttrs T) (slot : Slot T name id) (ty : typeOf (.builtin id) = pure (.type "method_descriptor")) (hm : MtR X id r) (ho : PE X o to) (ha : PA X (e :: es) t)
    (hb : attributeBase o name X.env (eval o X.env) = eval o X.env := by rfl)
    (hf : ((backTo cpos (starEach (e :: es) X.env)).all (fun x => !x.1) && (backToKw cpos (keywordEach [] X.env)).all (fun x => x.1.isSome) && decide ((e :: es).length + ([] : List Keyword).length + (if ([] : List Keyword).isEmpty then 0 else 1) < 30)) = true := by rfl)
    (hl : (apos.endLine == cpos.line) = true := by rfl) (hs : starEach (e :: es) X.env = (false, eval e X.env) :: starEach es X.env := by rfl) (hp : (backTo cpos (starEach es X.env)).any (·.1) = false := by rfl) :
    PE X (.Call (.Attribute o name apos) (e :: es) [] cpos) (tBM K T r to t) := by
  subst hK
  exact pe_bm pa slot ty hm ho ha hb hf hl hs hp
theorem call_isiK (hK : X.K = K) : CallR X (.builtin "isinstance") (rIsi K) := by
  subst hK
  exact call_isi
end
theorem room_suite {X : Cx} {j : Nat} {a : Addr} {l : List (Addr × Obj)} (hr : Room j X.A) : L2H.RoomH j (X.suite a l).A := ⟨hr.dp, hr.un⟩
-- part maxl
section
variable {X : Cx} {W : WX} {C : Addr} {x m : Str} {sp : Sp} {k j i : Nat} {p pos apos : Pos} {e o : Expr} {es : List Expr} {t : TA} {ta : TE} {pl : Sem Bool}
/-- the making itself, what its __init__ raises is taken -/
theorem run_maX {pins : List (Addr × Obj)} {σ : L2.St} {H : Hp} {s : Shared} {Q : VK} {us : List Value} {vs : List V} (c : Ma X.prog X.w X.K X.mg X.base k C sp) (hr : Room j X.A) (tk : L2N.Takes X W) (hk : k + 1 ≤ j) (I : Inv X pins σ H s) (r : Vals vs us)
    (q : ∀ x dx, H x = none → H dx = none → dx ≠ x → sp (.ref x :: (vs ++ [])) (upd (upd H dx (.own x)) x (.ins C dx [])) (fun u H' => u = .non ∧ Q (.ref x) H') (WE W σ)) :
    wpAny (model X.prog X.w) X.A (call (.ref C) us) (EP X pins σ Q) X.xe s := by
  obtain ⟨f, fd, ps, M, F, b⟩ := c.ex
  generalize ez : s.heap.objs.size = z
  have le0 : s.heap.objs.size ≤ z := by
    rw [ez]
    exact Nat.le_refl z
  have asks := q (z + 1) z (I.hok.fresh (Nat.le_succ_of_le le0)) (I.hok.fresh le0) (Nat.ne_of_lt (Nat.lt_succ_self z))
  have laid := Inv.made (C := C) I
  rw [ez] at laid
  rw [List.append_nil] at asks
  have rel : Vals (V.ref (z + 1) :: vs) (Value.ref (z + 1) :: us) := .cons rfl r
  have bound := b _ (Value.ref (z + 1) :: us) laid.kIn (by
    rw [List.append_nil, ← rel.length]
    exact F.len _ _ _ _ asks)
  rw [List.append_nil] at bound
  have runs := F.run _ X.stack _ _ ⟨Value.ref (z + 1) :: us, []⟩ (Value.ref (z + 1) :: us) _ _ (WE W σ) ((hr.mono hk).make C us []) (laid.env0.make C us []) bound rel asks
  subst ez
  refine wpAny_call (make_map (f := f) I.kIn M.makes M.init (beq_iff_eq.mp M.fn) (codeAny_mono runs fun r' s' back => ?_))
  cases r' with
  | error er => exact L2N.passAt tk σ pins _ _ er s' laid back
  | ok fl =>
    cases fl with
    | ret u =>
      obtain ⟨v, H', I3, rv, ev, q3⟩ := laid.after back
      subst ev
      cases (show u = Value.none from rv)
      exact ⟨rfl, .ref _, H', I3, rfl, q3⟩
    | next => exact False.elim back
    | brk => exact False.elim back
    | cont => exact False.elim back
/-- cls(..), cls a parameter that holds the class; what is raised is taken -/
def tMakeLS (i : Nat) (C : Addr) (sp : Sp) (E : L2.St → XK) (t : TA) : TE := fun σ H Q => σ[i]? = some (some (.ref C)) ∧ tMake C sp [] (E σ) t σ H Q
theorem pe_maLX (c : Ma X.prog X.w X.K X.mg X.base k C sp) (hr : Room j X.A) (tk : L2N.Takes X W) (hN : X.N[i]? = some x) (ha : PA X (e :: es) t) (hk : k + 1 ≤ j := by decide)
    (hv : Vis X.env.scope x := by first | exact Or.inl rfl | exact Or.inr (Or.inl rfl) | exact Or.inr (Or.inr rfl))
    (hdb : (x == ("__debug__" : Str)) = false := by decide) (hcd : (x == ("__classdict__" : Str)) = false := by decide)
    (he : starEach (e :: es) X.env = (false, eval e X.env) :: starEach es X.env := by rfl) (hpl : (backTo pos (starEach es X.env)).any (·.1) = false := by rfl) :
    PE X (.Call (.Name x p) (e :: es) [] pos) (tMakeLS i C sp (WE W) t) := by
  have kp : PySem.W.keepIn X.K (.ref C) = true := by
    obtain ⟨f, fd, ps, M, F, b⟩ := c.ex
    exact M.kp
  refine ⟨fun pins s σ H Q I h => ?_⟩
  obtain ⟨at_i, rest⟩ := h
  refine wpAny_Call_Name_kw (thn ((pe_var (pos := p) hN hv hdb hcd).run pins s σ H (fun v G => v = .ref C ∧ G = H) I ⟨.ref C, at_i, rfl, rfl⟩) fun u s1 ⟨v, G, I1, r1, e1, e2⟩ => ?_)
  subst e1
  subst e2
  cases r1
  exact PySem.W.callWith_K (h₀ := X.base) I.ok.mod.kin kp (thn (ha.run pos pins s1 σ _ _ I1 rest) fun us s2 ⟨vs, G2, I2, r, q⟩ => ⟨I2.kIn, run_maX c hr tk hk I2 r q⟩) he hpl
/-- a classmethod that may raise -/
structure CmN (P : Program) (w : World) (K : PySem.W.Frag) (mg : Str → Option Value) (base : Heap) (k : Nat) (C : Addr) (m : Str) (sp : Sp) : Prop where
  ex : ∃ (mc : Value) (p g : Addr) (fd : FuncData) (ps : List Str), ClX.CRead K C mc ∧ ClX.CMet K C mc m p g ∧ FnOk P w K mg base (L2N.CX P w) k g fd ps sp ∧ Binds K fd ps []
/-- .. where it doesn't -/
theorem pe_cmN0 (c : CmN X.prog X.w X.K X.mg X.base k C m sp) (hr : Room j X.A) (he : PE X o ta) (ha : PA X (e :: es) t) (hk : k ≤ j := by decide)
    (hst : starEach (e :: es) X.env = (false, eval e X.env) :: starEach es X.env := by rfl) (hpl : (backTo pos (starEach es X.env)).any (·.1) = false := by rfl)
    (ht : eval (.Call (.Attribute o m apos) (e :: es) [] pos) X.env = (do
      let got ← eval o X.env
      standAt apos.atName
      let (fn, fst) ← holding [got] (getMethod got m pl)
      callWith pos fn fst (backTo pos (starEach (e :: es) X.env)) (backToKw pos (keywordEach [] X.env))) := by rfl) :
    PE X (.Call (.Attribute o m apos) (e :: es) [] pos) (ClX.tCMeth C sp E0 ta t) := by
  obtain ⟨mc, p, g, fd, ps, r, c, F, b⟩ := c.ex
  exact ClX.pe_cmeth he r c (fnR_of F b) (hr.mono hk) passN ha hst hpl ht
def tCMethS (C : Addr) (sp : Sp) (E : L2.St → XK) (ta : TE) (t : TA) : TE := fun σ H Q => ClX.tCMeth C sp (E σ) ta t σ H Q
/-- .. in a try or def that takes what it raises -/
theorem pe_cmNX (c : CmN X.prog X.w X.K X.mg X.base k C m sp) (hr : Room j X.A) (tk : L2N.Takes X W) (he : PE X o ta) (ha : PA X (e :: es) t) (hk : k ≤ j := by decide)
    (hst : starEach (e :: es) X.env = (false, eval e X.env) :: starEach es X.env := by rfl) (hpl : (backTo pos (starEach es X.env)).any (·.1) = false := by rfl)
    (ht : eval (.Call (.Attribute o m apos) (e :: es) [] pos) X.env = (do
      let got ← eval o X.env
      standAt apos.atName
      let (fn, fst) ← holding [got] (getMethod got m pl)
      callWith pos fn fst (backTo pos (starEach (e :: es) X.env)) (backToKw pos (keywordEach [] X.env))) := by rfl) :
    PE X (.Call (.Attribute o m apos) (e :: es) [] pos) (tCMethS C sp (WE W) ta t) := by
  obtain ⟨mc, p, g, fd, ps, r, c, F, b⟩ := c.ex
  refine ⟨fun pins s σ H Q I h => ?_⟩
  refine PySem.W.methodCall_KW (pl := pl) (thn (he.run pins s σ H _ I h) fun u s1 ⟨x, H1, I1, rx, ex, q⟩ => ?_) ht
  subst ex
  obtain rfl : u = Value.ref C := rx
  refine ClX.getmethcm_ok I1 r c fun s2 I2 => ?_
  refine ClX.callwith_cm I2 (ClX.base_none I1 (Nat.le_refl _)) c.fi (thn (ha.run pos _ s2 σ H1 _ I2 q) fun us s3 ⟨vs, H2, I3, rv, q2⟩ => ⟨⟨ClX.pin_at I3, I3.kIn⟩, ?_⟩) hst hpl
  have many : (Value.ref C :: us).length = ps.length := by
    have z := F.len _ _ _ _ q2
    rw [← z]
    show us.length + 1 = vs.length + 1
    rw [Paired.length rv]
  have bound := b s3 (Value.ref C :: us) I3.kIn (by rw [List.append_nil]; exact many)
  rw [List.append_nil] at bound
  have runs := F.run X.A X.stack s3 H2 ⟨Value.ref C :: us, []⟩ (Value.ref C :: us) (.ref C :: vs) _ (WE W σ) (hr.mono hk) I3.env0 bound (.cons rfl rv) q2
  have z : wpAny (model X.prog X.w) X.A (call (.ref s1.heap.objs.size) us) (EP X ((s1.heap.objs.size, PySem.W.methodObj (.ref g) (.ref C)) :: pins) σ Q) X.xe s3 :=
    wpAny_call (PySem.W.method_call (ClX.pin_at I3) (codeAny_mono runs fun r s' hq => by
      cases r with
      | error er => exact L2N.passAt tk σ _ H2 s3 er s' I3 hq
      | ok fl =>
        cases fl with
        | ret u => exact I3.after hq
        | next => exact False.elim hq
        | brk => exact False.elim hq
        | cont => exact False.elim hq))
  exact thn z fun _ _ y => ClX.unpinE y
end
-- part matb
/-! the class Matrix -/
def maF (t : Addr) (h w : Nat) : List (Str × V) := putF "width" (.int (w : Int)) (putF "height" (.int (h : Int)) (putF "rows" (.ref t) []))
theorem maE1 : ¬ (("rows" : Str) = "height") := by decide +kernel
theorem maE2 : ¬ (("rows" : Str) = "width") := by decide +kernel
theorem maE3 : ¬ (("height" : Str) = "width") := by decide +kernel
theorem maF_r (t : Addr) (h w : Nat) : (maF t h w).lookup ("rows" : Str) = some (.ref t) := by
  unfold maF
  rw [lookup_putF, if_neg maE2, lookup_putF, if_neg maE1, lookup_putF, if_pos rfl]
theorem maF_h (t : Addr) (h w : Nat) : (maF t h w).lookup ("height" : Str) = some (.int (h : Int)) := by
  unfold maF
  rw [lookup_putF, if_neg maE3, lookup_putF, if_pos rfl]
theorem maF_w (t : Addr) (h w : Nat) : (maF t h w).lookup ("width" : Str) = some (.int (w : Int)) := by
  unfold maF
  rw [lookup_putF, if_pos rfl]
theorem maF_no (t : Addr) (h w : Nat) {m : Str} (h1 : ¬ m = "rows") (h2 : ¬ m = "height") (h3 : ¬ m = "width") : (maF t h w).lookup m = none := by
  unfold maF
  rw [lookup_putF, if_neg h3, lookup_putF, if_neg h2, lookup_putF, if_neg h1] <;> rfl
/-- a matrix of h rows and w columns stands at a, its items are f i k -/
structure MatAt (C : Addr) (H : Hp) (a : Addr) (h w : Nat) (f : Nat → Nat → Int) : Prop where
  ob : ∃ dx t vs, H a = some (.ins C dx (maF t h w)) ∧ H t = some (.tup vs) ∧ vs.length = h ∧ ∀ i, i < h → ∃ q, vs[i]? = some (.ref q) ∧ H q = some (.tup ((rngN w (f i)).map V.int))
  h1 : 1 ≤ h
  h2 : h ≤ 40
  w1 : 1 ≤ w
  w2 : w ≤ 40
theorem MatAt.same {C : Addr} {H H' : Hp} {a : Addr} {h w : Nat} {f : Nat → Nat → Int} (m : MatAt C H a h w f) (s : Same H H') : MatAt C H' a h w f := by
  obtain ⟨dx, t, vs, o1, o2, o3, o4⟩ := m.ob
  exact ⟨⟨dx, t, vs, s _ _ o1, s _ _ o2, o3, fun i hi => by
    obtain ⟨q, q1, q2⟩ := o4 i hi
    exact ⟨q, q1, s _ _ q2⟩⟩, m.h1, m.h2, m.w1, m.w2⟩
theorem rngN_congr {n : Nat} {f g : Nat → Int} (h : ∀ k, k < n → f k = g k) : rngN n f = rngN n g := by
  unfold rngN
  exact List.map_congr_left fun k hk => h k (List.mem_range.mp hk)
theorem MatAt.congr {C : Addr} {H : Hp} {a : Addr} {h w : Nat} {f g : Nat → Nat → Int} (m : MatAt C H a h w f) (e : ∀ i k, i < h → k < w → f i k = g i k) : MatAt C H a h w g := by
  obtain ⟨dx, t, vs, o1, o2, o3, o4⟩ := m.ob
  exact ⟨⟨dx, t, vs, o1, o2, o3, fun i hi => by
    obtain ⟨q, q1, q2⟩ := o4 i hi
    exact ⟨q, q1, by rw [← rngN_congr fun k hk => e i k hi hk]; exact q2⟩⟩, m.h1, m.h2, m.w1, m.w2⟩
/-- what is told of the class -/
structure MaT (K : PySem.W.Frag) (mg : Str → Option Value) (C : Addr) : Prop where
  g : mg "Matrix" = some (.ref C)
  cl : Cls K C
  nR : NoAttr K C "rows"
  nH : NoAttr K C "height"
  nW : NoAttr K C "width"
  sf : PySem.W.selfFirst K C = true
  isC : C8.InsC K C
/-- rows that are passed: lists or tuples -/
def RowS (H : Hp) (v : V) (r : List Int) : Prop := ∃ q, v = .ref q ∧ (H q = some (.lst (r.map V.int)) ∨ H q = some (.tup (r.map V.int)))
def RowsIn (H : Hp) (vs : List V) (rs : List (List Int)) : Prop := vs.length = rs.length ∧ ∀ (i : Nat) (r : List Int), rs[i]? = some r → ∃ v, vs[i]? = some v ∧ RowS H v r
theorem RowS.same {H H' : Hp} {v : V} {r : List Int} (h : RowS H v r) (s : Same H H') : RowS H' v r := by
  obtain ⟨q, e, h⟩ := h
  exact ⟨q, e, h.elim (fun h => .inl (s _ _ h)) fun h => .inr (s _ _ h)⟩
theorem RowsIn.same {H H' : Hp} {vs : List V} {rs : List (List Int)} (h : RowsIn H vs rs) (s : Same H H') : RowsIn H' vs rs := ⟨h.1, fun i r hr => by
  obtain ⟨v, hv, k⟩ := h.2 i r hr
  exact ⟨v, hv, k.same s⟩⟩
/-- a store in an instance leaves rows -/
theorem sqL_ins {H : Hp} {x a C dx : Addr} {fs : List (Str × V)} {o : HO} {xs : List V} (hx : H x = some (.ins C dx fs)) (h : SqL K H a xs) : SqL K (upd H x o) a xs := by
  rcases h with (h | ⟨o', h⟩) | h
  · exact .inl (.inl (by rw [upd_ne (fun e => by rw [e, hx] at h; cases h)]; exact h))
  · exact .inl (.inr ⟨o', by rw [upd_ne (fun e => by rw [e, hx] at h; cases h)]; exact h⟩)
  · exact .inr h
theorem sqT_insM {H : Hp} {x a C dx : Addr} {fs : List (Str × V)} {o : HO} {xs : List V} (hx : H x = some (.ins C dx fs)) (h : SqT K H a xs) : SqT K (upd H x o) a xs := by
  rcases h with (h | ⟨o', h⟩) | h
  · exact .inl (.inl (by rw [upd_ne (fun e => by rw [e, hx] at h; cases h)]; exact h))
  · exact .inl (.inr ⟨o', by rw [upd_ne (fun e => by rw [e, hx] at h; cases h)]; exact h⟩)
  · exact .inr h
def ent (rs : List (List Int)) (i k : Nat) : Int := (rs.getD i []).getD k 0
def lenAt (rs : List (List Int)) (i : Nat) : Nat := (rs.getD i []).length
theorem row_rng {r : List Int} {w : Nat} (h : r.length = w) : r = rngN w fun k => r.getD k 0 := by
  refine List.ext_getElem? fun k => ?_
  by_cases c : k < w
  · rw [rngN_at c, getD_at (by omega)]
  · rw [List.getElem?_eq_none (by omega), List.getElem?_eq_none (by rw [rngN_len]; omega)]
theorem getDr {rs : List (List Int)} {i : Nat} {r : List Int} (h : rs[i]? = some r) : rs.getD i [] = r := by
  rw [List.getD_eq_getElem?_getD, h] <;> rfl
theorem atDr {rs : List (List Int)} {i : Nat} (h : i < rs.length) : rs[i]? = some (rs.getD i []) := by
  rw [List.getD_eq_getElem?_getD, List.getElem?_eq_getElem h] <;> rfl
abbrev s_minit : Stmt := inClass (top 14) 0
theorem sc_minit : FnScope ["self", "rows", "at", "row"] ["self", "rows"] (defScope s_minit) := ⟨rfl, rfl, rfl, by decide +kernel, rfl, by decide +kernel, by decide +kernel⟩
def spMI (C CB : Addr) (tup : Bool) (K : PySem.W.Frag) : Sp := fun vs H Q E => ∃ (x dx a : Addr) (us : List V) (rs : List (List Int)), vs = [.ref x, .ref a] ∧ H x = some (.ins C dx []) ∧ (if tup = true then SqT K H a us else SqL K H a us) ∧ RowsIn H us rs ∧ 1 ≤ rs.length ∧ rs.length ≤ 40 ∧
  (∀ i, i < rs.length → lenAt rs i ≤ 40) ∧ 1 ≤ lenAt rs 0 ∧
  ((∀ i, i < rs.length → lenAt rs i = lenAt rs 0) → ∀ H', MatAt C H' x rs.length (lenAt rs 0) (ent rs) → (∀ b o, H b = some o → b ≠ x → H' b = some o) → Q .non H') ∧
  (∀ i, i < rs.length → lenAt rs i ≠ lenAt rs 0 → (∀ j, j < i → lenAt rs j = lenAt rs 0) → ∀ d H', Same H H' → H' d = some (.xd [("at", .int (i : Int))]) → E (.ref CB) (some d) H')
theorem ne_of_none' {H : Hp} {t x : Addr} {o : HO} (nt : H t = none) (hx : H x = some o) : t ≠ x := fun e => by
  rw [e, hx] at nt
  cases nt
theorem ok_minit {f C CB : Addr} {fd : FuncData} (tup : Bool) (TT : Txt mg) (henum : mg "enumerate" = none) (T : MaT K mg C) (F : Fun K "__init__" "Matrix.__init__" s_minit f fd) (x_br : ErP P w K mg base "BadRow" "at" CB okNat) : FnOk P w K mg base (L2N.CX P w) 3 f fd ["self", "rows"] (spMI C CB tup K) := by
  refine okN F sc_minit (fun vs H Q E h => ?_) (fun cdv A outer s H vs Q E hr0 h => ?_)
  · obtain ⟨x, dx, a, us, rs, rfl, _⟩ := h
    rfl
  · obtain ⟨x, dx, a, us, rs, rfl, hx, hS, hr, n1, n2, l2, l1, q, qe⟩ := h
    cases tup with
    | false =>
      have hS' : SqL K H a us := hS
      refine ⟨_, (pss_cons (ps_for (passes_of rfl) rfl (pi_enum rfl henum (pa_cons (pv 1) pa_nil)) (pg_tup rfl (pgs_cons (pg_name (i := 2) sc_minit.nd rfl (Or.inl rfl)) (pgs_cons (pg_name (i := 3) sc_minit.nd rfl (Or.inl rfl)) pgs_nil))) (pss_one (ps_if (pt_cmpR op_ne (pe_callB call_len_seq (by rfl) TT.len PySem.boot_len (pa_cons (pv 3) pa_nil)) (pe_callB call_len_seq (by rfl) TT.len PySem.boot_len (pa_cons (pe_ix ix_list (pv 1) pe_int (fun _ _ => rfl)) pa_nil)) (nomark _)) (pss_one (ps_raiseP x_br hr0 (L2N.takes_of rfl rfl rfl rfl) (pa_cons (pv 2) pa_nil))) pss_nil)))
 (pss_cons (ps_fld (pv 0) (pe_tupleOf (by rfl) TT.tuple (pe_lc (own := [("row", 3)]) (g := (gName 3)) (tt := tYes) rfl sc_minit.nd (pi_list (pv 1)) (blkOk_by (N := ["self", "rows", "at", "row"]) (sc := defScope s_minit) (by decide +kernel)) (fun _ _ _ _ _ => (pg_name (i := 3) sc_minit.nd rfl (Or.inl rfl))) (fun _ _ _ _ _ => pts_nil) (fun _ _ _ _ _ => (pe_tupleOfK (K := K) rfl (by rfl) TT.tuple (pv 3))))) rfl)
 (pss_cons (ps_fld (pv 0) (pe_callB call_len_seq (by rfl) TT.len PySem.boot_len (pa_cons (pv 1) pa_nil)) rfl)
 (pss_one (ps_fld (pv 0) (pe_callB call_len_seq (by rfl) TT.len PySem.boot_len (pa_cons (pe_ix ix_list (pv 1) pe_int (fun _ _ => rfl)) pa_nil)) rfl))))), ?_⟩
      refine ⟨_, rfl, a, us, rfl, hS', for_it walk_enum (fun i σ H' => Same H H' ∧ (∀ j, j < i → lenAt rs j = lenAt rs 0) ∧ ∃ y2 y3, σ = [some (.ref x), some (.ref a), y2, y3]) ⟨Same.refl H, fun j h => absurd h (Nat.not_lt_zero j), none, none, rfl⟩ (fun i σ H' _ h => (h.1.seq hS')) ?_ ?_⟩
      · rintro i v σ H1 H2 hi ⟨s1, good, y2, y3, rfl⟩ ⟨Tp, x1, v1, rfl, nT, rfl, hx1, hv1⟩
        cases hx1
        rw [hr.1] at hi
        obtain ⟨v', hv', q', rfl, hq'⟩ := hr.2 i _ (atDr hi)
        have ev : v1 = .ref q' := Option.some.inj (hv1.symm.trans hv')
        subst ev
        have s2 := s1.trans (same_upd (o := .tup [.int (i : Nat), .ref q']) nT)
        obtain ⟨v0, hv0, q0, rfl, hq0⟩ := hr.2 0 _ (atDr (show 0 < rs.length by omega))
        refine ⟨Tp, _, rfl, SqT.of upd_same, rfl, _, _, rfl, _, _, rfl, rfl, ?_⟩
        refine ⟨_, rfl, q', _, rfl, hq'.elim (fun h => .inl (SqL.of (s2 _ _ h))) (fun h => .inr (SqT.of (s2 _ _ h))), _, rfl, a, _, _, _, rfl, rfl, (s2.seq hS'), (atI_nat (j := 0) hv0), q0, _, rfl, hq0.elim (fun h => .inl (SqL.of (s2 _ _ h))) (fun h => .inr (SqT.of (s2 _ _ h))), rfl, _, rfl, ?_⟩
        rw [List.length_map, List.length_map]
        by_cases c : lenAt rs i = lenAt rs 0
        · have e : (rs.getD i []).length = (rs.getD 0 []).length := c
          refine if_neg_of (by rw [e]; simp) ?_
          refine ⟨s2, fun j hj => ?_, _, _, rfl⟩
          by_cases ej : j = i
          · rw [ej]
            exact c
          · exact good j (by omega)
        · refine if_pos_of ?_ ?_
          · have e : ¬ (rs.getD i []).length = (rs.getD 0 []).length := c
            simp only [Bool.not_eq_true', decide_eq_false_iff_not, ne_eq]
            intro e2
            exact e (by have := V.int.inj e2; omega)
          · refine ⟨_, rfl, ?_⟩
            exact mkP ⟨i, rfl, by omega⟩ fun d H3 s3 _ hd => qe i hi c good d H3 (s2.trans s3) hd
      · rintro σ H1 ⟨s1, good, y2, y3, rfl⟩
        rw [hr.1] at good
        have hS1 := (s1.seq hS')
        have hr1 := hr.same s1
        refine ⟨_, rfl, a, rfl, ⟨_, hS1⟩, fun D nD => lcObj walk_list (RT fun i => rs.getD i []) nD (fun H s => (s.seq hS1)) ?_ ?_⟩
        · rintro i v H2 _ hi p2 ⟨rfl, hv⟩
          rw [hr.1] at hi
          obtain ⟨v', hv', q', rfl, hq'⟩ := (hr1.same p2.1).2 i _ (atDr hi)
          have ev : v = .ref q' := Option.some.inj (hv.symm.trans hv')
          subst ev
          obtain ⟨acc, hacc, _⟩ := p2.2
          refine ⟨rfl, _, rfl, ?_⟩
          rcases hq' with h | h
          · refine .inl ⟨q', _, rfl, SqL.of h, fun t nt => ?_⟩
            exact objEnd stab_RT nD p2 (same_upd nt) (by omega) (ref_ne nt hacc) ⟨t, rfl, upd_same⟩
          · refine .inr ⟨q', _, rfl, SqT.of h, ?_⟩
            exact objEnd stab_RT nD p2 (Same.refl _) (by omega) (ref_ne2 h hacc) ⟨q', rfl, h⟩
        · intro H2 acc s2 hacc hl hel
          refine .inl ⟨D, _, rfl, SqL.of hacc, fun t nt => ?_⟩
          have hx2 := s2 _ _ (s1 _ _ hx)
          have s3 := same_upd (o := .tup acc) nt
          have hx3 := s3 _ _ hx2
          refine ⟨_, rfl, x, C, dx, [], rfl, hx3, T.cl, T.nR, (by show 0 < 1000; decide), ?_⟩
          have ntx : t ≠ x := ne_of_none' nt hx2
          have hS3 := sqL_ins (o := .ins C dx (putF "rows" (.ref t) [])) hx3 (s3.seq ((s2.seq hS1)))
          refine ⟨_, rfl, a, _, rfl, .inl hS3, _, rfl, x, C, dx, _, rfl, upd_same, T.cl, T.nH, (by show 1 < 1000; decide), ?_⟩
          have hS4 := sqL_ins (o := .ins C dx (putF "height" (.int (us.length : Int)) (putF "rows" (.ref t) []))) upd_same hS3
          obtain ⟨v0, hv0, q0, rfl, hq0⟩ := hr.2 0 _ (atDr (show 0 < rs.length by omega))
          have sAll := (s1.trans s2).trans s3
          have hq4 : SqL K (upd (upd (upd H2 t (.tup acc)) x (.ins C dx (putF "rows" (.ref t) []))) x (.ins C dx (putF "height" (.int (us.length : Int)) (putF "rows" (.ref t) [])))) q0 ((rs.getD 0 []).map V.int) ∨ SqT K (upd (upd (upd H2 t (.tup acc)) x (.ins C dx (putF "rows" (.ref t) []))) x (.ins C dx (putF "height" (.int (us.length : Int)) (putF "rows" (.ref t) [])))) q0 ((rs.getD 0 []).map V.int) := by
            rcases hq0 with h | h
            · exact .inl (sqL_ins upd_same (sqL_ins hx3 (SqL.of (sAll _ _ h))))
            · exact .inr (sqT_insM upd_same (sqT_insM hx3 (SqT.of (sAll _ _ h))))
          refine ⟨_, rfl, a, _, _, _, rfl, rfl, hS4, (atI_nat (j := 0) hv0), q0, _, rfl, hq4, _, rfl, x, C, dx, _, rfl, upd_same, T.cl, T.nW, (by show 2 < 1000; decide), ?_⟩
          rw [List.length_map, hr.1]
          have keep : ∀ b o, H b = some o → b ≠ x → (upd (upd (upd (upd H2 t (.tup acc)) x (.ins C dx (putF "rows" (.ref t) []))) x (.ins C dx (putF "height" (.int (rs.length : Int)) (putF "rows" (.ref t) [])))) x (.ins C dx (putF "width" (.int ((rs.getD 0 []).length : Int)) (putF "height" (.int (rs.length : Int)) (putF "rows" (.ref t) []))))) b = some o := fun b o hb hbx => by
            rw [upd_ne hbx, upd_ne hbx, upd_ne hbx]
            exact sAll _ _ hb
          refine q good _ ⟨⟨dx, t, acc, upd_same, ?_, by rw [hl, hr.1], fun i hi => ?_⟩, n1, n2, l1, by exact l2 0 (by omega)⟩ keep
          · rw [upd_ne ntx, upd_ne ntx, upd_ne ntx]
            exact upd_same
          · have hi2 : i < acc.length := by rw [hl, hr.1]; exact hi
            obtain ⟨nv, q', e, hq'⟩ := hel i _ (List.getElem?_eq_getElem hi2)
            refine ⟨q', by rw [List.getElem?_eq_getElem hi2, e], ?_⟩
            have er : rs.getD i [] = rngN (lenAt rs 0) (ent rs i) := row_rng (good i hi)
            have hq2 : H2 q' = some (.tup ((rs.getD i []).map V.int)) := hq'
            rw [er] at hq2
            have nqx : q' ≠ x := fun e => by rw [e, hx2] at hq2; cases hq2
            rw [upd_ne nqx, upd_ne nqx, upd_ne nqx]
            exact s3 _ _ hq2
    | true =>
      have hS' : SqT K H a us := hS
      refine ⟨_, (pss_cons (ps_for (passes_of rfl) rfl (pi_enumT rfl henum (pa_cons (pv 1) pa_nil)) (pg_tup rfl (pgs_cons (pg_name (i := 2) sc_minit.nd rfl (Or.inl rfl)) (pgs_cons (pg_name (i := 3) sc_minit.nd rfl (Or.inl rfl)) pgs_nil))) (pss_one (ps_if (pt_cmpR op_ne (pe_callB call_len_seq (by rfl) TT.len PySem.boot_len (pa_cons (pv 3) pa_nil)) (pe_callB call_len_seq (by rfl) TT.len PySem.boot_len (pa_cons (pe_ix ix_tup (pv 1) pe_int (fun _ _ => rfl)) pa_nil)) (nomark _)) (pss_one (ps_raiseP x_br hr0 (L2N.takes_of rfl rfl rfl rfl) (pa_cons (pv 2) pa_nil))) pss_nil)))
 (pss_cons (ps_fld (pv 0) (pe_tupleOf (by rfl) TT.tuple (pe_lc (own := [("row", 3)]) (g := (gName 3)) (tt := tYes) rfl sc_minit.nd (pi_tup (pv 1)) (blkOk_by (N := ["self", "rows", "at", "row"]) (sc := defScope s_minit) (by decide +kernel)) (fun _ _ _ _ _ => (pg_name (i := 3) sc_minit.nd rfl (Or.inl rfl))) (fun _ _ _ _ _ => pts_nil) (fun _ _ _ _ _ => (pe_tupleOfK (K := K) rfl (by rfl) TT.tuple (pv 3))))) rfl)
 (pss_cons (ps_fld (pv 0) (pe_callB call_len_seq (by rfl) TT.len PySem.boot_len (pa_cons (pv 1) pa_nil)) rfl)
 (pss_one (ps_fld (pv 0) (pe_callB call_len_seq (by rfl) TT.len PySem.boot_len (pa_cons (pe_ix ix_tup (pv 1) pe_int (fun _ _ => rfl)) pa_nil)) rfl))))), ?_⟩
      refine ⟨_, rfl, a, us, rfl, hS', for_it walk_enumT (fun i σ H' => Same H H' ∧ (∀ j, j < i → lenAt rs j = lenAt rs 0) ∧ ∃ y2 y3, σ = [some (.ref x), some (.ref a), y2, y3]) ⟨Same.refl H, fun j h => absurd h (Nat.not_lt_zero j), none, none, rfl⟩ (fun i σ H' _ h => (Evl.ex_t h.1 hS')) ?_ ?_⟩
      · rintro i v σ H1 H2 hi ⟨s1, good, y2, y3, rfl⟩ ⟨Tp, x1, v1, rfl, nT, rfl, hx1, hv1⟩
        cases hx1
        rw [hr.1] at hi
        obtain ⟨v', hv', q', rfl, hq'⟩ := hr.2 i _ (atDr hi)
        have ev : v1 = .ref q' := Option.some.inj (hv1.symm.trans hv')
        subst ev
        have s2 := s1.trans (same_upd (o := .tup [.int (i : Nat), .ref q']) nT)
        obtain ⟨v0, hv0, q0, rfl, hq0⟩ := hr.2 0 _ (atDr (show 0 < rs.length by omega))
        refine ⟨Tp, _, rfl, SqT.of upd_same, rfl, _, _, rfl, _, _, rfl, rfl, ?_⟩
        refine ⟨_, rfl, q', _, rfl, hq'.elim (fun h => .inl (SqL.of (s2 _ _ h))) (fun h => .inr (SqT.of (s2 _ _ h))), _, rfl, a, _, _, _, rfl, rfl, (Evl.ex_t s2 hS'), (atI_nat (j := 0) hv0), q0, _, rfl, hq0.elim (fun h => .inl (SqL.of (s2 _ _ h))) (fun h => .inr (SqT.of (s2 _ _ h))), rfl, _, rfl, ?_⟩
        rw [List.length_map, List.length_map]
        by_cases c : lenAt rs i = lenAt rs 0
        · have e : (rs.getD i []).length = (rs.getD 0 []).length := c
          refine if_neg_of (by rw [e]; simp) ?_
          refine ⟨s2, fun j hj => ?_, _, _, rfl⟩
          by_cases ej : j = i
          · rw [ej]
            exact c
          · exact good j (by omega)
        · refine if_pos_of ?_ ?_
          · have e : ¬ (rs.getD i []).length = (rs.getD 0 []).length := c
            simp only [Bool.not_eq_true', decide_eq_false_iff_not, ne_eq]
            intro e2
            exact e (by have := V.int.inj e2; omega)
          · refine ⟨_, rfl, ?_⟩
            exact mkP ⟨i, rfl, by omega⟩ fun d H3 s3 _ hd => qe i hi c good d H3 (s2.trans s3) hd
      · rintro σ H1 ⟨s1, good, y2, y3, rfl⟩
        rw [hr.1] at good
        have hS1 := (Evl.ex_t s1 hS')
        have hr1 := hr.same s1
        refine ⟨_, rfl, a, rfl, ⟨_, hS1⟩, fun D nD => lcObj walk_tup (RT fun i => rs.getD i []) nD (fun H s => (Evl.ex_t s hS1)) ?_ ?_⟩
        · rintro i v H2 _ hi p2 ⟨rfl, hv⟩
          rw [hr.1] at hi
          obtain ⟨v', hv', q', rfl, hq'⟩ := (hr1.same p2.1).2 i _ (atDr hi)
          have ev : v = .ref q' := Option.some.inj (hv.symm.trans hv')
          subst ev
          obtain ⟨acc, hacc, _⟩ := p2.2
          refine ⟨rfl, _, rfl, ?_⟩
          rcases hq' with h | h
          · refine .inl ⟨q', _, rfl, SqL.of h, fun t nt => ?_⟩
            exact objEnd stab_RT nD p2 (same_upd nt) (by omega) (ref_ne nt hacc) ⟨t, rfl, upd_same⟩
          · refine .inr ⟨q', _, rfl, SqT.of h, ?_⟩
            exact objEnd stab_RT nD p2 (Same.refl _) (by omega) (ref_ne2 h hacc) ⟨q', rfl, h⟩
        · intro H2 acc s2 hacc hl hel
          refine .inl ⟨D, _, rfl, SqL.of hacc, fun t nt => ?_⟩
          have hx2 := s2 _ _ (s1 _ _ hx)
          have s3 := same_upd (o := .tup acc) nt
          have hx3 := s3 _ _ hx2
          refine ⟨_, rfl, x, C, dx, [], rfl, hx3, T.cl, T.nR, (by show 0 < 1000; decide), ?_⟩
          have ntx : t ≠ x := ne_of_none' nt hx2
          have hS3 := sqT_insM (o := .ins C dx (putF "rows" (.ref t) [])) hx3 (Evl.ex_t s3 ((Evl.ex_t s2 hS1)))
          refine ⟨_, rfl, a, _, rfl, .inr hS3, _, rfl, x, C, dx, _, rfl, upd_same, T.cl, T.nH, (by show 1 < 1000; decide), ?_⟩
          have hS4 := sqT_insM (o := .ins C dx (putF "height" (.int (us.length : Int)) (putF "rows" (.ref t) []))) upd_same hS3
          obtain ⟨v0, hv0, q0, rfl, hq0⟩ := hr.2 0 _ (atDr (show 0 < rs.length by omega))
          have sAll := (s1.trans s2).trans s3
          have hq4 : SqL K (upd (upd (upd H2 t (.tup acc)) x (.ins C dx (putF "rows" (.ref t) []))) x (.ins C dx (putF "height" (.int (us.length : Int)) (putF "rows" (.ref t) [])))) q0 ((rs.getD 0 []).map V.int) ∨ SqT K (upd (upd (upd H2 t (.tup acc)) x (.ins C dx (putF "rows" (.ref t) []))) x (.ins C dx (putF "height" (.int (us.length : Int)) (putF "rows" (.ref t) [])))) q0 ((rs.getD 0 []).map V.int) := by
            rcases hq0 with h | h
            · exact .inl (sqL_ins upd_same (sqL_ins hx3 (SqL.of (sAll _ _ h))))
            · exact .inr (sqT_insM upd_same (sqT_insM hx3 (SqT.of (sAll _ _ h))))
          refine ⟨_, rfl, a, _, _, _, rfl, rfl, hS4, (atI_nat (j := 0) hv0), q0, _, rfl, hq4, _, rfl, x, C, dx, _, rfl, upd_same, T.cl, T.nW, (by show 2 < 1000; decide), ?_⟩
          rw [List.length_map, hr.1]
          have keep : ∀ b o, H b = some o → b ≠ x → (upd (upd (upd (upd H2 t (.tup acc)) x (.ins C dx (putF "rows" (.ref t) []))) x (.ins C dx (putF "height" (.int (rs.length : Int)) (putF "rows" (.ref t) [])))) x (.ins C dx (putF "width" (.int ((rs.getD 0 []).length : Int)) (putF "height" (.int (rs.length : Int)) (putF "rows" (.ref t) []))))) b = some o := fun b o hb hbx => by
            rw [upd_ne hbx, upd_ne hbx, upd_ne hbx]
            exact sAll _ _ hb
          refine q good _ ⟨⟨dx, t, acc, upd_same, ?_, by rw [hl, hr.1], fun i hi => ?_⟩, n1, n2, l1, by exact l2 0 (by omega)⟩ keep
          · rw [upd_ne ntx, upd_ne ntx, upd_ne ntx]
            exact upd_same
          · have hi2 : i < acc.length := by rw [hl, hr.1]; exact hi
            obtain ⟨nv, q', e, hq'⟩ := hel i _ (List.getElem?_eq_getElem hi2)
            refine ⟨q', by rw [List.getElem?_eq_getElem hi2, e], ?_⟩
            have er : rs.getD i [] = rngN (lenAt rs 0) (ent rs i) := row_rng (good i hi)
            have hq2 : H2 q' = some (.tup ((rs.getD i []).map V.int)) := hq'
            rw [er] at hq2
            have nqx : q' ≠ x := fun e => by rw [e, hx2] at hq2; cases hq2
            rw [upd_ne nqx, upd_ne nqx, upd_ne nqx]
            exact s3 _ _ hq2
-- part wsemi
/-! words with semicolons: rows of words -/
def endC (cs : List Nat) : Bool := decide (cs.getLast? = some 59)
def baseC (cs : List Nat) : List Nat := if endC cs = true then cs.dropLast else cs
theorem tl_semi : TL.tl (";" : Str) = [59] := by decide +kernel
theorem suffix_one (z : Str) : (decide (0 + (";" : Str).length ≤ z.length) && PySem.Builtin.Str.subAt z ";" (z.length - (";" : Str).length)) = endC (TL.tl z) := by
  have hl : (";" : Str).length = 1 := by decide +kernel
  rw [StrLaws.subAt_eq, hl, str_len]
  show (decide (0 + 1 ≤ (TL.tl z).length) && (((TL.tl z).drop ((TL.tl z).length - 1)).take 1 == TL.tl (";" : Str))) = _
  rw [tl_semi]
  unfold endC
  generalize TL.tl z = cs
  rcases List.eq_nil_or_concat cs with rfl | ⟨ds, c, rfl⟩
  · rfl
  · rw [List.concat_eq_append, List.length_append, List.length_singleton, Nat.add_sub_cancel, List.drop_left, List.getLast?_append]
    by_cases h : c = 59
    · subst h
      simp
    · simp [h]
theorem tl_suffix (z : Str) : TL.tl (Txt.removesuffix z ";") = baseC (TL.tl z) := by
  have hl : (";" : Str).length = 1 := by decide +kernel
  rw [StrLaws.removesuffix_eq, suffix_one]
  unfold baseC
  by_cases c : endC (TL.tl z) = true
  · rw [if_pos c, if_pos c, TL.tl_mk, hl]
    show List.take (z.length - 1 - 0) ((TL.tl z).drop 0) = _
    rw [List.drop_zero, str_len, Nat.sub_zero, List.dropLast_eq_take]
  · rw [if_neg c, if_neg c]
theorem ends_eq (z : Str) : Txt.endswith z ";" = endC (TL.tl z) := by
  rw [← suffix_one]
  rfl
abbrev baseW (z : Str) : Str := Txt.removesuffix z ";"
theorem base_len (z : Str) : (baseW z).length ≤ z.length := by
  rw [str_len, tl_suffix, str_len]
  unfold baseC
  split
  · rw [List.length_dropLast]
    omega
  · exact Nat.le_refl _
theorem semi_back {cs : List Nat} (h : endC cs = true) : cs = baseC cs ++ [59] := by
  unfold baseC
  rw [if_pos h]
  unfold endC at h
  have h := of_decide_eq_true h
  rcases List.eq_nil_or_concat cs with rfl | ⟨ds, c, rfl⟩
  · cases h
  · rw [List.concat_eq_append, List.getLast?_append] at h
    simp at h
    subst h
    simp
theorem base_no {cs : List Nat} (h : endC cs = false) : baseC cs = cs := by
  unfold baseC
  rw [h, if_neg Bool.false_ne_true]
/-- words gone through: the rows that ended, the row that stands open -/
def gstep (s : List (List Str) × List Str) (z : Str) : List (List Str) × List Str :=
  if endC (TL.tl z) = true then (s.1 ++ [s.2 ++ [baseW z]], []) else (s.1, s.2 ++ [baseW z])
def gst (L : List Str) : List (List Str) × List Str := L.foldl gstep ([], [])
theorem gst_snoc (L : List Str) (z : Str) : gst (L ++ [z]) = gstep (gst L) z := by
  unfold gst
  rw [List.foldl_append]
  rfl
theorem joinL_snoc {S : List Nat} : ∀ {ps : List (List Nat)}, ps ≠ [] → ∀ q, TL.joinL S (ps ++ [q]) = TL.joinL S ps ++ (S ++ q)
  | [], h, _ => absurd rfl h
  | [p], _, q => rfl
  | p :: p' :: r, _, q => by
    have ih := joinL_snoc (S := S) (ps := p' :: r) (by simp) q
    show p ++ (S ++ TL.joinL S (p' :: r ++ [q])) = p ++ (S ++ TL.joinL S (p' :: r)) ++ (S ++ q)
    rw [ih]
    simp [List.append_assoc]
/-- the text of words, of rows of words -/
def tW (L : List Str) : List Nat := TL.joinL [32] (L.map TL.tl)
def tR (R : List (List Str)) : List Nat := TL.joinL [59, 32] (R.map tW)
theorem tW_snoc {L : List Str} (h : L ≠ []) (z : Str) : tW (L ++ [z]) = tW L ++ (32 :: TL.tl z) := by
  unfold tW
  rw [List.map_append, List.map_singleton, joinL_snoc (by simpa using h)]
  rfl
theorem tR_snoc {R : List (List Str)} (h : R ≠ []) (r : List Str) : tR (R ++ [r]) = tR R ++ (59 :: 32 :: tW r) := by
  unfold tR
  rw [List.map_append, List.map_singleton, joinL_snoc (by simpa using h)]
  rfl
theorem tR_ext (d : List (List Str)) {c : List Str} (hc : c ≠ []) (z : Str) : tR (d ++ [c ++ [z]]) = tR (d ++ [c]) ++ (32 :: TL.tl z) := by
  by_cases h : d = []
  · subst h
    show tW (c ++ [z]) = tW c ++ _
    exact tW_snoc hc z
  · rw [tR_snoc h, tR_snoc h, tW_snoc hc]
    simp
theorem tl_base (z : Str) (h : endC (TL.tl z) = true) : TL.tl z = TL.tl (baseW z) ++ [59] := by
  rw [tl_suffix]
  exact semi_back h
theorem tl_base' (z : Str) (h : endC (TL.tl z) = false) : TL.tl (baseW z) = TL.tl z := by
  rw [tl_suffix]
  exact base_no h
/-- the text of the words is that of the rows -/
theorem gst_text : ∀ (n : Nat) (L : List Str), L.length = n → L ≠ [] → if (gst L).2 = [] then (gst L).1 ≠ [] ∧ tW L = tR (gst L).1 ++ [59] else tW L = tR ((gst L).1 ++ [(gst L).2])
  | 0, L, hl, h => absurd (List.length_eq_zero_iff.mp hl) h
  | n + 1, L, hl, h => by
    rcases List.eq_nil_or_concat L with rfl | ⟨M, z, rfl⟩
    · cases hl
    rw [List.concat_eq_append] at *
    have hM : M.length = n := by simpa using hl
    rw [gst_snoc]
    have one : ∀ z : Str, tW [z] = TL.tl z := fun z => rfl
    by_cases e : M = []
    · subst e
      have e0 : gst [] = ([], []) := rfl
      rw [List.nil_append, e0]
      unfold gstep
      by_cases c : endC (TL.tl z) = true
      · rw [if_pos c]
        refine if_pos_of' rfl ⟨by simp, ?_⟩
        show TL.tl z = TL.tl (baseW z) ++ [59]
        exact tl_base z c
      · have c : endC (TL.tl z) = false := by simpa using c
        rw [c, if_neg Bool.false_ne_true]
        refine if_neg_of' (by simp) ?_
        show TL.tl z = TL.tl (baseW z)
        exact (tl_base' z c).symm
    · have ih := gst_text n M hM e
      rw [tW_snoc e]
      by_cases o : (gst M).2 = []
      · rw [if_pos o] at ih
        obtain ⟨ne, ih⟩ := ih
        unfold gstep
        rw [o]
        by_cases c : endC (TL.tl z) = true
        · rw [if_pos c]
          refine if_pos_of' rfl ⟨by simp, ?_⟩
          show _ = tR ((gst M).1 ++ [[baseW z]]) ++ [59]
          rw [tR_snoc ne, one, ih, tl_base z c]
          simp
        · have c : endC (TL.tl z) = false := by simpa using c
          rw [c, if_neg Bool.false_ne_true]
          refine if_neg_of' (by simp) ?_
          show _ = tR ((gst M).1 ++ [[baseW z]])
          rw [tR_snoc ne, one, ih, tl_base' z c]
          simp
      · rw [if_neg o] at ih
        unfold gstep
        by_cases c : endC (TL.tl z) = true
        · rw [if_pos c]
          refine if_pos_of' rfl ⟨by simp, ?_⟩
          show _ = tR ((gst M).1 ++ [(gst M).2 ++ [baseW z]]) ++ [59]
          rw [tR_ext _ o, ih, tl_base z c]
          simp
        · have c : endC (TL.tl z) = false := by simpa using c
          rw [c, if_neg Bool.false_ne_true]
          refine if_neg_of' (by simp) ?_
          show _ = tR ((gst M).1 ++ [(gst M).2 ++ [baseW z]])
          rw [tR_ext _ o, ih, tl_base' z c]
where
  if_pos_of' {c A B : Prop} [Decidable c] (hc : c) (h : A) : if c then A else B := by
    rw [if_pos hc]
    exact h
  if_neg_of' {c A B : Prop} [Decidable c] (hc : ¬ c) (h : B) : if c then A else B := by
    rw [if_neg hc]
    exact h
/-- the rows' words -/
theorem gst_mem : ∀ (n : Nat) (L : List Str), L.length = n → ∀ r ∈ (gst L).1 ++ [(gst L).2], ∀ z ∈ r, ∃ y ∈ L, z = baseW y
  | 0, L, hl => by
    rw [List.length_eq_zero_iff.mp hl]
    intro r hr z hz
    simp [gst] at hr
    rw [hr] at hz
    cases hz
  | n + 1, L, hl => by
    rcases List.eq_nil_or_concat L with rfl | ⟨M, x, rfl⟩
    · cases hl
    rw [List.concat_eq_append] at *
    have ih := gst_mem n M (by simpa using hl)
    rw [gst_snoc]
    intro r hr z hz
    have key : r ∈ (gst M).1 ∨ r = (gst M).2 ++ [baseW x] ∨ r = [] := by
      unfold gstep at hr
      split at hr
      · simp at hr
        rcases hr with h | h | h
        · exact .inl h
        · exact .inr (.inl h)
        · exact .inr (.inr h)
      · simp at hr
        rcases hr with h | h
        · exact .inl h
        · exact .inr (.inl h)
    rcases key with h | h | h
    · obtain ⟨y, hy, e⟩ := ih r (List.mem_append_left _ h) z hz
      exact ⟨y, List.mem_append_left _ hy, e⟩
    · rw [h] at hz
      rcases List.mem_append.mp hz with h1 | h1
      · obtain ⟨y, hy, e⟩ := ih _ (List.mem_append_right _ (List.mem_singleton.mpr rfl)) z h1
        exact ⟨y, List.mem_append_left _ hy, e⟩
      · exact ⟨x, by simp, by simpa using h1⟩
    · rw [h] at hz
      cases hz
theorem gst_ne : ∀ (n : Nat) (L : List Str), L.length = n → ∀ r ∈ (gst L).1, r ≠ []
  | 0, L, hl => by
    rw [List.length_eq_zero_iff.mp hl]
    intro r hr
    cases hr
  | n + 1, L, hl => by
    rcases List.eq_nil_or_concat L with rfl | ⟨M, x, rfl⟩
    · cases hl
    rw [List.concat_eq_append] at *
    have ih := gst_ne n M (by simpa using hl)
    rw [gst_snoc]
    intro r hr
    unfold gstep at hr
    split at hr
    · rcases List.mem_append.mp hr with h | h
      · exact ih r h
      · rw [List.mem_singleton.mp h]
        simp
    · exact ih r hr
theorem gst_few : ∀ (n : Nat) (L : List Str), L.length = n → (gst L).1.length ≤ n ∧ ∀ r ∈ (gst L).1 ++ [(gst L).2], r.length ≤ n
  | 0, L, hl => by
    rw [List.length_eq_zero_iff.mp hl]
    simp [gst]
  | n + 1, L, hl => by
    rcases List.eq_nil_or_concat L with rfl | ⟨M, x, rfl⟩
    · cases hl
    rw [List.concat_eq_append] at *
    obtain ⟨i1, i2⟩ := gst_few n M (by simpa using hl)
    rw [gst_snoc]
    have c2 := i2 _ (List.mem_append_right _ (List.mem_singleton.mpr rfl))
    unfold gstep
    split
    · refine ⟨by simp; omega, fun r hr => ?_⟩
      simp at hr
      rcases hr with h | h | h
      · have := i2 r (List.mem_append_left _ h); omega
      · rw [h, List.length_append, List.length_singleton]; omega
      · rw [h]; simp
    · refine ⟨by simp; omega, fun r hr => ?_⟩
      simp at hr
      rcases hr with h | h
      · have := i2 r (List.mem_append_left _ h); omega
      · rw [h, List.length_append, List.length_singleton]; omega
theorem gst_last {L : List Str} {z : Str} (h : L[L.length - 1]? = some z) (ne : L ≠ []) : (gst L).2 = [] ↔ endC (TL.tl z) = true := by
  rcases List.eq_nil_or_concat L with rfl | ⟨M, x, rfl⟩
  · exact absurd rfl ne
  rw [List.concat_eq_append] at *
  have e : x = z := by simpa using h
  subst e
  rw [gst_snoc]
  unfold gstep
  by_cases c : endC (TL.tl x) = true
  · rw [if_pos c]
    exact ⟨fun _ => c, fun _ => rfl⟩
  · rw [if_neg c]
    simp [c]
/-- what comes of words -/
inductive OM
  | at (n : Nat)
  | row (n : Nat)
  | mat (rs : List (List Int))
def badW (z : Str) : Bool := !intC (TL.tl (baseW z))
def rowsW (L : List Str) : List (List Int) := ((gst L).1 ++ [(gst L).2]).map fun r => r.map valW
inductive OmR (L : List Str) : OM → Prop
  | word {n : Nat} {z : Str} (hz : L[n]? = some z) (no : badW z = true) (yes : ∀ (j : Nat) (y : Str), j < n → L[j]? = some y → badW y = false) : OmR L (.at n)
  | last (yes : ∀ (j : Nat) (y : Str), L[j]? = some y → badW y = false) (h : (gst L).2 = []) : OmR L (.at L.length)
  | row {n : Nat} (yes : ∀ (j : Nat) (y : Str), L[j]? = some y → badW y = false) (h : ¬ (gst L).2 = []) (hn : n < (rowsW L).length) (ne : lenAt (rowsW L) n ≠ lenAt (rowsW L) 0) (min : ∀ j, j < n → lenAt (rowsW L) j = lenAt (rowsW L) 0) : OmR L (.row n)
  | mat (yes : ∀ (j : Nat) (y : Str), L[j]? = some y → badW y = false) (h : ¬ (gst L).2 = []) (eq : ∀ j, j < (rowsW L).length → lenAt (rowsW L) j = lenAt (rowsW L) 0) : OmR L (.mat (rowsW L))
theorem OmR.one {L : List Str} {a b : OM} (h : OmR L a) (h' : OmR L b) : a = b := by
  cases h with
  | @word n z hz no yes =>
    cases h' with
    | @word n' z' hz' no' yes' =>
      rcases Nat.lt_trichotomy n n' with c | c | c
      · rw [yes' n z c hz] at no; cases no
      · rw [c]
      · rw [yes n' z' c hz'] at no'; cases no'
    | last yes' => rw [yes' n z hz] at no; cases no
    | row yes' => rw [yes' n z hz] at no; cases no
    | mat yes' => rw [yes' n z hz] at no; cases no
  | last yes c =>
    cases h' with
    | @word n' z' hz' no' => rw [yes n' z' hz'] at no'; cases no'
    | last => rfl
    | row _ c' => exact absurd c c'
    | mat _ c' => exact absurd c c'
  | @row n yes c hn ne min =>
    cases h' with
    | @word n' z' hz' no' => rw [yes n' z' hz'] at no'; cases no'
    | last _ c' => exact absurd c' c
    | @row n' _ _ hn' ne' min' =>
      rcases Nat.lt_trichotomy n n' with d | d | d
      · exact absurd (min' n d) ne
      · rw [d]
      · exact absurd (min n' d) ne'
    | mat _ _ eq => exact absurd (eq n hn) ne
  | mat yes c eq =>
    cases h' with
    | @word n' z' hz' no' => rw [yes n' z' hz'] at no'; cases no'
    | last _ c' => exact absurd c' c
    | @row n' _ _ hn' ne' => exact absurd (eq n' hn') ne'
    | mat => rfl
-- part pread
theorem item_str {l : List Str} {i : Nat} {y : V} (h : (l.map V.str)[i]? = some y) : ∃ z : Str, y = .str z ∧ l[i]? = some z := by
  rw [List.getElem?_map] at h
  obtain ⟨z, hz, e⟩ := Option.map_eq_some_iff.mp h
  exact ⟨z, e.symm, hz⟩
abbrev s_isnum : Stmt := top 10
theorem sc_isnum : FnScope ["word", "most"] ["word", "most"] (defScope s_isnum) := ⟨rfl, rfl, rfl, by decide +kernel, rfl, by decide +kernel, by decide +kernel⟩
def spIsNumM : Sp := fun vs H Q _ => ∃ (z : Str) (m : Nat), vs = [.str z, .int (m : Int)] ∧ z.length ≤ 1000000 ∧ Q (.bl (isNumM z m)) H
theorem ok_isnumM {f : Addr} {fd : FuncData} (T : Txt mg) (F : Fun K "is_number" "is_number" s_isnum f fd) : FnOk P w K mg base CX0 1 f fd ["word", "most"] spIsNumM := by
  refine F.ok sc_isnum (fun vs H Q E h => ?_) (fun cdv A outer s H vs Q E hr h => ?_)
  · obtain ⟨z, m, rfl, _⟩ := h
    rfl
  · obtain ⟨z, m, rfl, hz, q⟩ := h
    refine ⟨_, (pss_cons (ps_if (pt_not (pw_and (pt_val (pe_bm0 PySem.F.plainAttrs_str PySem.F.slot_str_isascii PySem.F.type_str_isascii mt_isascii (pv 0))) (pw_and1 (pt_val (pe_bm0 PySem.F.plainAttrs_str PySem.F.slot_str_isdigit PySem.F.type_str_isdigit mt_isdigit (pv 0))))).pt) (pss_one (ps_ret pe_bl)) pss_nil)
 (pss_one (ps_ret (pe_and (pe_cmpR op_le (pe_callB call_len_str (by rfl) T.len PySem.boot_len (pa_cons (pv 0) pa_nil)) (pv 1) (nomark _)) (pe_one (pe_or (pe_cmpR op_eq (pv 0) pe_str (nomark _)) (pe_one (pe_not (pe_bm PySem.F.plainAttrs_str PySem.F.slot_str_startswith PySem.F.type_str_startswith mt_startswith (pv 0) (pa_cons pe_str pa_nil)))))))))), ?_⟩
    refine ⟨_, rfl, rfl, z, rfl, rfl, trivial, _, rfl, ?_⟩
    unfold isNumM at q
    cases e1 : Txt.isascii z with
    | false =>
      rw [e1, Bool.false_and, Bool.false_and] at q
      exact iteF (iteT q)
    | true =>
      refine iteT ⟨_, rfl, rfl, z, rfl, rfl, trivial, _, rfl, ?_⟩
      cases e2 : Txt.isdigit z with
      | false =>
        rw [e1, e2, Bool.true_and, Bool.false_and] at q
        exact iteT q
      | true =>
        rw [e1, e2, Bool.true_and, Bool.true_and] at q
        refine iteF ?_
        refine ⟨_, rfl, _, rfl, by rw [sizeLine_eq]; omega, _, rfl, _, _, rfl, rfl, _, rfl, ?_⟩
        by_cases c : z.length ≤ m
        · refine if_pos_of (decide_eq_true (by omega)) ?_
          rw [decide_eq_true c, Bool.true_and] at q
          refine ⟨_, rfl, rfl, _, rfl, ?_⟩
          by_cases d : z = "0"
          · refine if_pos_of (by rw [str_eq]; exact decide_eq_true d) ?_
            rw [decide_eq_true d, Bool.true_or] at q
            exact q
          · refine if_neg_of (by rw [str_eq]; exact decide_eq_false d) ?_
            rw [decide_eq_false d, Bool.false_or] at q
            exact ⟨_, rfl, rfl, z, _, rfl, rfl, _, rfl, q⟩
        · refine if_neg_of (decide_eq_false (by omega)) ?_
          rw [decide_eq_false c, Bool.false_and] at q
          exact q
abbrev s_isint : Stmt := top 11
theorem sc_isint : FnScope ["word"] ["word"] (defScope s_isint) := ⟨rfl, rfl, rfl, by decide +kernel, rfl, by decide +kernel, by decide +kernel⟩
def spIsIntW : Sp := fun vs H Q _ => ∃ z : Str, vs = [.str z] ∧ z.length ≤ 1000000 ∧ Q (.bl (intC (TL.tl z))) H
theorem prefix_len (z : Str) : (Txt.removeprefix z "-").length ≤ z.length := by
  rw [str_len, tl_prefix, str_len]
  unfold unsign
  split
  · rw [List.length_tail]
    omega
  · exact Nat.le_refl _
theorem ok_isint {f : Addr} {fd : FuncData} {tM : Tok} (T : Txt mg) (hM : mg "MOST_DIGITS" = some (.int 30 tM)) (F : Fun K "is_integer" "is_integer" s_isint f fd) (c_isnum : Cl P w K mg base CX0 1 "is_number" spIsNumM) : FnOk P w K mg base CX0 2 f fd ["word"] spIsIntW := by
  refine F.ok sc_isint (fun vs H Q E h => ?_) (fun cdv A outer s H vs Q E hr h => ?_)
  · obtain ⟨z, rfl, _⟩ := h
    rfl
  · obtain ⟨z, rfl, hz, q⟩ := h
    refine ⟨_, (pss_one (ps_ret (pe_and (pe_cmpR op_ne (pv 0) pe_str (nomark _)) (pe_one (pe_cl c_isnum hr (pa_cons (pe_bm PySem.F.plainAttrs_str PySem.F.slot_str_removeprefix PySem.F.type_str_removeprefix mt_removeprefix (pv 0) (pa_cons pe_str pa_nil)) (pa_cons (pe_glob (v := .int 30) (by rfl) hM ⟨_, rfl⟩) pa_nil))))))), ?_⟩
    rw [← isIntW_eq] at q
    unfold isIntW at q
    refine ⟨_, rfl, rfl, _, rfl, ?_⟩
    by_cases c : z = "-0"
    · refine if_neg_of (by rw [str_eq, decide_eq_true c]; rfl) ?_
      rw [decide_eq_true c, Bool.not_true, Bool.false_and] at q
      exact q
    · refine if_pos_of (by rw [str_eq, decide_eq_false c]; rfl) ?_
      rw [decide_eq_false c, Bool.not_false, Bool.true_and] at q
      refine ⟨_, rfl, rfl, z, _, rfl, rfl, by rw [sizeLine_eq]; omega, ?_⟩
      exact ⟨_, 30, rfl, Nat.le_trans (prefix_len z) hz, q⟩
/-- the first fault of the words of a text, if there is one -/
inductive FD (L : List Str) : Option Nat → Prop
  | word {n : Nat} {z : Str} (hz : L[n]? = some z) (no : intC (TL.tl z) = false) (yes : ∀ (j : Nat) (y : Str), j < n → L[j]? = some y → intC (TL.tl y) = true) : FD L (some n)
  | last (yes : ∀ (j : Nat) (y : Str), L[j]? = some y → intC (TL.tl y) = true) (many : 1 < L.length) (h0 : L[L.length - 1]? = some ("0" : Str)) : FD L (some (L.length - 1))
  | none (yes : ∀ (j : Nat) (y : Str), L[j]? = some y → intC (TL.tl y) = true) (h0 : ¬ (1 < L.length ∧ L[L.length - 1]? = some ("0" : Str))) : FD L none
theorem FD.one {L : List Str} {a b : Option Nat} (h : FD L a) (h' : FD L b) : a = b := by
  cases h with
  | @word n z hz no yes =>
    cases h' with
    | @word n' z' hz' no' yes' =>
      by_cases c : n < n'
      · have := yes' n z c hz
        rw [no] at this
        cases this
      · by_cases d : n' < n
        · have := yes n' z' d hz'
          rw [no'] at this
          cases this
        · rw [show n = n' by omega]
    | last yes' => have := yes' n z hz; rw [no] at this; cases this
    | none yes' => have := yes' n z hz; rw [no] at this; cases this
  | last yes many h0 =>
    cases h' with
    | @word n' z' hz' no' => have := yes n' z' hz'; rw [no'] at this; cases this
    | last => rfl
    | none _ h1 => exact absurd ⟨many, h0⟩ h1
  | none yes h0 =>
    cases h' with
    | @word n' z' hz' no' => have := yes n' z' hz'; rw [no'] at this; cases this
    | last _ many h1 => exact absurd ⟨many, h1⟩ h0
    | none => rfl
theorem last_at {L : List Str} (h : 0 < L.length) : ∃ z, L[L.length - 1]? = some z ∧ atI (L.map V.str) (-1) = some (V.str z) := by
  have h1 : L.length - 1 < L.length := by omega
  refine ⟨L[L.length - 1], List.getElem?_eq_getElem h1, ?_⟩
  have e : L = L.take (L.length - 1) ++ [L[L.length - 1]] := by
    have := List.take_add_one (l := L) (i := L.length - 1)
    rw [List.getElem?_eq_getElem h1, show L.length - 1 + 1 = L.length by omega, List.take_length] at this
    exact this
  have := atI_last ((L.take (L.length - 1)).map V.str) (V.str L[L.length - 1])
  rw [show (L.take (L.length - 1)).map V.str ++ [V.str L[L.length - 1]] = L.map V.str by
    conv => rhs; rw [e]
    rw [List.map_append]; rfl] at this
  exact this
-- part mread
/-! Matrix.read and the text of a matrix -/
theorem intC_free {cs : List Nat} (h : intC cs = true) {c : Nat} (hc : c ≠ 45) (hd : c < 48 ∨ 57 < c) : c ∉ cs := by
  unfold intC numC at h
  simp only [Bool.and_eq_true] at h
  obtain ⟨_, ⟨_, h2⟩, _⟩ := h
  have key : ∀ ds : List Nat, ds.all dg = true → c ∉ ds := fun ds h m => by
    have := List.all_eq_true.mp h c m
    unfold dg at this
    simp only [Bool.and_eq_true, decide_eq_true_eq] at this
    omega
  unfold unsign at h2
  split at h2
  · intro m
    cases cs with
    | nil => cases m
    | cons d ds =>
      rename_i e
      have e : d = 45 := Option.some.inj e
      rcases List.mem_cons.mp m with r | r
      · exact hc (r.trans e)
      · exact key ds h2 r
  · exact key cs h2
theorem joinL_free {S : List Nat} {c : Nat} (hS : c ∉ S) : ∀ {ps : List (List Nat)}, (∀ p ∈ ps, c ∉ p) → c ∉ TL.joinL S ps
  | [], _ => fun h => nomatch h
  | [p], h => h p List.mem_cons_self
  | p :: q :: r, h => by
    have ih := joinL_free hS (ps := q :: r) fun x hx => h x (List.mem_cons_of_mem _ hx)
    show c ∉ p ++ (S ++ TL.joinL S (q :: r))
    simp only [List.mem_append, not_or]
    exact ⟨h p List.mem_cons_self, hS, ih⟩
theorem tl_joinB (L : List Str) : TL.tl (Txt.join " " L) = tW L := by
  rw [TL.join_eq, TL.tl_join, show TL.tl (" " : Str) = [32] by decide +kernel]
  rfl
theorem tl_joinS (R : List (List Str)) : TL.tl (Txt.join "; " (R.map (Txt.join " "))) = tR R := by
  rw [TL.join_eq, TL.tl_join, show TL.tl ("; " : Str) = [59, 32] by decide +kernel, List.map_map]
  unfold tR
  exact congrArg _ (List.map_congr_left fun r _ => tl_joinB r)
/-- words as they are passed on -/
structure Ws (L : List Str) : Prop where
  ne : L ≠ []
  few : L.length ≤ 30
  len : ∀ z ∈ L, z.length ≤ 5010
  free : ∀ z ∈ L, 32 ∉ TL.tl z
theorem ws_sum {L : List Str} (ws : Ws L) : (L.map (·.length)).sum + L.length * (" " : Str).length ≤ 16777216 := by
  have e1 : (" " : Str).length = 1 := by decide +kernel
  have := sum_le (k := 5010) ws.len
  have few := ws.few
  rw [e1]
  omega
theorem ws_split {L : List Str} (ws : Ws L) : Txt.split (Txt.join " " L) " " = L :=
  TL.split_join (s := 32) (S := []) (by decide +kernel) (by decide +kernel) ws.ne ws.free
theorem ws_len {L : List Str} (ws : Ws L) : (Txt.join " " L).length + 2 ≤ sizeLine := by
  have e1 : (" " : Str).length = 1 := by decide +kernel
  have := join_len (y := " ") (k := 5010) ws.len
  have few := ws.few
  rw [e1] at this
  rw [sizeLine_eq]
  omega
/-- the rows of words that are all right -/
theorem rows_split {L : List Str} (ne : L ≠ []) (yes : ∀ (j : Nat) (y : Str), L[j]? = some y → badW y = false) (h : ¬ (gst L).2 = []) :
    Txt.split (Txt.join " " L) "; " = ((gst L).1 ++ [(gst L).2]).map (Txt.join " ") ∧ ∀ r ∈ (gst L).1 ++ [(gst L).2], r ≠ [] ∧ Txt.split (Txt.join " " r) " " = r ∧ ∀ z ∈ r, intC (TL.tl z) = true := by
  have good : ∀ r ∈ (gst L).1 ++ [(gst L).2], ∀ z ∈ r, intC (TL.tl z) = true := fun r hr z hz => by
    obtain ⟨y, hy, rfl⟩ := gst_mem _ L rfl r hr z hz
    obtain ⟨j, hj⟩ := List.mem_iff_getElem?.mp hy
    have := yes j y hj
    unfold badW at this
    simpa using this
  have full : ∀ r ∈ (gst L).1 ++ [(gst L).2], r ≠ [] := fun r hr => by
    rcases List.mem_append.mp hr with h1 | h1
    · exact gst_ne _ L rfl r h1
    · rw [List.mem_singleton.mp h1]
      exact h
  have text := gst_text _ L rfl ne
  rw [if_neg h] at text
  refine ⟨?_, fun r hr => ⟨full r hr, ?_, good r hr⟩⟩
  · have e : Txt.join " " L = Txt.join "; " (((gst L).1 ++ [(gst L).2]).map (Txt.join " ")) := TL.ext_tl (by rw [tl_joinB, tl_joinS, text])
    rw [e]
    refine TL.split_join (s := 59) (S := [32]) (by decide +kernel) (by decide +kernel) (by simp) fun p hp => ?_
    obtain ⟨r, hr, rfl⟩ := List.mem_map.mp hp
    rw [tl_joinB]
    refine joinL_free (by decide) fun q hq => ?_
    obtain ⟨z, hz, rfl⟩ := List.mem_map.mp hq
    exact intC_free (good r hr z hz) (by decide) (.inr (by decide))
  · exact TL.split_join (s := 32) (S := []) (by decide +kernel) (by decide +kernel) (full r hr) fun z hz => intC_free (good r hr z hz) (by decide) (.inl (by decide))
def RLs (g : Nat → List Int) : Nat → V → Hp → Prop := fun i v H => ∃ q, v = .ref q ∧ H q = some (.lst ((g i).map V.int))
theorem stab_RLs {g : Nat → List Int} {D : Addr} : Stab D (RLs g) := fun j v H H' h nv k => by
  obtain ⟨q, rfl, h⟩ := h
  exact ⟨q, rfl, k _ _ (fun e => nv (by rw [e])) h⟩
abbrev s_mread : Stmt := inClass (top 14) 3
theorem sc_mread : FnScope ["cls", "text", "parts", "at", "part", "word", "row"] ["cls", "text"] (defScope s_mread) := ⟨rfl, rfl, rfl, by decide +kernel, rfl, by decide +kernel, by decide +kernel⟩
def spMread (C CB CT : Addr) (K : PySem.W.Frag) : Sp := fun vs H Q E => ∃ L : List Str, vs = [.ref C, .str (Txt.join " " L)] ∧ Ws L ∧
  (∀ n : Nat, OmR L (.at n) → ∀ d H', Same H H' → H' d = some (.xd [("at", .int (n : Int))]) → E (.ref CT) (some d) H') ∧
  (∀ n : Nat, OmR L (.row n) → ∀ d H', Same H H' → H' d = some (.xd [("at", .int (n : Int))]) → E (.ref CB) (some d) H') ∧
  (OmR L (.mat (rowsW L)) → ∀ r H', MatAt C H' r (rowsW L).length (lenAt (rowsW L) 0) (ent (rowsW L)) → Same H H' → Q (.ref r) H')
theorem rowsW_len (L : List Str) : (rowsW L).length = (gst L).1.length + 1 := by
  unfold rowsW
  rw [List.length_map, List.length_append]
  rfl
theorem rowsW_at {L : List Str} {i : Nat} {r : List Str} (h : ((gst L).1 ++ [(gst L).2])[i]? = some r) : (rowsW L).getD i [] = r.map valW := by
  unfold rowsW
  rw [List.getD_eq_getElem?_getD, List.getElem?_map, h]
  rfl
theorem ok_mread {f C CB CT : Addr} {fd : FuncData} (TT : Txt mg) (henum : mg "enumerate" = none) (T : MaT K mg C) (F : Fun K "read" "Matrix.read" s_mread f fd) (c_isint : Cl P w K mg base CX0 2 "is_integer" spIsIntW) (x_bt : ErP P w K mg base "BadText" "at" CT okNat) (c_mil : Ma P w K mg base 3 C (spMI C CB false K)) :
    FnOk P w K mg base (L2N.CX P w) 5 f fd ["cls", "text"] (spMread C CB CT K) := by
  refine okN F sc_mread (fun vs H Q E h => ?_) (fun cdv A outer s H vs Q E hr h => ?_)
  · obtain ⟨L, rfl, _⟩ := h
    rfl
  · obtain ⟨L, rfl, ws, qt, qr, q⟩ := h
    have few := ws.few
    have pos : 0 < L.length := List.length_pos_iff.mpr ws.ne
    refine ⟨_, (pss_cons (ps_set (i := 2) sc_mread.nd rfl (Or.inl rfl) (pe_split (pv 1) pe_str))
 (Evl.pss_cut (ps_for (passes_of rfl) rfl (pi_enum rfl henum (pa_cons (pv 2) pa_nil)) (pg_tup rfl (pgs_cons (pg_name (i := 3) sc_mread.nd rfl (Or.inl rfl)) (pgs_cons (pg_name (i := 4) sc_mread.nd rfl (Or.inl rfl)) pgs_nil))) (pss_one (ps_if (pt_not (pt_val (pe_cl c_isint hr (pa_cons (pe_bm PySem.F.plainAttrs_str PySem.F.slot_str_removesuffix PySem.F.type_str_removesuffix mt_removesuffix (pv 4) (pa_cons pe_str pa_nil)) pa_nil)))) (pss_one (ps_raiseP x_bt hr (L2N.takes_of rfl rfl rfl rfl) (pa_cons (pv 3) pa_nil))) pss_nil)))
 (Evl.pss_cut (ps_if (pt_val (pe_bm PySem.F.plainAttrs_str PySem.F.slot_str_endswith PySem.F.type_str_endswith mt_endswith (pe_ix ix_list (pv 2) (pe_un un_neg pe_int) (fun _ _ => rfl)) (pa_cons pe_str pa_nil))) (pss_one (ps_raiseP x_bt hr (L2N.takes_of rfl rfl rfl rfl) (pa_cons (pe_callB call_len_seq (by rfl) TT.len PySem.boot_len (pa_cons (pv 2) pa_nil)) pa_nil))) pss_nil)
 (pss_one (ps_ret (pe_maLX (i := 0) c_mil hr (L2N.takes_of rfl rfl rfl rfl) rfl (pa_cons (pe_lc (own := [("row", 6)]) (g := (gName 6)) (tt := tYes) rfl sc_mread.nd (pi_list (pe_split (pv 1) pe_str)) (blkOk_by (N := ["cls", "text", "parts", "at", "part", "word", "row"]) (sc := defScope s_mread) (by decide +kernel)) (fun _ _ _ _ _ => (pg_name (i := 6) sc_mread.nd rfl (Or.inl rfl))) (fun _ _ _ _ _ => pts_nil) (fun _ _ _ _ _ => (pe_lc (own := [("word", 5)]) (g := (gName 5)) (tt := tYes) rfl sc_mread.nd (pi_listK (K := K) rfl (pe_split (pv 6) pe_str)) (blkOk_by (N := ["cls", "text", "parts", "at", "part", "word", "row"]) (sc := ({ kind := .function, names := [(".0", .local), ("row", .local)], isGenerator := false, isCoroutine := false, more := [] } : Scope)) (by decide +kernel)) (fun _ _ _ _ _ => (pg_name (i := 5) sc_mread.nd rfl (Or.inl rfl))) (fun _ _ _ _ _ => pts_nil) (fun _ _ _ _ _ => (pe_callTy call_int_str (by rfl) TT.int boot_int (pa_cons (pv 5) pa_nil)))))) pa_nil))))))), ?_⟩
    refine ⟨_, rfl, ⟨_, rfl⟩, _, " ", rfl, rfl, by decide +kernel, ws_len ws, fun wa nwa => ?_⟩
    rw [ws_split ws]
    have g1 := same_upd (o := .lst (L.map V.str)) nwa
    have hw0 : upd H wa (.lst (L.map V.str)) wa = some (.lst (L.map V.str)) := upd_same
    generalize upd H wa (.lst (L.map V.str)) = H1 at g1 hw0 ⊢
    -- the loop
    refine ⟨fun σ H' => Same H1 H' ∧ (∀ (j : Nat) (y : Str), L[j]? = some y → badW y = false) ∧ ∃ x3 x4, σ = [some (.ref C), some (.str (Txt.join " " L)), some (.ref wa), x3, x4, none, none], ?_, ?_⟩
    · refine ⟨_, rfl, wa, _, rfl, SqL.of hw0, for_it walk_enum (fun i σ H' => Same H1 H' ∧ (∀ (j : Nat) (y : Str), j < i → L[j]? = some y → badW y = false) ∧ ∃ x3 x4, σ = [some (.ref C), some (.str (Txt.join " " L)), some (.ref wa), x3, x4, none, none])
        ⟨Same.refl _, fun j y h => absurd h (Nat.not_lt_zero j), none, none, rfl⟩ (fun i σ H' _ h => SqL.of (h.1 _ _ hw0)) ?_ ?_⟩
      · rintro i x σ H2 H3 hi ⟨s2, yes, x3, x4, rfl⟩ ⟨Tp, x1, y1, rfl, nT, rfl, hx1, hy1⟩
        cases hx1
        obtain ⟨y, rfl, hy⟩ := item_str hy1
        have lt := (List.getElem?_eq_some_iff.mp hy).1
        have yl := ws.len y (List.mem_of_getElem? hy)
        have bl := base_len y
        have s3 := s2.trans (same_upd (o := .tup [.int (i : Nat), .str y]) nT)
        refine ⟨Tp, _, rfl, SqT.of upd_same, rfl, _, _, rfl, _, _, rfl, rfl, ?_⟩
        refine ⟨_, rfl, rfl, y, _, rfl, rfl, by rw [sizeLine_eq]; omega, ?_⟩
        refine ⟨_, rfl, Nat.le_trans bl (by omega), _, rfl, ?_⟩
        cases e : intC (TL.tl (baseW y)) with
        | true =>
          refine if_neg_of rfl ⟨s3, fun j y' hj hy' => ?_, _, _, rfl⟩
          by_cases c : j = i
          · rw [c, hy] at hy'
            rw [← Option.some.inj hy']
            unfold badW
            rw [e]
            rfl
          · exact yes j y' (by omega) hy'
        | false =>
          refine if_pos_of rfl ⟨_, rfl, ?_⟩
          exact mkP ⟨i, rfl, by omega⟩ fun dd H4 s4 _ hd => qt i (.word hy (by unfold badW; rw [e]; rfl) yes) dd H4 (g1.trans (s3.trans s4)) hd
      · rintro σ H2 ⟨s2, yes, x3, x4, rfl⟩
        rw [List.length_map] at yes
        exact ⟨s2, fun j y hy => yes j y (List.getElem?_eq_some_iff.mp hy).1 hy, _, _, rfl⟩
    rintro σ H2 ⟨s2, yes, x3, x4, rfl⟩
    have hw2 := s2 _ _ hw0
    obtain ⟨zl, hzl, at_l⟩ := last_at pos
    -- the last word
    refine ⟨fun σ H' => H2 = H' ∧ ¬ (gst L).2 = [] ∧ σ = [some (.ref C), some (.str (Txt.join " " L)), some (.ref wa), x3, x4, none, none], ?_, ?_⟩
    · refine ⟨_, rfl, _, rfl, wa, _, _, _, rfl, rfl, SqL.of hw2, at_l, rfl, zl, _, rfl, rfl, _, rfl, ?_⟩
      rw [ends_eq]
      by_cases c : endC (TL.tl zl) = true
      · refine if_pos_of c ?_
        refine ⟨_, rfl, wa, _, rfl, .inl (SqL.of hw2), ?_⟩
        rw [List.length_map]
        exact mkP ⟨L.length, rfl, by omega⟩ fun dd H4 s4 _ hd => qt _ (.last yes ((gst_last hzl ws.ne).mpr c)) dd H4 (g1.trans (s2.trans s4)) hd
      · refine if_neg_of (by simpa using c) ⟨rfl, fun e => c ((gst_last hzl ws.ne).mp e), rfl⟩
    rintro σ _ ⟨rfl, h0, rfl⟩
    obtain ⟨sp, rows⟩ := rows_split ws.ne yes h0
    obtain ⟨fw1, fw2⟩ := gst_few _ L rfl
    refine ⟨rfl, _, rfl, ⟨_, rfl⟩, _, "; ", rfl, rfl, by decide +kernel, ws_len ws, fun ra nra => ?_⟩
    rw [sp]
    have g3 := same_upd (o := .lst ((((gst L).1 ++ [(gst L).2]).map (Txt.join " ")).map V.str)) nra
    have hra : upd H2 ra (.lst ((((gst L).1 ++ [(gst L).2]).map (Txt.join " ")).map V.str)) ra = some (.lst ((((gst L).1 ++ [(gst L).2]).map (Txt.join " ")).map V.str)) := upd_same
    generalize upd H2 ra (.lst ((((gst L).1 ++ [(gst L).2]).map (Txt.join " ")).map V.str)) = H3 at g3 hra ⊢
    have rl : ((((gst L).1 ++ [(gst L).2]).map (Txt.join " ")).map V.str).length = (rowsW L).length := by
      rw [List.length_map, List.length_map, rowsW_len, List.length_append]
      rfl
    have rle : (rowsW L).length ≤ 41 := by
      rw [rowsW_len]
      omega
    refine ⟨ra, rfl, ⟨_, SqL.of hra⟩, fun D nD => lcObj walk_list (RLs fun i => (rowsW L).getD i []) nD (fun H s => SqL.of (s _ _ hra)) ?_ ?_⟩
    · rintro i x H4 _ hi p2 ⟨rfl, hx⟩
      rw [rl] at hi
      have hi' : i < ((gst L).1 ++ [(gst L).2]).length := by
        rw [rowsW_len] at hi
        rw [List.length_append]
        exact hi
      have hr : ((gst L).1 ++ [(gst L).2])[i]? = some ((gst L).1 ++ [(gst L).2])[i] := List.getElem?_eq_getElem hi'
      generalize ((gst L).1 ++ [(gst L).2])[i] = r at hr
      rw [List.getElem?_map, List.getElem?_map, hr] at hx
      obtain rfl := Option.some.inj hx
      have mem := List.mem_of_getElem? hr
      obtain ⟨rne, rsp, rint⟩ := rows r mem
      have rfew := fw2 r mem
      obtain ⟨acc, hacc, _⟩ := p2.2
      refine ⟨rfl, _, rfl, ⟨_, rfl⟩, _, " ", rfl, rfl, by decide +kernel, ?_, fun wb nwb => ?_⟩
      · have e1 : (" " : Str).length = 1 := by decide +kernel
        have := join_len (y := " ") (k := 640) (ws := r) fun z hz => (int_reads (rint z hz)).2
        rw [e1] at this
        rw [sizeLine_eq]
        omega
      rw [rsp]
      have g4 := same_upd (o := .lst (r.map V.str)) nwb
      refine ⟨wb, rfl, ⟨_, SqL.of upd_same⟩, fun D2 nD2 => lcMap walk_list ((r.map valW).map V.int) (by rw [List.length_map, List.length_map, List.length_map]) nD2 (fun H s => SqL.of (s _ _ upd_same)) ?_ ?_⟩
      · rintro k x H5 _ hk s5 hL ⟨rfl, hx⟩
        obtain ⟨y, rfl, hy⟩ := item_str hx
        obtain ⟨r1, r2⟩ := int_reads (rint y (List.mem_of_getElem? hy))
        refine ⟨rfl, _, rfl, y, _, rfl, r1, r2, ?_⟩
        exact mapEnd nD2 (by rw [List.length_map, List.length_map]; omega) s5 hL (map_at (f := V.int) (by rw [List.getElem?_map, hy] <;> rfl))
      · intro H5 s5 hL
        refine objEnd stab_RLs nD p2 (g4.trans s5) (by omega) (ref_ne nD2 (g4 _ _ hacc)) ⟨D2, rfl, ?_⟩
        show H5 D2 = some (.lst (((rowsW L).getD i []).map V.int))
        rw [rowsW_at hr]
        exact hL
    · intro H4 acc s4 hacc hl hel
      rw [rl] at hl
      have rin : RowsIn H4 acc (rowsW L) := ⟨hl, fun i r hr => by
        obtain ⟨v, ha⟩ : ∃ v, acc[i]? = some v := ⟨_, List.getElem?_eq_getElem (by have := (List.getElem?_eq_some_iff.mp hr).1; omega)⟩
        obtain ⟨_, q1, e, hq⟩ := hel i _ ha
        refine ⟨_, ha, q1, e, .inl ?_⟩
        have hq : H4 q1 = some (.lst (((rowsW L).getD i []).map V.int)) := hq
        rw [getDr hr] at hq
        exact hq⟩
      have ll : ∀ i, i < (rowsW L).length → lenAt (rowsW L) i ≤ 40 ∧ 1 ≤ lenAt (rowsW L) i := fun i hi => by
        have hi' : i < ((gst L).1 ++ [(gst L).2]).length := by
          rw [rowsW_len] at hi
          rw [List.length_append]
          exact hi
        have hr : ((gst L).1 ++ [(gst L).2])[i]? = some ((gst L).1 ++ [(gst L).2])[i] := List.getElem?_eq_getElem hi'
        have mem := List.mem_of_getElem? hr
        unfold lenAt
        rw [rowsW_at hr, List.length_map]
        exact ⟨Nat.le_trans (fw2 _ mem) (by omega), List.length_pos_iff.mpr (rows _ mem).1⟩
      have n1 : 1 ≤ (rowsW L).length := by
        rw [rowsW_len]
        omega
      have s14 := (g1.trans s2).trans (g3.trans s4)
      refine fun x dx hx hdx hne => ?_
      have s1 : Same H4 (upd (upd H4 dx (.own x)) x (.ins C dx [])) := fun b o eb => by
        rw [upd_ne (ne_of_none eb hx), upd_ne (ne_of_none eb hdx)]
        exact eb
      refine ⟨x, dx, D, acc, rowsW L, rfl, upd_same, SqL.of (s1 _ _ hacc), rin.same s1, n1, ?_, fun i hi => (ll i hi).1, (ll 0 (by omega)).2, fun good H' m keep => ⟨rfl, ?_⟩, fun i hi ne min d H' s5 hd => ?_⟩
      · rw [rowsW_len]
        omega
      · exact q (.mat yes h0 fun j hj => good j hj) x H' m (s14.trans fun b o eb => keep b o (s1 b o eb) (ne_of_none eb hx))
      · exact qr i (.row yes h0 hi ne min) d H' (s14.trans (s1.trans s5)) hd
-- part matm
/-! matrices: made of rows; the methods -/
def mrows (h w : Nat) (f : Nat → Nat → Int) : List (List Int) := (List.range h).map fun i => rngN w (f i)
theorem mrows_len (h w : Nat) (f : Nat → Nat → Int) : (mrows h w f).length = h := by
  unfold mrows
  rw [List.length_map, List.length_range]
theorem mrows_at {h w : Nat} {f : Nat → Nat → Int} {i : Nat} (hi : i < h) : (mrows h w f)[i]? = some (rngN w (f i)) := by
  unfold mrows
  rw [List.getElem?_map, List.getElem?_range hi]
  rfl
theorem mrows_lenAt {h w : Nat} {f : Nat → Nat → Int} {i : Nat} (hi : i < h) : lenAt (mrows h w f) i = w := by
  unfold lenAt
  rw [getDr (mrows_at hi), rngN_len]
theorem mrows_ent {h w : Nat} {f : Nat → Nat → Int} {i k : Nat} (hi : i < h) (hk : k < w) : ent (mrows h w f) i k = f i k := by
  unfold ent
  rw [getDr (mrows_at hi), rngN_get, if_pos hk]
/-- a matrix is made at x, what follows is any word -/
theorem make_maA {C CB x dx : Addr} {tup : Bool} {H1 : Hp} {a : Addr} {us : List V} {h w : Nat} {f : Nat → Nat → Int} {R : VK} (hx : H1 x = none) (hdx : H1 dx = none) (hS : if tup = true then SqT K H1 a us else SqL K H1 a us) (hr : RowsIn H1 us (mrows h w f)) (h1 : 1 ≤ h) (h2 : h ≤ 40) (w1 : 1 ≤ w) (w2 : w ≤ 40)
    (k : ∀ (H2 : Hp), MatAt C H2 x h w f → Same H1 H2 → R .non H2) : spMI C CB tup K (.ref x :: ([.ref a] ++ [])) (upd (upd H1 dx (.own x)) x (.ins C dx [])) R E0 := by
  have s1 : Same H1 (upd (upd H1 dx (.own x)) x (.ins C dx [])) := fun b o eb => by
    rw [upd_ne (ne_of_none eb hx), upd_ne (ne_of_none eb hdx)]
    exact eb
  have l0 : lenAt (mrows h w f) 0 = w := mrows_lenAt (by omega)
  refine ⟨x, dx, a, us, mrows h w f, rfl, upd_same, ?_, hr.same s1, by rw [mrows_len]; exact h1, by rw [mrows_len]; exact h2, fun i hi => ?_, by rw [l0]; exact w1, fun _ H' m keep => ?_, fun i hi ne _ => ?_⟩
  · cases tup with
    | true =>
      have h : SqT K H1 a us := hS
      exact Evl.ex_t s1 h
    | false =>
      have h : SqL K H1 a us := hS
      exact s1.seq h
  · rw [mrows_len] at hi
    rw [mrows_lenAt hi]
    exact w2
  · rw [mrows_len, l0] at m
    refine k H' (m.congr fun i j hi hj => mrows_ent hi hj) fun b o eb => keep b o (s1 b o eb) (ne_of_none eb hx)
  · rw [mrows_len] at hi
    rw [mrows_lenAt hi, l0] at ne
    exact absurd rfl ne
theorem rows_of {H : Hp} {D : Addr} {acc : List V} {h w : Nat} {f : Nat → Nat → Int} (hl : acc.length = h) (hel : ∀ j v, acc[j]? = some v → v ≠ .ref D ∧ RL w f j v H) : RowsIn H acc (mrows h w f) := by
  refine ⟨by rw [hl, mrows_len], fun i r hr => ?_⟩
  have hi : i < h := by
    have := (List.getElem?_eq_some_iff.mp hr).1
    rw [mrows_len] at this
    exact this
  rw [mrows_at hi] at hr
  obtain rfl := Option.some.inj hr
  have ha : acc[i]? = some acc[i] := List.getElem?_eq_getElem (by omega)
  obtain ⟨_, q, e, hq⟩ := hel i _ ha
  exact ⟨_, ha, q, e, .inl hq⟩
theorem rows_ofT {H : Hp} {D : Addr} {acc : List V} {h w : Nat} {f : Nat → Nat → Int} (hl : acc.length = h) (hel : ∀ j v, acc[j]? = some v → v ≠ .ref D ∧ RT (fun i => rngN w (f i)) j v H) : RowsIn H acc (mrows h w f) := by
  refine ⟨by rw [hl, mrows_len], fun i r hr => ?_⟩
  have hi : i < h := by
    have := (List.getElem?_eq_some_iff.mp hr).1
    rw [mrows_len] at this
    exact this
  rw [mrows_at hi] at hr
  obtain rfl := Option.some.inj hr
  have ha : acc[i]? = some acc[i] := List.getElem?_eq_getElem (by omega)
  obtain ⟨_, q, e, hq⟩ := hel i _ ha
  exact ⟨_, ha, q, e, .inr hq⟩
abbrev s_shape : Stmt := top 13
theorem sc_shape : FnScope ["matrix"] ["matrix"] (defScope s_shape) := ⟨rfl, rfl, rfl, by decide +kernel, rfl, by decide +kernel, by decide +kernel⟩
def spShape (C : Addr) : Sp := fun vs H Q _ => ∃ (a : Addr) (h w : Nat) (f : Nat → Nat → Int), vs = [.ref a] ∧ MatAt C H a h w f ∧ ∀ t, H t = none → Q (.ref t) (upd H t (.tup [.int (h : Int), .int (w : Int)]))
theorem ok_shape {f C : Addr} {fd : FuncData} (T : MaT K mg C) (F : Fun K "shape_of" "shape_of" s_shape f fd) : FnOk P w K mg base CX0 1 f fd ["matrix"] (spShape C) := by
  refine F.ok sc_shape (fun vs H Q E h => ?_) (fun cdv A outer s H vs Q E hr h => ?_)
  · obtain ⟨a, h, w, g, rfl, _⟩ := h
    rfl
  · obtain ⟨a, h, w, g, rfl, m, q⟩ := h
    obtain ⟨dx, t, us, o1, o2, o3, o4⟩ := m.ob
    refine ⟨_, (pss_one (ps_ret (pe_tup (pa_cons (pe_fld (pv 0) rfl) (pa_cons (pe_fld (pv 0) rfl) pa_nil))))), ?_⟩
    exact ⟨_, rfl, a, C, dx, _, _, rfl, o1, T.cl, T.nH, maF_h _ _ _, _, rfl, a, C, dx, _, _, rfl, o1, T.cl, T.nW, maF_w _ _ _, (by show 2 ≤ sizeLine; decide), q⟩
abbrev s_mscal : Stmt := inClass (top 14) 10
theorem sc_mscal : FnScope ["self", "n", "item", "row"] ["self", "n"] (defScope s_mscal) := ⟨rfl, rfl, rfl, by decide +kernel, rfl, by decide +kernel, by decide +kernel⟩
def spMsc (C : Addr) : Sp := fun vs H Q _ => ∃ (a : Addr) (h w : Nat) (f : Nat → Nat → Int) (n : Int), vs = [.ref a, .int n] ∧ MatAt C H a h w f ∧ n.natAbs < 2 ^ 60 ∧ ∀ r H', MatAt C H' r h w (fun i k => n * f i k) → Same H H' → Q (.ref r) H'
theorem ok_mscal {f C CB : Addr} {fd : FuncData} (T : MaT K mg C) (F : Fun K "scaled" "Matrix.scaled" s_mscal f fd) (c_mil : Ma P w K mg base 3 C (spMI C CB false K)) : FnOk P w K mg base CX0 5 f fd ["self", "n"] (spMsc C) := by
  refine F.ok sc_mscal (fun vs H Q E h => ?_) (fun cdv A outer s H vs Q E hr h => ?_)
  · obtain ⟨a, h, w, g, n, rfl, _⟩ := h
    rfl
  · obtain ⟨a, h, w, g, n, rfl, m, hn, q⟩ := h
    obtain ⟨dx, t, us, o1, o2, o3, o4⟩ := m.ob
    have h2 := m.h2
    have w2 := m.w2
    refine ⟨_, (pss_one (ps_ret (pe_ma c_mil hr T.g (pa_cons (pe_lc (own := [("row", 3)]) (g := (gName 3)) (tt := tYes) rfl sc_mscal.nd (pi_tup (pe_fld (pv 0) rfl)) (blkOk_by (N := ["self", "n", "item", "row"]) (sc := defScope s_mscal) (by decide +kernel)) (fun _ _ _ _ _ => (pg_name (i := 3) sc_mscal.nd rfl (Or.inl rfl))) (fun _ _ _ _ _ => pts_nil) (fun _ _ _ _ _ => (pe_lc (own := [("item", 2)]) (g := (gName 2)) (tt := tYes) rfl sc_mscal.nd (pi_tupK (K := K) rfl (pv 3)) (blkOk_by (N := ["self", "n", "item", "row"]) (sc := ({ kind := .function, names := [(".0", .local), ("row", .local), ("n", .cell)], isGenerator := false, isCoroutine := false, more := [] } : Scope)) (by decide +kernel)) (fun _ _ _ _ _ => (pg_name (i := 2) sc_mscal.nd rfl (Or.inl rfl))) (fun _ _ _ _ _ => pts_nil) (fun _ _ _ _ _ => (pe_op op_mul (pv 1) (pv 2)))))) pa_nil)))), ?_⟩
    refine ⟨_, rfl, a, C, dx, _, _, rfl, o1, T.cl, T.nR, maF_r _ _ _, t, rfl, ⟨_, SqT.of o2⟩, fun D nD => lcObj walk_tup (RL w (fun i k => n * g i k)) nD (fun H s => SqT.of (s _ _ o2)) ?_ ?_⟩
    · rintro i v H2 _ hi p2 ⟨rfl, hv⟩
      rw [o3] at hi
      obtain ⟨q', e, hq⟩ := o4 i hi
      have ev : v = .ref q' := Option.some.inj (hv.symm.trans e)
      subst ev
      have hq2 := p2.1 _ _ hq
      obtain ⟨acc, hacc, _⟩ := p2.2
      refine ⟨rfl, _, rfl, q', rfl, ⟨_, SqT.of hq2⟩, fun D2 nD2 => lcMap walk_tup ((rngN w fun k => n * g i k).map V.int) (by rw [List.length_map, List.length_map, rngN_len, rngN_len]) nD2 (fun H s => SqT.of (s _ _ hq2)) ?_ ?_⟩
      · rintro k y H3 _ hk s3 hL ⟨rfl, hy⟩
        rw [List.length_map, rngN_len] at hk
        obtain ⟨z, rfl, hz⟩ := item_int hy
        rw [rngN_at hk] at hz
        obtain rfl := Option.some.inj hz
        refine ⟨rfl, _, rfl, _, rfl, _, _, rfl, rfl, .inl ⟨by omega, by omega⟩, ?_⟩
        exact mapEnd nD2 (by rw [List.length_map, rngN_len]; omega) s3 hL (map_at (f := V.int) (rngN_at hk))
      · intro H3 s3 hL
        exact objEnd stab_RL nD p2 s3 (by omega) (ref_ne nD2 hacc) ⟨D2, rfl, hL⟩
    · intro H2 acc s2 hacc hl hel
      exact fun x dx' nx ndx _ => make_maA (tup := false) nx ndx (SqL.of hacc) (rows_of (by rw [hl, o3]) hel) m.h1 h2 m.w1 w2 fun H3 mr s3 => ⟨rfl, q x H3 mr (s2.trans s3)⟩
abbrev s_mneg : Stmt := inClass (top 14) 6
theorem sc_mneg : FnScope ["self"] ["self"] (defScope s_mneg) := ⟨rfl, rfl, rfl, by decide +kernel, rfl, by decide +kernel, by decide +kernel⟩
def spMneg (C : Addr) : Sp := fun vs H Q _ => ∃ (a : Addr) (h w : Nat) (f : Nat → Nat → Int), vs = [.ref a] ∧ MatAt C H a h w f ∧ ∀ r H', MatAt C H' r h w (fun i k => -f i k) → Same H H' → Q (.ref r) H'
theorem ok_mneg {f C : Addr} {fd : FuncData} (T : MaT K mg C) (F : Fun K "__neg__" "Matrix.__neg__" s_mneg f fd) (c_scal : Me P w K mg base 5 C "scaled" (spMsc C)) : FnOk P w K mg base CX0 6 f fd ["self"] (spMneg C) := by
  refine F.ok sc_mneg (fun vs H Q E h => ?_) (fun cdv A outer s H vs Q E hr h => ?_)
  · obtain ⟨a, h, w, g, rfl, _⟩ := h
    rfl
  · obtain ⟨a, h, w, g, rfl, m, q⟩ := h
    obtain ⟨dx, t, us, o1, o2, o3, o4⟩ := m.ob
    refine ⟨_, (pss_one (ps_ret (pe_me c_scal T.cl hr (pv 0) (pa_cons (pe_un un_neg pe_int) pa_nil)))), ?_⟩
    refine ⟨_, rfl, a, dx, _, rfl, o1, maF_no _ _ _ (by decide +kernel) (by decide +kernel) (by decide +kernel), _, rfl, a, h, w, g, -1, rfl, m, by decide, fun r H' mr s' => q r H' (mr.congr fun i k _ _ => by omega) s'⟩
-- part polystr
/-! the text of a polynomial -/
abbrev numT (p : Int) : Str := Str.ofString (toString p)
def ptext (l : List Int) : Str := if l = [] then "0" else Txt.join " " (l.map numT)
theorem sum_leT {k : Nat} : ∀ {ys : List Str}, (∀ y ∈ ys, y.length ≤ k) → (ys.map (·.length)).sum ≤ ys.length * k
  | [], _ => Nat.zero_le _
  | y :: ys, h => by
    have h1 := h y List.mem_cons_self
    have h2 := sum_leT (k := k) (ys := ys) fun z hz => h z (List.mem_cons_of_mem _ hz)
    rw [List.map_cons, List.sum_cons, List.length_cons, Nat.succ_mul]
    omega
theorem texts_fit {l : List Int} (h : ∀ z ∈ l, z.natAbs.log2 < 1920) (few : l.length ≤ 200) : ((l.map numT).map (·.length)).sum + (l.map numT).length * (" " : Str).length ≤ 16777216 := by
  have e1 : (" " : Str).length = 1 := by decide +kernel
  have := sum_leT (k := 1921) (ys := l.map numT) fun y hy => by
    obtain ⟨z, hz, rfl⟩ := List.mem_map.mp hy
    exact int_text_len_1921 (h z hz)
  rw [List.length_map] at this
  rw [e1, List.length_map]
  omega
-- part mstr
/-- the text of rows -/
def rtext (rs : List (List Int)) : Str := Txt.join "; " (rs.map fun r => Txt.join " " (r.map numT))
theorem row_text_len {r : List Int} (h : ∀ z ∈ r, z.natAbs.log2 < 1920) (few : r.length ≤ 40) : (Txt.join " " (r.map numT)).length ≤ 80000 := by
  have e1 : (" " : Str).length = 1 := by decide +kernel
  have := join_len (y := " ") (k := 1921) (ws := r.map numT) fun y hy => by
    obtain ⟨z, hz, rfl⟩ := List.mem_map.mp hy
    exact int_text_len_1921 (h z hz)
  rw [List.length_map, e1] at this
  omega
theorem rows_fit {rs : List (List Int)} (h : ∀ r ∈ rs, ∀ z ∈ r, z.natAbs.log2 < 1920) (few : ∀ r ∈ rs, r.length ≤ 40) (n40 : rs.length ≤ 40) :
    ((rs.map fun r => Txt.join " " (r.map numT)).map (·.length)).sum + (rs.map fun r => Txt.join " " (r.map numT)).length * ("; " : Str).length ≤ 16777216 := by
  have e1 : ("; " : Str).length = 2 := by decide +kernel
  have := sum_le (k := 80000) (ys := rs.map fun r => Txt.join " " (r.map numT)) fun y hy => by
    obtain ⟨r, hr, rfl⟩ := List.mem_map.mp hy
    exact row_text_len (h r hr) (few r hr)
  rw [List.length_map] at this
  rw [e1, List.length_map]
  omega
abbrev s_mstr : Stmt := inClass (top 14) 9
theorem sc_mstr : FnScope ["self", "n", "row"] ["self"] (defScope s_mstr) := ⟨rfl, rfl, rfl, by decide +kernel, rfl, by decide +kernel, by decide +kernel⟩
def spMstr (C : Addr) : Sp := fun vs H Q _ => ∃ (a : Addr) (h w : Nat) (f : Nat → Nat → Int), vs = [.ref a] ∧ MatAt C H a h w f ∧ (∀ i k, i < h → k < w → (f i k).natAbs.log2 < 1920) ∧ ∀ H', Same H H' → Q (.str (rtext (mrows h w f))) H'
theorem mem_mrows {h w : Nat} {f : Nat → Nat → Int} {p : Int → Prop} (k : ∀ i k, i < h → k < w → p (f i k)) : ∀ r ∈ mrows h w f, ∀ z ∈ r, p z := by
  intro r hr z hz
  obtain ⟨i, hi⟩ := List.mem_iff_getElem?.mp hr
  have hi' : i < h := by
    have := (List.getElem?_eq_some_iff.mp hi).1
    rw [mrows_len] at this
    exact this
  rw [mrows_at hi'] at hi
  obtain rfl := Option.some.inj hi
  obtain ⟨j, hj⟩ := List.mem_iff_getElem?.mp hz
  have hj' : j < w := by
    have := (List.getElem?_eq_some_iff.mp hj).1
    rw [rngN_len] at this
    exact this
  rw [rngN_at hj'] at hj
  obtain rfl := Option.some.inj hj
  exact k i j hi' hj'
theorem len_mrows {h w : Nat} {f : Nat → Nat → Int} : ∀ r ∈ mrows h w f, r.length = w := by
  intro r hr
  obtain ⟨i, hi⟩ := List.mem_iff_getElem?.mp hr
  have hi' : i < h := by
    have := (List.getElem?_eq_some_iff.mp hi).1
    rw [mrows_len] at this
    exact this
  rw [mrows_at hi'] at hi
  obtain rfl := Option.some.inj hi
  exact rngN_len _ _
theorem ok_mstr {f C : Addr} {fd : FuncData} (TT : Txt mg) (T : MaT K mg C) (F : Fun K "__str__" "Matrix.__str__" s_mstr f fd) : FnOk P w K mg base CX0 1 f fd ["self"] (spMstr C) := by
  refine F.ok sc_mstr (fun vs H Q E h => ?_) (fun cdv A outer s H vs Q E hr h => ?_)
  · obtain ⟨a, h, w, f, rfl, _⟩ := h
    rfl
  · obtain ⟨a, h, w, g, rfl, m, hb, q⟩ := h
    obtain ⟨dx, t, us, o1, o2, o3, o4⟩ := m.ob
    have h2 := m.h2
    have w2 := m.w2
    refine ⟨_, (pss_one (ps_ret (pe_join pe_str (pe_lc (own := [("row", 2)]) (g := (gName 2)) (tt := tYes) rfl sc_mstr.nd (pi_tup (pe_fld (pv 0) rfl)) (blkOk_by (N := ["self", "n", "row"]) (sc := defScope s_mstr) (by decide +kernel)) (fun _ _ _ _ _ => (pg_name (i := 2) sc_mstr.nd rfl (Or.inl rfl))) (fun _ _ _ _ _ => pts_nil) (fun _ _ _ _ _ => (pe_joinK (K := K) rfl pe_str (pe_lc (own := [("n", 1)]) (g := (gName 1)) (tt := tYes) rfl sc_mstr.nd (pi_tupK (K := K) rfl (pv 2)) (blkOk_by (N := ["self", "n", "row"]) (sc := ({ kind := .function, names := [(".0", .local), ("row", .local)], isGenerator := false, isCoroutine := false, more := [] } : Scope)) (by decide +kernel)) (fun _ _ _ _ _ => (pg_name (i := 1) sc_mstr.nd rfl (Or.inl rfl))) (fun _ _ _ _ _ => pts_nil) (fun _ _ _ _ _ => (pe_callTy call_str_int (by rfl) TT.str boot_str (pa_cons (pv 1) pa_nil)))))))))), ?_⟩
    refine ⟨⟨_, rfl⟩, _, rfl, a, C, dx, _, _, rfl, o1, T.cl, T.nR, maF_r _ _ _, t, rfl, ⟨_, SqT.of o2⟩, fun D nD => lcMap walk_tup (((mrows h w g).map fun r => Txt.join " " (r.map numT)).map V.str) (by rw [List.length_map, List.length_map, mrows_len, o3]) nD (fun H s => SqT.of (s _ _ o2)) ?_ ?_⟩
    · rintro i x H2 _ hi s2 hL ⟨rfl, hx⟩
      rw [o3] at hi
      obtain ⟨q1, e1, hq1⟩ := o4 i hi
      obtain rfl := Option.some.inj (hx.symm.trans e1)
      refine ⟨rfl, ⟨_, rfl⟩, _, rfl, q1, rfl, ⟨_, SqT.of (s2 _ _ hq1)⟩, fun D2 nD2 => lcMap walk_tup (((rngN w (g i)).map numT).map V.str) (by rw [List.length_map, List.length_map, List.length_map]) nD2 (fun H s => SqT.of (s _ _ (s2 _ _ hq1))) ?_ ?_⟩
      · rintro k y H3 _ hk s3 hL2 ⟨rfl, hy⟩
        rw [List.length_map, rngN_len] at hk
        obtain ⟨z, rfl, hz⟩ := item_int hy
        rw [rngN_at hk] at hz
        obtain rfl := Option.some.inj hz
        refine ⟨rfl, _, rfl, _, rfl, hb i k hi hk, ?_⟩
        exact mapEnd nD2 (by rw [List.length_map, List.length_map, rngN_len]; omega) s3 hL2 (map_at (f := V.str) (by rw [List.getElem?_map, rngN_at hk] <;> rfl))
      · intro H3 s3 hL2
        refine ⟨_, D2, (rngN w (g i)).map numT, rfl, rfl, .inl (SqL.of hL2), texts_fit (fun z hz => ?_) (by rw [rngN_len]; omega), ?_⟩
        · exact mem_mrows (p := fun z => z.natAbs.log2 < 1920) hb _ (List.mem_of_getElem? (mrows_at hi)) z hz
        exact mapEnd nD (by rw [List.length_map, List.length_map, mrows_len]; omega) (s2.trans s3) (s3 _ _ hL) (map_at (f := V.str) (by rw [List.getElem?_map, mrows_at hi] <;> rfl))
    · intro H2 s2 hL
      exact ⟨_, D, _, rfl, rfl, .inl (SqL.of hL), rows_fit (mem_mrows (p := fun z => z.natAbs.log2 < 1920) hb) (fun r hr => by rw [len_mrows r hr]; exact w2) (by rw [mrows_len]; exact h2), q H2 s2⟩
-- part lisiw
/-! the law on texts of matrices: words -/
def lawW (cs : List Nat) : Bool := ((!(unsign cs).isEmpty && decide ((unsign cs).length ≤ 30)) && (unsign cs).all dg) && (decide (cs = [48]) || !decide ((unsign cs).head? = some 48))
theorem lawW_eq (cs : List Nat) : lawW cs = intC cs := by
  unfold lawW intC numC unsign
  by_cases c : cs.head? = some 45
  · rw [if_pos c]
    obtain ⟨ds, rfl⟩ : ∃ ds, cs = 45 :: ds := by
      cases cs with
      | nil => cases c
      | cons d ds => exact ⟨ds, by rw [Option.some.inj c]⟩
    rw [List.tail_cons, decide_eq_false (show ¬ (45 :: ds = [48]) from fun e => by cases e)]
    by_cases d : ds = [48]
    · subst d
      rfl
    · rw [decide_eq_false d, decide_eq_false (show ¬ (45 :: ds = [45, 48]) from fun e => d (List.cons.inj e).2)]
      simp only [Bool.not_false, Bool.true_and, Bool.false_or]
      cases ds.isEmpty <;> cases decide (ds.length ≤ 30) <;> cases ds.all dg <;> simp
  · rw [if_neg c, decide_eq_false (show ¬ cs = [45, 48] from fun e => c (by rw [e]; rfl))]
    simp only [Bool.not_false, Bool.true_and]
    cases cs.isEmpty <;> cases decide (cs.length ≤ 30) <;> cases cs.all dg <;> simp
theorem tl_cut1 (z : Str) : TL.tl (cutS z none (some 1)) = (TL.tl z).take 1 := by
  unfold cutS
  rw [TL.tl_mk]
  have e : HT.sIx z.length z.length (some 1) = min 1 z.length := HT.sIx_nat z.length z.length 1
  rw [e, HT.sIx_none, List.drop_zero, Nat.sub_zero, str_len]
  by_cases c : 1 ≤ (TL.tl z).length
  · rw [Nat.min_eq_left c]
  · rw [Nat.min_eq_right (by omega), List.take_length, List.take_of_length_le (by omega)]
theorem tl_cut2 (z : Str) : TL.tl (cutS z (some 1) none) = (TL.tl z).tail := by
  unfold cutS
  rw [TL.tl_mk]
  have e : HT.sIx z.length 0 (some 1) = min 1 z.length := HT.sIx_nat z.length 0 1
  rw [e, HT.sIx_none, str_len]
  show List.take _ ((TL.tl z).drop _) = _
  cases TL.tl z with
  | nil => rfl
  | cons c cs =>
    rw [List.length_cons, Nat.min_eq_left (by omega), List.drop_one, List.tail_cons, List.take_of_length_le (by omega)]
theorem digs_iff (c : Nat) : decide (c ∈ ("0123456789" : Str).cps.toList) = dg c := by
  have e : ("0123456789" : Str).cps.toList = [48, 49, 50, 51, 52, 53, 54, 55, 56, 57] := by decide +kernel
  rw [e]
  unfold dg
  by_cases h : 48 ≤ c ∧ c ≤ 57
  · rw [decide_eq_true h.1, decide_eq_true h.2]
    refine decide_eq_true ?_
    have : c = 48 ∨ c = 49 ∨ c = 50 ∨ c = 51 ∨ c = 52 ∨ c = 53 ∨ c = 54 ∨ c = 55 ∨ c = 56 ∨ c = 57 := by omega
    simpa using this
  · rw [decide_eq_false (fun hm => h (by simp only [List.mem_cons, List.not_mem_nil, or_false] at hm; omega))]
    by_cases h1 : 48 ≤ c
    · rw [decide_eq_false (show ¬ c ≤ 57 from fun h2 => h ⟨h1, h2⟩), Bool.and_false]
    · rw [decide_eq_false h1, Bool.false_and]
theorem sign_eqT (c : Nat) : decide ((⟨#[c]⟩ : Str) = "0") = decide (some c = some 48) := by
  rw [dec_str tl_lit0]
  show decide ([c] = [48]) = _
  by_cases h : c = 48
  · rw [h]
    rfl
  · rw [decide_eq_false (fun e => h (List.cons.inj e).1), decide_eq_false fun e => h (Option.some.inj e)]
abbrev s_lisiw : Stmt := top 21
theorem sc_lisiw : FnScope ["_law_word", "_law_digits", "_law_letter"] ["_law_word"] (defScope s_lisiw) := ⟨rfl, rfl, rfl, by decide +kernel, rfl, by decide +kernel, by decide +kernel⟩
def spLisW : Sp := fun vs H Q _ => ∃ z : Str, vs = [.str z] ∧ z.length ≤ 6000 ∧ ∀ H', Same H H' → Q (.bl (intC (TL.tl z))) H'
theorem ok_lisiw {f : Addr} {fd : FuncData} (T : Txt mg) (n_all : mg "all" = none) (F : Fun K "_law_is_integer_word" "_law_is_integer_word" s_lisiw f fd) : FnOk P w K mg base CX0 1 f fd ["_law_word"] spLisW := by
  refine F.ok sc_lisiw (fun vs H Q E h => ?_) (fun cdv A outer s H vs Q E hr h => ?_)
  · obtain ⟨z, rfl, _⟩ := h
    rfl
  · obtain ⟨z, rfl, hz, q⟩ := h
    have zs : z.length ≤ sizeLine := by rw [sizeLine_eq]; omega
    refine ⟨_, (pss_cons (ps_set (i := 1) sc_lisiw.nd rfl (Or.inl rfl) (pv 0))
 (Evl.pss_cut (ps_if (pt_cmpR op_eq (pe_slice sl_str (pv 0) po_none (po_some pe_int)) pe_str (nomark _)) (pss_one (ps_set (i := 1) sc_lisiw.nd rfl (Or.inl rfl) (pe_slice sl_str (pv 0) (po_some pe_int) po_none))) pss_nil)
 (Evl.pss_cut (ps_if (pw_or (pt_cmpR op_eq (pv 1) pe_str (nomark _)) (pw_or1 (pt_cmpR op_gt (pe_callB call_len_str (by rfl) T.len PySem.boot_len (pa_cons (pv 1) pa_nil)) pe_int (nomark _)))).pt (pss_one (ps_ret pe_bl)) pss_nil)
 (Evl.pss_cut (ps_if (pt_not (pt_val (pe_callB (cr_all rfl) (by rfl) n_all (by decide +kernel) (pa_cons (pe_lc (own := [("_law_letter", 2)]) (g := (gName 2)) (tt := tYes) rfl sc_lisiw.nd (pi_str (pv 1)) (blkOk_by (N := ["_law_word", "_law_digits", "_law_letter"]) (sc := defScope s_lisiw) (by decide +kernel)) (fun _ _ _ _ _ => (pg_name (i := 2) sc_lisiw.nd rfl (Or.inl rfl))) (fun _ _ _ _ _ => pts_nil) (fun _ _ _ _ _ => (pe_cmpR op_in_sign (pv 2) pe_str (by with_unfolding_all rfl)))) pa_nil)))) (pss_one (ps_ret pe_bl)) pss_nil)
 (pss_one (ps_ret (pe_or (pe_cmpR op_ne (pe_ix ix_str (pv 1) pe_int (fun _ _ => rfl)) pe_str (nomark _)) (pe_one (pe_cmpR op_eq (pv 0) pe_str (nomark _)))))))))), ?_⟩
    refine ⟨_, rfl, ?_⟩
    -- the sign
    refine ⟨fun σ H' => H = H' ∧ ∃ d : Str, TL.tl d = unsign (TL.tl z) ∧ σ = [some (.str z), some (.str d), none], ?_, ?_⟩
    · refine ⟨_, rfl, 1, rfl, z, rfl, zs, rfl, _, rfl, ?_⟩
      rw [str_eq, dec_str tl_litm, tl_cut1]
      unfold unsign
      by_cases c : (TL.tl z).head? = some 45
      · have e : (TL.tl z).take 1 = [45] := by
          cases h : TL.tl z with
          | nil => rw [h] at c; cases c
          | cons x xs => rw [h] at c; rw [Option.some.inj c]; rfl
        refine if_pos_of (decide_eq_true e) ?_
        refine ⟨_, rfl, 1, rfl, z, rfl, zs, rfl, _, ?_, rfl⟩
        rw [tl_cut2, if_pos c]
      · have e : ¬ (TL.tl z).take 1 = [45] := fun e => c (by
          cases h : TL.tl z with
          | nil => rw [h] at e; cases e
          | cons x xs => rw [h] at e; rw [(List.cons.inj e).1]; rfl)
        refine if_neg_of (decide_eq_false e) ⟨rfl, _, ?_, rfl⟩
        rw [if_neg c]
    rintro σ _ ⟨rfl, d, hd, rfl⟩
    have dl : d.length ≤ 6000 := by
      rw [str_len, hd]
      have := str_len z
      unfold unsign
      split
      · rw [List.length_tail]
        omega
      · omega
    have dls : d.length ≤ sizeLine := by rw [sizeLine_eq]; omega
    rw [← lawW_eq] at q
    unfold lawW at q
    rw [← hd] at q
    -- length
    refine ⟨fun σ H' => H = H' ∧ (!(TL.tl d).isEmpty && decide ((TL.tl d).length ≤ 30)) = true ∧ σ = [some (.str z), some (.str d), none], ?_, ?_⟩
    · refine ⟨_, rfl, rfl, _, rfl, ?_⟩
      rw [str_eq, dec_str (show TL.tl ("" : Str) = [] by decide +kernel)]
      by_cases c1 : TL.tl d = []
      · refine if_pos_of (decide_eq_true c1) ?_
        refine if_pos_of rfl ?_
        rw [c1] at q
        exact q H (Same.refl _)
      refine if_neg_of (decide_eq_false c1) ?_
      have e1 : (TL.tl d).isEmpty = false := by
        cases h : TL.tl d with
        | nil => exact absurd h c1
        | cons x xs => rfl
      rw [e1, Bool.not_false, Bool.true_and] at q
      refine ⟨_, rfl, _, rfl, dls, _, _, rfl, rfl, _, rfl, ?_⟩
      by_cases c2 : (TL.tl d).length ≤ 30
      · refine if_neg_of (decide_eq_false (by rw [str_len]; omega)) ?_
        exact ⟨rfl, by rw [e1, decide_eq_true c2]; rfl, rfl⟩
      · refine if_pos_of (decide_eq_true (by rw [str_len]; omega)) ?_
        rw [decide_eq_false c2, Bool.false_and, Bool.false_and] at q
        exact q H (Same.refl _)
    rintro σ _ ⟨rfl, e1, rfl⟩
    rw [e1, Bool.true_and] at q
    -- the digits
    refine ⟨fun σ H' => Same H H' ∧ (TL.tl d).all dg = true ∧ ∃ x2, σ = [some (.str z), some (.str d), x2], ?_, ?_⟩
    · refine ⟨_, rfl, d, rfl, fun D nD => lcMap walk_str (((TL.tl d).map dg).map V.bl) (by rw [List.length_map, List.length_map]; exact Array.length_toList) nD (fun _ _ => trivial) ?_ ?_⟩
      · rintro i x H3 H4 hi s3 hD3 ⟨rfl, c, hc, rfl⟩
        have hc' : (TL.tl d)[i]? = some c := by
          show d.cps.toList[i]? = some c
          rw [Array.getElem?_toList]
          exact hc
        refine ⟨rfl, _, rfl, c, _, rfl, rfl, ?_⟩
        rw [digs_iff]
        simp only [Bool.and_eq_true, decide_eq_true_eq] at e1
        exact mapEnd nD (by rw [List.length_map, List.length_map]; omega) s3 hD3 (map_at (f := V.bl) (by rw [List.getElem?_map, hc'] <;> rfl))
      · intro H3 s3 hD3
        refine ⟨D, _, rfl, SqL.of hD3, _, rfl, ?_⟩
        have ea : (((TL.tl d).map dg).all id) = (TL.tl d).all dg := by
          rw [List.all_map]
          rfl
        rw [ea]
        cases e : (TL.tl d).all dg with
        | false =>
          rw [e, Bool.false_and] at q
          exact if_pos_of rfl (q H3 s3)
        | true => exact if_neg_of rfl ⟨s3, rfl, _, rfl⟩
    rintro σ H3 ⟨s3, e2, x2, rfl⟩
    rw [e2, Bool.true_and] at q
    have q := q H3 s3
    have ne : TL.tl d ≠ [] := fun e => by rw [e] at e1; cases e1
    obtain ⟨c, r, hcr⟩ : ∃ c r, TL.tl d = c :: r := by
      cases h : TL.tl d with
      | nil => exact absurd h ne
      | cons x xs => exact ⟨x, xs, rfl⟩
    rw [hcr] at q
    refine ⟨_, rfl, d, _, c, rfl, rfl, dls, ?_, rfl, _, rfl, ?_⟩
    · show atI (TL.tl d) 0 = some c
      rw [hcr]
      exact atI_nat (j := 0) rfl
    rw [str_eq, sign_eqT]
    by_cases c4 : c = 48
    · refine if_neg_of (by rw [c4]; rfl) ?_
      refine ⟨_, rfl, rfl, ?_⟩
      rw [str_eq, dec_str tl_lit0]
      rw [show (decide ((c :: r).head? = some 48)) = true from decide_eq_true (by rw [c4]; rfl), Bool.not_true, Bool.or_false] at q
      exact q
    · have c5 : ¬ (some c = some 48) := fun e => c4 (Option.some.inj e)
      refine if_pos_of (by rw [decide_eq_false c5]; rfl) ?_
      rw [show (decide ((c :: r).head? = some 48)) = false from decide_eq_false c5, Bool.not_false, Bool.or_true] at q
      exact q
-- part mdue
/-- what is told, as data -/
def rowL (r : List Int) : PyData := .list (r.map PyData.int)
theorem dpAll_rowsL {H : Hp} : ∀ (vs : List V) (rs : List (List Int)), vs.length = rs.length → (∀ (i : Nat) (v : V) (r : List Int), vs[i]? = some v → rs[i]? = some r → ∃ q, v = .ref q ∧ H q = some (.lst (r.map V.int))) → DpAll K H vs (rs.map rowL)
  | [], [], _, _ => .nil
  | [], _ :: _, h, _ => by cases h
  | _ :: _, [], h, _ => by cases h
  | v :: vs, r :: rs, hl, h => by
    obtain ⟨q, rfl, hq⟩ := h 0 v r rfl rfl
    exact .cons (dp_lst (SqL.of hq)) (dpAll_rowsL vs rs (Nat.succ.inj hl) fun i v r hv hr => h (i + 1) v r hv hr)
theorem canLay_rowsL : ∀ l : List (List Int), PyData.canLayAll0 (l.map rowL) = true
  | [] => by rw [List.map_nil, PyData.canLayAll0]
  | a :: l => by rw [List.map_cons, PyData.canLayAll0, canLay_rowsL l, show rowL a = .list (a.map PyData.int) from rfl, PyData.canLay0, canLay_ints]; rfl
theorem depth_rowsL : ∀ l : List (List Int), PyData.depthAll (l.map rowL) ≤ 1
  | [] => by rw [List.map_nil, PyData.depthAll]; exact Nat.zero_le 1
  | a :: l => by
    rw [List.map_cons, PyData.depthAll, show rowL a = .list (a.map PyData.int) from rfl, PyData.depth, depth_ints]
    exact Nat.max_le.mpr ⟨Nat.le_refl 1, depth_rowsL l⟩
def omD : OM → PyData
  | .at n => .list [.str "at", .int (n : Int)]
  | .row n => .list [.str "row", .int (n : Int)]
  | .mat rs => .list [.str "matrix", .list (rs.map rowL)]
theorem omD_ok (o : OM) : SeqAt.shaped (omD o) = true := by
  have a : PyData.strOk "at" = true := by decide +kernel
  have b : PyData.strOk "row" = true := by decide +kernel
  have c : PyData.strOk "matrix" = true := by decide +kernel
  cases o with
  | «at» n => simp [omD, SeqAt.shaped, PyData.canLay0, PyData.canLayAll0, PyData.depth, PyData.depthAll, a]
  | row n => simp [omD, SeqAt.shaped, PyData.canLay0, PyData.canLayAll0, PyData.depth, PyData.depthAll, b]
  | mat rs =>
    have d := depth_rowsL rs
    unfold omD SeqAt.shaped
    rw [PyData.canLay0, PyData.canLayAll0, PyData.canLayAll0, PyData.canLayAll0, PyData.canLay0, PyData.canLay0, canLay_rowsL, c, PyData.depth, PyData.depthAll, PyData.depthAll, PyData.depthAll, PyData.depth, PyData.depth]
    simp only [Bool.true_and, Bool.and_true, decide_eq_true_eq]
    omega
theorem omD_refl (o : OM) : PyData.eqv (omD o) (omD o) = true := SeqAt.eqv_refl _ (Bool.and_eq_true_iff.mp (omD_ok o)).1
/-- rows of ints at an address, each a list of its own -/
def RowsL (H : Hp) (D : Addr) (R : List (List Int)) : Prop := ∃ vs : List V, H D = some (.lst vs) ∧ vs.length = R.length ∧ ∀ (i : Nat) (r : List Int), R[i]? = some r → ∃ q, vs[i]? = some (.ref q) ∧ H q = some (.lst (r.map V.int)) ∧ q ≠ D
theorem RowsL.same {H H' : Hp} {D : Addr} {R : List (List Int)} (h : RowsL H D R) (s : Same H H') : RowsL H' D R := by
  obtain ⟨vs, a, b, c⟩ := h
  exact ⟨vs, s _ _ a, b, fun i r hr => by
    obtain ⟨q, c1, c2, c3⟩ := c i r hr
    exact ⟨q, c1, s _ _ c2, c3⟩⟩
theorem RowsL.dp {H : Hp} {D : Addr} {R : List (List Int)} (h : RowsL H D R) : Dp K H (.ref D) (.list (R.map rowL)) := by
  obtain ⟨vs, a, b, c⟩ := h
  refine .lst (SqL.of a) (dpAll_rowsL vs R b fun i v r hv hr => ?_)
  obtain ⟨q, c1, c2, _⟩ := c i r hr
  exact ⟨q, Option.some.inj (hv.symm.trans c1), c2⟩
theorem RowsL.put {H H' : Hp} {D n : Addr} {A : List (List Int)} {c c' : List Int} {vs : List V} (h : RowsL H D (A ++ [c])) (s : ∀ b o, b ≠ D → H b = some o → H' b = some o) (hD : H D = some (.lst vs)) (hD' : H' D = some (.lst (vs.set (vs.length - 1) (.ref n)))) (hn : H' n = some (.lst (c'.map V.int))) (nD : n ≠ D) : RowsL H' D (A ++ [c']) := by
  obtain ⟨vs', a, b, k⟩ := h
  rw [hD] at a
  cases a
  rw [List.length_append, List.length_singleton] at b
  refine ⟨_, hD', by rw [List.length_set, b, List.length_append]; rfl, fun i r hr => ?_⟩
  by_cases e : i < A.length
  · rw [List.getElem?_append_left e] at hr
    obtain ⟨q, k1, k2, k3⟩ := k i r (by rw [List.getElem?_append_left e]; exact hr)
    exact ⟨q, by rw [List.getElem?_set_ne (by omega)]; exact k1, s _ _ k3 k2, k3⟩
  · have hi := (List.getElem?_eq_some_iff.mp hr).1
    rw [List.length_append, List.length_singleton] at hi
    have ei : i = A.length := by omega
    subst ei
    rw [List.getElem?_append_right (Nat.le_refl _), Nat.sub_self] at hr
    cases hr
    exact ⟨n, by rw [b, Nat.add_sub_cancel, List.getElem?_set_self (by omega)], hn, nD⟩
theorem RowsL.app {H H' : Hp} {D n : Addr} {R : List (List Int)} {c : List Int} {vs : List V} (h : RowsL H D R) (s : ∀ b o, b ≠ D → H b = some o → H' b = some o) (hD : H D = some (.lst vs)) (hD' : H' D = some (.lst (vs ++ [.ref n]))) (hn : H' n = some (.lst (c.map V.int))) (nD : n ≠ D) : RowsL H' D (R ++ [c]) := by
  obtain ⟨vs', a, b, k⟩ := h
  rw [hD] at a
  cases a
  refine ⟨_, hD', by rw [List.length_append, b, List.length_append]; rfl, fun i r hr => ?_⟩
  by_cases e : i < R.length
  · rw [List.getElem?_append_left e] at hr
    obtain ⟨q, k1, k2, k3⟩ := k i r hr
    exact ⟨q, by rw [List.getElem?_append_left (by omega)]; exact k1, s _ _ k3 k2, k3⟩
  · have hi := (List.getElem?_eq_some_iff.mp hr).1
    rw [List.length_append, List.length_singleton] at hi
    have ei : i = R.length := by omega
    subst ei
    rw [List.getElem?_append_right (Nat.le_refl _), Nat.sub_self] at hr
    cases hr
    exact ⟨n, by rw [List.getElem?_append_right (by omega), b, Nat.sub_self]; rfl, hn, nD⟩
theorem tl_cutm1 (z : Str) : TL.tl (cutS z (some (-1)) none) = (TL.tl z).drop ((TL.tl z).length - 1) := by
  unfold cutS
  rw [TL.tl_mk]
  have e : HT.sIx z.length 0 (some (-1)) = z.length - 1 := by
    show (if (-1 : Int) < 0 then (-1 + (z.length : Int)).toNat else min (-1 : Int).toNat z.length) = z.length - 1
    rw [if_pos (by decide)]
    omega
  rw [e, HT.sIx_none, str_len]
  exact List.take_of_length_le (by rw [List.length_drop]; show _ ≤ _; exact Nat.le_refl _)
theorem tl_cutm2 (z : Str) : TL.tl (cutS z none (some (-1))) = (TL.tl z).dropLast := by
  unfold cutS
  rw [TL.tl_mk]
  have e : HT.sIx z.length z.length (some (-1)) = z.length - 1 := by
    show (if (-1 : Int) < 0 then (-1 + (z.length : Int)).toNat else min (-1 : Int).toNat z.length) = z.length - 1
    rw [if_pos (by decide)]
    omega
  rw [e, HT.sIx_none, List.drop_zero, Nat.sub_zero, str_len, List.dropLast_eq_take]
theorem end_dec (z : Str) : decide (cutS z (some (-1)) none = ";") = endC (TL.tl z) := by
  rw [dec_str tl_semi, tl_cutm1]
  unfold endC
  generalize TL.tl z = cs
  rcases List.eq_nil_or_concat cs with rfl | ⟨ds, c, rfl⟩
  · rfl
  · rw [List.concat_eq_append, List.length_append, List.length_singleton, Nat.add_sub_cancel, List.drop_left, List.getLast?_append]
    by_cases h : c = 59
    · subst h
      simp
    · simp [h]
theorem base_cut (z : Str) (h : endC (TL.tl z) = true) : cutS z none (some (-1)) = baseW z := TL.ext_tl (by
  rw [tl_cutm2, tl_suffix]
  unfold baseC
  rw [if_pos h])
theorem base_same (z : Str) (h : endC (TL.tl z) = false) : z = baseW z := TL.ext_tl (by rw [tl_base' z h])
theorem ixL {n : Nat} (hn : 0 < n) : ixN n (-1 : Int) = some (n - 1) := by
  unfold ixN
  rw [if_neg (by decide), if_pos (by omega)]
  congr 1
  omega
theorem rowsW_snoc (L : List Str) (z : Str) : rowsW (L ++ [z]) = if endC (TL.tl z) = true then ((gst L).1 ++ [(gst L).2 ++ [baseW z]]).map (fun r => r.map valW) ++ [[]] else ((gst L).1 ++ [(gst L).2 ++ [baseW z]]).map (fun r => r.map valW) := by
  unfold rowsW
  rw [gst_snoc]
  unfold gstep
  by_cases c : endC (TL.tl z) = true
  · rw [if_pos c, if_pos c]
    simp
  · rw [if_neg c, if_neg c]
abbrev s_ldue : Stmt := top 22
theorem sc_ldue : FnScope ["_law_words", "_law_rows", "_law_at", "_law_word", "_law_ended"] ["_law_words"] (defScope s_ldue) := ⟨rfl, rfl, rfl, by decide +kernel, rfl, by decide +kernel, by decide +kernel⟩
def spLdue (K : PySem.W.Frag) : Sp := fun vs H Q _ => ∃ (a : Addr) (L : List Str), vs = [.ref a] ∧ H a = some (.lst (L.map V.str)) ∧ Ws L ∧ ∀ o r H', OmR L o → Dp K H' (.ref r) (omD o) → Same H H' → Q (.ref r) H'
theorem ok_ldue {f : Addr} {fd : FuncData} (T : Txt mg) (F : Fun K "_law_due" "_law_due" s_ldue f fd) (c_lis : Cl P w K mg base CX0 1 "_law_is_integer_word" spLisW) : FnOk P w K mg base CX0 2 f fd ["_law_words"] (spLdue K) := by
  refine F.ok sc_ldue (fun vs H Q E h => ?_) (fun cdv A outer s H vs Q E hr h => ?_)
  · obtain ⟨a, L, rfl, _⟩ := h
    rfl
  · obtain ⟨a, L, rfl, ha, ws, q⟩ := h
    have few := ws.few
    have pos : 0 < L.length := List.length_pos_iff.mpr ws.ne
    refine ⟨_, (pss_cons (ps_set (i := 1) sc_ldue.nd rfl (Or.inl rfl) (pe_lst (pa_cons (pe_lst pa_nil) pa_nil)))
 (Evl.pss_cut (ps_for PassesOwn.never rfl (pi_range1 rfl T.range (pa_cons (pe_callB call_len_seq (by rfl) T.len PySem.boot_len (pa_cons (pv 0) pa_nil)) pa_nil)) (pg_name (i := 2) sc_ldue.nd rfl (Or.inl rfl)) (pss_cons (ps_set (i := 3) sc_ldue.nd rfl (Or.inl rfl) (pe_ix ix_list (pv 0) (pv 2) (fun _ _ => rfl)))
 (pss_cons (ps_set (i := 4) sc_ldue.nd rfl (Or.inl rfl) (pe_cmpR op_eq (pe_slice sl_str (pv 3) (po_some (pe_un un_neg pe_int)) po_none) pe_str (nomark _)))
 (Evl.pss_cut (ps_if (pt_val (pv 4)) (pss_one (ps_set (i := 3) sc_ldue.nd rfl (Or.inl rfl) (pe_slice sl_str (pv 3) po_none (po_some (pe_un un_neg pe_int))))) pss_nil)
 (pss_cons (ps_if (pt_not (pt_val (pe_cl c_lis hr (pa_cons (pv 3) pa_nil)))) (pss_one (ps_ret (pe_lst (pa_cons pe_str (pa_cons (pv 2) pa_nil))))) pss_nil)
 (Evl.pss_cut (ps_asg (pe_op op_cat (pe_ix ix_list (pv 1) (pe_un un_neg pe_int) (fun _ _ => rfl)) (pe_lst (pa_cons (pe_callTy call_int_str (by rfl) T.int boot_int (pa_cons (pv 3) pa_nil)) pa_nil))) (pg_sub (pv 1) (pe_un un_neg pe_int) set_list))
 (pss_one (ps_if (pt_val (pv 4)) (pss_one (ps_expr (pe_bm PySem.F.plainAttrs_list PySem.F.slot_list_append PySem.F.type_list_append mt_append (pv 1) (pa_cons (pe_lst pa_nil) pa_nil)))) pss_nil))))))))
 (Evl.pss_cut (ps_if (pt_cmpR (op_eqD (hu64 hr)) (pe_ix ix_list (pv 1) (pe_un un_neg pe_int) (fun _ _ => rfl)) (pe_lst pa_nil) (nomark _)) (pss_one (ps_ret (pe_lst (pa_cons pe_str (pa_cons (pe_callB call_len_seq (by rfl) T.len PySem.boot_len (pa_cons (pv 0) pa_nil)) pa_nil))))) pss_nil)
 (pss_cons (ps_for PassesOwn.never rfl (pi_range1 rfl T.range (pa_cons (pe_callB call_len_seq (by rfl) T.len PySem.boot_len (pa_cons (pv 1) pa_nil)) pa_nil)) (pg_name (i := 2) sc_ldue.nd rfl (Or.inl rfl)) (pss_one (ps_if (pt_cmpR op_ne (pe_callB call_len_seq (by rfl) T.len PySem.boot_len (pa_cons (pe_ix ix_list (pv 1) (pv 2) (fun _ _ => rfl)) pa_nil)) (pe_callB call_len_seq (by rfl) T.len PySem.boot_len (pa_cons (pe_ix ix_list (pv 1) pe_int (fun _ _ => rfl)) pa_nil)) (nomark _)) (pss_one (ps_ret (pe_lst (pa_cons pe_str (pa_cons (pv 2) pa_nil))))) pss_nil)))
 (pss_one (ps_ret (pe_lst (pa_cons pe_str (pa_cons (pv 1) pa_nil))))))))), ?_⟩
    refine ⟨(by show 0 ≤ sizeLine; decide), fun q0 nq0 => ⟨(by show 1 ≤ sizeLine; decide), fun D nD => ?_⟩⟩
    have k0 := same_upd (o := .lst []) nq0
    have k1 := same_upd (o := .lst [.ref q0]) nD
    have nD0 : H D = none := by
      cases e : H D with
      | none => rfl
      | some o => rw [k0 _ _ e] at nD; cases nD
    have q0D : q0 ≠ D := fun e => by rw [← e, upd_same] at nD; cases nD
    have R0 : RowsL (upd (upd H q0 (.lst [])) D (.lst [.ref q0])) D [[]] := ⟨[.ref q0], upd_same, rfl, fun i r hr => by
      match i, hr with
      | 0, hr =>
        cases hr
        exact ⟨q0, rfl, k1 _ _ upd_same, q0D⟩
      | i + 1, hr => cases hr⟩
    have s01 := k0.trans k1
    generalize upd (upd H q0 (.lst [])) D (.lst [.ref q0]) = H1 at R0 s01
    -- the words
    refine ⟨fun σ H' => Same H H' ∧ (∀ (j : Nat) (y : Str), L[j]? = some y → badW y = false) ∧ RowsL H' D (rowsW L) ∧ ∃ x2 x3 x4, σ = [some (.ref a), some (.ref D), x2, x3, x4], ?_, ?_⟩
    · refine ⟨_, rfl, a, _, rfl, .inl (SqL.of (s01 _ _ ha)), _, rfl, (by rw [List.length_map]; omega), (by rw [List.length_map]; omega), ?_⟩
      refine for_it (walk_range0 (n := (L.map V.str).length)) (fun i σ H' => Same H H' ∧ (∀ (j : Nat) (y : Str), j < i → L[j]? = some y → badW y = false) ∧ RowsL H' D (rowsW (L.take i)) ∧ ∃ x2 x3 x4, σ = [some (.ref a), some (.ref D), x2, x3, x4]) ⟨s01, fun j y h => absurd h (Nat.not_lt_zero j), R0, none, none, none, rfl⟩ (fun _ _ _ _ _ => trivial) ?_ ?_
      · rintro i x σ H2b H2 hi ⟨s2, yes, R, x2, x3, x4, rfl⟩ ⟨rfl, rfl⟩
        rw [List.length_map] at hi
        have hy : L[i]? = some L[i] := List.getElem?_eq_getElem hi
        generalize L[i] = y at hy
        have yl := ws.len y (List.mem_of_getElem? hy)
        have bl := base_len y
        have ys : y.length ≤ sizeLine := by rw [sizeLine_eq]; omega
        refine ⟨_, rfl, _, rfl, a, _, _, _, rfl, rfl, SqL.of (s2 _ _ ha), at_str hy, ?_⟩
        refine ⟨_, rfl, _, rfl, -1, rfl, y, rfl, ys, rfl, ?_⟩
        -- ended
        refine ⟨fun σ H' => H2 = H' ∧ σ = [some (.ref a), some (.ref D), some (.int (i : Int)), some (.str (baseW y)), some (.bl (endC (TL.tl y)))], ?_, ?_⟩
        · rw [str_eq, end_dec]
          refine ⟨_, rfl, _, rfl, ?_⟩
          cases c : endC (TL.tl y) with
          | true =>
            refine if_pos_of rfl ⟨_, rfl, _, rfl, -1, rfl, y, rfl, ys, rfl, ?_⟩
            rw [base_cut y c]
            rfl
          | false =>
            refine if_neg_of rfl ⟨rfl, ?_⟩
            rw [← base_same y c]
            rfl
        rintro σ _ ⟨rfl, rfl⟩
        have e1 : L.take (i + 1) = L.take i ++ [y] := by
          rw [List.take_add_one, hy]
          rfl
        refine ⟨_, rfl, baseW y, rfl, Nat.le_trans bl (by omega), fun H3 s3 => ⟨_, rfl, ?_⟩⟩
        have s23 := s2.trans s3
        cases e : intC (TL.tl (baseW y)) with
        | false =>
          refine if_pos_of rfl ⟨_, rfl, (by show 2 ≤ sizeLine; decide), fun r nr => ?_⟩
          exact q (.at i) r _ (.word hy (by unfold badW; rw [e]; rfl) yes) (.lst (SqL.of upd_same) (.cons (.str _) (.cons (.int _) .nil))) (s23.trans (same_upd nr))
        | true =>
          refine if_neg_of rfl ?_
          obtain ⟨r1, r2⟩ := int_reads e
          have R3 := R.same s3
          -- the row grows
          refine ⟨fun σ H' => Same H H' ∧ RowsL H' D (((gst (L.take i)).1 ++ [(gst (L.take i)).2 ++ [baseW y]]).map fun r => r.map valW) ∧ σ = [some (.ref a), some (.ref D), some (.int (i : Int)), some (.str (baseW y)), some (.bl (endC (TL.tl y)))], ?_, ?_⟩
          · unfold rowsW at R3
            rw [List.map_append, List.map_singleton] at R3
            obtain ⟨vs, hD, lv, hv⟩ := id R3
            rw [List.length_append, List.length_singleton] at lv
            obtain ⟨ql, v1, v2, v3⟩ := hv ((gst (L.take i)).1.map fun r => r.map valW).length _ (by rw [List.getElem?_append_right (Nat.le_refl _), Nat.sub_self]; rfl)
            have at_l : atI vs (-1) = some (.ref ql) := by
              unfold atI
              rw [ixL (by omega)]
              show vs[vs.length - 1]? = _
              rw [lv, Nat.add_sub_cancel]
              exact v1
            obtain ⟨f1, f2⟩ := gst_few _ (L.take i) rfl
            have f3 := f2 _ (List.mem_append_right _ (List.mem_singleton.mpr rfl))
            rw [List.length_take] at f1 f3
            refine ⟨_, rfl, _, rfl, D, vs, _, _, rfl, rfl, SqL.of hD, at_l, _, rfl, baseW y, _, rfl, r1, r2, (by show 1 ≤ sizeLine; decide), fun l nl => ?_⟩
            have kl := same_upd (o := .lst [.int (valW (baseW y))]) nl
            refine ⟨ql, l, _, _, rfl, rfl, kl _ _ v2, upd_same, (by rw [List.length_map, List.length_map, sizeLine_eq]; show _ + 1 ≤ _; omega), fun n nn => ?_⟩
            have kn := same_upd (o := .lst (((gst (L.take i)).2.map valW).map V.int ++ [.int (valW (baseW y))])) nn
            have kk := kl.trans kn
            refine ⟨_, rfl, _, rfl, D, vs, _, vs.length - 1, rfl, rfl, kk _ _ hD, ixL (by omega), ?_⟩
            have nD3 : n ≠ D := (ne_of_none (kl _ _ hD) nn).symm
            refine ⟨fun b o eb => ?_, ?_, rfl⟩
            · rw [upd_ne (ne_of_none eb nD0)]
              exact kk _ _ (s23 _ _ eb)
            · rw [List.map_append, List.map_singleton]
              refine R3.put (fun b o bD eb => ?_) hD upd_same (by rw [upd_ne nD3, upd_same, List.map_append, List.map_append]; rfl) nD3
              rw [upd_ne bD]
              exact kk _ _ eb
          rintro σ H4 ⟨s4, R4, rfl⟩
          refine ⟨_, rfl, _, rfl, ?_⟩
          have yes' : ∀ (j : Nat) (y' : Str), j < i + 1 → L[j]? = some y' → badW y' = false := fun j y' hj hy' => by
            by_cases c : j = i
            · rw [c, hy] at hy'
              rw [← Option.some.inj hy']
              unfold badW
              rw [e]
              rfl
            · exact yes j y' (by omega) hy'
          rw [e1, rowsW_snoc]
          cases c : endC (TL.tl y) with
          | false => exact if_neg_of rfl ⟨s4, yes', R4, _, _, _, rfl⟩
          | true =>
            obtain ⟨vs, hD, lv, hv⟩ := id R4
            obtain ⟨f1, f2⟩ := gst_few _ (L.take i) rfl
            rw [List.length_take] at f1
            refine if_pos_of rfl ⟨_, rfl, .inl ⟨rfl, _, SqL.of hD⟩, (by show 0 ≤ sizeLine; decide), fun D2 nD2 => ?_⟩
            have ne : D ≠ D2 := ne_of_none hD nD2
            have k2 := same_upd (o := .lst []) nD2
            refine ⟨D, vs, _, rfl, rfl, k2 _ _ hD, small1000 (by rw [lv, List.length_map, List.length_append, List.length_singleton]; omega), fun b o eb => ?_, yes', ?_, _, _, _, rfl⟩
            · rw [upd_ne (ne_of_none eb nD0)]
              exact k2 _ _ (s4 _ _ eb)
            · refine R4.app (c := []) (fun b o bD eb => ?_) hD upd_same (by rw [upd_ne ne.symm, upd_same]; rfl) ne.symm
              rw [upd_ne bD]
              exact k2 _ _ eb
      · rintro σ H2 ⟨s2, yes, R, x2, x3, x4, rfl⟩
        rw [List.length_map] at yes R
        rw [List.take_length] at R
        exact ⟨s2, fun j y hy => yes j y (List.getElem?_eq_some_iff.mp hy).1 hy, R, _, _, _, rfl⟩
    rintro σ H2 ⟨s2, yes, R, x2, x3, x4, rfl⟩
    have ha2 := s2 _ _ ha
    have rl := rowsW_len L
    obtain ⟨f1, f2⟩ := gst_few _ L rfl
    -- the last row
    refine ⟨fun σ H' => Same H H' ∧ ¬ (gst L).2 = [] ∧ RowsL H' D (rowsW L) ∧ σ = [some (.ref a), some (.ref D), x2, x3, x4], ?_, ?_⟩
    · obtain ⟨vs, hD, lv, hv⟩ := id R
      obtain ⟨ql, v1, v2, v3⟩ := hv (gst L).1.length ((gst L).2.map valW) (by unfold rowsW; rw [List.map_append, List.getElem?_append_right (by rw [List.length_map]; exact Nat.le_refl _), List.length_map, Nat.sub_self]; rfl)
      have at_l : atI vs (-1) = some (.ref ql) := by
        unfold atI
        rw [ixL (by omega)]
        show vs[vs.length - 1]? = _
        rw [lv, rl, Nat.add_sub_cancel]
        exact v1
      refine ⟨_, rfl, _, rfl, D, vs, _, _, rfl, rfl, SqL.of hD, at_l, (by show 0 ≤ sizeLine; decide), fun e ne => ?_⟩
      have ke := same_upd (o := .lst []) ne
      refine ⟨_, _, dp_lst (SqL.of (ke _ _ v2)), dp_lst (l := []) (SqL.of upd_same), shaped_ints _, shaped_ints _, _, rfl, ?_⟩
      rw [eqv_ints]
      by_cases c : (gst L).2 = []
      · refine if_pos_of (decide_eq_true (by rw [c]; rfl)) ?_
        refine ⟨_, rfl, a, _, rfl, .inl (SqL.of (ke _ _ ha2)), (by show 2 ≤ sizeLine; decide), fun r nr => ?_⟩
        rw [List.length_map]
        exact q (.at L.length) r _ (.last yes c) (.lst (SqL.of upd_same) (.cons (.str _) (.cons (.int _) .nil))) (s2.trans (ke.trans (same_upd nr)))
      · exact if_neg_of (decide_eq_false fun e => c (by simpa using e)) ⟨s2.trans ke, c, R.same ke, rfl⟩
    rintro σ H3 ⟨s3, open_, R3, rfl⟩
    have R3' := id R3
    obtain ⟨vs, hD, lv, hv⟩ := R3'
    have row_at : ∀ i, i < (rowsW L).length → ∃ q, vs[i]? = some (.ref q) ∧ H3 q = some (.lst (((rowsW L).getD i []).map V.int)) := fun i hi => by
      obtain ⟨q, k1, k2, _⟩ := hv i _ (atDr hi)
      exact ⟨q, k1, k2⟩
    obtain ⟨qz, z1, z2⟩ := row_at 0 (by omega)
    refine ⟨_, rfl, D, vs, rfl, .inl (SqL.of hD), _, rfl, by omega, by omega, ?_⟩
    refine for_it (walk_range0 (n := vs.length)) (fun i σ H' => H3 = H' ∧ (∀ j, j < i → lenAt (rowsW L) j = lenAt (rowsW L) 0) ∧ ∃ x2, σ = [some (.ref a), some (.ref D), x2, x3, x4]) ⟨rfl, fun j h => absurd h (Nat.not_lt_zero j), _, rfl⟩ (fun _ _ _ _ _ => trivial) ?_ ?_
    · rintro i x σ H5 H4 hi ⟨rfl, good, x2', rfl⟩ ⟨rfl, rfl⟩
      obtain ⟨qi, i1, i2⟩ := row_at i (by omega)
      refine ⟨_, rfl, _, rfl, D, vs, _, _, rfl, rfl, SqL.of hD, atI_nat i1, qi, _, rfl, .inl (SqL.of i2), _, rfl, D, vs, _, _, rfl, rfl, SqL.of hD, atI_nat (j := 0) z1, qz, _, rfl, .inl (SqL.of z2), rfl, _, rfl, ?_⟩
      rw [List.length_map, List.length_map]
      by_cases c : lenAt (rowsW L) i = lenAt (rowsW L) 0
      · have e : ((rowsW L).getD i []).length = ((rowsW L).getD 0 []).length := c
        refine if_neg_of (by rw [e]; simp) ⟨rfl, fun j hj => ?_, _, rfl⟩
        by_cases ej : j = i
        · rw [ej]
          exact c
        · exact good j (by omega)
      · have e : ¬ ((rowsW L).getD i []).length = ((rowsW L).getD 0 []).length := c
        refine if_pos_of (by simp only [Bool.not_eq_true', decide_eq_false_iff_not]; intro e2; exact e (by have := V.int.inj e2; omega)) ⟨_, rfl, (by show 2 ≤ sizeLine; decide), fun r nr => ?_⟩
        exact q (.row i) r _ (.row yes open_ (by omega) c good) (.lst (SqL.of upd_same) (.cons (.str _) (.cons (.int _) .nil))) (s3.trans (same_upd nr))
    · rintro σ H4 ⟨rfl, good, x2', rfl⟩
      refine ⟨_, rfl, (by show 2 ≤ sizeLine; decide), fun r nr => ?_⟩
      have kr := same_upd (o := .lst [.str "matrix", .ref D]) nr
      exact q (.mat (rowsW L)) r _ (.mat yes open_ fun j hj => good j (by omega)) (.lst (SqL.of upd_same) (.cons (.str _) (.cons (R3.same kr).dp .nil))) (s3.trans kr)
-- part tryas
/-! try .. except A as n: .. except B as m: .. (exceptions whose context is None) -/
/-- the suite's wish, its name's place filled before and emptied behind -/
def gone (i : Nat) (ts : Addr → Value → Option Addr → TS) : Addr → Value → Option Addr → TS := fun a cls d D σ H =>
  ts a cls d { nx := fun τ G => D.nx (τ.set i none) G, rt := D.rt, bk := fun τ G => D.bk (τ.set i none) G, ct := fun τ G => D.ct (τ.set i none) G } (σ.set i (some (.ref a))) H
abbrev Clauses := List (Value × (Addr → Value → Option Addr → TS))
inductive HAs (X : Cx) : List ExceptHandler → Clauses → Prop
  | none : HAs X [] []
  | more {x n : Str} {i : Nat} {c : Value} {ts : Addr → Value → Option Addr → TS} {b0 : Stmt} {bs : List Stmt} {q1 q2 : Pos} {rest : List ExceptHandler} {l : Clauses}
      (place : X.N[i]? = some n) (isLocal : X.env.kindOf n = some .local) (named : Names X x c)
      (su : ∀ (a : Addr) (oe : Obj) (cls : Value) (d : Option Addr) (pn : List (Addr × Obj)), L2N.Zn cls d oe → (∃ vs, oe.data = .fields vs) → PSs (X.suite a ((a, oe) :: pn)) (b0 :: bs) (ts a cls d)) (others : HAs X rest l) :
      HAs X (.ExceptHandler (some (.Name x q1)) (some n) (b0 :: bs) q2 :: rest) ((c, gone i ts) :: l)
  | plain {x : Str} {c : Value} {ts : Addr → Value → Option Addr → TS} {b0 : Stmt} {bs : List Stmt} {q1 q2 : Pos} {rest : List ExceptHandler} {l : Clauses}
      (named : Names X x c)
      (su : ∀ (a : Addr) (oe : Obj) (cls : Value) (d : Option Addr) (pn : List (Addr × Obj)), L2N.Zn cls d oe → (∃ vs, oe.data = .fields vs) → PSs (X.suite a ((a, oe) :: pn)) (b0 :: bs) (ts a cls d)) (others : HAs X rest l) :
      HAs X (.ExceptHandler (some (.Name x q1)) none (b0 :: bs) q2 :: rest) ((c, ts) :: l)
section
variable {X : Cx} {pins : List (Addr × Obj)} {D : Ends}
/-- the suite is over: the name is emptied -/
theorem suite_over {a : Addr} {oe : Obj} {i : Nat} {n : Str} {q : Pos} {τ : L2.St} {G : Hp} {t : Shared} {R : Shared → Prop} (ok : X.Ok) (J : Inv (X.suite a ((a, oe) :: (X.pn ++ pins))) [] τ G t) (nd : X.N.Nodup) (place : X.N[i]? = some n) (isLocal : X.env.kindOf n = some .local)
    (k : ∀ t', Inv X pins (τ.set i none) G t' → R t') : wpAny (model X.prog X.w) X.A (do bindName X.env n .none; unbindBehindTheSuite X.env n q) (fun _ t' => R t') X.xe t :=
  gone_ok (J.unsuite ok) nd place isLocal k
end
section
variable {X : Cx} {body : List Stmt} {first : ExceptHandler} {others : List ExceptHandler} {l : Clauses} {pos : Pos} {tb : WX → TS} {Wout : WX}
theorem ps_try_ms (stk : X.stack = X.env :: X.outer) (frm : X.env.frame = some X.env.locals) (nd : X.N.Nodup) (out : L2N.Takes X Wout)
    (bodies : ∀ (W : WX) (pn : List (Addr × Obj)) (xe : Value → Shared → Prop), L2N.Takes (X.tr pn xe) W → PassesOwn (model X.prog X.w) X.A X.env xe → PSs (X.tr pn xe) body (tb W))
    (cl : HAs X (first :: others) l) : PS X (.Try body (first :: others) [] [] pos) (fun D σ H => tb (wMany X.K Wout D l) D σ H) := by
  refine ⟨fun pins s σ H D I h => wpAny_Try_except ?_⟩
  have fits := I.ok
  have frames : X.A.frames = some (X.env :: X.outer) := by
    rw [fits.frames, stk]
  refine wpAny_mono ((bodies (wMany X.K Wout D l) (X.pn ++ pins) _ (fun u t flying => ?_) PassesOwn.looking).run [] s σ H D (I.toTry _) h) (fun f t went => ?_) (fun _ _ z => z)
  · -- it is caught here, or by none
    obtain ⟨a, B, t0, pins0, τ, G, cls, d, rfl, J0, old, up0, air, fresh, oss, bare, wish⟩ := flying
    have J : Inv X pins τ G t0 := J0.ofTry fits
    have air1 : Sky B (X.env :: X.outer) a (L2N.Zn cls d) X.env.locals t.heap := by
      rw [← stk]
      exact air
    show wpAny (model X.prog X.w) X.A (noteFrame (.ref a) X.env) _ _ _
    refine L2N.Sky.land L2N.Zn.steady frames frm air1 fun g held up1 => ?_
    have J1 : Inv X pins τ G { t with heap := g } := J.landed old held.1 (up0.trans up1) oss bare
    obtain ⟨o1, v1, at1, zn1, da1⟩ := held.there
    have apart : a ∉ frs (X.env :: X.outer) := fun hm => by
      obtain ⟨_, o2, e2, no⟩ := held.2.2.1.mem hm
      rw [at1] at e2
      cases e2
      exact no _ da1
    have notL : a ≠ X.env.locals := fun z => apart (List.mem_filterMap.mpr ⟨X.env, List.mem_cons_self, by rw [frm, z]⟩)
    have notF : a ∉ X.fs := fun hm => by
      obtain ⟨e, he, q⟩ := List.mem_filterMap.mp hm
      exact apart (List.mem_filterMap.mpr ⟨e, List.mem_cons_of_mem _ he, q⟩)
    have S1 := J1.suite at1 da1 fresh notL notF
    have go : ∀ {hs : List ExceptHandler} {ws : Clauses}, HAs X hs ws → wMany X.K Wout D ws cls d τ G → wpAny (model X.prog X.w) X.A (handleBy (.ref a) X.env hs) (SP X pins D) X.xe { t with heap := g } := by
      intro hs ws hk
      induction hk with
      | none =>
        intro wish
        refine wpAny_handleBy_nil ?_
        obtain ⟨_, _, _, o2, v2, T, oT, tv, e2, _, d2, one, _⟩ := id held
        unfold PySem.passOn
        refine wpAny_bind (wpAny_field e2 d2 one ?_)
        rw [if_neg (show ¬ ((Value.ref T == Value.none) = true) by simp)]
        have on : wpAny (model X.prog X.w) X.A (setFlight (.ref a) X.env.frame) (fun _ t4 => wpAny (model X.prog X.w) X.A (throw (.ref a) : Sem Flow) (SP X pins D) X.xe t4) X.xe { t with heap := g } := by
          rw [frm]
          exact HandSPX.setFlight_upZ held fun g4 fl4 up4 => wpAny_throw (out _ _ ⟨a, B, t0, pins, τ, G, cls, d, rfl, J, old, (up0.trans up1).trans up4, .inr (.inr (by rw [stk]; exact fl4)), fresh, oss, bare, wish⟩)
        first
          | exact wpAny_bind (wpAny_pure (wpAny_bind on))
          | exact wpAny_bind on
      | @more x n i c ts b0 bs q1 q2 rest l2 place isLocal named su more ih =>
        intro wish
        obtain ⟨b, says, yes, no⟩ := wish
        refine wpAny_handleBy_cons (codeAny_handlers_test ?_) (fun z => nomatch z)
        have kind : PySem.W.Looks (model X.prog X.w) g (typeOf (.ref a)) cls := fun _ _ _ _ keep q => wpAny_typeOf_ref (keep _ _ at1) (by rw [zn1.1]; exact q)
        have asks := PySem.W.exm_one (M := model X.prog X.w) J1.kIn kind says
        have read : ∀ {Q R : Value → Shared → Prop}, Q c { t with heap := g } → wpAny (model X.prog X.w) (X.A.mark (some (.ref a))) (eval (.Name x q1) X.env) Q R { t with heap := g } := fun {Q R} q => by
          obtain ⟨gl, db, own | ⟨m0, bv, nn⟩⟩ := named
          · exact ld_glob (X := X.suite a ((a, o1) :: (X.pn ++ pins))) S1 gl own q db
          · exact ld_blt (X := X.suite a ((a, o1) :: (X.pn ++ pins))) S1 gl m0 bv q nn db
        refine read (asks.here ?_)
        cases b with
        | false => exact ih (no rfl)
        | true =>
          refine codeAny_handlers_suite_as (HandSPX.lands_againZ held fun g4 held4 up4 => ?_)
          have J4 : Inv X pins τ G { t with heap := g4 } := J.landed old held4.1 ((up0.trans up1).trans up4) oss bare
          obtain ⟨o4, v4, at4, zn4, da4⟩ := held4.there
          refine store_ok (X := X.suite a ((a, o4) :: (X.pn ++ pins))) (v := .ref a) (J4.suite at4 da4 fresh notL notF) nd place (.inl isLocal) rfl (fun t5 S5 => ?_) (.inr isLocal)
          refine wpAny_mono ((su a o4 cls d (X.pn ++ pins) zn4 ⟨_, da4⟩).run [] t5 _ G _ S5 (yes rfl a fresh)) (fun f t6 went => ?_) (fun _ _ z => False.elim z)
          cases f with
          | ret u =>
            obtain ⟨v6, τ6, G6, S6, r6, q6⟩ := went
            exact suite_over (pins := pins) fits S6 nd place isLocal fun t7 J7 => ⟨_, _, _, J7, r6, q6⟩
          | next =>
            obtain ⟨τ6, G6, S6, q6⟩ := went
            exact suite_over (pins := pins) fits S6 nd place isLocal fun t7 J7 => ⟨_, _, J7, q6⟩
          | brk =>
            obtain ⟨τ6, G6, S6, q6⟩ := went
            exact suite_over (pins := pins) fits S6 nd place isLocal fun t7 J7 => ⟨_, _, J7, q6⟩
          | cont =>
            obtain ⟨τ6, G6, S6, q6⟩ := went
            exact suite_over (pins := pins) fits S6 nd place isLocal fun t7 J7 => ⟨_, _, J7, q6⟩
      | @plain x c ts b0 bs q1 q2 rest l2 named su more ih =>
        intro wish
        obtain ⟨b, says, yes, no⟩ := wish
        refine wpAny_handleBy_cons (codeAny_handlers_test ?_) (fun z => nomatch z)
        have kind : PySem.W.Looks (model X.prog X.w) g (typeOf (.ref a)) cls := fun _ _ _ _ keep q => wpAny_typeOf_ref (keep _ _ at1) (by rw [zn1.1]; exact q)
        have asks := PySem.W.exm_one (M := model X.prog X.w) J1.kIn kind says
        have read : ∀ {Q R : Value → Shared → Prop}, Q c { t with heap := g } → wpAny (model X.prog X.w) (X.A.mark (some (.ref a))) (eval (.Name x q1) X.env) Q R { t with heap := g } := fun {Q R} q => by
          obtain ⟨gl, db, own | ⟨m0, bv, nn⟩⟩ := named
          · exact ld_glob (X := X.suite a ((a, o1) :: (X.pn ++ pins))) S1 gl own q db
          · exact ld_blt (X := X.suite a ((a, o1) :: (X.pn ++ pins))) S1 gl m0 bv q nn db
        refine read (asks.here ?_)
        cases b with
        | false => exact ih (no rfl)
        | true =>
          refine codeAny_handlers_suite (HandSPX.lands_againZ held fun g4 held4 up4 => ?_)
          have J4 : Inv X pins τ G { t with heap := g4 } := J.landed old held4.1 ((up0.trans up1).trans up4) oss bare
          obtain ⟨o4, v4, at4, zn4, da4⟩ := held4.there
          refine wpAny_mono ((su a o4 cls d (X.pn ++ pins) zn4 ⟨_, da4⟩).run [] _ _ G _ (J4.suite at4 da4 fresh notL notF) (yes rfl a fresh)) (fun f t6 went => ?_) (fun _ _ z => False.elim z)
          cases f with
          | ret u =>
            obtain ⟨v6, τ6, G6, S6, r6, q6⟩ := went
            exact ⟨_, _, _, S6.unsuite fits, r6, q6⟩
          | next =>
            obtain ⟨τ6, G6, S6, q6⟩ := went
            exact ⟨_, _, S6.unsuite fits, q6⟩
          | brk =>
            obtain ⟨τ6, G6, S6, q6⟩ := went
            exact ⟨_, _, S6.unsuite fits, q6⟩
          | cont =>
            obtain ⟨τ6, G6, S6, q6⟩ := went
            exact ⟨_, _, S6.unsuite fits, q6⟩
    exact go cl wish
  · cases f with
    | ret u =>
      obtain ⟨v, τ, G, J, r, q⟩ := went
      exact ⟨v, τ, G, J.ofTry fits, r, q⟩
    | next =>
      obtain ⟨τ, G, J, q⟩ := went
      exact wpAny_execs_nil ⟨τ, G, J.ofTry fits, q⟩
    | brk =>
      obtain ⟨τ, G, J, q⟩ := went
      exact ⟨τ, G, J.ofTry fits, q⟩
    | cont =>
      obtain ⟨τ, G, J, q⟩ := went
      exact ⟨τ, G, J.ofTry fits, q⟩
end
-- part mtold
theorem call_list_ofK {X : Cx} {K : PySem.W.Frag} (hK : X.K = K) : CallR X (.type "list") (fun xs H Q => ∃ p ys, xs = [.ref p] ∧ (SqL K H p ys ∨ SqT K H p ys) ∧ ∀ l, H l = none → Q (.ref l) (upd H l (.lst ys))) := by
  subst hK
  exact call_list_of
abbrev s_ltold : Stmt := top 23
theorem sc_ltold : FnScope ["_law_text", "_law_found", "e", "_law_row"] ["_law_text"] (defScope s_ltold) := ⟨rfl, rfl, rfl, by decide +kernel, rfl, by decide +kernel, by decide +kernel⟩
def spLtold (K : PySem.W.Frag) : Sp := fun vs H Q _ => ∃ (L : List Str), vs = [.str (Txt.join " " L)] ∧ Ws L ∧ ∀ o r H', OmR L o → Dp K H' (.ref r) (omD o) → Same H H' → Q (.ref r) H'
theorem ok_ltold {f C CB CT fB fT : Addr} {fd : FuncData} (TT : Txt mg) (T : MaT K mg C) (TX : ErrC K mg "BadText" "at" CT fT) (TB : ErrC K mg "BadRow" "at" CB fB) (ex : PySem.W.exmOne K (.ref CB) (.ref CT) = some false) (F : Fun K "_law_told" "_law_told" s_ltold f fd) (c_read : CmN P w K mg base 5 C "read" (spMread C CB CT K)) :
    FnOk P w K mg base CX0 6 f fd ["_law_text"] (spLtold K) := by
  refine F.ok sc_ltold (fun vs H Q E h => ?_) (fun cdv A outer s H vs Q E hr h => ?_)
  · obtain ⟨L, rfl, _⟩ := h
    rfl
  · obtain ⟨L, rfl, ws, q⟩ := h
    refine ⟨_, (Evl.pss_cut (ps_try_ms rfl rfl sc_ltold.nd takes0N
  (fun W pn xe tk _ => (pss_one (ps_set (i := 1) sc_ltold.nd rfl (Or.inl rfl) (pe_cmNX c_read hr tk (pe_glob (v := .ref C) (by rfl) T.g rfl) (pa_cons (pv 0) pa_nil)))))
  (.more (i := 2) rfl rfl ⟨rfl, by decide, Or.inl TX.g⟩ (fun a oe cls d pn hz hf => (pss_one (ps_ret (pe_lst (pa_cons pe_str (pa_cons (pe_xf TX.xf TX.no hz.zc hf (pv 2)) pa_nil))))))
   (.more (i := 2) rfl rfl ⟨rfl, by decide, Or.inl TB.g⟩ (fun a oe cls d pn hz hf => (pss_one (ps_ret (pe_lst (pa_cons pe_str (pa_cons (pe_xf TB.xf TB.no hz.zc hf (pv 2)) pa_nil))))))
   .none)))
 (pss_one (ps_ret (pe_lst (pa_cons pe_str (pa_cons (pe_lc (own := [("_law_row", 3)]) (g := (gName 3)) (tt := tYes) rfl sc_ltold.nd (pi_tup (pe_fld (pv 1) rfl)) (blkOk_by (N := ["_law_text", "_law_found", "e", "_law_row"]) (sc := defScope s_ltold) (by decide +kernel)) (fun _ _ _ _ _ => (pg_name (i := 3) sc_ltold.nd rfl (Or.inl rfl))) (fun _ _ _ _ _ => pts_nil) (fun _ _ _ _ _ => (pe_callTy (call_list_ofK (K := K) rfl) (by rfl) TT.list boot_list (pa_cons (pv 3) pa_nil)))) pa_nil)))))), ?_⟩
    refine ⟨fun σ H' => OmR L (.mat (rowsW L)) ∧ ∃ r, MatAt C H' r (rowsW L).length (lenAt (rowsW L) 0) (ent (rowsW L)) ∧ Same H H' ∧ σ = [some (.str (Txt.join " " L)), some (.ref r), none, none], ?_, ?_⟩
    · refine ⟨rfl, _, rfl, L, rfl, ws, fun n hv d H' s1 hd => ?_, fun n hv d H' s1 hd => ?_, fun hv r H' m s1 => ⟨hv, r, m, s1, rfl⟩⟩
      · exact ⟨true, TX.te, fun _ y ny => ⟨_, rfl, rfl, rfl, d, _, _, rfl, hd, rfl, (by show 2 ≤ sizeLine; decide), fun q2 nq2 => q _ q2 _ hv (.lst (SqL.of upd_same) (.cons (.str _) (.cons (.int _) .nil))) (s1.trans (same_upd nq2))⟩, fun z => Bool.noConfusion z⟩
      · exact ⟨false, ex, (fun z => Bool.noConfusion z), fun _ => ⟨true, TB.te, fun _ y ny => ⟨_, rfl, rfl, rfl, d, _, _, rfl, hd, rfl, (by show 2 ≤ sizeLine; decide), fun q2 nq2 => q _ q2 _ hv (.lst (SqL.of upd_same) (.cons (.str _) (.cons (.int _) .nil))) (s1.trans (same_upd nq2))⟩, fun z => Bool.noConfusion z⟩⟩
    rintro σ H1 ⟨hv, r, m, s1, rfl⟩
    obtain ⟨dx, t, us, o1, o2, o3, o4⟩ := m.ob
    have h2 := m.h2
    have eq : ∀ j, j < (rowsW L).length → lenAt (rowsW L) j = lenAt (rowsW L) 0 := by
      cases hv with
      | mat _ _ eq => exact eq
    refine ⟨_, rfl, r, C, dx, _, _, rfl, o1, T.cl, T.nR, maF_r _ _ _, t, rfl, ⟨_, SqT.of o2⟩, fun D nD => lcObj walk_tup (RLs fun i => (rowsW L).getD i []) nD (fun H s => SqT.of (s _ _ o2)) ?_ ?_⟩
    · rintro i x H2 _ hi p2 ⟨rfl, hx⟩
      rw [o3] at hi
      obtain ⟨q1, e1, hq1⟩ := o4 i hi
      obtain rfl := Option.some.inj (hx.symm.trans e1)
      obtain ⟨acc, hacc, _⟩ := p2.2
      refine ⟨rfl, _, rfl, q1, _, rfl, .inr (SqT.of (p2.1 _ _ hq1)), fun l nl => ?_⟩
      refine objEnd stab_RLs nD p2 (same_upd nl) (by omega) (ref_ne nl hacc) ⟨l, rfl, ?_⟩
      have er : (rowsW L).getD i [] = rngN (lenAt (rowsW L) 0) (ent (rowsW L) i) := row_rng (eq i hi)
      show _ = some (HO.lst (((rowsW L).getD i []).map V.int))
      rw [upd_same, er]
    · intro H2 acc s2 hacc hl hel
      refine ⟨(by show 2 ≤ sizeLine; decide), fun p np => ?_⟩
      have kp := same_upd (o := .lst [.str "matrix", .ref D]) np
      refine q (.mat (rowsW L)) p _ hv (.lst (SqL.of upd_same) (.cons (.str _) (.cons ?_ .nil))) (s1.trans (s2.trans kp))
      have RR : RowsL H2 D (rowsW L) := ⟨acc, hacc, by rw [hl, o3], fun i r hr => by
        obtain ⟨v, ha⟩ : ∃ v, acc[i]? = some v := ⟨_, List.getElem?_eq_getElem (by have := (List.getElem?_eq_some_iff.mp hr).1; omega)⟩
        obtain ⟨nv, q1, e, hq⟩ := hel i _ ha
        have hq : H2 q1 = some (.lst (((rowsW L).getD i []).map V.int)) := hq
        rw [getDr hr] at hq
        exact ⟨q1, by rw [ha, e], hq, fun e2 => nv (by rw [e, e2])⟩⟩
      exact (RR.same kp).dp
-- part cuts
theorem cut_to {α : Type} (f : α → V) (L : List α) (k : Nat) : cutV (L.map f) none (some (k : Int)) = (L.take k).map f := by
  unfold cutV
  rw [HT.sIx_none, HT.sIx_nat, List.length_map, List.drop_zero, Nat.sub_zero, ← List.map_take]
  congr 1
  by_cases c : k ≤ L.length
  · rw [Nat.min_eq_left c]
  · rw [Nat.min_eq_right (by omega), List.take_length, List.take_of_length_le (by omega)]
theorem cut_mid {α : Type} (f : α → V) (L : List α) (a b : Nat) : cutV (L.map f) (some (a : Int)) (some (b : Int)) = ((L.drop a).take (b - a)).map f := by
  unfold cutV
  rw [HT.sIx_nat, HT.sIx_nat, List.length_map, ← List.map_drop, ← List.map_take]
  congr 1
  by_cases c : a ≤ L.length
  · rw [Nat.min_eq_left c]
    by_cases d : b ≤ L.length
    · rw [Nat.min_eq_left d]
    · rw [Nat.min_eq_right (by omega), List.take_of_length_le (by rw [List.length_drop]; exact Nat.le_refl _), List.take_of_length_le (by rw [List.length_drop]; omega)]
  · rw [Nat.min_eq_right (show L.length ≤ a by omega), List.drop_length, List.drop_eq_nil_of_le (show L.length ≤ a by omega), List.take_nil, List.take_nil]
-- part mchg
/-! words changed -/
theorem cut_from {α : Type} (f : α → V) (L : List α) (k : Nat) : cutV (L.map f) (some (k : Int)) none = (L.drop k).map f := by
  unfold cutV
  rw [HT.sIx_nat, HT.sIx_none, List.length_map, ← List.map_drop, ← List.map_take]
  congr 1
  by_cases c : k ≤ L.length
  · rw [Nat.min_eq_left c, List.take_of_length_le (by rw [List.length_drop]; exact Nat.le_refl _)]
  · rw [Nat.min_eq_right (by omega), List.drop_length, List.drop_eq_nil_of_le (by omega), List.take_nil]
def Gy (n : Nat) (z : Str) : Prop := z.length ≤ 4984 + n ∧ 32 ∉ TL.tl z
structure Wd (n : Nat) (L : List Str) : Prop where
  ne : 0 < L.length
  few : L.length ≤ n
  ok : ∀ z ∈ L, Gy n z
theorem Wd.ws {n : Nat} {L : List Str} (h : Wd n L) (hn : n ≤ 26) : Ws L := ⟨List.length_pos_iff.mp h.ne, by have := h.few; omega, fun z hz => by have := (h.ok z hz).1; omega, fun z hz => (h.ok z hz).2⟩
theorem Wd.of {n : Nat} {L M : List Str} (h : Wd n L) (ne : 0 < M.length) (few : M.length ≤ n + 1) (mem : ∀ z ∈ M, z ∈ L ∨ Gy (n + 1) z) : Wd (n + 1) M :=
  ⟨ne, few, fun z hz => (mem z hz).elim (fun m => ⟨by have := (h.ok z m).1; omega, (h.ok z m).2⟩) fun g => g⟩
theorem gy_semi {n : Nat} {z : Str} (h : Gy n z) : Gy (n + 1) (z ++ ";") := by
  refine ⟨?_, ?_⟩
  · rw [app_len, show (";" : Str).length = 1 by decide +kernel]
    have := h.1
    omega
  · rw [TL.tl_append, tl_semi]
    simp only [List.mem_append, not_or]
    exact ⟨h.2, by decide⟩
theorem gy_cut {n : Nat} {z : Str} (h : Gy n z) : Gy (n + 1) (cutS z none (some (-1))) := by
  have e := tl_cutm2 z
  refine ⟨?_, ?_⟩
  · rw [str_len, e, List.length_dropLast, ← str_len]
    have := h.1
    omega
  · rw [e]
    exact fun m => h.2 (List.dropLast_subset _ m)
def menuA : List Str := ["0", "-0", "07", "", ";", "-", "1_0", "+4", "1.5", "x", "-;"]
def menuB : List Str := ["1" ++ repS "0" 29, "1" ++ repS "0" 30, repS "9" 5000, "12", "-3;"]
theorem rep_gy {a : List Nat} {z : Str} (x : Nat) (hx : x ≠ 32) {n m : Nat} (h : TL.tl z = a ++ List.replicate n x) (ha : 32 ∉ a) (hl : a.length + n ≤ 4984 + m) : Gy m z := by
  refine ⟨?_, ?_⟩
  · rw [str_len, h, List.length_append, List.length_replicate]
    exact hl
  · rw [h]
    intro m
    rcases List.mem_append.mp m with e | e
    · exact ha e
    · exact hx (List.eq_of_mem_replicate e).symm
theorem menu_gy {n : Nat} (hn : 16 ≤ n) : ∀ z ∈ menuA ++ menuB, Gy n z := by
  have l9 : TL.tl ("9" : Str) = [57] := by decide +kernel
  have l0 : TL.tl ("0" : Str) = [48] := by decide +kernel
  have l1 : TL.tl ("1" : Str) = [49] := by decide +kernel
  have small : ∀ z : Str, Gy 16 z → Gy n z := fun z h => ⟨by have := h.1; omega, h.2⟩
  have a : ∀ z ∈ menuA ++ (["12", "-3;"] : List Str), Gy 16 z := by
    unfold Gy
    decide +kernel
  intro z hz
  by_cases c : z ∈ menuA ++ (["12", "-3;"] : List Str)
  · exact small z (a z c)
  · have : z = "1" ++ repS "0" 29 ∨ z = "1" ++ repS "0" 30 ∨ z = repS "9" 5000 := by
      unfold menuB at hz
      simp only [List.mem_append, List.mem_cons, List.not_mem_nil, or_false, not_or] at hz c
      rcases hz with h | h | h | h | h | h
      · exact absurd h c.1
      · exact .inl h
      · exact .inr (.inl h)
      · exact .inr (.inr h)
      · exact absurd h c.2.1
      · exact absurd h c.2.2
    rcases this with rfl | rfl | rfl
    · exact rep_gy (a := [49]) 48 (by decide) (n := 29) (by rw [TL.tl_append, tl_rep1 l0, l1]) (by decide) (by show 1 + 29 ≤ _; omega)
    · exact rep_gy (a := [49]) 48 (by decide) (n := 30) (by rw [TL.tl_append, tl_rep1 l0, l1]) (by decide) (by show 1 + 30 ≤ _; omega)
    · exact rep_gy (a := []) 57 (by decide) (n := 5000) (by rw [tl_rep1 l9] <;> rfl) (by decide) (by show 0 + 5000 ≤ _; omega)
theorem at_someS {L : List Str} {v : Int} (h0 : 0 ≤ v) (h1 : v < L.length) : ∃ x, atI (L.map V.str) v = some (V.str x) ∧ x ∈ L := by
  have hv : ((v.toNat : Nat) : Int) = v := Int.toNat_of_nonneg h0
  have hl : v.toNat < L.length := by omega
  have z : atI (L.map V.str) ((v.toNat : Nat) : Int) = some (V.str L[v.toNat]) := at_str (List.getElem?_eq_getElem hl)
  rw [hv] at z
  exact ⟨_, z, List.getElem_mem hl⟩
abbrev s_lchg : Stmt := top 24
theorem sc_lchg : FnScope ["_law_pool_here", "_law_words", "_law_at", "_law_which", "_law_menu"] ["_law_pool_here", "_law_words"] (defScope s_lchg) := ⟨rfl, rfl, rfl, by decide +kernel, rfl, by decide +kernel, by decide +kernel⟩
/-- what changes the words is done with new lists alone, but for the pool -/
def spChg : Sp := fun vs H Q _ => ∃ (p a : Addr) (n : Nat) (ws : List Str), vs = [.ref p, .ref a] ∧ PoolAt H p ∧ H a = some (.lst (ws.map V.str)) ∧ a ≠ p ∧ Wd n ws ∧ 16 ≤ n ∧ n ≤ 25 ∧
  ∀ (r : Addr) (ws' : List Str) (H' : Hp), SameBut p H H' → PoolAt H' p → r ≠ p → H' r = some (.lst (ws'.map V.str)) → Wd (n + 1) ws' → Q (.ref r) H'
theorem ok_lchg {f : Addr} {fd : FuncData} (T : Txt mg) (F : Fun K "_law_changed" "_law_changed" s_lchg f fd) (c_take : Cl P w K mg base CX0 1 "_law_take" spTake) : FnOk P w K mg base CX0 2 f fd ["_law_pool_here", "_law_words"] spChg := by
  refine F.ok sc_lchg (fun vs H Q E h => ?_) (fun cdv A outer s H vs Q E hr h => ?_)
  · obtain ⟨p, a, n, ws, rfl, _⟩ := h
    rfl
  · obtain ⟨p, a, m, ws, rfl, P0, ha, hap, wd, m16, m25, q⟩ := h
    have pos := wd.ne
    have few := wd.few
    refine ⟨_, (pss_cons (ps_set (i := 2) sc_lchg.nd rfl (Or.inl rfl) (pe_cl c_take hr (pa_cons (pv 0) (pa_cons (pe_callB call_len_seq (by rfl) T.len PySem.boot_len (pa_cons (pv 1) pa_nil)) pa_nil))))
 (pss_cons (ps_set (i := 3) sc_lchg.nd rfl (Or.inl rfl) (pe_cl c_take hr (pa_cons (pv 0) (pa_cons pe_int pa_nil))))
 (Evl.pss_cut (ps_if (pw_and (pt_cmpR op_eq (pv 3) pe_int (nomark _)) (pw_and1 (pt_cmpR op_gt (pe_callB call_len_seq (by rfl) T.len PySem.boot_len (pa_cons (pv 1) pa_nil)) pe_int (nomark _)))).pt (pss_one (ps_ret (pe_op op_cat (pe_slice sl_list (pv 1) po_none (po_some (pv 2))) (pe_slice sl_list (pv 1) (po_some (pe_op op_add (pv 2) pe_int)) po_none)))) pss_nil)
 (Evl.pss_cut (ps_if (pt_cmpR op_eq (pv 3) pe_int (nomark _)) (pss_one (ps_ret (pe_op op_cat (pe_op op_cat (pe_slice sl_list (pv 1) po_none (po_some (pv 2))) (pe_lst (pa_cons (pe_ix ix_list (pv 1) (pv 2) (fun _ _ => rfl)) pa_nil))) (pe_slice sl_list (pv 1) (po_some (pv 2)) po_none)))) pss_nil)
 (Evl.pss_cut (ps_if (pt_cmpR op_eq (pv 3) pe_int (nomark _)) (pss_one (ps_ret (pe_op op_cat (pe_op op_cat (pe_slice sl_list (pv 1) po_none (po_some (pv 2))) (pe_revL (pe_slice sl_list (pv 1) (po_some (pv 2)) (po_some (pe_op op_add (pv 2) pe_int))))) (pe_slice sl_list (pv 1) (po_some (pe_op op_add (pv 2) pe_int)) po_none)))) pss_nil)
 (Evl.pss_cut (ps_if (pt_cmpR op_eq (pv 3) pe_int (nomark _)) (pss_one (ps_ret (pe_op op_cat (pe_op op_cat (pe_slice sl_list (pv 1) po_none (po_some (pv 2))) (pe_lst (pa_cons (pe_op op_add_str (pe_ix ix_list (pv 1) (pv 2) (fun _ _ => rfl)) pe_str) pa_nil))) (pe_slice sl_list (pv 1) (po_some (pe_op op_add (pv 2) pe_int)) po_none)))) pss_nil)
 (Evl.pss_cut (ps_if (pw_and (pt_cmpR op_eq (pv 3) pe_int (nomark _)) (pw_and1 (pt_cmpR op_eq (pe_slice sl_str (pe_ix ix_list (pv 1) (pv 2) (fun _ _ => rfl)) (po_some (pe_un un_neg pe_int)) po_none) pe_str (nomark _)))).pt (pss_one (ps_ret (pe_op op_cat (pe_op op_cat (pe_slice sl_list (pv 1) po_none (po_some (pv 2))) (pe_lst (pa_cons (pe_slice sl_str (pe_ix ix_list (pv 1) (pv 2) (fun _ _ => rfl)) po_none (po_some (pe_un un_neg pe_int))) pa_nil))) (pe_slice sl_list (pv 1) (po_some (pe_op op_add (pv 2) pe_int)) po_none)))) pss_nil)
 (Evl.pss_cut (ps_set (i := 4) sc_lchg.nd rfl (Or.inl rfl) (pe_lst (pa_cons pe_str (pa_cons pe_str (pa_cons pe_str (pa_cons pe_str (pa_cons pe_str (pa_cons pe_str (pa_cons pe_str (pa_cons pe_str (pa_cons pe_str (pa_cons pe_str (pa_cons pe_str pa_nil)))))))))))))
 (Evl.pss_cut (ps_set (i := 4) sc_lchg.nd rfl (Or.inl rfl) (pe_op op_cat (pv 4) (pe_lst (pa_cons (pe_op op_add_str pe_str (pe_op op_rep_str pe_str pe_int)) (pa_cons (pe_op op_add_str pe_str (pe_op op_rep_str pe_str pe_int)) (pa_cons (pe_op op_rep_str pe_str pe_int) (pa_cons pe_str (pa_cons pe_str pa_nil))))))))
 (pss_one (ps_ret (pe_op op_cat (pe_op op_cat (pe_slice sl_list (pv 1) po_none (po_some (pv 2))) (pe_lst (pa_cons (pe_ix ix_list (pv 4) (pe_cl c_take hr (pa_cons (pv 0) (pa_cons pe_int pa_nil))) (fun _ _ => rfl)) pa_nil))) (pe_slice sl_list (pv 1) (po_some (pe_op op_add (pv 2) pe_int)) po_none))))))))))))), ?_⟩
    refine ⟨_, rfl, _, rfl, a, _, rfl, .inl (SqL.of ha), p, ws.length, by rw [List.length_map]; rfl, P0, by omega, ?_, fun v H2 v0 v1 e2 P2 => ?_⟩
    · have : ws.length < 2 ^ 9000 := Nat.lt_of_lt_of_le (show ws.length < 2 ^ 5 by omega) (Nat.pow_le_pow_right (by decide) (by decide))
      exact (Nat.log2_lt (by show ws.length ≠ 0; omega)).mpr this
    obtain ⟨n, rfl⟩ := Int.eq_ofNat_of_zero_le v0
    have hn : n < ws.length := by omega
    refine ⟨_, rfl, p, 6, rfl, P2, by decide, by decide, fun u H3 u0 u1 e3 P3 => ?_⟩
    have b3 : SameBut p H H3 := (SameBut.of e2).trans (SameBut.of e3)
    have ha3 := b3 _ _ hap ha
    clear e2 e3 P2
    have en : (n : Int) + 1 = ((n + 1 : Nat) : Int) := rfl
    have en2 : (n : Int) + 2 = ((n + 2 : Nat) : Int) := rfl
    have small : ∀ k, k ≤ 100 → k ≤ sizeLine := fun k h => by
      rw [sizeLine_eq]
      omega
    have hz : ws[n]? = some ws[n] := List.getElem?_eq_getElem hn
    have gz := wd.ok ws[n] (List.getElem_mem hn)
    generalize ws[n] = z at hz gz
    have zl := gz.1
    have tk : ∀ y ∈ ws.take n, y ∈ ws := fun y h => List.mem_of_mem_take h
    have dr : ∀ k, ∀ y ∈ ws.drop k, y ∈ ws := fun k y h => List.mem_of_mem_drop h
    -- words[:at] + [y] + words[k:], a1 is words[:at]
    have mid : ∀ (y : Str) (k : Nat), n ≤ k → (y ∈ ws ∨ Gy (m + 1) y) → Wd (m + 1) (ws.take n ++ y :: ws.drop k) := fun y k hk hy => wd.of (by rw [List.length_append, List.length_cons]; omega) (by rw [List.length_append, List.length_take, List.length_cons, List.length_drop]; omega) fun z hz => by
      rcases List.mem_append.mp hz with h | h
      · exact .inl (tk z h)
      · rcases List.mem_cons.mp h with h | h
        · rw [h]
          exact hy
        · exact .inl (dr k z h)
    have el : ∀ (y : Str) (k : Nat), (ws.take n).map V.str ++ [.str y] ++ (ws.drop k).map V.str = (ws.take n ++ y :: ws.drop k).map V.str := fun y k => by simp
    -- which == 0
    refine ⟨fun σ H' => H3 = H' ∧ σ = [some (.ref p), some (.ref a), some (.int (n : Int)), some (.int u), none], ?_, ?_⟩
    · refine ⟨_, rfl, rfl, _, rfl, ?_⟩
      by_cases c : V.int u = V.int 0
      · refine if_pos_of (decide_eq_true c) ?_
        refine ⟨_, rfl, a, _, rfl, .inl (SqL.of ha3), _, _, rfl, rfl, _, rfl, ?_⟩
        rw [List.length_map]
        by_cases d : 1 < ws.length
        · refine if_pos_of (decide_eq_true (by omega)) ?_
          refine ⟨_, rfl, _, rfl, _, rfl, a, _, rfl, SqL.of ha3, fun a1 na1 => ?_⟩
          rw [cut_to]
          have g1 := same_upd (o := .lst ((ws.take n).map V.str)) na1
          refine ⟨_, rfl, _, rfl, _, _, rfl, rfl, _, rfl, a, _, rfl, SqL.of (g1 _ _ ha3), fun a2 na2 => ?_⟩
          rw [en, cut_from]
          have g2 := same_upd (o := .lst ((ws.drop (n + 1)).map V.str)) na2
          refine ⟨a1, a2, _, _, rfl, rfl, g2 _ _ upd_same, upd_same, small _ (by rw [List.length_map, List.length_map, List.length_take, List.length_drop]; omega), fun r nr => ?_⟩
          rw [← List.map_append]
          have g3 := same_upd (o := .lst ((ws.take n ++ ws.drop (n + 1)).map V.str)) nr
          have P4 := P3.same (g1.trans g2)
          refine q r (ws.take n ++ ws.drop (n + 1)) _ (b3.trans (sbut ((g1.trans g2).trans g3))) (P4.same g3) (P4.new nr) upd_same (wd.of (by rw [List.length_append, List.length_take, List.length_drop]; omega) (by rw [List.length_append, List.length_take, List.length_drop]; omega) fun z hz => ?_)
          rcases List.mem_append.mp hz with h | h
          · exact .inl (tk z h)
          · exact .inl (dr _ z h)
        · exact if_neg_of (decide_eq_false (by omega)) ⟨rfl, rfl⟩
      · exact if_neg_of (decide_eq_false c) (if_neg_of rfl ⟨rfl, rfl⟩)
    rintro σ _ ⟨rfl, rfl⟩
    -- which == 1
    refine ⟨fun σ H' => H3 = H' ∧ σ = [some (.ref p), some (.ref a), some (.int (n : Int)), some (.int u), none], ?_, ?_⟩
    · refine ⟨_, rfl, rfl, _, rfl, ?_⟩
      by_cases c : V.int u = V.int 1
      · refine if_pos_of (decide_eq_true c) ?_
        refine ⟨_, rfl, _, rfl, _, rfl, a, _, rfl, SqL.of ha3, fun a1 na1 => ?_⟩
        rw [cut_to]
        have g1 := same_upd (o := .lst ((ws.take n).map V.str)) na1
        refine ⟨_, rfl, _, rfl, a, _, _, _, rfl, rfl, SqL.of (g1 _ _ ha3), at_str hz, (by show 1 ≤ sizeLine; decide), fun a2 na2 => ?_⟩
        have g2 := same_upd (o := .lst [.str z]) na2
        refine ⟨a1, a2, _, _, rfl, rfl, g2 _ _ upd_same, upd_same, small _ (by rw [List.length_map, List.length_take]; show _ + 1 ≤ 100; omega), fun a3 na3 => ?_⟩
        have g3 := same_upd (o := .lst ((ws.take n).map V.str ++ [.str z])) na3
        refine ⟨_, rfl, _, rfl, _, rfl, a, _, rfl, SqL.of (((g1.trans g2).trans g3) _ _ ha3), fun a4 na4 => ?_⟩
        rw [cut_from]
        have g4 := same_upd (o := .lst ((ws.drop n).map V.str)) na4
        refine ⟨a3, a4, _, _, rfl, rfl, g4 _ _ upd_same, upd_same, small _ (by rw [List.length_append, List.length_map, List.length_map, List.length_take, List.length_drop]; show _ + 1 + _ ≤ 100; omega), fun r nr => ?_⟩
        rw [el]
        have g5 := same_upd (o := .lst ((ws.take n ++ z :: ws.drop n).map V.str)) nr
        have s4 := ((g1.trans g2).trans g3).trans g4
        have P4 := P3.same s4
        exact q r _ _ (b3.trans (sbut (s4.trans g5))) (P4.same g5) (P4.new nr) upd_same (mid z n (Nat.le_refl _) (.inl (List.mem_of_getElem? hz)))
      · exact if_neg_of (decide_eq_false c) ⟨rfl, rfl⟩
    rintro σ _ ⟨rfl, rfl⟩
    -- which == 2
    refine ⟨fun σ H' => H3 = H' ∧ σ = [some (.ref p), some (.ref a), some (.int (n : Int)), some (.int u), none], ?_, ?_⟩
    · refine ⟨_, rfl, rfl, _, rfl, ?_⟩
      by_cases c : V.int u = V.int 2
      · refine if_pos_of (decide_eq_true c) ?_
        refine ⟨_, rfl, _, rfl, _, rfl, a, _, rfl, SqL.of ha3, fun a1 na1 => ?_⟩
        rw [cut_to]
        have g1 := same_upd (o := .lst ((ws.take n).map V.str)) na1
        refine ⟨_, rfl, _, rfl, _, rfl, _, rfl, _, _, rfl, rfl, _, rfl, a, _, rfl, SqL.of (g1 _ _ ha3), fun a2 na2 => ?_⟩
        rw [en2, cut_mid, show n + 2 - n = 2 by omega]
        have g2 := same_upd (o := .lst (((ws.drop n).take 2).map V.str)) na2
        refine ⟨a2, _, rfl, SqL.of upd_same, fun a3 na3 => ?_⟩
        rw [← List.map_reverse]
        have g3 := same_upd (o := .lst (((ws.drop n).take 2).reverse.map V.str)) na3
        refine ⟨a1, a3, _, _, rfl, rfl, (g2.trans g3) _ _ upd_same, upd_same, small _ (by rw [List.length_map, List.length_map, List.length_reverse, List.length_take, List.length_take, List.length_drop]; omega), fun a4 na4 => ?_⟩
        rw [← List.map_append]
        have g4 := same_upd (o := .lst ((ws.take n ++ ((ws.drop n).take 2).reverse).map V.str)) na4
        have s3' := ((g1.trans g2).trans g3).trans g4
        refine ⟨_, rfl, _, rfl, _, _, rfl, rfl, _, rfl, a, _, rfl, SqL.of (s3' _ _ ha3), fun a5 na5 => ?_⟩
        rw [en2, cut_from]
        have g5 := same_upd (o := .lst ((ws.drop (n + 2)).map V.str)) na5
        refine ⟨a4, a5, _, _, rfl, rfl, g5 _ _ upd_same, upd_same, small _ (by rw [List.length_map, List.length_map, List.length_append, List.length_reverse, List.length_take, List.length_take, List.length_drop, List.length_drop]; omega), fun r nr => ?_⟩
        rw [← List.map_append]
        have g6 := same_upd (o := .lst ((ws.take n ++ ((ws.drop n).take 2).reverse ++ ws.drop (n + 2)).map V.str)) nr
        have s4 := s3'.trans g5
        have P4 := P3.same s4
        have ll : (ws.take n ++ ((ws.drop n).take 2).reverse ++ ws.drop (n + 2)).length = ws.length := by
          rw [List.length_append, List.length_append, List.length_reverse, List.length_take, List.length_take, List.length_drop, List.length_drop]
          omega
        refine q r _ _ (b3.trans (sbut (s4.trans g6))) (P4.same g6) (P4.new nr) upd_same (wd.of (by omega) (by omega) fun z hz => ?_)
        rcases List.mem_append.mp hz with h | h
        · rcases List.mem_append.mp h with h | h
          · exact .inl (tk z h)
          · exact .inl (dr n z (List.mem_of_mem_take (List.mem_reverse.mp h)))
        · exact .inl (dr _ z h)
      · exact if_neg_of (decide_eq_false c) ⟨rfl, rfl⟩
    rintro σ _ ⟨rfl, rfl⟩
    -- which == 3
    refine ⟨fun σ H' => H3 = H' ∧ σ = [some (.ref p), some (.ref a), some (.int (n : Int)), some (.int u), none], ?_, ?_⟩
    · refine ⟨_, rfl, rfl, _, rfl, ?_⟩
      by_cases c : V.int u = V.int 3
      · refine if_pos_of (decide_eq_true c) ?_
        refine ⟨_, rfl, _, rfl, _, rfl, a, _, rfl, SqL.of ha3, fun a1 na1 => ?_⟩
        rw [cut_to]
        have g1 := same_upd (o := .lst ((ws.take n).map V.str)) na1
        refine ⟨_, rfl, _, rfl, a, _, _, _, rfl, rfl, SqL.of (g1 _ _ ha3), at_str hz, _, _, rfl, rfl, (by rw [show (";" : Str).length = 1 by decide +kernel, sizeLine_eq]; omega), (by show 1 ≤ sizeLine; decide), fun a2 na2 => ?_⟩
        have g2 := same_upd (o := .lst [.str (z ++ ";")]) na2
        refine ⟨a1, a2, _, _, rfl, rfl, g2 _ _ upd_same, upd_same, small _ (by rw [List.length_map, List.length_take]; show _ + 1 ≤ 100; omega), fun a3 na3 => ?_⟩
        have g3 := same_upd (o := .lst ((ws.take n).map V.str ++ [.str (z ++ ";")])) na3
        refine ⟨_, rfl, _, rfl, _, _, rfl, rfl, _, rfl, a, _, rfl, SqL.of (((g1.trans g2).trans g3) _ _ ha3), fun a4 na4 => ?_⟩
        rw [en, cut_from]
        have g4 := same_upd (o := .lst ((ws.drop (n + 1)).map V.str)) na4
        refine ⟨a3, a4, _, _, rfl, rfl, g4 _ _ upd_same, upd_same, small _ (by rw [List.length_append, List.length_map, List.length_map, List.length_take, List.length_drop]; show _ + 1 + _ ≤ 100; omega), fun r nr => ?_⟩
        rw [el]
        have g5 := same_upd (o := .lst ((ws.take n ++ (z ++ ";") :: ws.drop (n + 1)).map V.str)) nr
        have s4 := ((g1.trans g2).trans g3).trans g4
        have P4 := P3.same s4
        exact q r _ _ (b3.trans (sbut (s4.trans g5))) (P4.same g5) (P4.new nr) upd_same (mid _ (n + 1) (by omega) (.inr (gy_semi gz)))
      · exact if_neg_of (decide_eq_false c) ⟨rfl, rfl⟩
    rintro σ _ ⟨rfl, rfl⟩
    have zs : z.length ≤ sizeLine := by rw [sizeLine_eq]; omega
    -- which == 4
    refine ⟨fun σ H' => H3 = H' ∧ σ = [some (.ref p), some (.ref a), some (.int (n : Int)), some (.int u), none], ?_, ?_⟩
    · refine ⟨_, rfl, rfl, _, rfl, ?_⟩
      by_cases c : V.int u = V.int 4
      · refine if_pos_of (decide_eq_true c) ?_
        refine ⟨_, rfl, _, rfl, a, _, _, _, rfl, rfl, SqL.of ha3, at_str hz, _, rfl, -1, rfl, z, rfl, zs, rfl, _, rfl, ?_⟩
        rw [str_eq]
        by_cases d : cutS z (some (-1)) none = ";"
        · refine if_pos_of (decide_eq_true d) ?_
          refine ⟨_, rfl, _, rfl, _, rfl, a, _, rfl, SqL.of ha3, fun a1 na1 => ?_⟩
          rw [cut_to]
          have g1 := same_upd (o := .lst ((ws.take n).map V.str)) na1
          refine ⟨_, rfl, _, rfl, a, _, _, _, rfl, rfl, SqL.of (g1 _ _ ha3), at_str hz, _, rfl, -1, rfl, z, rfl, zs, (by show 1 ≤ sizeLine; decide), fun a2 na2 => ?_⟩
          have g2 := same_upd (o := .lst [.str (cutS z none (some (-1)))]) na2
          refine ⟨a1, a2, _, _, rfl, rfl, g2 _ _ upd_same, upd_same, small _ (by rw [List.length_map, List.length_take]; show _ + 1 ≤ 100; omega), fun a3 na3 => ?_⟩
          have g3 := same_upd (o := .lst ((ws.take n).map V.str ++ [.str (cutS z none (some (-1)))])) na3
          refine ⟨_, rfl, _, rfl, _, _, rfl, rfl, _, rfl, a, _, rfl, SqL.of (((g1.trans g2).trans g3) _ _ ha3), fun a4 na4 => ?_⟩
          rw [en, cut_from]
          have g4 := same_upd (o := .lst ((ws.drop (n + 1)).map V.str)) na4
          refine ⟨a3, a4, _, _, rfl, rfl, g4 _ _ upd_same, upd_same, small _ (by rw [List.length_append, List.length_map, List.length_map, List.length_take, List.length_drop]; show _ + 1 + _ ≤ 100; omega), fun r nr => ?_⟩
          rw [el]
          have g5 := same_upd (o := .lst ((ws.take n ++ cutS z none (some (-1)) :: ws.drop (n + 1)).map V.str)) nr
          have s4 := ((g1.trans g2).trans g3).trans g4
          have P4 := P3.same s4
          exact q r _ _ (b3.trans (sbut (s4.trans g5))) (P4.same g5) (P4.new nr) upd_same (mid _ (n + 1) (by omega) (.inr (gy_cut gz)))
        · exact if_neg_of (decide_eq_false d) ⟨rfl, rfl⟩
      · exact if_neg_of (decide_eq_false c) (if_neg_of rfl ⟨rfl, rfl⟩)
    rintro σ _ ⟨rfl, rfl⟩
    -- the menu
    refine ⟨fun σ H' => ∃ mn, Same H3 H' ∧ H' mn = some (.lst (menuA.map V.str)) ∧ σ = [some (.ref p), some (.ref a), some (.int (n : Int)), some (.int u), some (.ref mn)], ?_, ?_⟩
    · exact ⟨(by show 11 ≤ sizeLine; decide), fun mn nm => ⟨mn, same_upd nm, upd_same, rfl⟩⟩
    rintro σ H4 ⟨mn, s4, hm, rfl⟩
    have one : ("1" : Str).length = 1 := by decide +kernel
    have rl : ∀ k : Nat, (repS "0" k).length = k := fun k => by rw [str_len, tl_rep1 (c := 48) (by decide +kernel), List.length_replicate]
    refine ⟨fun σ H' => ∃ mn, Same H4 H' ∧ H' mn = some (.lst ((menuA ++ menuB).map V.str)) ∧ σ = [some (.ref p), some (.ref a), some (.int (n : Int)), some (.int u), some (.ref mn)], ?_, ?_⟩
    · refine ⟨_, rfl, _, _, rfl, rfl, by decide, by decide, by decide +kernel, by decide +kernel, ?_⟩
      refine ⟨_, _, rfl, rfl, (by rw [one, rl, sizeLine_eq]; decide), ?_⟩
      refine ⟨_, _, rfl, rfl, by decide, by decide, by decide +kernel, by decide +kernel, ?_⟩
      refine ⟨_, _, rfl, rfl, (by rw [one, rl, sizeLine_eq]; decide), ?_⟩
      refine ⟨_, _, rfl, rfl, by decide, by decide, by decide +kernel, by decide +kernel, ?_⟩
      refine ⟨(by show 5 ≤ sizeLine; decide), fun b nb => ?_⟩
      have gb := same_upd (o := .lst (menuB.map V.str)) nb
      refine ⟨mn, b, _, _, rfl, rfl, gb _ _ hm, upd_same, (by show 16 ≤ sizeLine; decide), fun m2 nm2 => ?_⟩
      exact ⟨m2, gb.trans (same_upd nm2), upd_same, rfl⟩
    clear hm
    rintro σ H5 ⟨mn, s5, hm, rfl⟩
    have s45 := s4.trans s5
    have ha4 := s45 _ _ ha3
    have P4 := P3.same s45
    have b4 := b3.trans (sbut s45)
    refine ⟨_, rfl, _, rfl, _, rfl, a, _, rfl, SqL.of ha4, fun a1 na1 => ?_⟩
    rw [cut_to]
    have g1 := same_upd (o := .lst ((ws.take n).map V.str)) na1
    refine ⟨_, rfl, _, rfl, p, 16, rfl, P4.same g1, by decide, by decide, fun v5 H6 v50 v51 e5 P5 => ?_⟩
    have b5 : SameBut p (upd H5 a1 (.lst ((ws.take n).map V.str))) H6 := SameBut.of e5
    have mp : mn ≠ p := by
      intro e
      obtain ⟨x1, x2, x3, x4⟩ := P4
      rw [← e, hm] at x4
      cases x4
    have hm5 := b5 _ _ mp (g1 _ _ hm)
    obtain ⟨y, hy, hym⟩ := at_someS (L := menuA ++ menuB) v50 (by show v5 < 16; exact v51)
    have a1p := P4.new na1
    refine ⟨mn, _, _, _, rfl, rfl, SqL.of hm5, hy, (by show 1 ≤ sizeLine; decide), fun a2 na2 => ?_⟩
    have g2 := same_upd (o := .lst [.str y]) na2
    refine ⟨a1, a2, _, _, rfl, rfl, g2 _ _ (b5 _ _ a1p upd_same), upd_same, small _ (by rw [List.length_map, List.length_take]; show _ + 1 ≤ 100; omega), fun a3 na3 => ?_⟩
    have g3 := same_upd (o := .lst ((ws.take n).map V.str ++ [.str y])) na3
    have ha5 := b5 _ _ hap (g1 _ _ ha4)
    refine ⟨_, rfl, _, rfl, _, _, rfl, rfl, _, rfl, a, _, rfl, SqL.of ((g2.trans g3) _ _ ha5), fun a4 na4 => ?_⟩
    rw [en, cut_from]
    have g4 := same_upd (o := .lst ((ws.drop (n + 1)).map V.str)) na4
    refine ⟨a3, a4, _, _, rfl, rfl, g4 _ _ upd_same, upd_same, small _ (by rw [List.length_append, List.length_map, List.length_map, List.length_take, List.length_drop]; show _ + 1 + _ ≤ 100; omega), fun r nr => ?_⟩
    rw [el]
    have g5 := same_upd (o := .lst ((ws.take n ++ y :: ws.drop (n + 1)).map V.str)) nr
    have s6 := (g2.trans g3).trans g4
    have P6 := P5.same s6
    exact q r _ _ ((b4.trans (sbut g1)).trans (b5.trans (sbut (s6.trans g5)))) (P6.same g5) (P6.new nr) upd_same (mid y (n + 1) (by omega) (.inr (menu_gy (by omega) y hym)))
-- part wrows
/-! the words of rows -/
def semi (r : List Str) : List Str := r.dropLast ++ (r.getLast?.map fun z : Str => z ++ (";" : Str)).toList
def wsR : List (List Str) → List Str
  | [] => []
  | [r] => r
  | r :: r' :: R => semi r ++ wsR (r' :: R)
def Clean (r : List Str) : Prop := r ≠ [] ∧ ∀ z ∈ r, intC (TL.tl z) = true
theorem clean_end {z : Str} (h : intC (TL.tl z) = true) : endC (TL.tl z) = false := by
  unfold endC
  refine decide_eq_false fun e => ?_
  exact intC_free h (c := 59) (by decide) (.inr (by decide)) (List.mem_of_getLast? e)
theorem base_clean {z : Str} (h : intC (TL.tl z) = true) : baseW z = z := (base_same z (clean_end h)).symm
theorem end_semi (z : Str) : endC (TL.tl (z ++ ";")) = true := by
  rw [TL.tl_append, tl_semi]
  unfold endC
  rw [List.getLast?_append]
  rfl
theorem base_semi (z : Str) : baseW (z ++ ";") = z := TL.ext_tl (by
  rw [tl_suffix]
  unfold baseC
  rw [if_pos (end_semi z), TL.tl_append, tl_semi, List.dropLast_concat])
theorem fold_clean : ∀ (r : List Str) (d : List (List Str)) (c : List Str), (∀ z ∈ r, intC (TL.tl z) = true) → r.foldl gstep (d, c) = (d, c ++ r)
  | [], d, c, _ => by simp
  | z :: r, d, c, h => by
    have hz := h z List.mem_cons_self
    rw [List.foldl_cons]
    unfold gstep
    rw [clean_end hz, if_neg Bool.false_ne_true, base_clean hz]
    show List.foldl gstep (d, c ++ [z]) r = _
    rw [fold_clean r d (c ++ [z]) fun y hy => h y (List.mem_cons_of_mem _ hy)]
    simp
theorem fold_semi {r : List Str} (h : Clean r) (d : List (List Str)) : (semi r).foldl gstep (d, []) = (d ++ [r], []) := by
  obtain ⟨ne, ok⟩ := h
  rcases List.eq_nil_or_concat r with rfl | ⟨s, z, rfl⟩
  · exact absurd rfl ne
  rw [List.concat_eq_append] at *
  unfold semi
  rw [List.dropLast_concat, List.getLast?_append, List.foldl_append, fold_clean s d [] fun y hy => ok y (List.mem_append_left _ hy)]
  show gstep (d, [] ++ s) (z ++ ";") = _
  unfold gstep
  rw [if_pos (end_semi z), base_semi]
  rfl
theorem fold_wsR : ∀ (R : List (List Str)), R ≠ [] → (∀ r ∈ R, Clean r) → ∀ d, ∃ A c, (wsR R).foldl gstep (d, []) = (d ++ A, c) ∧ A ++ [c] = R ∧ c ≠ []
  | [], h, _, _ => absurd rfl h
  | [r], _, h, d => by
    obtain ⟨ne, ok⟩ := h r List.mem_cons_self
    refine ⟨[], r, ?_, rfl, ne⟩
    show r.foldl gstep (d, []) = _
    rw [fold_clean r d [] ok]
    simp
  | r :: r' :: R, _, h, d => by
    obtain ⟨A, c, e1, e2, e3⟩ := fold_wsR (r' :: R) (by simp) (fun x hx => h x (List.mem_cons_of_mem _ hx)) (d ++ [r])
    refine ⟨r :: A, c, ?_, by rw [List.cons_append, e2], e3⟩
    show (semi r ++ wsR (r' :: R)).foldl gstep (d, []) = _
    rw [List.foldl_append, fold_semi (h r List.mem_cons_self), e1]
    simp
theorem semi_mem {r : List Str} {z : Str} (h : z ∈ semi r) : ∃ y ∈ r, z = y ∨ z = y ++ ";" := by
  unfold semi at h
  rcases List.mem_append.mp h with m | m
  · exact ⟨z, List.dropLast_subset _ m, .inl rfl⟩
  · cases e : r.getLast? with
    | none => rw [e] at m; cases m
    | some y =>
      rw [e] at m
      exact ⟨y, List.mem_of_getLast? e, .inr (by simpa using m)⟩
theorem wsR_mem : ∀ (R : List (List Str)) (z : Str), z ∈ wsR R → ∃ r ∈ R, ∃ y ∈ r, z = y ∨ z = y ++ ";"
  | [], _, h => nomatch h
  | [r], z, h => ⟨r, List.mem_cons_self, z, h, .inl rfl⟩
  | r :: r' :: R, z, h => by
    have h : z ∈ semi r ++ wsR (r' :: R) := h
    rcases List.mem_append.mp h with m | m
    · obtain ⟨y, hy, e⟩ := semi_mem m
      exact ⟨r, List.mem_cons_self, y, hy, e⟩
    · obtain ⟨q, hq, y, hy, e⟩ := wsR_mem (r' :: R) z m
      exact ⟨q, List.mem_cons_of_mem _ hq, y, hy, e⟩
theorem semi_len {r : List Str} (h : r ≠ []) : (semi r).length = r.length := by
  rcases List.eq_nil_or_concat r with rfl | ⟨s, z, rfl⟩
  · exact absurd rfl h
  unfold semi
  rw [List.concat_eq_append, List.dropLast_concat, List.getLast?_append]
  simp
theorem wsR_len {w : Nat} (hw : 1 ≤ w) : ∀ (R : List (List Str)), (∀ r ∈ R, r.length = w) → (wsR R).length = R.length * w
  | [], _ => by simp [wsR]
  | [r], h => by
    show r.length = 1 * w
    rw [h r List.mem_cons_self, Nat.one_mul]
  | r :: r' :: R, h => by
    have ih := wsR_len hw (r' :: R) fun x hx => h x (List.mem_cons_of_mem _ hx)
    have hr := h r List.mem_cons_self
    show (semi r ++ wsR (r' :: R)).length = _
    rw [List.length_append, semi_len (fun e => by rw [e] at hr; simp at hr; omega), ih, hr, List.length_cons (a := r), Nat.succ_mul]
    omega
/-- what is told of the words of a matrix -/
structure Orig (rs : List (List Int)) (w : Nat) (L : List Str) : Prop where
  text : Txt.join " " L = rtext rs
  rows : rowsW L = rs
  om : OmR L (.mat (rowsW L))
  len : L.length = rs.length * w
  wd : ∀ z ∈ L, z.length ≤ 40 ∧ 32 ∉ TL.tl z
theorem orig_of {rs : List (List Int)} {w : Nat} (ne : rs ≠ []) (hw : 1 ≤ w) (hl : ∀ r ∈ rs, r.length = w) (hb : ∀ r ∈ rs, ∀ z ∈ r, z.natAbs < 10 ^ 30) : Orig rs w (wsR (rs.map fun r => r.map numT)) := by
  generalize hR : rs.map (fun r => r.map numT) = R
  have neR : R ≠ [] := by rw [← hR]; simpa using ne
  have rR : ∀ r ∈ R, ∃ s ∈ rs, r = s.map numT := fun r hr => by
    rw [← hR] at hr
    obtain ⟨s, hs, e⟩ := List.mem_map.mp hr
    exact ⟨s, hs, e.symm⟩
  have cl : ∀ r ∈ R, Clean r := fun r hr => by
    obtain ⟨s, hs, rfl⟩ := rR r hr
    refine ⟨fun e => ?_, fun z hz => ?_⟩
    · have := hl s hs
      rw [List.map_eq_nil_iff] at e
      rw [e] at this
      simp at this
      omega
    · obtain ⟨k, hk, rfl⟩ := List.mem_map.mp hz
      exact intC_numT (hb s hs k hk)
  have lR : ∀ r ∈ R, r.length = w := fun r hr => by
    obtain ⟨s, hs, rfl⟩ := rR r hr
    rw [List.length_map, hl s hs]
  obtain ⟨A, c, e1, e2, e3⟩ := fold_wsR R neR cl []
  rw [List.nil_append] at e1
  have g : gst (wsR R) = (A, c) := e1
  have lw := wsR_len hw R lR
  have posR : 0 < R.length := List.length_pos_iff.mpr neR
  have neL : wsR R ≠ [] := fun e => by
    rw [e] at lw
    have : 0 < R.length * w := Nat.mul_pos posR hw
    simp at lw
    omega
  have open_ : ¬ (gst (wsR R)).2 = [] := by rw [g]; exact e3
  have all : (gst (wsR R)).1 ++ [(gst (wsR R)).2] = R := by rw [g]; exact e2
  have rows : rowsW (wsR R) = rs := by
    unfold rowsW
    rw [all, ← hR, List.map_map]
    have : ∀ r ∈ rs, ((fun r => r.map valW) ∘ fun r => r.map numT) r = r := fun r hr => by
      show (r.map numT).map valW = r
      rw [List.map_map]
      have : ∀ z ∈ r, (valW ∘ numT) z = z := fun z hz => numT_val (hb r hr z hz)
      rw [List.map_congr_left this, List.map_id'']
      exact fun _ => rfl
    rw [List.map_congr_left this, List.map_id'']
    exact fun _ => rfl
  have wordOf : ∀ z ∈ wsR R, ∃ k : Int, k.natAbs < 10 ^ 30 ∧ (z = numT k ∨ z = numT k ++ ";") := fun z hz => by
    obtain ⟨r, hr, y, hy, e⟩ := wsR_mem R z hz
    obtain ⟨s, hs, rfl⟩ := rR r hr
    obtain ⟨k, hk, rfl⟩ := List.mem_map.mp hy
    exact ⟨k, hb s hs k hk, e⟩
  have nl : ∀ k : Int, k.natAbs < 10 ^ 30 → (numT k).length ≤ 31 := fun k h => by
    rw [str_len, tl_numT]
    have hl := TL.numL_len (k := 30) (n := k.natAbs) (by decide) h
    split
    · rw [show k.toNat = k.natAbs by omega]
      omega
    · rw [List.length_cons]
      omega
  refine ⟨?_, rows, .mat (fun j y hy => ?_) open_ fun j hj => ?_, ?_, fun z hz => ?_⟩
  · have t := gst_text _ (wsR R) rfl neL
    rw [if_neg open_, all] at t
    refine TL.ext_tl ?_
    rw [tl_joinB, t]
    unfold rtext
    rw [show (rs.map fun r => Txt.join " " (r.map numT)) = R.map (Txt.join " ") by rw [← hR, List.map_map]; rfl, tl_joinS]
  · obtain ⟨k, hk, e⟩ := wordOf y (List.mem_of_getElem? hy)
    unfold badW
    rcases e with rfl | rfl
    · rw [base_clean (intC_numT hk), intC_numT hk]
      rfl
    · rw [base_semi, intC_numT hk]
      rfl
  · rw [rows] at hj ⊢
    unfold lenAt
    have h0 : 0 < rs.length := by omega
    rw [getDr (List.getElem?_eq_getElem hj), getDr (List.getElem?_eq_getElem h0), hl _ (List.getElem_mem hj), hl _ (List.getElem_mem h0)]
  · rw [lw, ← hR, List.length_map]
  · obtain ⟨k, hk, e⟩ := wordOf z hz
    have := nl k hk
    rcases e with rfl | rfl
    · exact ⟨by omega, free32_numT k⟩
    · refine ⟨?_, ?_⟩
      · rw [app_len, show (";" : Str).length = 1 by decide +kernel]
        omega
      · rw [TL.tl_append, tl_semi]
        simp only [List.mem_append, not_or]
        exact ⟨free32_numT k, by decide⟩
-- part matn
theorem ix_tupK {X : Cx} {K : PySem.W.Frag} (hK : X.K = K) : IxR X (rIxT K) := by
  subst hK
  exact ix_tup
/-- the sum of the products of two rows -/
def dotN (w : Nat) (f g : Nat → Int) : Int := (rngN w fun k => f k * g k).sum
theorem rng_zip (w : Nat) (op : Int → Int → Int) (f g : Nat → Int) : List.zipWith op (rngN w f) (rngN w g) = rngN w fun k => op (f k) (g k) := by
  refine List.ext_getElem? fun k => ?_
  rw [List.getElem?_zipWith]
  by_cases c : k < w
  · rw [rngN_at c, rngN_at c, rngN_at c] <;> rfl
  · rw [List.getElem?_eq_none (by rw [rngN_len]; omega), List.getElem?_eq_none (l := rngN w fun k => op (f k) (g k)) (by rw [rngN_len]; omega)] <;> rfl
abbrev s_sop : Stmt := top 7
theorem sc_sop : FnScope ["first", "second", "m", "n"] ["first", "second"] (defScope s_sop) := ⟨rfl, rfl, rfl, by decide +kernel, rfl, by decide +kernel, by decide +kernel⟩
def spSop (K : PySem.W.Frag) : Sp := fun vs H Q _ => ∃ (a b : Addr) (w : Nat) (f g : Nat → Int), vs = [.ref a, .ref b] ∧ SqT K H a ((rngN w f).map V.int) ∧ SqT K H b ((rngN w g).map V.int) ∧ w ≤ 40 ∧ (∀ k, k < w → CMulW (f k) (g k)) ∧ ∀ H', Same H H' → Q (.int (dotN w f g)) H'
theorem ok_sop {f : Addr} {fd : FuncData} (T : Txt mg) (hsum : mg "sum" = none) (hzip : mg "zip" = none) (F : Fun K "sum_of_products" "sum_of_products" s_sop f fd) : FnOk P w K mg base CX0 1 f fd ["first", "second"] (spSop K) := by
  refine F.ok sc_sop (fun vs H Q E h => ?_) (fun cdv A outer s H vs Q E hr h => ?_)
  · obtain ⟨a, b, w, f, g, rfl, _⟩ := h
    rfl
  · obtain ⟨a, b, w, f', g', rfl, ha, hb, hw, hm, q⟩ := h
    refine ⟨_, (pss_one (ps_ret (pe_callB (cr_sum rfl) (by rfl) hsum (by decide +kernel) (pa_cons (pe_lc (own := [("m", 2), ("n", 3)]) (g := (gTup K 2 (gCons (gName 2) (gCons (gName 3) gNil)))) (tt := tYes) rfl sc_sop.nd (RZ.pi_zipA rfl hzip (pa_cons (pv 0) (pa_cons (pv 1) pa_nil))) (blkOk_by (N := ["first", "second", "m", "n"]) (sc := defScope s_sop) (by decide +kernel)) (fun _ _ _ _ _ => (pg_tup rfl (pgs_cons (pg_name (i := 2) sc_sop.nd rfl (Or.inl rfl)) (pgs_cons (pg_name (i := 3) sc_sop.nd rfl (Or.inl rfl)) pgs_nil)))) (fun _ _ _ _ _ => pts_nil) (fun _ _ _ _ _ => (pe_op op_mulW (pv 2) (pv 3)))) pa_nil)))), ?_⟩
    refine ⟨_, rfl, _, rfl, a, b, _, _, rfl, .inr ⟨ha, hb, fun D nD => lcMap (walk_zipT (n := w) (by rw [List.length_map, List.length_map, rngN_len, rngN_len, Nat.min_self])) ((rngN w fun k => f' k * g' k).map V.int) (by rw [List.length_map, rngN_len]) nD (fun H s => ⟨Evl.ex_t s ha, Evl.ex_t s hb⟩) ?_ ?_⟩⟩
    · rintro i x H4 H5 hi s4 hL ⟨Tp, x1, y1, rfl, nT, rfl, hx1, hy1⟩
      obtain ⟨z1, rfl, hz1⟩ := item_int hx1
      obtain ⟨z2, rfl, hz2⟩ := item_int hy1
      rw [rngN_at hi] at hz1 hz2
      obtain rfl := Option.some.inj hz1
      obtain rfl := Option.some.inj hz2
      refine ⟨Tp, _, rfl, SqT.of upd_same, rfl, _, _, rfl, _, _, rfl, rfl, rfl, _, rfl, _, rfl, _, _, rfl, rfl, hm i hi, ?_⟩
      have s5 := same_upd (o := .tup [.int (f' i), .int (g' i)]) nT
      exact mapEnd nD (by rw [List.length_map, rngN_len]; omega) (s4.trans s5) (s5 _ _ hL) (map_at (f := V.int) (rngN_at hi))
    · intro H4 s4 hL
      exact ⟨D, _, rfl, SqL.of hL, q H4 s4⟩
abbrev s_mtran : Stmt := inClass (top 14) 11
theorem sc_mtran : FnScope ["self", "row", "k"] ["self"] (defScope s_mtran) := ⟨rfl, rfl, rfl, by decide +kernel, rfl, by decide +kernel, by decide +kernel⟩
def spMtr (C : Addr) : Sp := fun vs H Q _ => ∃ (a : Addr) (h w : Nat) (f : Nat → Nat → Int), vs = [.ref a] ∧ MatAt C H a h w f ∧ ∀ r H', MatAt C H' r w h (fun i k => f k i) → Same H H' → Q (.ref r) H'
theorem ok_mtran {f C CB : Addr} {fd : FuncData} (TT : Txt mg) (T : MaT K mg C) (F : Fun K "transposed" "Matrix.transposed" s_mtran f fd) (c_mil : Ma P w K mg base 3 C (spMI C CB false K)) : FnOk P w K mg base CX0 5 f fd ["self"] (spMtr C) := by
  refine F.ok sc_mtran (fun vs H Q E h => ?_) (fun cdv A outer s H vs Q E hr h => ?_)
  · obtain ⟨a, h, w, g, rfl, _⟩ := h
    rfl
  · obtain ⟨a, h, w, g, rfl, m, q⟩ := h
    obtain ⟨dx, t, us, o1, o2, o3, o4⟩ := m.ob
    have h2 := m.h2
    have w2 := m.w2
    refine ⟨_, (pss_one (ps_ret (pe_ma c_mil hr T.g (pa_cons (pe_lc (own := [("k", 2)]) (g := (gName 2)) (tt := tYes) rfl sc_mtran.nd (pi_range1 rfl TT.range (pa_cons (pe_fld (pv 0) rfl) pa_nil)) (blkOk_by (N := ["self", "row", "k"]) (sc := defScope s_mtran) (by decide +kernel)) (fun _ _ _ _ _ => (pg_name (i := 2) sc_mtran.nd rfl (Or.inr rfl))) (fun _ _ _ _ _ => pts_nil) (fun _ _ _ _ _ => (pe_lc (own := [("row", 1)]) (g := (gName 1)) (tt := tYes) rfl sc_mtran.nd (pi_tupK (K := K) rfl (pe_fldK (K := K) rfl (pv 0) rfl)) (blkOk_by (N := ["self", "row", "k"]) (sc := ({ kind := .function, names := [(".0", .local), ("k", .cell), ("self", .cell)], isGenerator := false, isCoroutine := false, more := [] } : Scope)) (by decide +kernel)) (fun _ _ _ _ _ => (pg_name (i := 1) sc_mtran.nd rfl (Or.inl rfl))) (fun _ _ _ _ _ => pts_nil) (fun _ _ _ _ _ => (pe_ix (r := _) (by exact (ix_tupK (K := K) rfl)) (pv 1) (pv 2) (fun _ _ => rfl)))))) pa_nil)))), ?_⟩
    refine ⟨_, rfl, a, C, dx, _, _, rfl, o1, T.cl, T.nW, maF_w _ _ _, (w : Int), rfl, by omega, by omega, fun D nD => lcObj walk_range0 (RL h (fun i k => g k i)) nD (fun _ _ => trivial) ?_ ?_⟩
    · rintro i v H2 _ hi p2 ⟨rfl, rfl⟩
      rw [Int.toNat_natCast] at hi
      obtain ⟨acc, hacc, _⟩ := p2.2
      have s2 := p2.1
      refine ⟨rfl, _, rfl, a, C, dx, _, _, rfl, s2 _ _ o1, T.cl, T.nR, maF_r _ _ _, t, rfl, ⟨_, SqT.of (s2 _ _ o2)⟩, fun D2 nD2 => lcMap walk_tup ((rngN h fun k => g k i).map V.int) (by rw [List.length_map, rngN_len, o3]) nD2 (fun H s => SqT.of (s _ _ (s2 _ _ o2))) ?_ ?_⟩
      · rintro k y H3 _ hk s3 hL ⟨rfl, hy⟩
        rw [o3] at hk
        obtain ⟨q', e, hq⟩ := o4 k hk
        have ev : y = .ref q' := Option.some.inj (hy.symm.trans e)
        subst ev
        refine ⟨rfl, _, rfl, _, rfl, q', _, _, _, rfl, rfl, SqT.of (s3 _ _ (s2 _ _ hq)), atI_nat (map_at (f := V.int) (rngN_at hi)), ?_⟩
        exact mapEnd nD2 (by rw [List.length_map, rngN_len]; omega) s3 hL (map_at (f := V.int) (rngN_at hk))
      · intro H3 s3 hL
        exact objEnd stab_RL nD p2 s3 (by omega) (ref_ne nD2 hacc) ⟨D2, rfl, hL⟩
    · intro H2 acc s2 hacc hl hel
      exact fun x dx' nx ndx _ => make_maA (tup := false) nx ndx (SqL.of hacc) (rows_of (by rw [hl]; exact Int.toNat_natCast w) hel) m.w1 w2 m.h1 h2 fun H3 mr s3 => ⟨rfl, q x H3 mr (s2.trans s3)⟩
-- part matp
/-! equality of matrices; parts -/
def rowD (r : List Int) : PyData := .tuple (r.map PyData.int)
theorem dpAll_rows {H : Hp} : ∀ (vs : List V) (rs : List (List Int)), vs.length = rs.length → (∀ (i : Nat) (v : V) (r : List Int), vs[i]? = some v → rs[i]? = some r → ∃ q, v = .ref q ∧ H q = some (.tup (r.map V.int))) → DpAll K H vs (rs.map rowD)
  | [], [], _, _ => .nil
  | [], _ :: _, h, _ => by cases h
  | _ :: _, [], h, _ => by cases h
  | v :: vs, r :: rs, hl, h => by
    obtain ⟨q, rfl, hq⟩ := h 0 v r rfl rfl
    exact .cons (dp_tup (SqT.of hq)) (dpAll_rows vs rs (Nat.succ.inj hl) fun i v r hv hr => h (i + 1) v r hv hr)
theorem eqvAll_rows : ∀ l m : List (List Int), PyData.eqvAll (l.map rowD) (m.map rowD) = decide (l = m)
  | [], [] => by rw [List.map_nil, PyData.eqvAll]; rfl
  | [], b :: m => by rw [List.map_nil, List.map_cons, PyData.eqvAll] <;> first | (exact (decide_eq_false (by simp)).symm) | skip
  | a :: l, [] => by rw [List.map_nil, List.map_cons, PyData.eqvAll] <;> first | (exact (decide_eq_false (by simp)).symm) | skip
  | a :: l, b :: m => by
    rw [List.map_cons, List.map_cons, PyData.eqvAll, show rowD a = .tuple (a.map PyData.int) from rfl, show rowD b = .tuple (b.map PyData.int) from rfl, eqv_intsT, eqvAll_rows l m]
    by_cases c : a = b
    · subst c
      by_cases d : l = m
      · subst d
        simp
      · simp [d]
    · simp [c]
theorem canLay_rows : ∀ l : List (List Int), PyData.canLayAll0 (l.map rowD) = true
  | [] => by rw [List.map_nil, PyData.canLayAll0]
  | a :: l => by rw [List.map_cons, PyData.canLayAll0, canLay_rows l, show rowD a = .tuple (a.map PyData.int) from rfl, PyData.canLay0, canLay_ints]; rfl
theorem depth_rows : ∀ l : List (List Int), PyData.depthAll (l.map rowD) ≤ 1
  | [] => by rw [List.map_nil, PyData.depthAll]; exact Nat.zero_le 1
  | a :: l => by
    rw [List.map_cons, PyData.depthAll, show rowD a = .tuple (a.map PyData.int) from rfl, PyData.depth, depth_ints]
    exact Nat.max_le.mpr ⟨Nat.le_refl 1, depth_rows l⟩
theorem shaped_rows (l : List (List Int)) : SeqAt.shaped (.tuple (l.map rowD)) = true := by
  unfold SeqAt.shaped
  have d := depth_rows l
  rw [PyData.canLay0, canLay_rows, PyData.depth, Bool.true_and]
  exact decide_eq_true (by omega)
theorem MatAt.dp {C : Addr} {H : Hp} {a : Addr} {h w : Nat} {f : Nat → Nat → Int} (m : MatAt C H a h w f) : ∃ dx t, H a = some (.ins C dx (maF t h w)) ∧ Dp K H (.ref t) (.tuple ((mrows h w f).map rowD)) := by
  obtain ⟨dx, t, us, o1, o2, o3, o4⟩ := m.ob
  refine ⟨dx, t, o1, .tup (SqT.of o2) (dpAll_rows us _ (by rw [o3, mrows_len]) fun i v r hv hr => ?_)⟩
  have hi : i < h := by
    have := (List.getElem?_eq_some_iff.mp hv).1
    omega
  rw [mrows_at hi] at hr
  obtain rfl := Option.some.inj hr
  obtain ⟨q, e, hq⟩ := o4 i hi
  exact ⟨q, Option.some.inj (hv.symm.trans e), hq⟩
abbrev s_meqm : Stmt := inClass (top 14) 8
theorem sc_meqm : FnScope ["self", "other"] ["self", "other"] (defScope s_meqm) := ⟨rfl, rfl, rfl, by decide +kernel, rfl, by decide +kernel, by decide +kernel⟩
def spMeq (C : Addr) : Sp := fun vs H Q _ => ∃ (a b : Addr) (h w h' w' : Nat) (f g : Nat → Nat → Int), vs = [.ref a, .ref b] ∧ MatAt C H a h w f ∧ MatAt C H b h' w' g ∧ Q (.bl (decide (mrows h w f = mrows h' w' g))) H
theorem ok_meqm {f C : Addr} {fd : FuncData} (TT : Txt mg) (T : MaT K mg C) (F : Fun K "__eq__" "Matrix.__eq__" s_meqm f fd) : FnOk P w K mg base CX0 1 f fd ["self", "other"] (spMeq C) := by
  refine F.ok sc_meqm (fun vs H Q E h => ?_) (fun cdv A outer s H vs Q E hr h => ?_)
  · obtain ⟨a, b, _, _, _, _, _, _, rfl, _⟩ := h
    rfl
  · obtain ⟨a, b, h, w, h', w', g, g', rfl, m, m', q⟩ := h
    obtain ⟨dx, t, o1, d1⟩ := m.dp (K := K)
    obtain ⟨dy, u, u1, d2⟩ := m'.dp (K := K)
    refine ⟨_, (pss_one (ps_ret (pe_and (pe_callB (C8.call_isC T.isC) (by rfl) TT.isinstance boot_isinstance (pa_cons (pv 1) (pa_cons (pe_glob (v := .ref C) (by rfl) T.g rfl) pa_nil))) (pe_one (pe_cmpR (op_eqD (hu64 hr)) (pe_fld (pv 0) rfl) (pe_fld (pv 1) rfl) (nomark _)))))), ?_⟩
    refine ⟨_, rfl, b, dy, _, rfl, u1, _, rfl, if_pos_of rfl ?_⟩
    refine ⟨_, rfl, a, C, dx, _, _, rfl, o1, T.cl, T.nR, maF_r _ _ _, _, rfl, b, C, dy, _, _, rfl, u1, T.cl, T.nR, maF_r _ _ _, _, _, d1, d2, shaped_rows _, shaped_rows _, ?_⟩
    rw [PyData.eqv, eqvAll_rows]
    exact q
abbrev s_mpart : Stmt := inClass (top 14) 12
theorem sc_mpart : FnScope ["self", "rows", "columns", "k", "i"] ["self", "rows", "columns"] (defScope s_mpart) := ⟨rfl, rfl, rfl, by decide +kernel, rfl, by decide +kernel, by decide +kernel⟩
/-- rows and columns are passed as lists of places -/
def spMpart (C : Addr) (K : PySem.W.Frag) : Sp := fun vs H Q _ => ∃ (a p q : Addr) (h w : Nat) (f : Nat → Nat → Int) (rs cs : List Nat), vs = [.ref a, .ref p, .ref q] ∧ MatAt C H a h w f ∧ SqL K H p (rs.map fun (k : Nat) => V.int (k : Int)) ∧ SqL K H q (cs.map fun (k : Nat) => V.int (k : Int)) ∧ 1 ≤ rs.length ∧ rs.length ≤ 40 ∧ 1 ≤ cs.length ∧ cs.length ≤ 40 ∧
  (∀ i ∈ rs, i < h) ∧ (∀ k ∈ cs, k < w) ∧ ∀ r H', MatAt C H' r rs.length cs.length (fun i k => f (rs.getD i 0) (cs.getD k 0)) → Same H H' → Q (.ref r) H'
theorem ok_mpart {f C CB : Addr} {fd : FuncData} (T : MaT K mg C) (F : Fun K "part" "Matrix.part" s_mpart f fd) (c_mil : Ma P w K mg base 3 C (spMI C CB false K)) : FnOk P w K mg base CX0 5 f fd ["self", "rows", "columns"] (spMpart C K) := by
  refine F.ok sc_mpart (fun vs H Q E h => ?_) (fun cdv A outer s H vs Q E hr h => ?_)
  · obtain ⟨a, p, q, _, _, _, _, _, rfl, _⟩ := h
    rfl
  · obtain ⟨a, p, q', h, w, g, rs, cs, rfl, m, hp, hq, r1, r2, c1, c2, ri, ci, q⟩ := h
    obtain ⟨dx, t, us, o1, o2, o3, o4⟩ := m.ob
    refine ⟨_, (pss_one (ps_ret (pe_ma c_mil hr T.g (pa_cons (pe_lc (own := [("i", 4)]) (g := (gName 4)) (tt := tYes) rfl sc_mpart.nd (pi_list (pv 1)) (blkOk_by (N := ["self", "rows", "columns", "k", "i"]) (sc := defScope s_mpart) (by decide +kernel)) (fun _ _ _ _ _ => (pg_name (i := 4) sc_mpart.nd rfl (Or.inr rfl))) (fun _ _ _ _ _ => pts_nil) (fun _ _ _ _ _ => (pe_lc (own := [("k", 3)]) (g := (gName 3)) (tt := tYes) rfl sc_mpart.nd (pi_listK (K := K) rfl (pv 2)) (blkOk_by (N := ["self", "rows", "columns", "k", "i"]) (sc := ({ kind := .function, names := [(".0", .local), ("i", .cell), ("columns", .cell), ("self", .cell)], isGenerator := false, isCoroutine := false, more := [] } : Scope)) (by decide +kernel)) (fun _ _ _ _ _ => (pg_name (i := 3) sc_mpart.nd rfl (Or.inl rfl))) (fun _ _ _ _ _ => pts_nil) (fun _ _ _ _ _ => (pe_ix (ix_tupK (K := K) rfl) (pe_ix (ix_tupK (K := K) rfl) (pe_fldK (K := K) rfl (pv 0) rfl) (pv 4) (fun _ _ => rfl)) (pv 3) (fun _ _ => rfl)))))) pa_nil)))), ?_⟩
    have natAt : ∀ {l : List Nat} {i : Nat} {v : V}, (l.map fun (k : Nat) => V.int (k : Int))[i]? = some v → v = .int ((l.getD i 0 : Nat) : Int) ∧ l.getD i 0 ∈ l := fun {l i v} e => by
      rw [List.getElem?_map] at e
      obtain ⟨k, hk, rfl⟩ := Option.map_eq_some_iff.mp e
      rw [List.getD_eq_getElem?_getD, hk]
      exact ⟨rfl, List.mem_of_getElem? hk⟩
    refine ⟨_, rfl, p, rfl, ⟨_, hp⟩, fun D nD => lcObj walk_list (RL cs.length (fun i k => g (rs.getD i 0) (cs.getD k 0))) nD (fun H s => s.seq hp) ?_ ?_⟩
    · rintro i x H2 _ hi p2 ⟨rfl, hx⟩
      rw [List.length_map] at hi
      obtain ⟨rfl, mi⟩ := natAt hx
      have li := ri _ mi
      obtain ⟨q1, e1, hq1⟩ := o4 _ li
      obtain ⟨acc, hacc, _⟩ := p2.2
      have s2 := p2.1
      refine ⟨rfl, _, rfl, q', rfl, ⟨_, s2.seq hq⟩, fun D2 nD2 => lcMap walk_list ((rngN cs.length fun k => g (rs.getD i 0) (cs.getD k 0)).map V.int) (by rw [List.length_map, List.length_map, rngN_len]) nD2 (fun H s => s.seq (s2.seq hq)) ?_ ?_⟩
      · rintro k y H3 _ hk s3 hL ⟨rfl, hy⟩
        rw [List.length_map] at hk
        obtain ⟨rfl, mk⟩ := natAt hy
        have lk := ci _ mk
        have s23 := s2.trans s3
        refine ⟨rfl, _, rfl, a, C, dx, _, _, rfl, s23 _ _ o1, T.cl, T.nR, maF_r _ _ _, _, rfl, t, _, _, _, rfl, rfl, SqT.of (s23 _ _ o2), atI_nat e1, _, rfl, q1, _, _, _, rfl, rfl, SqT.of (s23 _ _ hq1), atI_nat (map_at (f := V.int) (rngN_at lk)), ?_⟩
        exact mapEnd nD2 (by rw [List.length_map, rngN_len]; omega) s3 hL (map_at (f := V.int) (rngN_at hk))
      · intro H3 s3 hL
        exact objEnd stab_RL nD p2 s3 (by omega) (ref_ne nD2 hacc) ⟨D2, rfl, hL⟩
    · intro H2 acc s2 hacc hl hel
      exact fun x dx' nx ndx _ => make_maA (tup := false) nx ndx (SqL.of hacc) (rows_of (by rw [hl, List.length_map]) hel) r1 r2 c1 c2 fun H3 mr s3 => ⟨rfl, q x H3 mr (s2.trans s3)⟩
-- part lmat
/-! the laws' matrices, drawn from the pool -/
def RowL (w B : Nat) (H : Hp) (q : Addr) : Prop := ∃ row : List Int, H q = some (.lst (row.map V.int)) ∧ row.length = w ∧ ∀ z ∈ row, z.natAbs ≤ B
theorem last_intM {l : List Int} (h : 0 < l.length) : atI (l.map V.int) (-1) = some (V.int (l.getD (l.length - 1) 0)) := by
  have h1 : l.length - 1 < l.length := by omega
  have hl := getD_at h1
  have e : l = l.take (l.length - 1) ++ [l.getD (l.length - 1) 0] := by
    have := List.take_add_one (l := l) (i := l.length - 1)
    rw [hl, show l.length - 1 + 1 = l.length by omega, List.take_length] at this
    exact this
  have := atI_last ((l.take (l.length - 1)).map V.int) (V.int (l.getD (l.length - 1) 0))
  rw [show (l.take (l.length - 1)).map V.int ++ [V.int (l.getD (l.length - 1) 0)] = l.map V.int by
    conv => rhs; rw [e]
    rw [List.map_append]; rfl] at this
  exact this
/-- rows of their own, none of them the pool, the list at D, or there before -/
structure LRows (H1 : Hp) (p D : Addr) (w B : Nat) (H : Hp) (acc : List Addr) : Prop where
  at_ : H D = some (.lst (acc.map V.ref))
  nd : acc.Nodup
  nD : D ∉ acc
  np : p ∉ acc
  fr : ∀ q ∈ acc, H1 q = none
  row : ∀ q ∈ acc, RowL w B H q
theorem LRows.but {H1 H H' : Hp} {p D : Addr} {w B : Nat} {acc : List Addr} (L : LRows H1 p D w B H acc) (b : SameBut p H H') (Dp : D ≠ p) : LRows H1 p D w B H' acc :=
  ⟨b _ _ Dp L.at_, L.nd, L.nD, L.np, L.fr, fun q hq => by
    obtain ⟨row, h1, h2⟩ := L.row q hq
    exact ⟨row, b _ _ (fun e => L.np (e ▸ hq)) h1, h2⟩⟩
/-- one more new row -/
theorem LRows.push {H1 H H' : Hp} {p D q : Addr} {w B : Nat} {acc : List Addr} (L : LRows H1 p D w B H' acc) (Dp : D ≠ p) (qp : q ≠ p) (qD : q ≠ D) (qn : q ∉ acc) (fq : H1 q = none) (r : RowL w B H' q) : LRows H1 p D w B (upd H' D (.lst (acc.map V.ref ++ [.ref q]))) (acc ++ [q]) := by
  refine ⟨by rw [List.map_append]; exact upd_same, ?_, ?_, ?_, ?_, ?_⟩
  · rw [List.nodup_append]
    refine ⟨L.nd, List.nodup_cons.mpr ⟨fun h => (nomatch h), List.nodup_nil⟩, fun a ha b hb e => ?_⟩
    rw [List.mem_singleton.mp hb] at e
    exact qn (e ▸ ha)
  · intro m
    rcases List.mem_append.mp m with h | h
    · exact L.nD h
    · exact qD (List.mem_singleton.mp h).symm
  · intro m
    rcases List.mem_append.mp m with h | h
    · exact L.np h
    · exact qp (List.mem_singleton.mp h).symm
  · intro z hz
    rcases List.mem_append.mp hz with h | h
    · exact L.fr z h
    · rw [List.mem_singleton.mp h]
      exact fq
  · intro z hz
    have key : z ≠ D → RowL w B H' z → RowL w B (upd H' D (.lst (acc.map V.ref ++ [.ref q]))) z := fun ne ⟨row, a, b⟩ => ⟨row, by rw [upd_ne ne]; exact a, b⟩
    rcases List.mem_append.mp hz with h | h
    · exact key (fun e => L.nD (e ▸ h)) (L.row z h)
    · obtain rfl := List.mem_singleton.mp h
      exact key qD r
theorem nodup_set {acc : List Addr} {k : Nat} {q : Addr} (nd : acc.Nodup) (qn : q ∉ acc) : (acc.set k q).Nodup := by
  refine List.pairwise_iff_getElem.mpr fun i j hi hj ij e => ?_
  rw [List.length_set] at hi hj
  have old : ∀ a, a < acc.length → acc[a]? = some acc[a]! := fun a ha => by rw [getElem!_pos acc a ha]; exact List.getElem?_eq_getElem ha
  have e2 : (acc.set k q)[i]? = (acc.set k q)[j]? := by
    rw [List.getElem?_eq_getElem (by rw [List.length_set]; exact hi), List.getElem?_eq_getElem (by rw [List.length_set]; exact hj), e]
  rw [List.getElem?_set, List.getElem?_set] at e2
  by_cases ci : k = i
  · have cj : ¬ k = j := by omega
    rw [if_pos ci, if_pos (by omega), if_neg cj] at e2
    exact qn (List.mem_of_getElem? e2.symm)
  · rw [if_neg ci] at e2
    by_cases cj : k = j
    · rw [if_pos cj, if_pos (by omega)] at e2
      exact qn (List.mem_of_getElem? e2)
    · rw [if_neg cj] at e2
      have := (List.getElem?_inj hi nd).mp e2
      omega
/-- a row is replaced by a new one -/
theorem LRows.set {H1 H : Hp} {p D q : Addr} {w B : Nat} {acc : List Addr} {k : Nat} (L : LRows H1 p D w B H acc) (qp : q ≠ p) (qD : q ≠ D) (qn : q ∉ acc) (fq : H1 q = none) (r : RowL w B H q) : LRows H1 p D w B (upd H D (.lst ((acc.map V.ref).set k (.ref q)))) (acc.set k q) := by
  have key : ∀ z, z ≠ D → RowL w B H z → RowL w B (upd H D (.lst ((acc.map V.ref).set k (.ref q)))) z := fun z ne ⟨row, a, b⟩ => ⟨row, by rw [upd_ne ne]; exact a, b⟩
  refine ⟨by rw [List.map_set]; exact upd_same, nodup_set L.nd qn, fun m => ?_, fun m => ?_, fun z hz => ?_, fun z hz => ?_⟩
  · rcases List.mem_or_eq_of_mem_set m with h | h
    · exact L.nD h
    · exact qD h.symm
  · rcases List.mem_or_eq_of_mem_set m with h | h
    · exact L.np h
    · exact qp h.symm
  · rcases List.mem_or_eq_of_mem_set hz with h | h
    · exact L.fr z h
    · rw [h]
      exact fq
  · rcases List.mem_or_eq_of_mem_set hz with h | h
    · exact key z (fun e => L.nD (e ▸ h)) (L.row z h)
    · subst h
      exact key z qD r
theorem RowL.mono {w B B' : Nat} {H : Hp} {q : Addr} (r : RowL w B H q) (h : B ≤ B') : RowL w B' H q := by
  obtain ⟨row, a, b, c⟩ := r
  exact ⟨row, a, b, fun z hz => Nat.le_trans (c z hz) h⟩
theorem LRows.mono {H1 H : Hp} {p D : Addr} {w B B' : Nat} {acc : List Addr} (L : LRows H1 p D w B H acc) (h : B ≤ B') : LRows H1 p D w B' H acc := ⟨L.at_, L.nd, L.nD, L.np, L.fr, fun q hq => (L.row q hq).mono h⟩
abbrev s_lmat : Stmt := top 19
theorem sc_lmat : FnScope ["_law_pool_here", "_law_height", "_law_width", "_law_rows", "_law_j", "_law_i", "_law_which", "_law_item", "_law_factor", "_law_row"] ["_law_pool_here", "_law_height", "_law_width"] (defScope s_lmat) := ⟨rfl, rfl, rfl, by decide +kernel, rfl, by decide +kernel, by decide +kernel⟩
def spLmat : Sp := fun vs H Q _ => ∃ (p : Addr) (h w : Nat), vs = [.ref p, .int (h : Int), .int (w : Int)] ∧ PoolAt H p ∧ 1 ≤ h ∧ h ≤ 6 ∧ 1 ≤ w ∧ w ≤ 6 ∧
  ∀ D acc H', SameBut p H H' → PoolAt H' p → H D = none → D ≠ p → acc.length = h → LRows H p D w 700 H' acc → Q (.ref D) H'
theorem ok_lmat {f : Addr} {fd : FuncData} (T : Txt mg) (henum : mg "enumerate" = none) (F : Fun K "_law_matrix" "_law_matrix" s_lmat f fd) (c_take : Cl P w K mg base CX0 1 "_law_take" spTake) : FnOk P w K mg base CX0 2 f fd ["_law_pool_here", "_law_height", "_law_width"] spLmat := by
  refine F.ok sc_lmat (fun vs H Q E h => ?_) (fun cdv A outer s H vs Q E hr h => ?_)
  · obtain ⟨p, h, w, rfl, _⟩ := h
    rfl
  · obtain ⟨p, h, w, rfl, P0, h1, h2, w1, w2, q⟩ := h
    refine ⟨_, (Evl.pss_cut (ps_set (i := 3) sc_lmat.nd rfl (Or.inr rfl) (pe_lc (own := [("_law_i", 5)]) (g := (gName 5)) (tt := tYes) rfl sc_lmat.nd (pi_range1 rfl T.range (pa_cons (pv 1) pa_nil)) (blkOk_by (N := ["_law_pool_here", "_law_height", "_law_width", "_law_rows", "_law_j", "_law_i", "_law_which", "_law_item", "_law_factor", "_law_row"]) (sc := defScope s_lmat) (by decide +kernel)) (fun _ _ _ _ _ => (pg_name (i := 5) sc_lmat.nd rfl (Or.inl rfl))) (fun _ _ _ _ _ => pts_nil) (fun _ _ _ _ _ => (pe_lc (own := [("_law_j", 4)]) (g := (gName 4)) (tt := tYes) rfl sc_lmat.nd (pi_range1 rfl T.range (pa_cons (pv 2) pa_nil)) (blkOk_by (N := ["_law_pool_here", "_law_height", "_law_width", "_law_rows", "_law_j", "_law_i", "_law_which", "_law_item", "_law_factor", "_law_row"]) (sc := ({ kind := .function, names := [(".0", .local), ("_law_i", .local), ("range", .globalImplicit), ("_law_pool_here", .cell), ("_law_width", .cell)], isGenerator := false, isCoroutine := false, more := [] } : Scope)) (by decide +kernel)) (fun _ _ _ _ _ => (pg_name (i := 4) sc_lmat.nd rfl (Or.inl rfl))) (fun _ _ _ _ _ => pts_nil) (fun _ _ _ _ _ => (pe_op op_sub (pe_cl c_take (by exact hr) (pa_cons (pv 0) (pa_cons pe_int pa_nil))) pe_int))))))
 (Evl.pss_cut (ps_set (i := 6) sc_lmat.nd rfl (Or.inl rfl) (pe_cl c_take hr (pa_cons (pv 0) (pa_cons pe_int pa_nil))))
 (Evl.pss_cut (ps_if (pw_and (pt_cmpR op_eq (pv 6) pe_int (nomark _)) (pw_and1 (pt_cmpR op_gt (pv 1) pe_int (nomark _)))).pt (pss_one (ps_asg (pe_lc (own := [("_law_j", 4), ("_law_item", 7)]) (g := (gTup K 2 (gCons (gName 4) (gCons (gName 7) gNil)))) (tt := tYes) rfl sc_lmat.nd (pi_enum rfl henum (pa_cons (pe_ix ix_list (pv 3) (pe_op op_fdivW (pe_op op_sub (pv 1) pe_int) pe_int) (fun _ _ => rfl)) pa_nil)) (blkOk_by (N := ["_law_pool_here", "_law_height", "_law_width", "_law_rows", "_law_j", "_law_i", "_law_which", "_law_item", "_law_factor", "_law_row"]) (sc := defScope s_lmat) (by decide +kernel)) (fun _ _ _ _ _ => (pg_tup rfl (pgs_cons (pg_name (i := 4) sc_lmat.nd rfl (Or.inl rfl)) (pgs_cons (pg_name (i := 7) sc_lmat.nd rfl (Or.inl rfl)) pgs_nil)))) (fun _ _ _ _ _ => pts_nil) (fun _ _ _ _ _ => (pe_op op_add (pv 7) (pe_ix (r := rIxL K) (by exact ix_list) (pe_ix (r := rIxL K) (by exact ix_list) (pv 3) pe_int (fun _ _ => rfl)) (pv 4) (fun _ _ => rfl))))) (pg_sub (pv 3) (pe_un un_neg pe_int) set_list))) pss_nil)
 (Evl.pss_cut (ps_if (pt_cmpR op_eq (pv 6) pe_int (nomark _)) (pss_cons (ps_set (i := 8) sc_lmat.nd rfl (Or.inr rfl) (pe_ix ix_list (pe_lst (pa_cons pe_int (pa_cons pe_int (pa_cons pe_int (pa_cons pe_int (pa_cons pe_int pa_nil)))))) (pe_cl c_take hr (pa_cons (pv 0) (pa_cons pe_int pa_nil))) (fun _ _ => rfl)))
 (pss_one (ps_asg (pe_lc (own := [("_law_item", 7)]) (g := (gName 7)) (tt := tYes) rfl sc_lmat.nd (pi_list (pe_ix ix_list (pv 3) pe_int (fun _ _ => rfl))) (blkOk_by (N := ["_law_pool_here", "_law_height", "_law_width", "_law_rows", "_law_j", "_law_i", "_law_which", "_law_item", "_law_factor", "_law_row"]) (sc := defScope s_lmat) (by decide +kernel)) (fun _ _ _ _ _ => (pg_name (i := 7) sc_lmat.nd rfl (Or.inl rfl))) (fun _ _ _ _ _ => pts_nil) (fun _ _ _ _ _ => (pe_op op_mul (pv 8) (pv 7)))) (pg_sub (pv 3) pe_int set_list)))) pss_nil)
 (Evl.pss_cut (ps_if (pt_cmpR op_eq (pv 6) pe_int (nomark _)) (pss_cons (ps_set (i := 8) sc_lmat.nd rfl (Or.inr rfl) (pe_ix ix_list (pe_lst (pa_cons pe_int (pa_cons pe_int (pa_cons pe_int pa_nil)))) (pe_cl c_take hr (pa_cons (pv 0) (pa_cons pe_int pa_nil))) (fun _ _ => rfl)))
 (pss_one (ps_set (i := 3) sc_lmat.nd rfl (Or.inr rfl) (pe_lc (own := [("_law_row", 9)]) (g := (gName 9)) (tt := tYes) rfl sc_lmat.nd (pi_list (pv 3)) (blkOk_by (N := ["_law_pool_here", "_law_height", "_law_width", "_law_rows", "_law_j", "_law_i", "_law_which", "_law_item", "_law_factor", "_law_row"]) (sc := defScope s_lmat) (by decide +kernel)) (fun _ _ _ _ _ => (pg_name (i := 9) sc_lmat.nd rfl (Or.inl rfl))) (fun _ _ _ _ _ => pts_nil) (fun _ _ _ _ _ => (pe_lc (own := [("_law_item", 7)]) (g := (gName 7)) (tt := tYes) rfl sc_lmat.nd (pi_listK (K := K) rfl (pv 9)) (blkOk_by (N := ["_law_pool_here", "_law_height", "_law_width", "_law_rows", "_law_j", "_law_i", "_law_which", "_law_item", "_law_factor", "_law_row"]) (sc := ({ kind := .function, names := [(".0", .local), ("_law_row", .local), ("_law_factor", .cell)], isGenerator := false, isCoroutine := false, more := [] } : Scope)) (by decide +kernel)) (fun _ _ _ _ _ => (pg_name (i := 7) sc_lmat.nd rfl (Or.inl rfl))) (fun _ _ _ _ _ => pts_nil) (fun _ _ _ _ _ => (pe_op op_mul (pv 8) (pv 7))))))))) pss_nil)
 (Evl.pss_cut (ps_if (pt_cmpR op_eq (pv 6) pe_int (nomark _)) (pss_one (ps_for PassesOwn.never rfl (pi_list (pv 3)) (pg_name (i := 9) sc_lmat.nd rfl (Or.inl rfl)) (pss_one (ps_asg (pe_op op_add (pe_ix ix_list (pv 9) pe_int (fun _ _ => rfl)) (pe_op op_mul pe_int (pe_ix ix_list (pv 9) (pe_un un_neg pe_int) (fun _ _ => rfl)))) (pg_sub (pv 9) (pe_un un_neg pe_int) set_list))))) pss_nil)
 (pss_one (ps_ret (pv 3))))))))), ?_⟩
    refine ⟨fun σ H' => ∃ (D : Addr) (acc : List Addr) (x4 x5 : Option V), SameBut p H H' ∧ PoolAt H' p ∧ H D = none ∧ D ≠ p ∧ acc.length = h ∧ LRows H p D w 3 H' acc ∧ σ = [some (.ref p), some (.int (h : Int)), some (.int (w : Int)), some (.ref D), x4, x5, none, none, none, none], ?_, ?_⟩
    · refine ⟨_, rfl, (h : Int), rfl, by omega, by omega, fun D nD => ?_⟩
      have Dp := P0.new nD
      refine lc_range (lo := 0) (n := (h : Int).toNat) (fun i H' => SameBut p H H' ∧ PoolAt H' p ∧ ∃ acc : List Addr, acc.length = i ∧ LRows H p D w 3 H' acc)
        ⟨sbut (same_upd nD), P0.same (same_upd nD), [], rfl, upd_same, List.nodup_nil, fun h => (nomatch h), fun h => (nomatch h), fun _ h => (nomatch h), fun _ h => (nomatch h)⟩ ?_ ?_
      · rintro i H4 hi ⟨b4, P4, acc, hl, L⟩
        rw [Int.toNat_natCast] at hi
        refine ⟨rfl, _, rfl, (w : Int), rfl, by omega, by omega, fun D2 nD2 => ?_⟩
        have D2p := P4.new nD2
        have D2D : D2 ≠ D := fun e => by
          have := L.at_
          rw [← e, nD2] at this
          cases this
        have D2n : D2 ∉ acc := fun m => by
          obtain ⟨row, h1, _⟩ := L.row D2 m
          rw [nD2] at h1
          cases h1
        have fD2 : H D2 = none := by
          cases e : H D2 with
          | none => rfl
          | some o => rw [b4 _ _ D2p e] at nD2; cases nD2
        refine lc_range (lo := 0) (n := (w : Int).toNat) (fun k H' => SameBut p H4 H' ∧ PoolAt H' p ∧ ∃ zs : List Int, H' D2 = some (.lst (zs.map V.int)) ∧ zs.length = k ∧ ∀ z ∈ zs, z.natAbs ≤ 3)
          ⟨sbut (same_upd nD2), P4.same (same_upd nD2), [], upd_same, rfl, fun _ h => (nomatch h)⟩ ?_ ?_
        · rintro k H5 hk ⟨b5, P5, zs, hz, hlz, bz⟩
          rw [Int.toNat_natCast] at hk
          refine ⟨rfl, _, rfl, p, 7, rfl, P5, by decide, by decide, fun u H6 u0 u1 e6 P6 => ?_⟩
          have hz6 : H6 D2 = some (.lst (zs.map V.int)) := by
            rw [e6 D2 D2p]
            exact hz
          refine ⟨_, _, rfl, rfl, zs.map V.int, hz6, small1000 (by rw [List.length_map]; omega), fun b o hb eb => ?_, ?_, zs ++ [u - 3], ?_, ?_, ?_⟩
          · have hbD : b ≠ D2 := ne_of_none eb nD2
            rw [upd_ne hbD, e6 b hb]
            exact b5 b o hb eb
          · obtain ⟨a1, a2, a3, a4⟩ := P6
            exact ⟨a1, a2, a3, by rw [upd_ne D2p.symm]; exact a4⟩
          · rw [List.map_append]
            exact upd_same
          · rw [List.length_append, hlz]
            rfl
          · intro y hy
            rcases List.mem_append.mp hy with h | h
            · exact bz y h
            · rw [List.mem_singleton.mp h]
              omega
        · rintro H5 ⟨b5, P5, zs, hz, hlz, bz⟩
          rw [Int.toNat_natCast] at hlz
          have L5 := L.but b5 Dp
          refine ⟨_, L5.at_, small1000 (by rw [List.length_map]; omega), fun b o hb eb => ?_, ?_, acc ++ [D2], by rw [List.length_append, hl]; rfl, L5.push (H := H) Dp D2p D2D D2n fD2 ⟨zs, hz, hlz, bz⟩⟩
          · rw [upd_ne (ne_of_none eb nD)]
            exact b5 b o hb (b4 b o hb eb)
          · obtain ⟨a1, a2, a3, a4⟩ := P5
            exact ⟨a1, a2, a3, by rw [upd_ne Dp.symm]; exact a4⟩
      · rintro H4 ⟨b4, P4, acc, hl, L⟩
        rw [Int.toNat_natCast] at hl
        exact ⟨D, acc, _, _, b4, P4, nD, Dp, hl, L, rfl⟩
    rintro σ H1 ⟨D, acc, x4, x5, b1, P1, nD, Dp, hl, L, rfl⟩
    -- which
    refine ⟨fun σ H' => ∃ v : Int, SameBut p H H' ∧ PoolAt H' p ∧ LRows H p D w 3 H' acc ∧ σ = [some (.ref p), some (.int (h : Int)), some (.int (w : Int)), some (.ref D), x4, x5, some (.int v), none, none, none], ?_, ?_⟩
    · refine ⟨_, rfl, p, 6, rfl, P1, by decide, by decide, fun u H2 u0 u1 e2 P2 => ?_⟩
      have b2 : SameBut p H1 H2 := SameBut.of e2
      exact ⟨u, b1.trans b2, P2, L.but b2 Dp, rfl⟩
    rintro σ H2 ⟨v, b2, P2, L2', rfl⟩
    have atRow : ∀ {G : Hp} {B : Nat} {ac : List Addr} {k : Nat}, LRows H p D w B G ac → k < ac.length → ∃ (q : Addr) (row : List Int), ac[k]? = some q ∧ atI (ac.map V.ref) (k : Int) = some (.ref q) ∧ G q = some (.lst (row.map V.int)) ∧ row.length = w ∧ ∀ z ∈ row, z.natAbs ≤ B := fun {G B ac k} L hk => by
      have e : ac[k]? = some ac[k] := List.getElem?_eq_getElem hk
      obtain ⟨row, h1, h2, h3⟩ := L.row _ (List.getElem_mem hk)
      exact ⟨ac[k], row, e, atI_nat (map_at (f := V.ref) e), h1, h2, h3⟩
    -- fresh rows
    have fresh : ∀ {G : Hp} {B : Nat} {ac : List Addr} {x : Addr}, SameBut p H G → PoolAt G p → LRows H p D w B G ac → G x = none → x ≠ p ∧ x ≠ D ∧ x ∉ ac ∧ H x = none := fun {G B ac x} b P L n => by
      have xp := P.new n
      refine ⟨xp, fun e => ?_, fun m => ?_, ?_⟩
      · have := L.at_
        rw [← e, n] at this
        cases this
      · obtain ⟨row, h1, _⟩ := L.row x m
        rw [n] at h1
        cases h1
      · cases e : H x with
        | none => rfl
        | some o => rw [b _ _ xp e] at n; cases n
    refine ⟨fun σ H' => ∃ (acc : List Addr) (x4 x7 : Option V), SameBut p H H' ∧ PoolAt H' p ∧ acc.length = h ∧ LRows H p D w 6 H' acc ∧ σ = [some (.ref p), some (.int (h : Int)), some (.int (w : Int)), some (.ref D), x4, x5, some (.int v), x7, none, none], ?_, ?_⟩
    · refine ⟨_, rfl, rfl, _, rfl, ?_⟩
      by_cases c0 : v = 0
      · refine if_pos_of (decide_eq_true (by rw [c0])) ⟨_, rfl, _, _, rfl, rfl, _, rfl, ?_⟩
        by_cases c1 : 1 < h
        · refine if_pos_of (decide_eq_true (by omega)) ?_
          obtain ⟨q1, row1, a1, i1, g1, l1, bd1⟩ := atRow (k := (h - 1) / 2) L2' (by omega)
          obtain ⟨q0, row0, a0, i0, g0, l0, bd0⟩ := atRow (k := 0) L2' (by omega)
          have ek : ((h : Int) - 1) / 2 = (((h - 1) / 2 : Nat) : Int) := by omega
          refine ⟨_, rfl, _, rfl, _, _, rfl, rfl, _, _, rfl, rfl, ?_, D, _, _, _, rfl, rfl, SqL.of L2'.at_, by rw [ek]; exact i1, q1, _, rfl, SqL.of g1, fun D2 nD2 => lcMap walk_enum ((List.zipWith (· + ·) row1 row0).map V.int) (by rw [List.length_map, List.length_map, List.length_zipWith]; omega) nD2 (fun H s => SqL.of (s _ _ g1)) ?_ ?_⟩
          · exact ⟨by decide, by decide⟩
          · rintro i x H4 H5 hi s4 hL ⟨Tp, x1, y1, rfl, nT, rfl, hx1, hy1⟩
            cases hx1
            rw [List.length_map] at hi
            obtain ⟨z1, rfl, hz1⟩ := item_int hy1
            have s5 := s4.trans (same_upd (o := .tup [.int (i : Nat), .int z1]) nT)
            have hz0 : row0[i]? = some (row0.getD i 0) := getD_at (by omega)
            refine ⟨Tp, _, rfl, SqT.of upd_same, rfl, _, _, rfl, _, _, rfl, rfl, rfl, _, rfl, _, rfl, D, _, _, _, rfl, rfl, SqL.of (s5 _ _ L2'.at_), i0, _, rfl, q0, _, _, _, rfl, rfl, SqL.of (s5 _ _ g0), atI_nat (map_at (f := V.int) hz0), _, _, rfl, rfl, ?_⟩
            exact mapEnd nD2 (by rw [List.length_map, List.length_zipWith]; omega) s5 ((same_upd (o := .tup [.int (i : Nat), .int z1]) nT) _ _ hL) (map_at (f := V.int) (by rw [List.getElem?_zipWith, hz1, hz0] <;> rfl))
          · intro H4 s4 hL
            obtain ⟨f1, f2, f3, f4⟩ := fresh b2 P2 L2' nD2
            have L4 := (L2'.but (sbut s4) Dp).mono (show 3 ≤ 6 by decide)
            refine ⟨_, rfl, _, rfl, D, _, _, h - 1, rfl, rfl, L4.at_, ?_, acc.set (h - 1) D2, _, _, ?_, ?_, ?_, L4.set f1 f2 f3 f4 ⟨_, hL, by rw [List.length_zipWith]; omega, fun z hz => ?_⟩, rfl⟩
            · unfold ixN
              rw [if_neg (by decide), if_pos (by rw [List.length_map]; omega), List.length_map]
              congr 1
              omega
            · exact fun b o hb eb => by
                rw [upd_ne (ne_of_none eb nD)]
                exact s4 b o (b2 b o hb eb)
            · obtain ⟨a1, a2, a3, a4⟩ := P2
              exact ⟨a1, a2, a3, by rw [upd_ne Dp.symm]; exact s4 _ _ a4⟩
            · rw [List.length_set, hl]
            · obtain ⟨k, hk⟩ := List.getElem?_of_mem hz
              rw [List.getElem?_zipWith] at hk
              cases e1 : row1[k]? with
              | none => rw [e1] at hk; cases hk
              | some y1 =>
                cases e2 : row0[k]? with
                | none => rw [e1, e2] at hk; cases hk
                | some y0 =>
                  rw [e1, e2] at hk
                  obtain rfl := Option.some.inj hk
                  have t1 := bd1 y1 (List.mem_of_getElem? e1)
                  have t0 := bd0 y0 (List.mem_of_getElem? e2)
                  omega
        · exact if_neg_of (decide_eq_false (by omega)) ⟨acc, x4, none, b2, P2, hl, L2'.mono (by decide), rfl⟩
      · exact if_neg_of (decide_eq_false fun e => c0 (V.int.inj e)) (if_neg_of rfl ⟨acc, x4, none, b2, P2, hl, L2'.mono (by decide), rfl⟩)
    rintro σ H3 ⟨acc3, x4', x7, b3, P3, hl3, L3, rfl⟩
    have ix0 : ∀ {n : Nat}, 0 < n → ixN n (0 : Int) = some 0 := fun {n} hn => Evl.ixN_nat (j := 0) hn
    have keepP : ∀ {G G' : Hp} {xs : List V}, PoolAt G p → Same G G' → PoolAt (upd G' D (.lst xs)) p := fun {G G' xs} P s => by
      obtain ⟨a1, a2, a3, a4⟩ := P
      exact ⟨a1, a2, a3, by rw [upd_ne Dp.symm]; exact s _ _ a4⟩
    have keepB : ∀ {G G' : Hp} {xs : List V}, SameBut p H G → Same G G' → SameBut p H (upd G' D (.lst xs)) := fun {G G' xs} b s x o hx ex => by
      rw [upd_ne (ne_of_none ex nD)]
      exact s x o (b x o hx ex)
    refine ⟨fun σ H' => ∃ (acc : List Addr) (x4 x7 x8 : Option V), SameBut p H H' ∧ PoolAt H' p ∧ acc.length = h ∧ LRows H p D w 36 H' acc ∧ σ = [some (.ref p), some (.int (h : Int)), some (.int (w : Int)), some (.ref D), x4, x5, some (.int v), x7, x8, none], ?_, ?_⟩
    · refine ⟨_, rfl, rfl, _, rfl, ?_⟩
      by_cases c0 : v = 1
      · refine if_pos_of (decide_eq_true (by rw [c0])) ?_
        refine ⟨(by show 5 ≤ sizeLine; decide), fun m nm => ?_⟩
        have km := same_upd (o := .lst [.int 2, .int 3, .int 6, .int 5, .int 4]) nm
        refine ⟨_, rfl, p, 5, rfl, P3.same km, by decide, by decide, fun u H4 u0 u1 e4 P4 => ?_⟩
        have mp := P3.new nm
        have hm4 : H4 m = some (.lst [.int 2, .int 3, .int 6, .int 5, .int 4]) := by
          rw [e4 m mp]
          exact upd_same
        have pick : ∃ fa : Int, atI ([.int 2, .int 3, .int 6, .int 5, .int 4] : List V) u = some (.int fa) ∧ fa.natAbs ≤ 6 := by
          have : u = 0 ∨ u = 1 ∨ u = 2 ∨ u = 3 ∨ u = 4 := by omega
          rcases this with rfl | rfl | rfl | rfl | rfl
          · exact ⟨2, rfl, by decide⟩
          · exact ⟨3, rfl, by decide⟩
          · exact ⟨6, rfl, by decide⟩
          · exact ⟨5, rfl, by decide⟩
          · exact ⟨4, rfl, by decide⟩
        obtain ⟨fa, hfa, bfa⟩ := pick
        have b34 : SameBut p H3 H4 := (sbut km).trans (SameBut.of e4)
        have L4 := L3.but b34 Dp
        obtain ⟨q0, row0, a0, i0, g0, l0, bd0⟩ := atRow (k := 0) L4 (by omega)
        refine ⟨m, _, _, _, rfl, rfl, SqL.of hm4, hfa, ?_⟩
        refine ⟨_, rfl, D, _, _, _, rfl, rfl, SqL.of L4.at_, i0, q0, rfl, ⟨_, SqL.of g0⟩, fun D2 nD2 => lcMap walk_list ((row0.map (fa * ·)).map V.int) (by rw [List.length_map, List.length_map, List.length_map]) nD2 (fun H s => SqL.of (s _ _ g0)) ?_ ?_⟩
        · rintro i x H5 _ hi s5 hL ⟨rfl, hx⟩
          obtain ⟨z, rfl, hz⟩ := item_int hx
          refine ⟨rfl, _, rfl, _, rfl, _, _, rfl, rfl, .inl ⟨by omega, by omega⟩, ?_⟩
          exact mapEnd nD2 (by rw [List.length_map, List.length_map]; omega) s5 hL (map_at (f := V.int) (by rw [List.getElem?_map, hz] <;> rfl))
        · intro H5 s5 hL
          have b4 := b3.trans b34
          obtain ⟨f1, f2, f3, f4⟩ := fresh b4 P4 L4 nD2
          have L5 := (L4.but (sbut s5) Dp).mono (show 6 ≤ 36 by decide)
          refine ⟨_, rfl, D, _, _, 0, rfl, rfl, L5.at_, ix0 (by rw [List.length_map]; omega), acc3.set 0 D2, _, _, _, keepB b4 s5, keepP P4 s5, by rw [List.length_set, hl3], L5.set f1 f2 f3 f4 ⟨_, hL, by rw [List.length_map]; exact l0, fun z hz => ?_⟩, rfl⟩
          obtain ⟨y, hy, rfl⟩ := List.mem_map.mp hz
          have := bd0 y hy
          rw [Int.natAbs_mul]
          exact Nat.le_trans (Nat.mul_le_mul bfa this) (by decide)
      · exact if_neg_of (decide_eq_false fun e => c0 (V.int.inj e)) ⟨acc3, x4', x7, none, b3, P3, hl3, L3.mono (by decide), rfl⟩
    rintro σ H4 ⟨acc4, x4'', x7', x8, b4, P4, hl4, L4, rfl⟩
    have nil_none : ∀ {G : Hp} {x : Addr}, SameBut p H G → x ≠ p → G x = none → H x = none := fun {G x} b xp n => by
      cases e : H x with
      | none => rfl
      | some o => rw [b _ _ xp e] at n; cases n
    refine ⟨fun σ H' => ∃ (D : Addr) (acc : List Addr) (x4 x7 x8 x9 : Option V), SameBut p H H' ∧ PoolAt H' p ∧ H D = none ∧ D ≠ p ∧ acc.length = h ∧ LRows H p D w 216 H' acc ∧ σ = [some (.ref p), some (.int (h : Int)), some (.int (w : Int)), some (.ref D), x4, x5, some (.int v), x7, x8, x9], ?_, ?_⟩
    · refine ⟨_, rfl, rfl, _, rfl, ?_⟩
      by_cases c0 : v = 2
      · refine if_pos_of (decide_eq_true (by rw [c0])) ?_
        refine ⟨(by show 3 ≤ sizeLine; decide), fun m nm => ?_⟩
        have km := same_upd (o := .lst [.int 2, .int 3, .int 6]) nm
        refine ⟨_, rfl, p, 3, rfl, P4.same km, by decide, by decide, fun u H5 u0 u1 e5 P5 => ?_⟩
        have mp := P4.new nm
        have hm5 : H5 m = some (.lst [.int 2, .int 3, .int 6]) := by
          rw [e5 m mp]
          exact upd_same
        have pick : ∃ fa : Int, atI ([.int 2, .int 3, .int 6] : List V) u = some (.int fa) ∧ fa.natAbs ≤ 6 := by
          have : u = 0 ∨ u = 1 ∨ u = 2 := by omega
          rcases this with rfl | rfl | rfl
          · exact ⟨2, rfl, by decide⟩
          · exact ⟨3, rfl, by decide⟩
          · exact ⟨6, rfl, by decide⟩
        obtain ⟨fa, hfa, bfa⟩ := pick
        have b45 : SameBut p H4 H5 := (sbut km).trans (SameBut.of e5)
        have b5 := b4.trans b45
        have L5 := L4.but b45 Dp
        refine ⟨m, _, _, _, rfl, rfl, SqL.of hm5, hfa, ?_⟩
        refine ⟨_, rfl, D, rfl, ⟨_, SqL.of L5.at_⟩, fun E nE => ?_⟩
        have Ep := P5.new nE
        have fE := nil_none b5 Ep nE
        refine lc_it walk_list (fun i H' => Same H5 H' ∧ ∃ ac : List Addr, ac.length = i ∧ LRows H p E w 216 H' ac)
          ⟨same_upd nE, [], rfl, upd_same, List.nodup_nil, fun h => (nomatch h), fun h => (nomatch h), fun _ h => (nomatch h), fun _ h => (nomatch h)⟩ (fun i H' _ hh => SqL.of (hh.1 _ _ L5.at_)) ?_ ?_
        · rintro i x H6 _ hi ⟨s6, ac, hla, LE⟩ ⟨rfl, hx⟩
          rw [List.length_map] at hi
          have hxa : acc4[i]? = some acc4[i] := List.getElem?_eq_getElem hi
          have ex : x = .ref acc4[i] := Option.some.inj (hx.symm.trans (map_at (f := V.ref) hxa))
          subst ex
          obtain ⟨row, g0, l0, bd0⟩ := L5.row _ (List.getElem_mem hi)
          have g6 := s6 _ _ g0
          refine ⟨rfl, _, rfl, acc4[i], rfl, ⟨_, SqL.of g6⟩, fun D2 nD2 => lcMap walk_list ((row.map (fa * ·)).map V.int) (by rw [List.length_map, List.length_map, List.length_map]) nD2 (fun H s => SqL.of (s _ _ g6)) ?_ ?_⟩
          · rintro k y H7 _ hk s7 hL ⟨rfl, hy⟩
            obtain ⟨z, rfl, hz⟩ := item_int hy
            refine ⟨rfl, _, rfl, _, rfl, _, _, rfl, rfl, .inl ⟨by omega, by omega⟩, ?_⟩
            exact mapEnd nD2 (by rw [List.length_map, List.length_map]; omega) s7 hL (map_at (f := V.int) (by rw [List.getElem?_map, hz] <;> rfl))
          · intro H7 s7 hL
            have D2p := (P5.same s6).new nD2
            have D2E : D2 ≠ E := fun e => by
              have := LE.at_
              rw [← e, nD2] at this
              cases this
            have D2n : D2 ∉ ac := fun mm => by
              obtain ⟨row', h1, _⟩ := LE.row D2 mm
              rw [nD2] at h1
              cases h1
            have LE7 := LE.but (sbut s7) Ep
            refine ⟨_, LE7.at_, small1000 (by rw [List.length_map]; omega), fun b o eb => ?_, ac ++ [D2], by rw [List.length_append, hla]; rfl, LE7.push (H := H) Ep D2p D2E D2n (nil_none (b5.trans (sbut s6)) D2p nD2) ⟨_, hL, by rw [List.length_map]; exact l0, fun z hz => ?_⟩⟩
            · rw [upd_ne (ne_of_none eb nE)]
              exact s7 _ _ (s6 b o eb)
            · obtain ⟨y, hy, rfl⟩ := List.mem_map.mp hz
              have := bd0 y hy
              rw [Int.natAbs_mul]
              exact Nat.le_trans (Nat.mul_le_mul bfa this) (by decide)
        · rintro H6 ⟨s6, ac, hla, LE⟩
          rw [List.length_map] at hla
          exact ⟨E, ac, _, _, _, _, b5.trans (sbut s6), P5.same s6, fE, Ep, by rw [hla, hl4], LE, rfl⟩
      · exact if_neg_of (decide_eq_false fun e => c0 (V.int.inj e)) ⟨D, acc4, x4'', x7', x8, none, b4, P4, nD, Dp, hl4, L4.mono (by decide), rfl⟩
    rintro σ H5 ⟨D', acc5, y4, y7, y8, y9, b5, P5, nD', Dp', hl5, L5, rfl⟩
    have ixL : ∀ {n : Nat}, 0 < n → ixN n (-1 : Int) = some (n - 1) := fun {n} hn => by
      unfold ixN
      rw [if_neg (by decide), if_pos (by omega)]
      congr 1
      omega
    refine ⟨fun σ H' => SameBut p H H' ∧ PoolAt H' p ∧ LRows H p D' w 700 H' acc5 ∧ ∃ x9, σ = [some (.ref p), some (.int (h : Int)), some (.int (w : Int)), some (.ref D'), y4, x5, some (.int v), y7, y8, x9], ?_, ?_⟩
    · refine ⟨_, rfl, rfl, _, rfl, ?_⟩
      by_cases c0 : v = 3
      · refine if_pos_of (decide_eq_true (by rw [c0])) ?_
        refine ⟨_, rfl, D', rfl, ⟨_, SqL.of L5.at_⟩, for_list (K := K) (a := D') (xs := acc5.map V.ref) (fun i σ H' => SameBut p H H' ∧ PoolAt H' p ∧ H' D' = some (.lst (acc5.map V.ref)) ∧ (∀ (j : Nat) (q : Addr), acc5[j]? = some q → RowL w (if j < i then 700 else 216) H' q) ∧ ∃ x9, σ = [some (.ref p), some (.int (h : Int)), some (.int (w : Int)), some (.ref D'), y4, x5, some (.int v), y7, y8, x9])
          ⟨b5, P5, L5.at_, fun j q hq => (L5.row q (List.mem_of_getElem? hq)).mono (by split <;> decide), y9, rfl⟩ (fun i σ H' _ hh => SqL.of hh.2.2.1) ?_ ?_⟩
        · rintro i y σ H6 hi ⟨b6, P6, hD6, rows6, x9, rfl⟩
          have hil : i < acc5.length := by
            have := (List.getElem?_eq_some_iff.mp hi).1
            rw [List.length_map] at this
            exact this
          have hxa : acc5[i]? = some acc5[i] := List.getElem?_eq_getElem hil
          have ex : y = .ref acc5[i] := Option.some.inj (hi.symm.trans (map_at (f := V.ref) hxa))
          subst ex
          obtain ⟨row, g0, l0, bd0⟩ := rows6 i _ hxa
          rw [if_neg (Nat.lt_irrefl i)] at bd0
          have mem := List.getElem_mem hil
          have qD : acc5[i] ≠ D' := fun e => L5.nD (e ▸ mem)
          have qp : acc5[i] ≠ p := fun e => L5.np (e ▸ mem)
          have fq := L5.fr _ mem
          have hl0 : row[0]? = some (row.getD 0 0) := getD_at (by omega)
          have hll : row[row.length - 1]? = some (row.getD (row.length - 1) 0) := getD_at (by omega)
          have t0 := bd0 _ (List.mem_of_getElem? hl0)
          have t1 := bd0 _ (List.mem_of_getElem? hll)
          refine ⟨_, rfl, acc5[i], _, _, _, rfl, rfl, SqL.of g0, atI_nat (j := 0) (map_at (f := V.int) hl0), _, rfl, _, rfl, acc5[i], _, _, _, rfl, rfl, SqL.of g0, last_intM (by omega), _, _, rfl, rfl, .inl ⟨by omega, by omega⟩, _, _, rfl, rfl, ?_⟩
          refine ⟨_, rfl, _, rfl, acc5[i], _, _, _, rfl, rfl, g0, ixL (by rw [List.length_map]; omega), ?_⟩
          rw [← List.map_set (f := V.int)]
          refine ⟨fun b o hb eb => ?_, ?_, ?_, fun j q hj => ?_, _, rfl⟩
          · rw [upd_ne (ne_of_none eb fq)]
            exact b6 b o hb eb
          · obtain ⟨a1, a2, a3, a4⟩ := P6
            exact ⟨a1, a2, a3, by rw [upd_ne qp.symm]; exact a4⟩
          · rw [upd_ne qD.symm]
            exact hD6
          · by_cases e : j = i
            · subst e
              obtain rfl := Option.some.inj (hj.symm.trans hxa)
              rw [if_pos (Nat.lt_succ_self j)]
              refine ⟨_, upd_same, by rw [List.length_set]; exact l0, fun z hz => ?_⟩
              rcases List.mem_or_eq_of_mem_set hz with h | h
              · exact Nat.le_trans (bd0 z h) (by decide)
              · rw [h]
                omega
            · have ne : q ≠ acc5[i] := fun e2 => e ((List.getElem?_inj (List.getElem?_eq_some_iff.mp hj).1 L5.nd).mp (by rw [hj, hxa, e2]))
              obtain ⟨row', r1, r2, r3⟩ := rows6 j q hj
              refine ⟨row', by rw [upd_ne ne]; exact r1, r2, fun z hz => Nat.le_trans (r3 z hz) ?_⟩
              by_cases c : j < i
              · rw [if_pos c, if_pos (by omega)]
                exact Nat.le_refl _
              · rw [if_neg c, if_neg (by omega)]
                exact Nat.le_refl _
        · rintro σ H6 ⟨b6, P6, hD6, rows6, x9, rfl⟩
          refine ⟨b6, P6, ⟨hD6, L5.nd, L5.nD, L5.np, L5.fr, fun q hq => ?_⟩, x9, rfl⟩
          obtain ⟨j, hj⟩ := List.getElem?_of_mem hq
          exact (rows6 j q hj).mono (by split <;> decide)
      · exact if_neg_of (decide_eq_false fun e => c0 (V.int.inj e)) ⟨b5, P5, L5.mono (by decide), y9, rfl⟩
    rintro σ H6 ⟨b6, P6, L6, x9, rfl⟩
    exact ⟨_, rfl, q D' acc5 H6 b6 P6 nD' Dp' hl5 L6⟩
-- part lprd
/-! rows of a law's matrix, at an address -/
structure LM (H : Hp) (r : Addr) (h w : Nat) (f : Nat → Nat → Int) : Prop where
  ob : ∃ us : List V, H r = some (.lst us) ∧ us.length = h ∧ ∀ i, i < h → ∃ q, us[i]? = some (.ref q) ∧ H q = some (.lst ((rngN w (f i)).map V.int))
theorem rngN_succ (n : Nat) (f : Nat → Int) : rngN (n + 1) f = rngN n f ++ [f n] := by
  unfold rngN
  rw [List.range_succ, List.map_append]
  rfl
theorem LM.same {H H' : Hp} {r : Addr} {h w : Nat} {f : Nat → Nat → Int} (m : LM H r h w f) (s : Same H H') : LM H' r h w f := by
  obtain ⟨acc, a, b, c⟩ := m.ob
  exact ⟨acc, s _ _ a, b, fun i hi => by
    obtain ⟨q, q1, q2⟩ := c i hi
    exact ⟨q, q1, s _ _ q2⟩⟩
theorem LM.congr {H : Hp} {r : Addr} {h w : Nat} {f g : Nat → Nat → Int} (m : LM H r h w f) (e : ∀ i k, i < h → k < w → f i k = g i k) : LM H r h w g := by
  obtain ⟨acc, a, b, c⟩ := m.ob
  exact ⟨acc, a, b, fun i hi => by
    obtain ⟨q, q1, q2⟩ := c i hi
    exact ⟨q, q1, by rw [← rngN_congr fun k hk => e i k hi hk]; exact q2⟩⟩
theorem LM.rowsIn {H : Hp} {r : Addr} {h w : Nat} {f : Nat → Nat → Int} (m : LM H r h w f) : ∃ us, H r = some (.lst us) ∧ us.length = h ∧ RowsIn H us (mrows h w f) ∧ ∀ i, i < h → ∃ q, us[i]? = some (.ref q) ∧ H q = some (.lst ((rngN w (f i)).map V.int)) := by
  obtain ⟨us, a, b, key⟩ := m.ob
  refine ⟨us, a, b, ⟨by rw [b, mrows_len], fun i r' hr => ?_⟩, key⟩
  have hi : i < h := by
    have := (List.getElem?_eq_some_iff.mp hr).1
    rw [mrows_len] at this
    exact this
  rw [mrows_at hi] at hr
  obtain rfl := Option.some.inj hr
  obtain ⟨q, q1, q2⟩ := key i hi
  exact ⟨_, q1, q, rfl, .inl q2⟩
/-- of a list of new rows -/
theorem LM.of_rl {H : Hp} {D : Addr} {acc : List V} {h w : Nat} {f : Nat → Nat → Int} (hD : H D = some (.lst acc)) (hl : acc.length = h) (hel : ∀ j v, acc[j]? = some v → v ≠ .ref D ∧ RL w f j v H) : LM H D h w f :=
  ⟨acc, hD, hl, fun i hi => by
    have e : acc[i]? = some acc[i] := List.getElem?_eq_getElem (by omega)
    obtain ⟨_, q, e2, hq⟩ := hel i _ e
    exact ⟨q, by rw [e, e2], hq⟩⟩
theorem LM.of_lr {H1 H : Hp} {p D : Addr} {w B : Nat} {acc : List Addr} (L : LRows H1 p D w B H acc) : ∃ f : Nat → Nat → Int, LM H D acc.length w f ∧ ∀ i k, i < acc.length → k < w → (f i k).natAbs ≤ B := by
  have h1 : ∀ i : Nat, ∃ row : List Int, ∀ hi : i < acc.length, H acc[i] = some (.lst (row.map V.int)) ∧ row.length = w ∧ ∀ z ∈ row, z.natAbs ≤ B := fun i => by
    by_cases hi : i < acc.length
    · obtain ⟨row, r⟩ := L.row _ (List.getElem_mem hi)
      exact ⟨row, fun _ => r⟩
    · exact ⟨[], fun h => absurd h hi⟩
  refine ⟨fun i k => (Classical.choose (h1 i)).getD k 0, ⟨acc.map V.ref, L.at_, List.length_map .., fun i hi => ⟨acc[i], map_at (f := V.ref) (List.getElem?_eq_getElem hi), ?_⟩⟩, fun i k hi hk => ?_⟩
  · obtain ⟨a, b, c⟩ := Classical.choose_spec (h1 i) hi
    rw [← row_rng b]
    exact a
  · obtain ⟨a, b, c⟩ := Classical.choose_spec (h1 i) hi
    exact c _ (List.mem_of_getElem? (getD_at (by rw [b]; exact hk)))
-- part lmade
/-- a row is changed where it stands -/
theorem LRows.put {H1 H : Hp} {p D q : Addr} {w B : Nat} {acc : List Addr} {row : List Int} (L : LRows H1 p D w B H acc) (hq : q ∈ acc) (hl : row.length = w) (hb : ∀ z ∈ row, z.natAbs ≤ B) : LRows H1 p D w B (upd H q (.lst (row.map V.int))) acc := by
  have qD : D ≠ q := fun e => L.nD (e ▸ hq)
  refine ⟨by rw [upd_ne qD]; exact L.at_, L.nd, L.nD, L.np, L.fr, fun z hz => ?_⟩
  by_cases e : z = q
  · rw [e]
    exact ⟨row, upd_same, hl, hb⟩
  · obtain ⟨r, a, b, c⟩ := L.row z hz
    exact ⟨r, by rw [upd_ne e]; exact a, b, c⟩
abbrev s_lshape : Stmt := top 20
theorem sc_lshape : FnScope ["_law_pool_here"] ["_law_pool_here"] (defScope s_lshape) := ⟨rfl, rfl, rfl, by decide +kernel, rfl, by decide +kernel, by decide +kernel⟩
def spLshape : Sp := fun vs H Q _ => ∃ p : Addr, vs = [.ref p] ∧ PoolAt H p ∧ ∀ (r : Addr) (a b : Nat) (H' : Hp), SameBut p H H' → PoolAt H' p → r ≠ p → H r = none → H' r = some (.lst [.int (a : Int), .int (b : Int)]) → 1 ≤ a → a ≤ 4 → 1 ≤ b → b ≤ 4 → Q (.ref r) H'
theorem ok_lshape {f : Addr} {fd : FuncData} (F : Fun K "_law_shape" "_law_shape" s_lshape f fd) (c_take : Cl P w K mg base CX0 1 "_law_take" spTake) : FnOk P w K mg base CX0 2 f fd ["_law_pool_here"] spLshape := by
  refine F.ok sc_lshape (fun vs H Q E h => ?_) (fun cdv A outer s H vs Q E hr h => ?_)
  · obtain ⟨p, rfl, _⟩ := h
    rfl
  · obtain ⟨p, rfl, P0, q⟩ := h
    refine ⟨_, (pss_one (ps_ret (pe_lst (pa_cons (pe_op op_add pe_int (pe_cl c_take hr (pa_cons (pv 0) (pa_cons pe_int pa_nil)))) (pa_cons (pe_op op_add pe_int (pe_cl c_take hr (pa_cons (pv 0) (pa_cons pe_int pa_nil)))) pa_nil))))), ?_⟩
    refine ⟨_, rfl, p, 4, rfl, P0, by decide, by decide, fun u H1 u0 u1 e1 P1 => ⟨_, _, rfl, rfl, ?_⟩⟩
    refine ⟨_, rfl, p, 4, rfl, P1, by decide, by decide, fun v H2 v0 v1 e2 P2 => ⟨_, _, rfl, rfl, (by show 2 ≤ sizeLine; decide), fun r nr => ?_⟩⟩
    have b2 : SameBut p H H2 := (SameBut.of e1).trans (SameBut.of e2)
    have rp := P2.new nr
    have nil : H r = none := by
      cases e : H r with
      | none => rfl
      | some o => rw [b2 _ _ rp e] at nr; cases nr
    refine q r (1 + u).toNat (1 + v).toNat _ (b2.trans (sbut (same_upd nr))) (P2.same (same_upd nr)) rp nil ?_ (by omega) (by omega) (by omega) (by omega)
    rw [upd_same, Int.toNat_of_nonneg (show 0 ≤ 1 + u by omega), Int.toNat_of_nonneg (show 0 ≤ 1 + v by omega)]
-- part law_k43
mutual
theorem dp_keep {H H' : Hp} (s : Same H H') : ∀ (d : PyData) (v : V), Dp K H v d → Dp K H' v d
  | .none, _, h => by
    cases h
    exact .non
  | .bool _, _, h => by
    cases h
    exact .bl _
  | .int _, _, h => by
    cases h
    exact .int _
  | .str _, _, h => by
    cases h
    exact .str _
  | .list ds, _, h => by
    cases h with
    | lst a b => exact .lst (s.seq a) (dpA_keep s ds _ b)
  | .tuple ds, _, h => by
    cases h with
    | tup a b => exact .tup (Evl.ex_t s a) (dpA_keep s ds _ b)
  | .dict _, _, h => nomatch h
theorem dpA_keep {H H' : Hp} (s : Same H H') : ∀ (ds : List PyData) (vs : List V), DpAll K H vs ds → DpAll K H' vs ds
  | [], _, h => by
    cases h
    exact .nil
  | d :: ds, _, h => by
    cases h with
    | cons a b => exact .cons (dp_keep s d _ a) (dpA_keep s ds _ b)
end
theorem LRows.pool {H1 H : Hp} {p p' D : Addr} {w B : Nat} {acc : List Addr} {o : HO} (L : LRows H1 p D w B H acc) (hp : H1 p' = some o) : LRows H1 p' D w B H acc :=
  ⟨L.at_, L.nd, L.nD, (fun m => by
    have z := L.fr _ m
    rw [hp] at z
    cases z), L.fr, L.row⟩
abbrev s_law : Stmt := top 25
theorem sc_law : FnScope ["_law_script", "_law_pool_here", "_law_height", "_law_width", "_law_rows", "_law_matrix_here", "_law_text", "_law_item", "_law_row", "_law_words", "_law_count"] ["_law_script"] (defScope s_law) := ⟨rfl, rfl, rfl, by decide +kernel, rfl, by decide +kernel, by decide +kernel⟩
theorem ok_law {f C CB CT : Addr} {fd : FuncData} (TT : Txt mg) (T : MaT K mg C) (F : Fun K "law" "law" s_law f fd) (c_pool : Cl P w K mg base CX0 1 "_law_pool" spPool) (c_cell : Cl P w K mg base CX0 1 "_law_cell" (spCellL K)) (c_take : Cl P w K mg base CX0 1 "_law_take" spTake) (c_shape : Cl P w K mg base CX0 2 "_law_shape" spLshape) (c_mat : Cl P w K mg base CX0 2 "_law_matrix" spLmat)
    (c_told : Cl P w K mg base CX0 6 "_law_told" (spLtold K)) (c_due : Cl P w K mg base CX0 2 "_law_due" (spLdue K)) (c_chg : Cl P w K mg base CX0 2 "_law_changed" spChg) (c_mil : Ma P w K mg base 3 C (spMI C CB false K)) (c_read : CmN P w K mg base 5 C "read" (spMread C CB CT K)) (c_str : Me P w K mg base 1 C "__str__" (spMstr C)) (c_eq : Me P w K mg base 1 C "__eq__" (spMeq C)) :
    FnOk P w K mg base CX0 8 f fd ["_law_script"] (spLaw K) := by
  refine F.ok sc_law (fun vs H Q E h => ?_) (fun cdv A outer s H vs Q E hr h => ?_)
  · obtain ⟨a, ns, rfl, _⟩ := h
    rfl
  · obtain ⟨sc, ns, rfl, hS, hlen, q⟩ := h
    refine ⟨_, (Evl.pss_cut (ps_set (i := 1) sc_law.nd rfl (Or.inl rfl) (pe_cl c_pool hr (pa_cons (pe_cl c_cell hr (pa_cons (pv 0) (pa_cons pe_int pa_nil))) pa_nil)))
 (Evl.pss_cut (ps_asg (pe_cl c_shape hr (pa_cons (pv 1) pa_nil)) (pg_unl rfl (pgs_cons (pg_name (i := 2) sc_law.nd rfl (Or.inl rfl)) (pgs_cons (pg_name (i := 3) sc_law.nd rfl (Or.inl rfl)) pgs_nil))))
 (Evl.pss_cut (ps_set (i := 4) sc_law.nd rfl (Or.inl rfl) (pe_cl c_mat hr (pa_cons (pe_cl c_pool hr (pa_cons (pe_cl c_cell hr (pa_cons (pv 0) (pa_cons pe_int pa_nil))) pa_nil)) (pa_cons (pv 2) (pa_cons (pv 3) pa_nil)))))
 (Evl.pss_cut (ps_if (pt_cmpR op_eq (pe_cl c_take hr (pa_cons (pv 1) (pa_cons pe_int pa_nil))) pe_int (nomark _)) (pss_one (ps_asg (pe_op op_sub (pe_cl c_take hr (pa_cons (pv 1) (pa_cons (pe_op op_pow pe_int pe_int) pa_nil))) (pe_op op_pow pe_int pe_int)) (pg_sub (pe_ix ix_list (pv 4) (pe_un un_neg pe_int) (fun _ _ => rfl)) pe_int set_list))) pss_nil)
 (Evl.pss_cut (ps_set (i := 5) sc_law.nd rfl (Or.inl rfl) (pe_ma c_mil hr T.g (pa_cons (pv 4) pa_nil)))
 (Evl.pss_cut (ps_set (i := 6) sc_law.nd rfl (Or.inl rfl) (pe_join pe_str (pe_lc (own := [("_law_row", 8)]) (g := (gName 8)) (tt := tYes) rfl sc_law.nd (pi_list (pv 4)) (blkOk_by (N := ["_law_script", "_law_pool_here", "_law_height", "_law_width", "_law_rows", "_law_matrix_here", "_law_text", "_law_item", "_law_row", "_law_words", "_law_count"]) (sc := defScope s_law) (by decide +kernel)) (fun _ _ _ _ _ => (pg_name (i := 8) sc_law.nd rfl (Or.inl rfl))) (fun _ _ _ _ _ => pts_nil) (fun _ _ _ _ _ => (pe_joinK (K := K) rfl pe_str (pe_lc (own := [("_law_item", 7)]) (g := (gName 7)) (tt := tYes) rfl sc_law.nd (pi_listK (K := K) rfl (pv 8)) (blkOk_by (N := ["_law_script", "_law_pool_here", "_law_height", "_law_width", "_law_rows", "_law_matrix_here", "_law_text", "_law_item", "_law_row", "_law_words", "_law_count"]) (sc := ({ kind := .function, names := [(".0", .local), ("_law_row", .local)], isGenerator := false, isCoroutine := false, more := [] } : Scope)) (by decide +kernel)) (fun _ _ _ _ _ => (pg_name (i := 7) sc_law.nd rfl (Or.inl rfl))) (fun _ _ _ _ _ => pts_nil) (fun _ _ _ _ _ => (pe_callTy call_str_int (by rfl) TT.str boot_str (pa_cons (pv 7) pa_nil)))))))))
 (Evl.pss_cut (ps_if (pw_or (pt_cmpR op_ne (pe_callTy (cr_strOwn c_str hr) (by rfl) TT.str boot_str (pa_cons (pv 5) pa_nil)) (pv 6) (nomark _)) (pw_or (pt_not (pt_cmpR (op_eq_own c_eq hr) (pe_cmN0 c_read hr (pe_glob (v := .ref C) (by rfl) T.g rfl) (pa_cons (pv 6) pa_nil)) (pv 5) (nomark _))) (pw_or1 (pt_cmpR (op_neD (hu64 hr)) (pe_cl c_told hr (pa_cons pe_str pa_nil)) (pe_lst (pa_cons pe_str (pa_cons pe_int pa_nil))) (nomark _))))).pt (pss_one (ps_ret pe_bl)) pss_nil)
 (Evl.pss_cut (ps_set (i := 9) sc_law.nd rfl (Or.inl rfl) (pe_split (pv 6) pe_str))
 (Evl.pss_cut (ps_set (i := 1) sc_law.nd rfl (Or.inl rfl) (pe_cl c_pool hr (pa_cons (pe_cl c_cell hr (pa_cons (pv 0) (pa_cons pe_int pa_nil))) pa_nil)))
 (Evl.pss_cut (ps_for PassesOwn.never rfl (pi_range1 rfl TT.range (pa_cons (pe_op op_add pe_int (pe_cl c_take hr (pa_cons (pv 1) (pa_cons pe_int pa_nil)))) pa_nil)) (pg_name (i := 10) sc_law.nd rfl (Or.inl rfl)) (Evl.pss_cut (ps_set (i := 9) sc_law.nd rfl (Or.inl rfl) (pe_cl c_chg hr (pa_cons (pv 1) (pa_cons (pv 9) pa_nil))))
 (pss_one (ps_if (pt_cmpR (op_neD (hu64 hr)) (pe_cl c_told hr (pa_cons (pe_join pe_str (pv 9)) pa_nil)) (pe_cl c_due hr (pa_cons (pv 9) pa_nil)) (nomark _)) (pss_one (ps_ret pe_bl)) pss_nil))))
 (pss_one (ps_ret (pe_and (pe_cmpR op_eq (pe_callTy (cr_strOwn c_str hr) (by rfl) TT.str boot_str (pa_cons (pv 5) pa_nil)) (pv 6) (nomark _)) (pe_one (pe_cmpR op_eq (pe_callTy (cr_strOwn c_str hr) (by rfl) TT.str boot_str (pa_cons (pe_cmN0 c_read hr (pe_glob (v := .ref C) (by rfl) T.g rfl) (pa_cons (pv 6) pa_nil)) pa_nil)) (pv 6) (nomark _)))))))))))))))), ?_⟩
    -- pool
    refine ⟨fun σ H' => ∃ p, H p = none ∧ Same H H' ∧ PoolAt H' p ∧ σ = [some (.ref sc), some (.ref p), none, none, none, none, none, none, none, none, none], ?_, ?_⟩
    · exact ⟨_, rfl, sc, ns, 0, rfl, hS, fun c => ⟨c, rfl, fun p H' np s' P' => ⟨p, np, s', P', rfl⟩⟩⟩
    rintro σ H1 ⟨p, np, s1, P1, rfl⟩
    -- shape
    refine ⟨fun σ H' => ∃ h w : Nat, Same H H' ∧ PoolAt H' p ∧ 1 ≤ h ∧ h ≤ 4 ∧ 1 ≤ w ∧ w ≤ 4 ∧ σ = [some (.ref sc), some (.ref p), some (.int (h : Int)), some (.int (w : Int)), none, none, none, none, none, none, none], ?_, ?_⟩
    · refine ⟨_, rfl, p, rfl, P1, fun r h w H2 b2 P2 rp nr hr h1 h4 w1 w4 => ?_⟩
      exact ⟨r, _, rfl, SqL.of hr, rfl, _, _, rfl, _, _, rfl, rfl, h, w, b2.same s1 np, P2, h1, h4, w1, w4, rfl⟩
    rintro σ H2 ⟨h, w, s2, P2, h1, h4, w1, w4, rfl⟩
    -- rows
    refine ⟨fun σ H' => ∃ (D : Addr) (acc : List Addr), Same H2 H' ∧ D ≠ p ∧ H2 D = none ∧ acc.length = h ∧ LRows H2 p D w 700 H' acc ∧ σ = [some (.ref sc), some (.ref p), some (.int (h : Int)), some (.int (w : Int)), some (.ref D), none, none, none, none, none, none], ?_, ?_⟩
    · refine ⟨_, rfl, sc, ns, 1, rfl, s2.seq hS, fun c => ⟨c, rfl, fun p1 Ha n1 sa Pa => ⟨_, rfl, _, rfl, p1, h, w, rfl, Pa, h1, by omega, w1, by omega, fun D acc Hb bb Pb nD Dp hl L => ?_⟩⟩⟩
      obtain ⟨x1, x2, x3, hp⟩ := P2
      have nD2 : H2 D = none := by
        cases e : H2 D with
        | none => rfl
        | some o => rw [sa _ _ e] at nD; cases nD
      have L2 := L.pool (sa _ _ hp)
      refine ⟨D, acc, bb.same sa n1, (fun e => by rw [e, hp] at nD2; cases nD2), nD2, hl, ⟨L2.at_, L2.nd, L2.nD, L2.np, fun q hq => ?_, L2.row⟩, rfl⟩
      have := L2.fr q hq
      cases e : H2 q with
      | none => rfl
      | some o => rw [sa _ _ e] at this; cases this
    rintro σ H3 ⟨D, acc, s23, Dnp, nD, hl, L, rfl⟩
    have P3 := P2.same s23
    have m3 : acc[acc.length - 1]? = some (acc[acc.length - 1]'(by omega)) := List.getElem?_eq_getElem (by omega)
    have mem : acc[acc.length - 1]'(by omega) ∈ acc := List.getElem_mem (by omega)
    generalize acc[acc.length - 1]'(by omega) = ql at m3 mem
    -- one great item
    refine ⟨fun σ H' => Same H H' ∧ PoolAt H' p ∧ LRows H2 p D w (10 ^ 29 * 9) H' acc ∧ σ = [some (.ref sc), some (.ref p), some (.int (h : Int)), some (.int (w : Int)), some (.ref D), none, none, none, none, none, none], ?_, ?_⟩
    · refine ⟨_, rfl, p, 4, rfl, P3, by decide, by decide, fun u H4 u0 u1 e4 P4 => ⟨rfl, _, rfl, ?_⟩⟩
      have b4 : SameBut p H3 H4 := SameBut.of e4
      have L4 := (L.but b4 Dnp).mono (show 700 ≤ 10 ^ 29 * 9 by decide)
      have s4 : Same H H4 := b4.same (s2.trans s23) np
      by_cases c : u = 1
      · refine if_pos_of (decide_eq_true (by rw [c])) ?_
        refine ⟨_, rfl, _, _, rfl, rfl, ⟨by decide, by decide, by decide⟩, p, 10 ^ (30 : Int).toNat, rfl, P4, by decide, by decide, fun z H5 z0 z1 e5 P5 => ⟨_, _, rfl, rfl, ⟨by decide, by decide, by decide⟩, _, _, rfl, rfl, ?_⟩⟩
        have b5 : SameBut p H4 H5 := SameBut.of e5
        have L5 := L4.but b5 Dnp
        obtain ⟨row, g0, l0, bd⟩ := L5.row _ mem
        have at_l : atI (acc.map V.ref) (-1) = some (.ref ql) := by
          unfold atI
          rw [ixL (by rw [List.length_map]; omega)]
          show (acc.map V.ref)[(acc.map V.ref).length - 1]? = _
          rw [List.length_map]
          exact map_at (f := V.ref) m3
        refine ⟨_, rfl, _, rfl, D, _, _, _, rfl, rfl, SqL.of L5.at_, at_l, ql, _, _, 0, rfl, rfl, g0, Evl.ixN_nat (j := 0) (by rw [List.length_map]; omega), ?_⟩
        rw [← List.map_set (f := V.int)]
        have e30 : (10 : Int) ^ (30 : Int).toNat = 1000000000000000000000000000000 := by decide
        have e29 : (10 : Int) ^ (29 : Int).toNat = 100000000000000000000000000000 := by decide
        have n29 : (10 : Nat) ^ 29 * 9 = 900000000000000000000000000000 := by decide
        rw [e30] at z1
        refine ⟨fun x o ex => ?_, ?_, L5.put mem (by rw [List.length_set]; exact l0) (fun y hy => ?_), rfl⟩
        · rw [upd_ne (ne_of_none (s2 _ _ ex) (L.fr _ mem))]
          exact b5 x o (ne_of_none ex np) (s4 x o ex)
        · obtain ⟨a1, a2, a3, a4⟩ := P5
          exact ⟨a1, a2, a3, by rw [upd_ne (show p ≠ ql from fun e => L.np (by rw [e]; exact mem))]; exact a4⟩
        · rcases List.mem_or_eq_of_mem_set hy with h | h
          · exact bd y h
          · rw [h, n29, e29]
            omega
      · exact if_neg_of (decide_eq_false fun e => c (V.int.inj e)) ⟨s4, P4, L4, rfl⟩
    rintro σ H4 ⟨s4, P4, L4, rfl⟩
    obtain ⟨g, lm, bd⟩ := LM.of_lr L4
    rw [hl] at lm bd
    have b30 : ∀ i k, i < h → k < w → (g i k).natAbs < 10 ^ 30 := fun i k hi hk => Nat.lt_of_le_of_lt (bd i k hi hk) (by decide)
    have lg : ∀ i k, i < h → k < w → (g i k).natAbs.log2 < 1920 := fun i k hi hk => by
      have := b30 i k hi hk
      by_cases c : (g i k).natAbs = 0
      · rw [c]
        decide
      · exact Nat.lt_of_lt_of_le ((Nat.log2_lt c).mpr (show (g i k).natAbs < 2 ^ 100 by omega)) (by decide)
    obtain ⟨us, a1, l1, ri, k1⟩ := lm.rowsIn
    -- the matrix
    refine ⟨fun σ H' => ∃ o, Same H4 H' ∧ MatAt C H' o h w g ∧ σ = [some (.ref sc), some (.ref p), some (.int (h : Int)), some (.int (w : Int)), some (.ref D), some (.ref o), none, none, none, none, none], ?_, ?_⟩
    · exact ⟨_, rfl, fun x dx nx ndx _ => make_maA (tup := false) nx ndx (SqL.of a1) ri h1 (by omega) w1 (by omega) fun H8 mo s8 => ⟨rfl, x, s8, mo, rfl⟩⟩
    rintro σ H5 ⟨o, s45, mo, rfl⟩
    -- its words
    obtain ⟨W, orig⟩ : ∃ W, Orig (mrows h w g) w W := ⟨_, orig_of (rs := mrows h w g) (fun e => by have := mrows_len h w g; rw [e] at this; simp at this; omega) w1 (fun r hr => len_mrows r hr) (mem_mrows (p := fun z => z.natAbs < 10 ^ 30) b30)⟩
    have wlen : W.length ≤ 16 ∧ 0 < W.length := by
      rw [orig.len, mrows_len]
      exact ⟨Nat.le_trans (Nat.mul_le_mul h4 w4) (by decide), Nat.mul_pos h1 w1⟩
    have wd16 : Wd 16 W := ⟨wlen.2, wlen.1, fun z hz => ⟨by have := (orig.wd z hz).1; omega, (orig.wd z hz).2⟩⟩
    have ws := wd16.ws (by decide)
    have txt : rtext (mrows h w g) = Txt.join " " W := orig.text.symm
    have readsBack : ∀ {H' : Hp} {r : Addr}, MatAt C H' r (rowsW W).length (lenAt (rowsW W) 0) (ent (rowsW W)) → MatAt C H' r h w g := fun {H' r} m => by
      rw [orig.rows, mrows_len, mrows_lenAt (show 0 < h by omega)] at m
      exact m.congr fun i k hi hk => mrows_ent hi hk
    have noA : ∀ n, ¬ OmR W (.at n) := fun n hv => by cases hv.one orig.om
    have noR : ∀ n, ¬ OmR W (.row n) := fun n hv => by cases hv.one orig.om
    -- the text
    refine ⟨fun σ H' => Same H5 H' ∧ σ = [some (.ref sc), some (.ref p), some (.int (h : Int)), some (.int (w : Int)), some (.ref D), some (.ref o), some (.str (Txt.join " " W)), none, none, none, none], ?_, ?_⟩
    · have a5 := s45 _ _ a1
      refine ⟨⟨_, rfl⟩, _, rfl, D, rfl, ⟨_, SqL.of a5⟩, fun D2 nD2 => lcMap walk_list (((mrows h w g).map fun r => Txt.join " " (r.map numT)).map V.str) (by rw [List.length_map, List.length_map, mrows_len, l1]) nD2 (fun H s => SqL.of (s _ _ a5)) ?_ ?_⟩
      · rintro i x H6 _ hi s6 hL ⟨rfl, hx⟩
        rw [l1] at hi
        obtain ⟨q1, e1, hq1⟩ := k1 i hi
        obtain rfl := Option.some.inj (hx.symm.trans e1)
        have hq1 := s6 _ _ (s45 _ _ hq1)
        refine ⟨rfl, ⟨_, rfl⟩, _, rfl, q1, rfl, ⟨_, SqL.of hq1⟩, fun D3 nD3 => lcMap walk_list (((rngN w (g i)).map numT).map V.str) (by rw [List.length_map, List.length_map, List.length_map]) nD3 (fun H s => SqL.of (s _ _ hq1)) ?_ ?_⟩
        · rintro k y H7 _ hk s7 hL2 ⟨rfl, hy⟩
          rw [List.length_map, rngN_len] at hk
          obtain ⟨z, rfl, hz⟩ := item_int hy
          rw [rngN_at hk] at hz
          obtain rfl := Option.some.inj hz
          refine ⟨rfl, _, rfl, _, rfl, lg i k hi hk, ?_⟩
          exact mapEnd nD3 (by rw [List.length_map, List.length_map, rngN_len]; omega) s7 hL2 (map_at (f := V.str) (by rw [List.getElem?_map, rngN_at hk] <;> rfl))
        · intro H7 s7 hL2
          refine ⟨_, D3, (rngN w (g i)).map numT, rfl, rfl, .inl (SqL.of hL2), texts_fit (fun z hz => ?_) (by rw [rngN_len]; omega), ?_⟩
          · exact mem_mrows (p := fun z => z.natAbs.log2 < 1920) lg _ (List.mem_of_getElem? (mrows_at hi)) z hz
          exact mapEnd nD2 (by rw [List.length_map, List.length_map, mrows_len]; omega) (s6.trans s7) (s7 _ _ hL) (map_at (f := V.str) (by rw [List.getElem?_map, mrows_at hi] <;> rfl))
      · intro H6 s6 hL
        exact ⟨_, D2, _, rfl, rfl, .inl (SqL.of hL), rows_fit (mem_mrows (p := fun z => z.natAbs.log2 < 1920) lg) (fun r hr => by rw [len_mrows r hr]; omega) (by rw [mrows_len]; omega), s6, by rw [← txt]; rfl⟩
    rintro σ H6 ⟨s56, rfl⟩
    replace mo := mo.same s56
    -- written and read
    refine ⟨fun σ H' => Same H6 H' ∧ σ = [some (.ref sc), some (.ref p), some (.int (h : Int)), some (.int (w : Int)), some (.ref D), some (.ref o), some (.str (Txt.join " " W)), none, none, none, none], ?_, ?_⟩
    · obtain ⟨dx, t, vs, o1, _⟩ := mo.ob
      refine ⟨_, rfl, o, dx, _, rfl, o1, o, h, w, g, rfl, mo, lg, fun H7 s7 => ?_⟩
      rw [txt]
      refine ⟨_, rfl, _, rfl, rfl, _, rfl, ?_⟩
      refine if_neg_of (by rw [decide_eq_true rfl]; rfl) ?_
      refine ⟨rfl, _, rfl, W, rfl, ws, fun n hv => absurd hv (noA n), fun n hv => absurd hv (noR n), fun _ r H8 m8 s8 => ?_⟩
      replace m8 := readsBack m8
      have mo8 := mo.same (s7.trans s8)
      obtain ⟨dy, t2, vs2, u1, _⟩ := m8.ob
      obtain ⟨dz, t3, vs3, u2, _⟩ := mo8.ob
      refine ⟨_, rfl, r, o, _, _, _, _, rfl, rfl, u1, u2, r, o, h, w, h, w, g, g, rfl, m8, mo8, ?_⟩
      rw [decide_eq_true rfl]
      refine ⟨_, rfl, if_neg_of rfl ?_⟩
      have e1 : ("" : Str) = Txt.join " " [""] := by decide +kernel
      have ws1 : Ws [""] := ⟨by simp, by decide, by decide +kernel, by decide +kernel⟩
      refine ⟨[""], by rw [← e1]; rfl, ws1, fun om r2 H9 ho dp s9 => ?_⟩
      have e2 : om = .at 0 := ho.one (.word (n := 0) (z := "") rfl (by decide +kernel) fun j y hj _ => absurd hj (Nat.not_lt_zero j))
      rw [e2] at dp
      refine ⟨(by show 2 ≤ sizeLine; decide), fun d nd => ?_⟩
      have kd := same_upd (o := .lst [.str "at", .int 0]) nd
      have dk := dp_keep kd _ _ dp
      have dp0 : Dp K (upd H9 d (.lst [.str "at", .int 0])) (.ref d) (omD (.at 0)) := .lst (SqL.of upd_same) (.cons (.str _) (.cons (.int _) .nil))
      refine ⟨_, _, dk, dp0, omD_ok _, omD_ok _, _, rfl, ?_⟩
      rw [omD_refl]
      exact if_neg_of rfl ⟨s7.trans (s8.trans (s9.trans kd)), rfl⟩
    rintro σ H7 ⟨s67, rfl⟩
    replace mo := mo.same s67
    have s07 : Same H H7 := s4.trans (s45.trans (s56.trans s67))
    -- words
    refine ⟨fun σ H' => Same H7 H' ∧ ∃ wa, H' wa = some (.lst (W.map V.str)) ∧ σ = [some (.ref sc), some (.ref p), some (.int (h : Int)), some (.int (w : Int)), some (.ref D), some (.ref o), some (.str (Txt.join " " W)), none, none, some (.ref wa), none], ?_, ?_⟩
    · refine ⟨_, rfl, ⟨_, rfl⟩, _, " ", rfl, rfl, by decide +kernel, ws_len ws, fun wa nwa => ?_⟩
      rw [ws_split ws]
      exact ⟨same_upd nwa, wa, upd_same, rfl⟩
    rintro σ H8 ⟨s78, wa, hwa, rfl⟩
    -- the other pool
    refine ⟨fun σ H' => ∃ p2, H8 p2 = none ∧ Same H8 H' ∧ PoolAt H' p2 ∧ σ = [some (.ref sc), some (.ref p2), some (.int (h : Int)), some (.int (w : Int)), some (.ref D), some (.ref o), some (.str (Txt.join " " W)), none, none, some (.ref wa), none], ?_, ?_⟩
    · exact ⟨_, rfl, sc, ns, 2, rfl, (s07.trans s78).seq hS, fun c => ⟨c, rfl, fun p2 H' np2 s' P' => ⟨p2, np2, s', P', rfl⟩⟩⟩
    rintro σ H9 ⟨p2, np2, s89, P9, rfl⟩
    have wap : wa ≠ p2 := ne_of_none hwa np2
    -- the changes
    refine ⟨fun σ H' => Same H8 H' ∧ ∃ x9 x10, σ = [some (.ref sc), some (.ref p2), some (.int (h : Int)), some (.int (w : Int)), some (.ref D), some (.ref o), some (.str (Txt.join " " W)), none, none, x9, x10], ?_, ?_⟩
    · refine ⟨_, rfl, p2, 3, rfl, P9, by decide, by decide, fun u Ha u0 u1 ea Pa => ⟨_, _, rfl, rfl, _, rfl, by omega, by omega, ?_⟩⟩
      have ba : SameBut p2 H9 Ha := SameBut.of ea
      refine for_it (walk_range0 (n := (1 + u).toNat)) (fun i σ H' => Same H8 H' ∧ PoolAt H' p2 ∧ ∃ (wa : Addr) (V' : List Str) (x10 : Option V), H' wa = some (.lst (V'.map V.str)) ∧ wa ≠ p2 ∧ Wd (16 + i) V' ∧ σ = [some (.ref sc), some (.ref p2), some (.int (h : Int)), some (.int (w : Int)), some (.ref D), some (.ref o), some (.str (Txt.join " " W)), none, none, some (.ref wa), x10])
        ⟨ba.same s89 np2, Pa, wa, W, none, ba _ _ wap (s89 _ _ hwa), wap, wd16, rfl⟩ (fun _ _ _ _ _ => trivial) ?_ ?_
      · rintro i x σ Hc Hb hi ⟨sb, Pb, wb, V', x10, hwb, wbp, wd, rfl⟩ ⟨rfl, rfl⟩
        refine ⟨fun σ H' => Same H8 H' ∧ PoolAt H' p2 ∧ ∃ (wa : Addr) (V' : List Str) (x10 : Option V), H' wa = some (.lst (V'.map V.str)) ∧ wa ≠ p2 ∧ Wd (16 + (i + 1)) V' ∧ σ = [some (.ref sc), some (.ref p2), some (.int (h : Int)), some (.int (w : Int)), some (.ref D), some (.ref o), some (.str (Txt.join " " W)), none, none, some (.ref wa), x10], ?_, ?_⟩
        · refine ⟨_, rfl, _, rfl, p2, wb, 16 + i, V', rfl, Pb, hwb, wbp, wd, by omega, by omega, fun r V2 Hd bd Pd rp hr wd2 => ?_⟩
          exact ⟨bd.same sb np2, Pd, r, V2, _, hr, rp, wd2, rfl⟩
        rintro σ Hd ⟨sd, Pd, wd_, V2, x10', hwd, wdp, wd2, rfl⟩
        have ws2 := wd2.ws (by omega)
        refine ⟨⟨_, rfl⟩, _, rfl, _, wd_, V2, rfl, rfl, .inl (SqL.of hwd), ws_sum ws2, V2, rfl, ws2, fun o1 r1 He ho1 dp1 se => ?_⟩
        refine ⟨_, rfl, wd_, V2, rfl, se _ _ hwd, ws2, fun o2 r2 Hf ho2 dp2 sf => ?_⟩
        cases ho1.one ho2
        refine ⟨_, _, dp_keep sf _ _ dp1, dp2, omD_ok _, omD_ok _, _, rfl, ?_⟩
        rw [omD_refl]
        have sef := se.trans sf
        exact if_neg_of rfl ⟨sd.trans sef, Pd.same sef, wd_, V2, _, sef _ _ hwd, wdp, wd2, rfl⟩
      · rintro σ Hb ⟨sb, Pb, wb, V', x10, hwb, wbp, wd, rfl⟩
        exact ⟨sb, _, _, rfl⟩
    rintro σ H10 ⟨s10, x9, x10, rfl⟩
    replace mo := mo.same (s78.trans s10)
    obtain ⟨dx, t, vs, o1, _⟩ := mo.ob
    refine ⟨_, rfl, o, dx, _, rfl, o1, o, h, w, g, rfl, mo, lg, fun H11 s11 => ?_⟩
    rw [txt]
    refine ⟨_, rfl, _, rfl, rfl, ?_⟩
    rw [decide_eq_true rfl]
    refine ⟨_, rfl, if_pos_of rfl ?_⟩
    refine ⟨rfl, _, rfl, W, rfl, ws, fun n hv => absurd hv (noA n), fun n hv => absurd hv (noR n), fun _ r H12 m12 s12 => ?_⟩
    replace m12 := readsBack m12
    obtain ⟨dy, t2, vs2, u1, _⟩ := m12.ob
    refine ⟨r, dy, _, rfl, u1, r, h, w, g, rfl, m12, lg, fun H13 s13 => ?_⟩
    rw [txt]
    refine ⟨_, rfl, _, rfl, rfl, ?_⟩
    rw [decide_eq_true rfl]
    exact q H13
end
theorem all_mk {P : Program} {w : World} {K : PySem.W.Frag} {h : Heap} {mg : Str → Option Value} {fa : Addr} (X : K.In h) (G : h.Ns mainGlobals mg) (hfa : mg "law" = some (.ref fa))
    {f_isnum : Addr} {od_isnum an_isnum : Option Addr} {sl_isnum : Array (Option Value)} {oc_isnum kV_isnum dc_isnum pm_isnum cd_isnum ct_isnum : Value}
    {f_isint : Addr} {od_isint an_isint : Option Addr} {sl_isint : Array (Option Value)} {oc_isint kV_isint dc_isint pm_isint cd_isint ct_isint : Value}
    {f_pool : Addr} {od_pool an_pool : Option Addr} {sl_pool : Array (Option Value)} {oc_pool kV_pool dc_pool pm_pool cd_pool ct_pool : Value}
    {f_take : Addr} {od_take an_take : Option Addr} {sl_take : Array (Option Value)} {oc_take kV_take dc_take pm_take cd_take ct_take : Value}
    {f_cell : Addr} {od_cell an_cell : Option Addr} {sl_cell : Array (Option Value)} {oc_cell kV_cell dc_cell pm_cell cd_cell ct_cell : Value}
    {f_lmat : Addr} {od_lmat an_lmat : Option Addr} {sl_lmat : Array (Option Value)} {oc_lmat kV_lmat dc_lmat pm_lmat cd_lmat ct_lmat : Value}
    {f_lshape : Addr} {od_lshape an_lshape : Option Addr} {sl_lshape : Array (Option Value)} {oc_lshape kV_lshape dc_lshape pm_lshape cd_lshape ct_lshape : Value}
    {f_lisiw : Addr} {od_lisiw an_lisiw : Option Addr} {sl_lisiw : Array (Option Value)} {oc_lisiw kV_lisiw dc_lisiw pm_lisiw cd_lisiw ct_lisiw : Value}
    {f_ldue : Addr} {od_ldue an_ldue : Option Addr} {sl_ldue : Array (Option Value)} {oc_ldue kV_ldue dc_ldue pm_ldue cd_ldue ct_ldue : Value}
    {f_ltold : Addr} {od_ltold an_ltold : Option Addr} {sl_ltold : Array (Option Value)} {oc_ltold kV_ltold dc_ltold pm_ltold cd_ltold ct_ltold : Value}
    {f_lchg : Addr} {od_lchg an_lchg : Option Addr} {sl_lchg : Array (Option Value)} {oc_lchg kV_lchg dc_lchg pm_lchg cd_lchg ct_lchg : Value}
    {f_law : Addr} {od_law an_law : Option Addr} {sl_law : Array (Option Value)} {oc_law kV_law dc_law pm_law cd_law ct_law : Value}
    {CF : Addr}
    {C_ibt f_ibt : Addr} {nm_ibt q_ibt : Str} {N_ibt : Addr} {bs_ibt sb_ibt : List Value} {sn_ibt : List Str} {ab_ibt : Bool} {co_ibt : Option Bool} {dd_ibt : Option Addr} {x0_ibt x1_ibt x2_ibt x3_ibt x5_ibt : Option Value} {od_ibt an_ibt : Option Addr} {sl_ibt : Array (Option Value)} {oc_ibt kV_ibt dc_ibt pm_ibt cd_ibt ct_ibt : Value}
    {C_ibr f_ibr : Addr} {nm_ibr q_ibr : Str} {N_ibr : Addr} {bs_ibr sb_ibr : List Value} {sn_ibr : List Str} {ab_ibr : Bool} {co_ibr : Option Bool} {dd_ibr : Option Addr} {x0_ibr x1_ibr x2_ibr x3_ibr x5_ibr : Option Value} {od_ibr an_ibr : Option Addr} {sl_ibr : Array (Option Value)} {oc_ibr kV_ibr dc_ibr pm_ibr cd_ibr ct_ibr : Value}
    {C_ma : Addr}
    {f_minit : Addr} {od_minit an_minit : Option Addr} {sl_minit : Array (Option Value)} {oc_minit kV_minit dc_minit pm_minit cd_minit ct_minit : Value}
    {f_meqm : Addr} {od_meqm an_meqm : Option Addr} {sl_meqm : Array (Option Value)} {oc_meqm kV_meqm dc_meqm pm_meqm cd_meqm ct_meqm : Value}
    {f_mstr : Addr} {od_mstr an_mstr : Option Addr} {sl_mstr : Array (Option Value)} {oc_mstr kV_mstr dc_mstr pm_mstr cd_mstr ct_mstr : Value}
    {f_mread : Addr} {od_mread an_mread : Option Addr} {sl_mread : Array (Option Value)} {oc_mread kV_mread dc_mread pm_mread cd_mread ct_mread : Value}
    {p_mread : Addr} {r_mread : List Value}
    {tM : Tok}
    (a_isnum : PySem.W.nsIn K mainGlobals "is_number" = some (some (.ref f_isnum))) (l_isnum : K.lookup f_isnum = some ⟨oc_isnum, od_isnum, .func (PySem.W.fnOf "is_number" "is_number" (defArgs s_isnum) (defBody s_isnum) (defScope s_isnum) .none kV_isnum dc_isnum pm_isnum an_isnum cd_isnum ct_isnum), sl_isnum⟩) (c_isnum : PySem.W.codeIn K cd_isnum "is_number" = true) (k_isnum : PySem.W.keepIn K (.ref f_isnum) = true)
    (a_isint : PySem.W.nsIn K mainGlobals "is_integer" = some (some (.ref f_isint))) (l_isint : K.lookup f_isint = some ⟨oc_isint, od_isint, .func (PySem.W.fnOf "is_integer" "is_integer" (defArgs s_isint) (defBody s_isint) (defScope s_isint) .none kV_isint dc_isint pm_isint an_isint cd_isint ct_isint), sl_isint⟩) (c_isint : PySem.W.codeIn K cd_isint "is_integer" = true) (k_isint : PySem.W.keepIn K (.ref f_isint) = true)
    (a_pool : PySem.W.nsIn K mainGlobals "_law_pool" = some (some (.ref f_pool))) (l_pool : K.lookup f_pool = some ⟨oc_pool, od_pool, .func (PySem.W.fnOf "_law_pool" "_law_pool" (defArgs s_pool) (defBody s_pool) (defScope s_pool) .none kV_pool dc_pool pm_pool an_pool cd_pool ct_pool), sl_pool⟩) (c_pool : PySem.W.codeIn K cd_pool "_law_pool" = true) (k_pool : PySem.W.keepIn K (.ref f_pool) = true)
    (a_take : PySem.W.nsIn K mainGlobals "_law_take" = some (some (.ref f_take))) (l_take : K.lookup f_take = some ⟨oc_take, od_take, .func (PySem.W.fnOf "_law_take" "_law_take" (defArgs s_take) (defBody s_take) (defScope s_take) .none kV_take dc_take pm_take an_take cd_take ct_take), sl_take⟩) (c_take : PySem.W.codeIn K cd_take "_law_take" = true) (k_take : PySem.W.keepIn K (.ref f_take) = true)
    (a_cell : PySem.W.nsIn K mainGlobals "_law_cell" = some (some (.ref f_cell))) (l_cell : K.lookup f_cell = some ⟨oc_cell, od_cell, .func (PySem.W.fnOf "_law_cell" "_law_cell" (defArgs s_cell) (defBody s_cell) (defScope s_cell) .none kV_cell dc_cell pm_cell an_cell cd_cell ct_cell), sl_cell⟩) (c_cell : PySem.W.codeIn K cd_cell "_law_cell" = true) (k_cell : PySem.W.keepIn K (.ref f_cell) = true)
    (a_lmat : PySem.W.nsIn K mainGlobals "_law_matrix" = some (some (.ref f_lmat))) (l_lmat : K.lookup f_lmat = some ⟨oc_lmat, od_lmat, .func (PySem.W.fnOf "_law_matrix" "_law_matrix" (defArgs s_lmat) (defBody s_lmat) (defScope s_lmat) .none kV_lmat dc_lmat pm_lmat an_lmat cd_lmat ct_lmat), sl_lmat⟩) (c_lmat : PySem.W.codeIn K cd_lmat "_law_matrix" = true) (k_lmat : PySem.W.keepIn K (.ref f_lmat) = true)
    (a_lshape : PySem.W.nsIn K mainGlobals "_law_shape" = some (some (.ref f_lshape))) (l_lshape : K.lookup f_lshape = some ⟨oc_lshape, od_lshape, .func (PySem.W.fnOf "_law_shape" "_law_shape" (defArgs s_lshape) (defBody s_lshape) (defScope s_lshape) .none kV_lshape dc_lshape pm_lshape an_lshape cd_lshape ct_lshape), sl_lshape⟩) (c_lshape : PySem.W.codeIn K cd_lshape "_law_shape" = true) (k_lshape : PySem.W.keepIn K (.ref f_lshape) = true)
    (a_lisiw : PySem.W.nsIn K mainGlobals "_law_is_integer_word" = some (some (.ref f_lisiw))) (l_lisiw : K.lookup f_lisiw = some ⟨oc_lisiw, od_lisiw, .func (PySem.W.fnOf "_law_is_integer_word" "_law_is_integer_word" (defArgs s_lisiw) (defBody s_lisiw) (defScope s_lisiw) .none kV_lisiw dc_lisiw pm_lisiw an_lisiw cd_lisiw ct_lisiw), sl_lisiw⟩) (c_lisiw : PySem.W.codeIn K cd_lisiw "_law_is_integer_word" = true) (k_lisiw : PySem.W.keepIn K (.ref f_lisiw) = true)
    (a_ldue : PySem.W.nsIn K mainGlobals "_law_due" = some (some (.ref f_ldue))) (l_ldue : K.lookup f_ldue = some ⟨oc_ldue, od_ldue, .func (PySem.W.fnOf "_law_due" "_law_due" (defArgs s_ldue) (defBody s_ldue) (defScope s_ldue) .none kV_ldue dc_ldue pm_ldue an_ldue cd_ldue ct_ldue), sl_ldue⟩) (c_ldue : PySem.W.codeIn K cd_ldue "_law_due" = true) (k_ldue : PySem.W.keepIn K (.ref f_ldue) = true)
    (a_ltold : PySem.W.nsIn K mainGlobals "_law_told" = some (some (.ref f_ltold))) (l_ltold : K.lookup f_ltold = some ⟨oc_ltold, od_ltold, .func (PySem.W.fnOf "_law_told" "_law_told" (defArgs s_ltold) (defBody s_ltold) (defScope s_ltold) .none kV_ltold dc_ltold pm_ltold an_ltold cd_ltold ct_ltold), sl_ltold⟩) (c_ltold : PySem.W.codeIn K cd_ltold "_law_told" = true) (k_ltold : PySem.W.keepIn K (.ref f_ltold) = true)
    (a_lchg : PySem.W.nsIn K mainGlobals "_law_changed" = some (some (.ref f_lchg))) (l_lchg : K.lookup f_lchg = some ⟨oc_lchg, od_lchg, .func (PySem.W.fnOf "_law_changed" "_law_changed" (defArgs s_lchg) (defBody s_lchg) (defScope s_lchg) .none kV_lchg dc_lchg pm_lchg an_lchg cd_lchg ct_lchg), sl_lchg⟩) (c_lchg : PySem.W.codeIn K cd_lchg "_law_changed" = true) (k_lchg : PySem.W.keepIn K (.ref f_lchg) = true)
    (a_law : PySem.W.nsIn K mainGlobals "law" = some (some (.ref f_law))) (l_law : K.lookup f_law = some ⟨oc_law, od_law, .func (PySem.W.fnOf "law" "law" (defArgs s_law) (defBody s_law) (defScope s_law) .none kV_law dc_law pm_law an_law cd_law ct_law), sl_law⟩) (c_law : PySem.W.codeIn K cd_law "law" = true) (k_law : PySem.W.keepIn K (.ref f_law) = true)
    (aF : PySem.W.nsIn K mainGlobals "FieldError" = some (some (.ref CF))) (rF : PySem.W.readsIn K CF (.type "type") = true) (gF : PySem.W.specialIn K (.ref CF) "__getattribute__" = some (some (.builtin "type.__getattribute__"))) (iF : PySem.W.findCls K (.ref CF) (.type "type") "__init__" = some (.val (.builtin "ValueError.__init__")))
    (aC_ibt : PySem.W.nsIn K mainGlobals "BadText" = some (some (.ref C_ibt))) (xC_ibt : K.lookup C_ibt = some (excClassObj nm_ibt q_ibt C_ibt N_ibt bs_ibt [.ref CF, .type "ValueError", .type "Exception", .type "BaseException", .type "object"] true sn_ibt sb_ibt ab_ibt co_ibt dd_ibt x0_ibt x1_ibt x2_ibt x3_ibt x5_ibt "ValueError.__new__")) (sa_ibt : PySem.W.findIn K (.ref C_ibt) "__setattr__" = some (some (.builtin "object.__setattr__"))) (ga_ibt : PySem.W.findIn K (.ref C_ibt) "__getattribute__" = some (some (.builtin "BaseException.__getattribute__"))) (gg_ibt : PySem.W.findIn K (.ref C_ibt) "__getattr__" = some none) (no_ibt : PySem.W.findIn K (.ref C_ibt) "at" = some none) (ic_ibt : PySem.W.findIn K (.ref C_ibt) "__init__" = some (some (.ref f_ibt))) (ti_ibt : PySem.W.typeIn K (.ref f_ibt) = some (.type "function")) (kc_ibt : PySem.W.keepIn K (.ref C_ibt) = true) (ec_ibt : PySem.W.subIn K (.ref C_ibt) (.type "BaseException") = some true) (tc_ibt : PySem.W.typeIn K (.ref C_ibt) = some (.type "type")) (hd_ibt : PySem.W.hasDictIn K C_ibt = true) (is_ibt : PySem.W.isClsIn K C_ibt = true) (sc_ibt : PySem.W.subIn K (.ref C_ibt) (.ref C_ibt) = some true) (l_ibt : K.lookup f_ibt = some ⟨oc_ibt, od_ibt, .func (PySem.W.fnOf "__init__" "BadText.__init__" (defArgs s_ibt) (defBody s_ibt) (defScope s_ibt) .none kV_ibt dc_ibt pm_ibt an_ibt cd_ibt ct_ibt), sl_ibt⟩) (c_ibt : PySem.W.codeIn K cd_ibt "BadText.__init__" = true) (k_ibt : PySem.W.keepIn K (.ref f_ibt) = true)
    (aC_ibr : PySem.W.nsIn K mainGlobals "BadRow" = some (some (.ref C_ibr))) (xC_ibr : K.lookup C_ibr = some (excClassObj nm_ibr q_ibr C_ibr N_ibr bs_ibr [.ref CF, .type "ValueError", .type "Exception", .type "BaseException", .type "object"] true sn_ibr sb_ibr ab_ibr co_ibr dd_ibr x0_ibr x1_ibr x2_ibr x3_ibr x5_ibr "ValueError.__new__")) (sa_ibr : PySem.W.findIn K (.ref C_ibr) "__setattr__" = some (some (.builtin "object.__setattr__"))) (ga_ibr : PySem.W.findIn K (.ref C_ibr) "__getattribute__" = some (some (.builtin "BaseException.__getattribute__"))) (gg_ibr : PySem.W.findIn K (.ref C_ibr) "__getattr__" = some none) (no_ibr : PySem.W.findIn K (.ref C_ibr) "at" = some none) (ic_ibr : PySem.W.findIn K (.ref C_ibr) "__init__" = some (some (.ref f_ibr))) (ti_ibr : PySem.W.typeIn K (.ref f_ibr) = some (.type "function")) (kc_ibr : PySem.W.keepIn K (.ref C_ibr) = true) (ec_ibr : PySem.W.subIn K (.ref C_ibr) (.type "BaseException") = some true) (tc_ibr : PySem.W.typeIn K (.ref C_ibr) = some (.type "type")) (hd_ibr : PySem.W.hasDictIn K C_ibr = true) (is_ibr : PySem.W.isClsIn K C_ibr = true) (sc_ibr : PySem.W.subIn K (.ref C_ibr) (.ref C_ibr) = some true) (l_ibr : K.lookup f_ibr = some ⟨oc_ibr, od_ibr, .func (PySem.W.fnOf "__init__" "BadRow.__init__" (defArgs s_ibr) (defBody s_ibr) (defScope s_ibr) .none kV_ibr dc_ibr pm_ibr an_ibr cd_ibr ct_ibr), sl_ibr⟩) (c_ibr : PySem.W.codeIn K cd_ibr "BadRow.__init__" = true) (k_ibr : PySem.W.keepIn K (.ref f_ibr) = true)
    (M_aK : PySem.W.nsIn K mainGlobals "Matrix" = some (some (.ref C_ma)))
    (M_pg : PySem.W.plainGet K C_ma Str.empty = true)
    (M_hd : PySem.W.hasDictIn K C_ma = true)
    (M_po : PySem.W.plainOver K C_ma = true)
    (M_sa : PySem.W.findIn K (.ref C_ma) "__setattr__" = some (some (.builtin "object.__setattr__")))
    (M_sf : PySem.W.selfFirst K C_ma = true)
    (M_ha : PySem.W.findIn K (.ref C_ma) "__class__" = some (some (.builtin "object.__class__")))
    (M_hn : PySem.W.specialIn K (.builtin "object.__class__") "__get__" = some (some (.builtin "getset_descriptor.__get__")))
    (M_htk : PySem.W.takesIn K (.builtin "object.__class__") = some true)
    (M_hm : PySem.W.mroIn K C_ma (.type "object") = some true)
    (M_mk : PySem.W.makesIn K C_ma = true)
    (M_kp : PySem.W.keepIn K (.ref C_ma) = true)
    (M_no_rows : PySem.W.findIn K (.ref C_ma) "rows" = some none)
    (M_no_height : PySem.W.findIn K (.ref C_ma) "height" = some none)
    (M_no_width : PySem.W.findIn K (.ref C_ma) "width" = some none)
    (M_rd : PySem.W.readsIn K C_ma (.type "type") = true)
    (M_sg : PySem.W.specialIn K (.ref C_ma) "__getattribute__" = some (some (.builtin "type.__getattribute__")))
    (M_at_minit : PySem.W.findIn K (.ref C_ma) "__init__" = some (some (.ref f_minit)))
    (M_fn_minit : PySem.W.isFn K (.ref f_minit) = true)
    (M_l_minit : K.lookup f_minit = some ⟨oc_minit, od_minit, .func (PySem.W.fnOf "__init__" "Matrix.__init__" (defArgs s_minit) (defBody s_minit) (defScope s_minit) .none kV_minit dc_minit pm_minit an_minit cd_minit ct_minit), sl_minit⟩)
    (M_c_minit : PySem.W.codeIn K cd_minit "Matrix.__init__" = true)
    (M_k_minit : PySem.W.keepIn K (.ref f_minit) = true)
    (M_at_meqm : PySem.W.findIn K (.ref C_ma) "__eq__" = some (some (.ref f_meqm)))
    (M_fn_meqm : PySem.W.isFn K (.ref f_meqm) = true)
    (M_l_meqm : K.lookup f_meqm = some ⟨oc_meqm, od_meqm, .func (PySem.W.fnOf "__eq__" "Matrix.__eq__" (defArgs s_meqm) (defBody s_meqm) (defScope s_meqm) .none kV_meqm dc_meqm pm_meqm an_meqm cd_meqm ct_meqm), sl_meqm⟩)
    (M_c_meqm : PySem.W.codeIn K cd_meqm "Matrix.__eq__" = true)
    (M_k_meqm : PySem.W.keepIn K (.ref f_meqm) = true)
    (M_at_mstr : PySem.W.findIn K (.ref C_ma) "__str__" = some (some (.ref f_mstr)))
    (M_fn_mstr : PySem.W.isFn K (.ref f_mstr) = true)
    (M_l_mstr : K.lookup f_mstr = some ⟨oc_mstr, od_mstr, .func (PySem.W.fnOf "__str__" "Matrix.__str__" (defArgs s_mstr) (defBody s_mstr) (defScope s_mstr) .none kV_mstr dc_mstr pm_mstr an_mstr cd_mstr ct_mstr), sl_mstr⟩)
    (M_c_mstr : PySem.W.codeIn K cd_mstr "Matrix.__str__" = true)
    (M_k_mstr : PySem.W.keepIn K (.ref f_mstr) = true)
    (M_at_mread : PySem.W.findCls K (.ref C_ma) (.type "type") "read" = some (.get (.builtin "classmethod.__get__") (.ref p_mread) .none (.ref C_ma)))
    (M_rc_mread : PySem.W.recIn K p_mread "classmethod" = some (.ref f_mread :: r_mread))
    (M_fi_mread : PySem.W.fnIn K f_mread = true)
    (M_l_mread : K.lookup f_mread = some ⟨oc_mread, od_mread, .func (PySem.W.fnOf "read" "Matrix.read" (defArgs s_mread) (defBody s_mread) (defScope s_mread) .none kV_mread dc_mread pm_mread an_mread cd_mread ct_mread), sl_mread⟩)
    (M_c_mread : PySem.W.codeIn K cd_mread "Matrix.read" = true)
    (M_k_mread : PySem.W.keepIn K (.ref f_mread) = true)
    (s_br_bt : PySem.W.subIn K (.ref C_ibr) (.ref C_ibt) = some false)
    (z_int : PySem.W.nsIn K mainGlobals "int" = some none)
    (z_len : PySem.W.nsIn K mainGlobals "len" = some none)
    (z_abs : PySem.W.nsIn K mainGlobals "abs" = some none)
    (z_isinstance : PySem.W.nsIn K mainGlobals "isinstance" = some none)
    (z_bool : PySem.W.nsIn K mainGlobals "bool" = some none)
    (z_tuple : PySem.W.nsIn K mainGlobals "tuple" = some none)
    (z_list : PySem.W.nsIn K mainGlobals "list" = some none)
    (z_str : PySem.W.nsIn K mainGlobals "str" = some none)
    (z_range : PySem.W.nsIn K mainGlobals "range" = some none)
    (z_max : PySem.W.nsIn K mainGlobals "max" = some none)
    (z_min : PySem.W.nsIn K mainGlobals "min" = some none)
    (z_sorted : PySem.W.nsIn K mainGlobals "sorted" = some none)
    (z_set : PySem.W.nsIn K mainGlobals "set" = some none)
    (z_all : PySem.W.nsIn K mainGlobals "all" = some none)
    (z_enumerate : PySem.W.nsIn K mainGlobals "enumerate" = some none)
    (g_MOST_DIGITS : PySem.W.nsIn K mainGlobals "MOST_DIGITS" = some (some (.int 30 tM))) :
    ∃ fd : FuncData, (∀ (s : Shared) (v : Value), BindsTo s fd ⟨[v], []⟩ [("_law_script", v)]) ∧ ∀ base : Heap, K.In base → base.Ns mainGlobals mg → FnOk P w K mg base CX0 8 fa fd ["_law_script"] (spLaw K) := by
  have e := hfa.symm.trans (PySem.W.mg_of X G a_law)
  cases e
  have T : Txt mg := ⟨PySem.W.mg_none_of X G z_int, PySem.W.mg_none_of X G z_len, PySem.W.mg_none_of X G z_abs, PySem.W.mg_none_of X G z_isinstance, PySem.W.mg_none_of X G z_bool, PySem.W.mg_none_of X G z_tuple, PySem.W.mg_none_of X G z_list, PySem.W.mg_none_of X G z_str, PySem.W.mg_none_of X G z_range, PySem.W.mg_none_of X G z_max, PySem.W.mg_none_of X G z_min, PySem.W.mg_none_of X G z_sorted, PySem.W.mg_none_of X G z_set⟩
  have n_all := PySem.W.mg_none_of X G z_all
  have n_enumerate := PySem.W.mg_none_of X G z_enumerate
  have TF : FErr K mg CF := ⟨PySem.W.mg_of X G aF, rF, gF, iF⟩
  have F_ibt := fun_mk (st := s_ibt) l_ibt c_ibt k_ibt
  have b_ibt := F_ibt.binds (ps := ["self", "at"]) fun _ _ _ _ _ _ us hl => match us, hl with | [_, _], _ => rfl
  have E_ibt : ErrC K mg "BadText" "at" C_ibt f_ibt := ⟨PySem.W.mg_of X G aC_ibt, ⟨⟨_, _, _, _, _, _, _, _, _, _, _, _, _, _, _, xC_ibt, rfl⟩, sa_ibt, ec_ibt, tc_ibt, kc_ibt⟩, no_ibt, ic_ibt, ti_ibt, ⟨ga_ibt, gg_ibt, ec_ibt, hd_ibt⟩, exm_me ec_ibt is_ibt tc_ibt sc_ibt⟩
  have F_ibr := fun_mk (st := s_ibr) l_ibr c_ibr k_ibr
  have b_ibr := F_ibr.binds (ps := ["self", "at"]) fun _ _ _ _ _ _ us hl => match us, hl with | [_, _], _ => rfl
  have E_ibr : ErrC K mg "BadRow" "at" C_ibr f_ibr := ⟨PySem.W.mg_of X G aC_ibr, ⟨⟨_, _, _, _, _, _, _, _, _, _, _, _, _, _, _, xC_ibr, rfl⟩, sa_ibr, ec_ibr, tc_ibr, kc_ibr⟩, no_ibr, ic_ibr, ti_ibr, ⟨ga_ibr, gg_ibr, ec_ibr, hd_ibr⟩, exm_me ec_ibr is_ibr tc_ibr sc_ibr⟩
  have TM : MaT K mg C_ma := ⟨PySem.W.mg_of X G M_aK, ⟨M_pg, M_hd, M_po, M_sa⟩, M_no_rows, M_no_height, M_no_width, M_sf, ⟨⟨M_pg, M_hd, M_po, M_sa⟩, M_ha, M_hn, M_htk, M_hm, if_pos (beq_self_eq_true _)⟩⟩
  have F_minit := fun_mk (st := s_minit) M_l_minit M_c_minit M_k_minit
  have b_minit := F_minit.binds (ps := ["self", "rows"]) fun _ _ _ _ _ _ us hl => match us, hl with | [_, _], _ => rfl
  have F_meqm := fun_mk (st := s_meqm) M_l_meqm M_c_meqm M_k_meqm
  have b_meqm := F_meqm.binds (ps := ["self", "other"]) fun _ _ _ _ _ _ us hl => match us, hl with | [_, _], _ => rfl
  have M_meqm : Meth K C_ma "__eq__" f_meqm := ⟨M_at_meqm, M_fn_meqm, M_k_meqm⟩
  have F_mstr := fun_mk (st := s_mstr) M_l_mstr M_c_mstr M_k_mstr
  have b_mstr := F_mstr.binds (ps := ["self"]) fun _ _ _ _ _ _ us hl => match us, hl with | [_], _ => rfl
  have M_mstr : Meth K C_ma "__str__" f_mstr := ⟨M_at_mstr, M_fn_mstr, M_k_mstr⟩
  have F_mread := fun_mk (st := s_mread) M_l_mread M_c_mread M_k_mread
  have b_mread := F_mread.binds (ps := ["cls", "text"]) fun _ _ _ _ _ _ us hl => match us, hl with | [_, _], _ => rfl
  have M_mread : ClX.CMet K C_ma (.type "type") "read" p_mread f_mread := ⟨M_at_mread, ⟨_, M_rc_mread⟩, M_fi_mread⟩
  have CM : ClX.CRead K C_ma (.type "type") := ⟨M_rd, M_sg⟩
  have F_isnum := fun_mk (st := s_isnum) l_isnum c_isnum k_isnum
  have b_isnum := F_isnum.binds (ps := ["word", "most"]) fun _ _ _ _ _ _ us hl => match us, hl with | [_, _], _ => rfl
  have F_isint := fun_mk (st := s_isint) l_isint c_isint k_isint
  have b_isint := F_isint.binds (ps := ["word"]) fun _ _ _ _ _ _ us hl => match us, hl with | [_], _ => rfl
  have F_pool := fun_mk (st := s_pool) l_pool c_pool k_pool
  have b_pool := F_pool.binds (ps := ["_law_cell_here"]) fun _ _ _ _ _ _ us hl => match us, hl with | [_], _ => rfl
  have F_take := fun_mk (st := s_take) l_take c_take k_take
  have b_take := F_take.binds (ps := ["_law_pool_here", "_law_limit"]) fun _ _ _ _ _ _ us hl => match us, hl with | [_, _], _ => rfl
  have F_cell := fun_mk (st := s_cell) l_cell c_cell k_cell
  have b_cell := F_cell.binds (ps := ["_law_script", "_law_k"]) fun _ _ _ _ _ _ us hl => match us, hl with | [_, _], _ => rfl
  have F_lmat := fun_mk (st := s_lmat) l_lmat c_lmat k_lmat
  have b_lmat := F_lmat.binds (ps := ["_law_pool_here", "_law_height", "_law_width"]) fun _ _ _ _ _ _ us hl => match us, hl with | [_, _, _], _ => rfl
  have F_lshape := fun_mk (st := s_lshape) l_lshape c_lshape k_lshape
  have b_lshape := F_lshape.binds (ps := ["_law_pool_here"]) fun _ _ _ _ _ _ us hl => match us, hl with | [_], _ => rfl
  have F_lisiw := fun_mk (st := s_lisiw) l_lisiw c_lisiw k_lisiw
  have b_lisiw := F_lisiw.binds (ps := ["_law_word"]) fun _ _ _ _ _ _ us hl => match us, hl with | [_], _ => rfl
  have F_ldue := fun_mk (st := s_ldue) l_ldue c_ldue k_ldue
  have b_ldue := F_ldue.binds (ps := ["_law_words"]) fun _ _ _ _ _ _ us hl => match us, hl with | [_], _ => rfl
  have F_ltold := fun_mk (st := s_ltold) l_ltold c_ltold k_ltold
  have b_ltold := F_ltold.binds (ps := ["_law_text"]) fun _ _ _ _ _ _ us hl => match us, hl with | [_], _ => rfl
  have F_lchg := fun_mk (st := s_lchg) l_lchg c_lchg k_lchg
  have b_lchg := F_lchg.binds (ps := ["_law_pool_here", "_law_words"]) fun _ _ _ _ _ _ us hl => match us, hl with | [_, _], _ => rfl
  have F_law := fun_mk (st := s_law) l_law c_law k_law
  have m_MOST_DIGITS := PySem.W.mg_of X G g_MOST_DIGITS
  refine ⟨PySem.W.fnOf "law" "law" (defArgs s_law) (defBody s_law) (defScope s_law) .none kV_law dc_law pm_law an_law cd_law ct_law, fun s v => .of_eq rfl, fun base _ _ => ?_⟩
  have x_ibt : ErP P w K mg base "BadText" "at" C_ibt okNat := ⟨_, _, _, E_ibt, ok_ibt TF E_ibt.oex E_ibt.no F_ibt, b_ibt⟩
  have x_ibr : ErP P w K mg base "BadRow" "at" C_ibr okNat := ⟨_, _, _, E_ibr, ok_ibr TF E_ibr.oex E_ibr.no F_ibr, b_ibr⟩
  have d_isnum : Cl P w K mg base CX0 1 "is_number" spIsNumM := ⟨_, _, _, ok_isnumM T F_isnum, PySem.W.mg_of X G a_isnum, k_isnum, b_isnum⟩
  have d_isint : Cl P w K mg base CX0 2 "is_integer" spIsIntW := ⟨_, _, _, ok_isint T m_MOST_DIGITS F_isint d_isnum, PySem.W.mg_of X G a_isint, k_isint, b_isint⟩
  have d_pool : Cl P w K mg base CX0 1 "_law_pool" spPool := ⟨_, _, _, ok_pool F_pool, PySem.W.mg_of X G a_pool, k_pool, b_pool⟩
  have d_take : Cl P w K mg base CX0 1 "_law_take" spTake := ⟨_, _, _, ok_take T F_take, PySem.W.mg_of X G a_take, k_take, b_take⟩
  have d_cell : Cl P w K mg base CX0 1 "_law_cell" (spCellL K) := ⟨_, _, _, ok_cell T F_cell, PySem.W.mg_of X G a_cell, k_cell, b_cell⟩
  have d_lmat : Cl P w K mg base CX0 2 "_law_matrix" spLmat := ⟨_, _, _, ok_lmat T n_enumerate F_lmat d_take, PySem.W.mg_of X G a_lmat, k_lmat, b_lmat⟩
  have d_lshape : Cl P w K mg base CX0 2 "_law_shape" spLshape := ⟨_, _, _, ok_lshape F_lshape d_take, PySem.W.mg_of X G a_lshape, k_lshape, b_lshape⟩
  have d_lisiw : Cl P w K mg base CX0 1 "_law_is_integer_word" spLisW := ⟨_, _, _, ok_lisiw T n_all F_lisiw, PySem.W.mg_of X G a_lisiw, k_lisiw, b_lisiw⟩
  have d_ldue : Cl P w K mg base CX0 2 "_law_due" (spLdue K) := ⟨_, _, _, ok_ldue T F_ldue d_lisiw, PySem.W.mg_of X G a_ldue, k_ldue, b_ldue⟩
  have d_lchg : Cl P w K mg base CX0 2 "_law_changed" spChg := ⟨_, _, _, ok_lchg T F_lchg d_take, PySem.W.mg_of X G a_lchg, k_lchg, b_lchg⟩
  have c_mil : Ma P w K mg base 3 C_ma (spMI C_ma C_ibr false K) := ⟨_, _, _, ⟨M_mk, M_at_minit, M_fn_minit, M_kp⟩, ok_minit false T n_enumerate TM F_minit x_ibr, b_minit⟩
  have c_mit : Ma P w K mg base 3 C_ma (spMI C_ma C_ibr true K) := ⟨_, _, _, ⟨M_mk, M_at_minit, M_fn_minit, M_kp⟩, ok_minit true T n_enumerate TM F_minit x_ibr, b_minit⟩
  have c_meq : Me P w K mg base 1 C_ma "__eq__" (spMeq C_ma) := ⟨_, _, _, M_meqm, ok_meqm T TM F_meqm, b_meqm⟩
  have ex : PySem.W.exmOne K (.ref C_ibr) (.ref C_ibt) = some false := PySem.W.exm_ref ec_ibt hd_ibt tc_ibt s_br_bt
  have c_mread : CmN P w K mg base 5 C_ma "read" (spMread C_ma C_ibr C_ibt K) := ⟨_, _, _, _, _, CM, M_mread, ok_mread T n_enumerate TM F_mread d_isint x_ibt c_mil, b_mread⟩
  have c_mstr : Me P w K mg base 1 C_ma "__str__" (spMstr C_ma) := ⟨_, _, _, M_mstr, ok_mstr T TM F_mstr, b_mstr⟩
  have d_ltold : Cl P w K mg base CX0 6 "_law_told" (spLtold K) := ⟨_, _, _, ok_ltold T TM E_ibt E_ibr ex F_ltold c_mread, PySem.W.mg_of X G a_ltold, k_ltold, b_ltold⟩
  exact ok_law T TM F_law d_pool d_cell d_take d_lshape d_lmat d_ltold d_ldue d_lchg c_mil c_mread c_mstr c_meq
theorem walk {l : PySem.W.OpenLaw} {q : Program} {loose : List Str} {XP : (Str → Option Value) → Heap → Prop} {YP : World → Heap → Prop} {d : DefRec} {K : Params → PySem.W.Frag} (hn : l.most = some 63) (hdf : d.params.defaults = [])
    (hY : ∀ (w : World) (h : Heap), YP w h → (K w.params).In h)
    (F : ∀ (w : World) (mg : Str → Option Value) (fa : Addr) (h : Heap), (K w.params).In h → h.Ns mainGlobals mg → mg d.name = some (.ref fa) →
      ∃ fd : FuncData, (∀ (s : Shared) (u : Value), BindsTo s fd ⟨[u], []⟩ [("_law_script", u)]) ∧ ∀ base : Heap, (K w.params).In base → base.Ns mainGlobals mg → FnOk l.prog w (K w.params) mg base CX0 8 fa fd ["_law_script"] (spLaw (K w.params))) :
    PySem.W.WalkO q loose XP YP l.row.toRowW d [] (fun f vs => PySem.call f vs) :=
  L2.walk_of (n := 63) (k := 8) (x := "_law_script") (CX := fun _ => CX0) (sp := fun w => spLaw (K w.params)) hn (by decide) hdf ⟨rfl, by decide, by decide⟩ hY F (fun _ _ a ns hl _ hS => ⟨a, ns, rfl, hS, hl, fun _ => rfl⟩) fun _ _ _ _ _ z => z
end My
open PySem PySem.W PyProof.Rows
set_option maxRecDepth 100000 in
set_option maxHeartbeats 0 in
theorem PySem.Challenge.cw_everyfield_k43_matrices_written_and_read_holds : PySem.Challenge.rw_everyfield_k43_matrices_written_and_read.Holds := by
  w_on; o_law; k_head; (case hw => w_witness2)
  k_fill
  refine My.walk (l := PySem.Challenge.rw_everyfield_k43_matrices_written_and_read) rfl rfl (fun w h Y => PySem.W.kIn_of Y) ?F
  case F =>
    intro w mg fa h KX G hmg
    refine' My.all_mk KX G hmg ?a_isnum ?l_isnum ?c_isnum ?k_isnum ?a_isint ?l_isint ?c_isint ?k_isint ?a_pool ?l_pool ?c_pool ?k_pool ?a_take ?l_take ?c_take ?k_take ?a_cell ?l_cell ?c_cell ?k_cell ?a_lmat ?l_lmat ?c_lmat ?k_lmat ?a_lshape ?l_lshape ?c_lshape ?k_lshape ?a_lisiw ?l_lisiw ?c_lisiw ?k_lisiw ?a_ldue ?l_ldue ?c_ldue ?k_ldue ?a_ltold ?l_ltold ?c_ltold ?k_ltold ?a_lchg ?l_lchg ?c_lchg ?k_lchg ?a_law ?l_law ?c_law ?k_law ?aF ?rF ?gF ?iF ?aC_ibt ?xC_ibt ?sa_ibt ?ga_ibt ?gg_ibt ?no_ibt ?ic_ibt ?ti_ibt ?kc_ibt ?ec_ibt ?tc_ibt ?hd_ibt ?is_ibt ?sc_ibt ?l_ibt ?c_ibt ?k_ibt ?aC_ibr ?xC_ibr ?sa_ibr ?ga_ibr ?gg_ibr ?no_ibr ?ic_ibr ?ti_ibr ?kc_ibr ?ec_ibr ?tc_ibr ?hd_ibr ?is_ibr ?sc_ibr ?l_ibr ?c_ibr ?k_ibr ?M_aK ?M_pg ?M_hd ?M_po ?M_sa ?M_sf ?M_ha ?M_hn ?M_htk ?M_hm ?M_mk ?M_kp ?M_no_rows ?M_no_height ?M_no_width ?M_rd ?M_sg ?M_at_minit ?M_fn_minit ?M_l_minit ?M_c_minit ?M_k_minit ?M_at_meqm ?M_fn_meqm ?M_l_meqm ?M_c_meqm ?M_k_meqm ?M_at_mstr ?M_fn_mstr ?M_l_mstr ?M_c_mstr ?M_k_mstr ?M_at_mread ?M_rc_mread ?M_fi_mread ?M_l_mread ?M_c_mread ?M_k_mread ?s_br_bt ?z_int ?z_len ?z_abs ?z_isinstance ?z_bool ?z_tuple ?z_list ?z_str ?z_range ?z_max ?z_min ?z_sorted ?z_set ?z_all ?z_enumerate ?g_MOST_DIGITS
    (case a_isnum => k_is)
    (case l_isnum => k_is)
    (case c_isnum => k_is)
    (case k_isnum => k_is)
    (case a_isint => k_is)
    (case l_isint => k_is)
    (case c_isint => k_is)
    (case k_isint => k_is)
    (case a_pool => k_is)
    (case l_pool => k_is)
    (case c_pool => k_is)
    (case k_pool => k_is)
    (case a_take => k_is)
    (case l_take => k_is)
    (case c_take => k_is)
    (case k_take => k_is)
    (case a_cell => k_is)
    (case l_cell => k_is)
    (case c_cell => k_is)
    (case k_cell => k_is)
    (case a_lmat => k_is)
    (case l_lmat => k_is)
    (case c_lmat => k_is)
    (case k_lmat => k_is)
    (case a_lshape => k_is)
    (case l_lshape => k_is)
    (case c_lshape => k_is)
    (case k_lshape => k_is)
    (case a_lisiw => k_is)
    (case l_lisiw => k_is)
    (case c_lisiw => k_is)
    (case k_lisiw => k_is)
    (case a_ldue => k_is)
    (case l_ldue => k_is)
    (case c_ldue => k_is)
    (case k_ldue => k_is)
    (case a_ltold => k_is)
    (case l_ltold => k_is)
    (case c_ltold => k_is)
    (case k_ltold => k_is)
    (case a_lchg => k_is)
    (case l_lchg => k_is)
    (case c_lchg => k_is)
    (case k_lchg => k_is)
    (case a_law => k_is)
    (case l_law => k_is)
    (case c_law => k_is)
    (case k_law => k_is)
    (case aF => k_is)
    (case rF => k_is)
    (case gF => k_is)
    (case iF => k_is)
    (case aC_ibt => k_is)
    (case xC_ibt => k_is)
    (case sa_ibt => k_is)
    (case ga_ibt => k_is)
    (case gg_ibt => k_is)
    (case no_ibt => k_is)
    (case ic_ibt => k_is)
    (case ti_ibt => k_is)
    (case kc_ibt => k_is)
    (case ec_ibt => k_is)
    (case tc_ibt => k_is)
    (case hd_ibt => k_is)
    (case is_ibt => k_is)
    (case sc_ibt => k_is)
    (case l_ibt => k_is)
    (case c_ibt => k_is)
    (case k_ibt => k_is)
    (case aC_ibr => k_is)
    (case xC_ibr => k_is)
    (case sa_ibr => k_is)
    (case ga_ibr => k_is)
    (case gg_ibr => k_is)
    (case no_ibr => k_is)
    (case ic_ibr => k_is)
    (case ti_ibr => k_is)
    (case kc_ibr => k_is)
    (case ec_ibr => k_is)
    (case tc_ibr => k_is)
    (case hd_ibr => k_is)
    (case is_ibr => k_is)
    (case sc_ibr => k_is)
    (case l_ibr => k_is)
    (case c_ibr => k_is)
    (case k_ibr => k_is)
    (case M_aK => k_is)
    (case M_pg => k_is)
    (case M_hd => k_is)
    (case M_po => k_is)
    (case M_sa => k_is)
    (case M_sf => k_is)
    (case M_ha => k_is)
    (case M_hn => k_is)
    (case M_htk => k_is)
    (case M_hm => k_is)
    (case M_mk => k_is)
    (case M_kp => k_is)
    (case M_no_rows => k_is)
    (case M_no_height => k_is)
    (case M_no_width => k_is)
    (case M_rd => k_is)
    (case M_sg => k_is)
    (case M_at_minit => k_is)
    (case M_fn_minit => k_is)
    (case M_l_minit => k_is)
    (case M_c_minit => k_is)
    (case M_k_minit => k_is)
    (case M_at_meqm => k_is)
    (case M_fn_meqm => k_is)
    (case M_l_meqm => k_is)
    (case M_c_meqm => k_is)
    (case M_k_meqm => k_is)
    (case M_at_mstr => k_is)
    (case M_fn_mstr => k_is)
    (case M_l_mstr => k_is)
    (case M_c_mstr => k_is)
    (case M_k_mstr => k_is)
    (case M_at_mread => k_is)
    (case M_rc_mread => k_is)
    (case M_fi_mread => k_is)
    (case M_l_mread => k_is)
    (case M_c_mread => k_is)
    (case M_k_mread => k_is)
    (case s_br_bt => k_is)
    (case z_int => k_is)
    (case z_len => k_is)
    (case z_abs => k_is)
    (case z_isinstance => k_is)
    (case z_bool => k_is)
    (case z_tuple => k_is)
    (case z_list => k_is)
    (case z_str => k_is)
    (case z_range => k_is)
    (case z_max => k_is)
    (case z_min => k_is)
    (case z_sorted => k_is)
    (case z_set => k_is)
    (case z_all => k_is)
    (case z_enumerate => k_is)
    (case g_MOST_DIGITS => k_is)
