import PyProof.Rows.All
import Wide.All
import OpenK.AllK
import Wide.FinOn
import PyProof.NoPylong
import Flt.Len
import HandS.ForMost
import HandS.ForExc
import HandS.Wide
import HandS.IsInst
import HandS.Evl
import HandS.Flow
import HandS.Iter
import HandS.ExcInit
import HandS.ExcField
import HandS.ExcCtx
import HandS.HotCalls
import HandS.ExcInitHot
import HandS.TupLe
import HandS.TupAny
import HandS.Conv
import HandS.Strs
import HandS.Walk
import HandS.FStr
import HandS.FStrTup
import HandS.TryMany
import HandS.ExcIs
import HandS.RaiseMore
import HandS.Text
import HandS.StrMore
import PySem.Challenge.RW_everyfield_k01_errors_by_class
set_option Elab.async false
set_option linter.all false
set_option maxRecDepth 100000
set_option maxHeartbeats 4000000
set_option exponentiation.threshold 20000
namespace My
open PySem PySem.Spec PyProof.Rows L2
def top (i : Nat) : Stmt := PySem.Challenge.pw_everyfield_k01_errors_by_class.main.body.getD i (.Pass ⟨0, 0, 0, 0⟩)

structure Cl (P : Program) (w : World) (K : PySem.W.Frag) (mg : Str → Option Value) (base : Heap) (CX : CXT) (k : Nat) (x : Str) (sp : Sp) : Prop where
  ex : ∃ (f : Addr) (fd : FuncData) (ps : List Str), FnOk P w K mg base CX k f fd ps sp ∧ mg x = some (.ref f) ∧ PySem.W.keepIn K (.ref f) = true ∧ Binds K fd ps []
theorem pe_cl {X : Cx} {k j : Nat} {x : Str} {sp : Sp} {p pos : Pos} {e : Expr} {es : List Expr} {t : TA} (c : Cl X.prog X.w X.K X.mg X.base CX0 k x sp) (hr : Room j X.A) (ha : PA X (e :: es) t) (hk : k ≤ j := by decide) (hg : Gl X x := by rfl)
    (hdb : (x == ("__debug__" : Str)) = false := by decide) (he : starEach (e :: es) X.env = (false, eval e X.env) :: starEach es X.env := by rfl) (hpl : (backTo pos (starEach es X.env)).any (·.1) = false := by rfl) :
    PE X (.Call (.Name x p) (e :: es) [] pos) (tCall sp [] E0 t) := by
  obtain ⟨f, fd, ps, F, hm, kp, b⟩ := c.ex
  exact pe_call F (hr.mono hk) hg hm kp b .nil pass0 ha hdb he hpl
structure Txt (mg : Str → Option Value) : Prop where
  int : mg "int" = none
  len : mg "len" = none
  abs : mg "abs" = none
  isinstance : mg "isinstance" = none
  bool : mg "bool" = none
  tuple : mg "tuple" = none
  list : mg "list" = none
  str : mg "str" = none
  range : mg "range" = none
  max : mg "max" = none
  min : mg "min" = none
  sorted : mg "sorted" = none
  set : mg "set" = none
theorem if_pos_of {c : Bool} {A B : Prop} (hc : c = true) (h : A) : if c = true then A else B := by
  rw [if_pos hc]
  exact h
theorem if_neg_of {c : Bool} {A B : Prop} (hc : c = false) (h : B) : if c = true then A else B := by
  rw [hc, if_neg Bool.false_ne_true]
  exact h
theorem same_upd {H : Hp} {p : Addr} {o : HO} (h : H p = none) : Same H (upd H p o) := fun b u e => by
  rw [upd_ne (ne_of_none e h)]
  exact e
/-- a call of a def that may raise, where it doesn't -/
theorem pe_cl0 {X : Cx} {k j : Nat} {x : Str} {sp : Sp} {p pos : Pos} {e : Expr} {es : List Expr} {t : TA} (c : Cl X.prog X.w X.K X.mg X.base (L2.CX X.prog X.w) k x sp) (hr : Room j X.A) (ha : PA X (e :: es) t) (hk : k ≤ j := by decide) (hg : Gl X x := by rfl)
    (hdb : (x == ("__debug__" : Str)) = false := by decide) (he : starEach (e :: es) X.env = (false, eval e X.env) :: starEach es X.env := by rfl) (hpl : (backTo pos (starEach es X.env)).any (·.1) = false := by rfl) :
    PE X (.Call (.Name x p) (e :: es) [] pos) (tCall sp [] E0 t) := by
  obtain ⟨f, fd, ps, F, hm, kp, b⟩ := c.ex
  exact pe_call F (hr.mono hk) hg hm kp b .nil passL ha hdb he hpl
/-- a call of a def that may raise, in a def or try that takes it -/
theorem pe_clX {X : Cx} {W : WX} {k j : Nat} {x : Str} {sp : Sp} {p pos : Pos} {e : Expr} {es : List Expr} {t : TA} (c : Cl X.prog X.w X.K X.mg X.base (L2.CX X.prog X.w) k x sp) (hr : Room j X.A) (tk : Takes X W) (ha : PA X (e :: es) t) (hk : k ≤ j := by decide) (hg : Gl X x := by rfl)
    (hdb : (x == ("__debug__" : Str)) = false := by decide) (he : starEach (e :: es) X.env = (false, eval e X.env) :: starEach es X.env := by rfl) (hpl : (backTo pos (starEach es X.env)).any (·.1) = false := by rfl) :
    PE X (.Call (.Name x p) (e :: es) [] pos) (tCallS sp (WE W) t) := by
  obtain ⟨f, fd, ps, F, hm, kp, b⟩ := c.ex
  exact pe_callS F (hr.mono hk) hg hm kp b (fun σ => passAt tk σ) ha hdb he hpl
/-- FieldError, and what its __init__ is -/
structure FErr (K : PySem.W.Frag) (mg : Str → Option Value) (C : Addr) : Prop where
  g : mg "FieldError" = some (.ref C)
  rd : PySem.W.readsIn K C (.type "type") = true
  ga : PySem.W.specialIn K (.ref C) "__getattribute__" = some (some (.builtin "type.__getattribute__"))
  fi : PySem.W.findCls K (.ref C) (.type "type") "__init__" = some (.val (.builtin "ValueError.__init__"))
theorem pe_feinit {X : Cx} {CF : Addr} {e : Expr} {es : List Expr} {ta : TA} {p1 p2 pos : Pos} {pl : Sem Bool} (F : FErr X.K X.mg CF) (ha : PA X (e :: es) ta) (hg : Gl X "FieldError" := by rfl)
    (hc : eval (.Call (.Attribute (.Name "FieldError" p1) "__init__" p2) (e :: es) [] pos) X.env = (do
      let ov ← eval (.Name "FieldError" p1) X.env
      standAt p2.atName
      let (f, first) ← holding [ov] (getMethod ov "__init__" pl)
      callWith pos f first (backTo pos (starEach (e :: es) X.env)) (backToKw pos (keywordEach [] X.env))) := by rfl)
    (he : starEach (e :: es) X.env = (false, eval e X.env) :: starEach es X.env := by rfl) (hpl : (backTo pos (starEach es X.env)).any (·.1) = false := by rfl) :
    PE X (.Call (.Attribute (.Name "FieldError" p1) "__init__" p2) (e :: es) [] pos) (tVeI X.K ta) := by
  refine ⟨fun pins s σ H Q I h => ?_⟩
  refine PySem.W.methodCall_KW (ld_glob I hg F.g ?_ (by decide)) hc
  refine PySem.W.method_cls I.kIn F.ga (PySem.W.cls_value I.kIn F.rd F.fi (by decide +kernel) ?_)
  show wpAny _ _ (callWith pos (Value.builtin "ValueError.__init__") [] (backTo pos (starEach (e :: es) X.env)) []) _ _ _
  refine PyProof.Rows.callWith_method1 (thn (ha.run pos pins _ σ H _ (I.tok _) h) fun us s1 ⟨vs, H1, I1, r1, a, C, ws, ev, hl, T, ea, q⟩ => ?_) he hpl
  subst ev
  cases r1 with
  | @cons _ u0 _ ur ra rw' =>
    obtain rfl : u0 = Value.ref a := ra
    have hlen : ur.length ≤ sizeLine := by
      rw [← Paired.length rw', sizeLine_eq]
      omega
    exact oinit_ok T I1 ea hlen fun s' J => ⟨.non, H1, J, rfl, q⟩
/-- an own error class with one attribute, and its __init__ by its promise -/
def spInit (C : Addr) (fld : Str) : Sp := fun vs H Q _ => ∃ (a : Addr) (v : V), vs = [.ref a, v] ∧ H a = some (exo a C none) ∧
  ∀ d, H d = none → d ≠ a → Q .non (upd (upd H d (exd d [(fld, v)])) a (exo a C (some d)))
structure ErrC (K : PySem.W.Frag) (mg : Str → Option Value) (nm fld : Str) (C fI : Addr) : Prop where
  g : mg nm = some (.ref C)
  oex : OexC K C
  no : PySem.W.findIn K (.ref C) fld = some none
  iC : PySem.W.findIn K (.ref C) "__init__" = some (some (.ref fI))
  tI : PySem.W.typeIn K (.ref fI) = some (.type "function")
  xf : XfC K C
  te : PySem.W.exmOne K (.ref C) (.ref C) = some true
structure Er (P : Program) (w : World) (K : PySem.W.Frag) (mg : Str → Option Value) (base : Heap) (nm fld : Str) (C : Addr) : Prop where
  ex : ∃ (fI : Addr) (fd : FuncData) (ps : List Str), ErrC K mg nm fld C fI ∧ FnOk P w K mg base CX0 1 fI fd ps (spInit C fld) ∧ Binds K fd ps []
theorem Er.c {P : Program} {w : World} {K : PySem.W.Frag} {mg : Str → Option Value} {base : Heap} {nm fld : Str} {C : Addr} (e : Er P w K mg base nm fld C) : ∃ fI, ErrC K mg nm fld C fI := by
  obtain ⟨fI, _, _, T, _⟩ := e.ex
  exact ⟨fI, T⟩
theorem exm_me {K : PySem.W.Frag} {S : Addr} (h1 : PySem.W.subIn K (.ref S) (.type "BaseException") = some true) (h2 : PySem.W.isClsIn K S = true) (h3 : PySem.W.typeIn K (.ref S) = some (.type "type")) (h4 : PySem.W.subIn K (.ref S) (.ref S) = some true) :
    PySem.W.exmOne K (.ref S) (.ref S) = some true := by
  have e1 : (PySem.W.subIn K (.ref S) (.type "BaseException") == some true) = true := by rw [h1] <;> rfl
  have h2' : (PySem.W.clsIn K S).isSome = true := h2
  have e2 : ((PySem.W.clsIn K S).isSome && PySem.W.typeIn K (.ref S) == some (.type "type")) = true := by rw [h2', h3] <;> rfl
  unfold PySem.W.exmOne
  rw [if_pos e1]
  show (if ((PySem.W.clsIn K S).isSome && PySem.W.typeIn K (.ref S) == some (.type "type")) = true then PySem.W.subIn K (.ref S) (.ref S) else none) = some true
  rw [if_pos e2]
  exact h4
/-- raise C(v): the argument, then what C's own __init__ asks (mk1 answers it) -/
theorem ps_raise1 {X : Cx} {W : WX} {x fld : Str} {C : Addr} {j : Nat} {e : Expr} {ta : TA} {p pos pos' : Pos} (c : Er X.prog X.w X.K X.mg X.base x fld C) (hr : Room j X.A) (tk : Takes X W) (ha : PA X [e] ta) (hj : 2 ≤ j := by decide) (hcalm : X.calm = true := by rfl) (hg : Gl X x := by rfl)
    (hdb : (x == ("__debug__" : Str)) = false := by decide) (he : starEach [e] X.env = (false, eval e X.env) :: starEach [] X.env := by rfl) (hpl : (backTo pos (starEach [] X.env)).any (·.1) = false := by rfl) :
    PS X (.Raise (some (.Call (.Name x p) [e] [] pos)) none pos') (fun _ σ H => tMkO C (spInit C fld) [] ta σ H fun cls d H' => W cls d σ H') := by
  obtain ⟨fI, fd, ps, T, F, b⟩ := c.ex
  exact ps_raise hcalm tk (pmk_oex (X := X) (p := p) (pos := pos) T.oex T.iC T.tI F (hr.mono hj) b .nil (fun _ _ _ _ _ _ _ h => h.elim) hg T.g ha hdb he hpl)
theorem mk1 {C : Addr} {fld : Str} {v : V} {H1 : Hp} {Q : XK} (k : ∀ d H2, Same H1 H2 → H1 d = none → H2 d = some (.xd [(fld, v)]) → Q (.ref C) (some d) H2) :
    ([v] : List V).length ≤ 1000 ∧ ∀ a, H1 a = none → spInit C fld (.ref a :: ([v] ++ [])) (upd H1 a (exo a C none))
      (fun u H2 => u = .non ∧ ∃ (d : Addr) (fs : List (Str × V)), H2 a = some (exo a C (some d)) ∧ H2 d = some (exd d fs) ∧ H1 d = none ∧ Q (.ref C) (some d) (upd (del H2 a) d (.xd fs))) (fun _ _ _ => False) := by
  refine ⟨(by show 1 ≤ 1000; decide), fun a ha => ⟨a, v, rfl, upd_same, fun d hd hda => ⟨rfl, d, [(fld, v)], upd_same, ?_, ?_, ?_⟩⟩⟩
  · rw [upd_ne hda, upd_same]
  · rw [upd_ne hda] at hd
    exact hd
  · rw [upd_ne hda] at hd
    refine k d _ (fun b o e => ?_) hd upd_same
    have hba := ne_of_none e ha
    have hbd := ne_of_none e hd
    rw [upd_ne hbd, del_ne hba, upd_ne hba, upd_ne hbd, upd_ne hba]
    exact e
/-! the same for exceptions whose context is None -/
theorem passN {X : Cx} : Passes (L2N.CX X.prog X.w) X E0 := fun _ _ _ _ _ _ _ ⟨_, _, _, _, _, _, _, _, _, _, _, _, z⟩ => z.elim
theorem takes0N {X : Cx} : L2N.Takes X (fun _ _ _ _ => False) := fun _ _ ⟨_, _, _, _, _, _, _, _, _, _, _, _, _, _, _, _, z⟩ => z.elim
theorem okN {P : Program} {w : World} {K : PySem.W.Frag} {mg : Str → Option Value} {base : Heap} {x qual : Str} {st : Stmt} {f : Addr} {fd : FuncData} {N ps : List Str} {k : Nat} {sp : Sp} (F : Fun K x qual st f fd) (S : FnScope N ps (defScope st)) (len : ∀ vs H Q E, sp vs H Q E → vs.length = ps.length)
    (body : ∀ (cdv : Value) (A : Around) (outer : List Env) (s : Shared) (H : Hp) (vs : List V) (Q : VK) (E : XK), Room k (A.deeper (envOfC qual (defScope st) s.heap.objs.size f cdv)) → sp vs H Q E →
      ∃ t, PSs (cxOf (L2N.CX P w) P w K mg base N qual (defScope st) f cdv A outer s H E) (defBody st) t ∧ t { nx := fun _ H' => Q .non H', rt := Q } (start N vs) H) : FnOk P w K mg base (L2N.CX P w) (k + 1) f fd ps sp := by
  obtain ⟨oc, od, kV, doc, pm, an, cdv, ct, osl, rfl, lk, hcd⟩ := F.ex
  exact fn_of lk hcd S len fun A outer s H vs Q E hr h => body cdv A outer s H vs Q E hr h
/-- a call of such a def, where it doesn't raise -/
theorem pe_clN0 {X : Cx} {k j : Nat} {x : Str} {sp : Sp} {p pos : Pos} {e : Expr} {es : List Expr} {t : TA} (c : Cl X.prog X.w X.K X.mg X.base (L2N.CX X.prog X.w) k x sp) (hr : Room j X.A) (ha : PA X (e :: es) t) (hk : k ≤ j := by decide) (hg : Gl X x := by rfl)
    (hdb : (x == ("__debug__" : Str)) = false := by decide) (he : starEach (e :: es) X.env = (false, eval e X.env) :: starEach es X.env := by rfl) (hpl : (backTo pos (starEach es X.env)).any (·.1) = false := by rfl) :
    PE X (.Call (.Name x p) (e :: es) [] pos) (tCall sp [] E0 t) := by
  obtain ⟨f, fd, ps, F, hm, kp, b⟩ := c.ex
  exact pe_call F (hr.mono hk) hg hm kp b .nil passN ha hdb he hpl
theorem pe_clNX {X : Cx} {W : WX} {k j : Nat} {x : Str} {sp : Sp} {p pos : Pos} {e : Expr} {es : List Expr} {t : TA} (c : Cl X.prog X.w X.K X.mg X.base (L2N.CX X.prog X.w) k x sp) (hr : Room j X.A) (tk : L2N.Takes X W) (ha : PA X (e :: es) t) (hk : k ≤ j := by decide) (hg : Gl X x := by rfl)
    (hdb : (x == ("__debug__" : Str)) = false := by decide) (he : starEach (e :: es) X.env = (false, eval e X.env) :: starEach es X.env := by rfl) (hpl : (backTo pos (starEach es X.env)).any (·.1) = false := by rfl) :
    PE X (.Call (.Name x p) (e :: es) [] pos) (tCallS sp (WE W) t) := by
  obtain ⟨f, fd, ps, F, hm, kp, b⟩ := c.ex
  exact pe_callS F (hr.mono hk) hg hm kp b (fun σ => L2N.passAt tk σ) ha hdb he hpl
theorem pmk_oexN {X : Cx} {e : Expr} {es : List Expr} {ta : TA} {p pos : Pos} {x : Str} {C fI : Addr} {k : Nat} {fd : FuncData} {ps : List Str} {sp : Sp} {ds : List Value} {dvs : List V} (T : OexC X.K C) (iC : PySem.W.findIn X.K (.ref C) "__init__" = some (some (.ref fI))) (tI : PySem.W.typeIn X.K (.ref fI) = some (.type "function"))
    (F1 : FnOk X.prog X.w X.K X.mg X.base CX0 k fI fd ps sp) (hr : Room (k + 1) X.A) (hb : Binds X.K fd ps ds) (hd : Vals dvs ds) (hg : Gl X x) (hm : X.mg x = some (.ref C)) (ha : PA X (e :: es) ta)
    (hdb : (x == ("__debug__" : Str)) = false) (he : starEach (e :: es) X.env = (false, eval e X.env) :: starEach es X.env) (hpl : (backTo pos (starEach es X.env)).any (·.1) = false) :
    L2N.PMk X (.Call (.Name x p) (e :: es) [] pos) (tMkO C sp dvs ta) := by
  intro pins s σ H Q I h
  obtain ⟨nm, q, N, bs, bm, sn, sub, ab, col, dd, k0, k1, k2, k3, k5, hC, hbm⟩ := T.cls
  refine wpAny_Call_Name_kw (ld_glob I hg hm ?_ hdb)
  refine PySem.W.callWith_K (h₀ := X.base) I.ok.mod.kin T.kC (thn (ha.run pos pins s σ H _ I h) fun us st got => ?_) he hpl
  obtain ⟨vs, G1, I1, r1, hz, q1⟩ := got
  refine ⟨I1.kIn, ?_⟩
  show wpAny _ _ (call (.ref C) us) _ _ _
  obtain ⟨hp, g, dr, tk, os⟩ := st
  generalize ex : hp.objs.size + 1 = x1 at *
  have le1 : hp.objs.size ≤ x1 := by omega
  have sp1 := q1 x1 (I1.hok.fresh le1)
  have old : ∀ b o, hp.get? b = some o → ((hp.push (PySem.W.kdv_tup us)).push (PySem.HandSPX.excO C hp.objs.size)).get? b = some o := fun b o z =>
    Heap.get?_push_of_some _ (Heap.get?_push_of_some _ z)
  have new1 : ((hp.push (PySem.W.kdv_tup us)).push (PySem.HandSPX.excO C hp.objs.size)).get? x1 = some (PySem.HandSPX.excO C hp.objs.size) := by
    subst ex
    heap_get
  have I2 := I1.laid (t' := tk) (a := x1) (o := exo x1 C none) old le1 (exo_ok new1)
  have rel : Vals (V.ref x1 :: (vs ++ dvs)) (Value.ref x1 :: (us ++ ds)) := .cons rfl (r1.append hd)
  have few : us.length ≤ sizeLine := by
    have := Paired.length r1
    rw [sizeLine_eq]
    omega
  have many : (Value.ref x1 :: us ++ ds).length = ps.length := by
    have z := rel.length
    rw [F1.len _ _ _ _ sp1] at z
    exact z.symm
  have run := F1.run _ X.stack _ _ ⟨Value.ref x1 :: us, []⟩ (Value.ref x1 :: (us ++ ds)) _ _ (fun _ _ _ => False) (hr.make C us []) (I2.env0.make C us []) (hb _ (Value.ref x1 :: us) I2.kIn many) rel sp1
  refine wpAny_call (PySem.HandSPX.call_own F.excBase_ValueError (fun Y => PySem.HandSPX.refsVE_contains Y bm hbm) (I1.kIn _ _ hC) (PySem.W.looks_findIn I1.kIn iC) (fun self => PySem.W.bind_fn I1.kIn self tI) few ?_)
  subst ex
  refine codeAny_mono run fun r s' back => ?_
  cases r with
  | error er => exact False.elim back
  | ok fl =>
    cases fl with
    | ret u =>
      obtain ⟨v, H2, os2, bare2, un2, hok2, rv, ev, d, fs, ea, ed, hd1, q2⟩ := back
      subst ev
      obtain ⟨h2, g2, d2, t2, os'⟩ := s'
      obtain ⟨t0, G, J, kG, ge, hoe, na⟩ := mk_end0 (d2 := d2) (t2 := t2) I1 le1 old un2 hok2 os2 bare2 ea ed hd1
      exact ⟨rv, _, _, _, ⟨G, g2, d2, t2, os'⟩, _, .ref C, some d, rfl, J, kG, ge, hoe, ⟨rfl, rfl, fun vs z => by cases z; rfl⟩, rfl, rfl, na, rfl, bare2, raises_own T.exC T.tyC, q2⟩
    | next => exact False.elim back
    | brk => exact False.elim back
    | cont => exact False.elim back
theorem ps_raise1N {X : Cx} {W : WX} {x fld : Str} {C : Addr} {j : Nat} {e : Expr} {ta : TA} {p pos pos' : Pos} (c : Er X.prog X.w X.K X.mg X.base x fld C) (hr : Room j X.A) (tk : L2N.Takes X W) (ha : PA X [e] ta) (hj : 2 ≤ j := by decide) (hcalm : X.calm = true := by rfl) (hg : Gl X x := by rfl)
    (hdb : (x == ("__debug__" : Str)) = false := by decide) (he : starEach [e] X.env = (false, eval e X.env) :: starEach [] X.env := by rfl) (hpl : (backTo pos (starEach [] X.env)).any (·.1) = false := by rfl) :
    PS X (.Raise (some (.Call (.Name x p) [e] [] pos)) none pos') (fun _ σ H => tMkO C (spInit C fld) [] ta σ H fun cls d H' => W cls d σ H') := by
  obtain ⟨fI, fd, ps, T, F, b⟩ := c.ex
  exact L2N.ps_raise hcalm tk (pmk_oexN (X := X) (p := p) (pos := pos) T.oex T.iC T.tI F (hr.mono hj) b .nil hg T.g ha hdb he hpl)

section
variable {P : Program} {w : World} {K : PySem.W.Frag} {mg : Str → Option Value} {base : Heap}
/-- a pool: three values -/
def PoolAt (H : Hp) (p : Addr) : Prop := ∃ (c n : Int) (b : Bool), H p = some (.lst [.int c, .int n, .bl b])
def spPool : Sp := fun vs H Q _ => ∃ c : Int, vs = [.int c] ∧ ∀ p H', H p = none → Same H H' → PoolAt H' p → Q (.ref p) H'
abbrev s_pool : Stmt := top 16
theorem sc_pool : FnScope ["_law_cell_here"] ["_law_cell_here"] (defScope s_pool) := ⟨rfl, rfl, rfl, by decide +kernel, rfl, by decide +kernel, by decide +kernel⟩
theorem ok_pool {f : Addr} {fd : FuncData} (F : Fun K "_law_pool" "_law_pool" s_pool f fd) : FnOk P w K mg base CX0 1 f fd ["_law_cell_here"] spPool := by
  refine F.ok sc_pool (fun vs H Q E h => ?_) (fun cdv A outer s H vs Q E hr h => ?_)
  · obtain ⟨c, rfl, _⟩ := h
    rfl
  · obtain ⟨c, rfl, k⟩ := h
    refine ⟨_, (pss_one (ps_ret (pe_lst (pa_cons (pv 0) (pa_cons pe_int (pa_cons (pe_cmpR op_ge (pv 0) (pe_op op_pow pe_int pe_int) (nomark _)) pa_nil)))))), ?_⟩
    refine ⟨_, rfl, _, rfl, _, _, rfl, rfl, ⟨by decide, by decide, by decide⟩, _, _, rfl, rfl, (by show 3 ≤ sizeLine; decide), fun p hp => ?_⟩
    exact k p _ hp (same_upd hp) ⟨_, _, _, upd_same⟩

abbrev s_take : Stmt := top 17
theorem sc_take : FnScope ["_law_pool_here", "_law_limit", "_law_drawn", "_law_mixed"] ["_law_pool_here", "_law_limit"] (defScope s_take) := ⟨rfl, rfl, rfl, by decide +kernel, rfl, by decide +kernel, by decide +kernel⟩
def spTake : Sp := fun vs H Q _ => ∃ (p : Addr) (m : Int), vs = [.ref p, .int m] ∧ PoolAt H p ∧ 0 < m ∧ m.natAbs.log2 < 9000 ∧
  ∀ v H', 0 ≤ v → v < m → (∀ q, q ≠ p → H' q = H q) → PoolAt H' p → Q (.int v) H'
theorem mix_small (z : Int) : (z % 2147483647).natAbs < 2 ^ 64 := by
  have h1 := Int.emod_nonneg z (show (2147483647 : Int) ≠ 0 by decide)
  have h2 := Int.emod_lt_of_pos z (show (0 : Int) < 2147483647 by decide)
  have : (2147483647 : Nat) < 2 ^ 64 := by decide
  omega
theorem ok_take {f : Addr} {fd : FuncData} (T : Txt mg) (F : Fun K "_law_take" "_law_take" s_take f fd) : FnOk P w K mg base CX0 1 f fd ["_law_pool_here", "_law_limit"] spTake := by
  refine F.ok sc_take (fun vs H Q E h => ?_) (fun cdv A outer s H vs Q E hr h => ?_)
  · obtain ⟨p, m, rfl, _⟩ := h
    rfl
  · obtain ⟨p, m, rfl, ⟨c, n, b, hp⟩, hm, hb, k⟩ := h
    refine ⟨_, (pss_cons (ps_asg (pe_op op_add (pe_ix ix_list (pv 0) pe_int (fun _ _ => rfl)) pe_int) (pg_sub (pv 0) pe_int set_list))
 (pss_cons (ps_if (pt_val (pe_ix ix_list (pv 0) pe_int (fun _ _ => rfl))) (pss_cons (ps_set (i := 2) sc_take.nd rfl (Or.inl rfl) (pe_op op_mod (pe_callTy call_int1 (by rfl) T.int boot_int (pa_cons (pe_ix ix_list (pv 0) pe_int (fun _ _ => rfl)) pa_nil)) (pv 1)))
 (pss_cons (ps_asg (pe_op op_fdivW (pe_callTy call_int1 (by rfl) T.int boot_int (pa_cons (pe_ix ix_list (pv 0) pe_int (fun _ _ => rfl)) pa_nil)) (pv 1)) (pg_sub (pv 0) pe_int set_list))
 (pss_one (ps_ret (pv 2))))) pss_nil)
 (pss_cons (ps_set (i := 3) sc_take.nd rfl (Or.inl rfl) (pe_op op_mod (pe_callTy call_int1 (by rfl) T.int boot_int (pa_cons (pe_op op_add (pe_op op_add (pe_op op_mul (pe_ix ix_list (pv 0) pe_int (fun _ _ => rfl)) pe_int) (pe_op op_mul (pe_ix ix_list (pv 0) pe_int (fun _ _ => rfl)) pe_int)) pe_int) pa_nil)) pe_int))
 (pss_one (ps_ret (pe_op op_mod (pe_op op_fdivW (pe_callTy call_int1 (by rfl) T.int boot_int (pa_cons (pe_op op_mod (pe_op op_pow (pv 3) pe_int) pe_int) pa_nil)) pe_int) (pv 1))))))), ?_⟩
    refine ⟨_, rfl, p, _, _, _, rfl, rfl, SqL.of hp, rfl, _, _, rfl, rfl, _, rfl, p, _, _, _, rfl, rfl, hp, rfl, ?_⟩
    refine ⟨_, rfl, p, _, _, _, rfl, rfl, SqL.of upd_same, rfl, b, rfl, ?_⟩
    cases b with
    | true =>
      refine iteT ?_
      refine ⟨_, rfl, p, _, _, _, rfl, rfl, SqL.of upd_same, rfl, .inl ⟨_, rfl, _, rfl, _, _, rfl, rfl, hm, ?_⟩⟩
      refine ⟨_, rfl, p, _, _, _, rfl, rfl, SqL.of upd_same, rfl, .inl ⟨_, rfl, _, rfl, _, _, rfl, rfl, ⟨hm, hb⟩, _, rfl, p, _, _, _, rfl, rfl, upd_same, rfl, ?_⟩⟩
      refine ⟨_, rfl, k _ _ (Int.emod_nonneg _ (by omega)) (Int.emod_lt_of_pos _ hm) (fun q hq => ?_) ⟨_, _, _, upd_same⟩⟩
      rw [upd_ne hq, upd_ne hq]
    | false =>
      refine iteF ?_
      refine ⟨_, rfl, p, _, _, _, rfl, rfl, SqL.of upd_same, rfl, _, _, rfl, rfl, (.inr ⟨by decide, by decide⟩), _, rfl, p, _, _, _, rfl, rfl, SqL.of upd_same, rfl, _, _, rfl, rfl, (.inr ⟨by decide, by decide⟩), _, _, rfl, rfl, _, _, rfl, rfl, .inl ⟨_, rfl, _, _, rfl, rfl, (by show (0 : Int) < 2147483647; decide), ?_⟩⟩
      refine ⟨_, rfl, _, _, rfl, rfl, ⟨by decide, by decide, mix_small _⟩, _, _, rfl, rfl, (by show (0 : Int) < 2147483647; decide), .inl ⟨_, rfl, _, _, rfl, rfl, ⟨by decide, by decide⟩, _, rfl, _, _, rfl, rfl, hm, ?_⟩⟩
      refine k _ _ (Int.emod_nonneg _ (by omega)) (Int.emod_lt_of_pos _ hm) (fun q hq => ?_) ⟨_, _, _, upd_same⟩
      rw [upd_ne hq]

abbrev s_cell : Stmt := top 18
theorem sc_cell : FnScope ["_law_script", "_law_k"] ["_law_script", "_law_k"] (defScope s_cell) := ⟨rfl, rfl, rfl, by decide +kernel, rfl, by decide +kernel, by decide +kernel⟩
def spCellL (K : PySem.W.Frag) : Sp := fun vs H Q _ => ∃ (a : Addr) (ns : List Int) (k : Nat), vs = [.ref a, .int (k : Int)] ∧ SqL K H a (ns.map V.int) ∧ ∀ v, Q (.int v) H
theorem ok_cell {f : Addr} {fd : FuncData} (T : Txt mg) (F : Fun K "_law_cell" "_law_cell" s_cell f fd) : FnOk P w K mg base CX0 1 f fd ["_law_script", "_law_k"] (spCellL K) := by
  refine F.ok sc_cell (fun vs H Q E h => ?_) (fun cdv A outer s H vs Q E hr h => ?_)
  · obtain ⟨a, ns, k, rfl, _⟩ := h
    rfl
  · obtain ⟨a, ns, k, rfl, hS, q⟩ := h
    refine ⟨_, (pss_cons (ps_if (pt_cmpR op_lt (pv 1) (pe_callB call_len_seq (by rfl) T.len PySem.boot_len (pa_cons (pv 0) pa_nil)) (nomark _)) (pss_one (ps_ret (pe_ix ix_list (pv 0) (pv 1) (fun _ _ => rfl)))) pss_nil)
 (pss_one (ps_ret pe_int))), ?_⟩
    refine ⟨_, rfl, _, rfl, a, _, rfl, .inl hS, _, _, rfl, rfl, _, rfl, ?_⟩
    rw [List.length_map]
    by_cases c : k < ns.length
    · refine if_pos_of (decide_eq_true (by omega)) ?_
      refine ⟨_, rfl, _, rfl, a, _, _, .int ns[k], rfl, rfl, hS, atI_nat (by rw [List.getElem?_map, List.getElem?_eq_getElem c]; rfl), ?_⟩
      exact q _
    · refine if_neg_of (decide_eq_false (by omega)) ?_
      exact q _
theorem eqvAll_ints : ∀ l m : List Int, PyData.eqvAll (l.map PyData.int) (m.map PyData.int) = decide (l = m)
  | [], [] => by rw [List.map_nil, PyData.eqvAll]; rfl
  | [], b :: m => by rw [List.map_nil, List.map_cons, PyData.eqvAll] <;> first | (exact (decide_eq_false (by simp)).symm) | skip
  | a :: l, [] => by rw [List.map_nil, List.map_cons, PyData.eqvAll] <;> first | (exact (decide_eq_false (by simp)).symm) | skip
  | a :: l, b :: m => by
    rw [List.map_cons, List.map_cons, PyData.eqvAll, PyData.eqv, eqvAll_ints l m]
    by_cases c : a = b
    · subst c
      by_cases c2 : l = m
      · subst c2
        simp
      · simp [c2]
    · simp [c]
theorem eqv_ints (l m : List Int) : PyData.eqv (.list (l.map PyData.int)) (.list (m.map PyData.int)) = decide (l = m) := by
  rw [PyData.eqv]
  exact eqvAll_ints l m
theorem eqv_intsT (l m : List Int) : PyData.eqv (.tuple (l.map PyData.int)) (.tuple (m.map PyData.int)) = decide (l = m) := by
  rw [PyData.eqv]
  exact eqvAll_ints l m
theorem canLay_ints : ∀ l : List Int, PyData.canLayAll0 (l.map PyData.int) = true
  | [] => by rw [List.map_nil, PyData.canLayAll0]
  | a :: l => by rw [List.map_cons, PyData.canLayAll0, PyData.canLay0, canLay_ints l]; rfl
theorem depth_ints : ∀ l : List Int, PyData.depthAll (l.map PyData.int) = 0
  | [] => by rw [List.map_nil, PyData.depthAll]
  | a :: l => by rw [List.map_cons, PyData.depthAll, PyData.depth, depth_ints l]; rfl
theorem shaped_ints (l : List Int) : SeqAt.shaped (.list (l.map PyData.int)) = true := by
  unfold SeqAt.shaped
  rw [PyData.canLay0, canLay_ints, PyData.depth, depth_ints]
  rfl
theorem shaped_intsT (l : List Int) : SeqAt.shaped (.tuple (l.map PyData.int)) = true := by
  unfold SeqAt.shaped
  rw [PyData.canLay0, canLay_ints, PyData.depth, depth_ints]
  rfl
theorem dpAll_ints {K : PySem.W.Frag} {H : Hp} : ∀ l : List Int, DpAll K H (l.map V.int) (l.map PyData.int)
  | [] => .nil
  | a :: l => .cons (.int a) (dpAll_ints l)
theorem dp_lst {K : PySem.W.Frag} {H : Hp} {a : Addr} {l : List Int} (h : SqL K H a (l.map V.int)) : Dp K H (.ref a) (.list (l.map PyData.int)) := .lst h (dpAll_ints l)
theorem dp_tup {K : PySem.W.Frag} {H : Hp} {a : Addr} {l : List Int} (h : SqT K H a (l.map V.int)) : Dp K H (.ref a) (.tuple (l.map PyData.int)) := .tup h (dpAll_ints l)
theorem hu64 {k : Nat} {A : Around} (hr : Room k A) : A.units + 64 < cLine := by
  have := hr.un
  omega
theorem item_int {l : List Int} {i : Nat} {y : V} (h : (l.map V.int)[i]? = some y) : ∃ z : Int, y = .int z ∧ l[i]? = some z := by
  rw [List.getElem?_map] at h
  cases e : l[i]? with
  | none =>
    rw [e] at h
    cases h
  | some z =>
    rw [e] at h
    exact ⟨z, (Option.some.inj h).symm, rfl⟩
/-- an isinstance of an int -/
theorem isi_int {K : PySem.W.Frag} {i : Int} {T : String} {b : Bool} {H : Hp} {Q : VK} (h : kitB "int" T = some b) (q : Q (.bl b) H) : rIsi K [.int i, .ty T] H Q :=
  ⟨_, _, _, _, b, rfl, .ty T, .base (.int i), kit_ty h, q⟩
theorem isi_tup {K : PySem.W.Frag} {a : Addr} {xs : List V} {T : String} {b : Bool} {H : Hp} {Q : VK} (ha : H a = some (.tup xs)) (h : kitB "tuple" T = some b) (q : Q (.bl b) H) : rIsi K [.ref a, .ty T] H Q :=
  ⟨_, _, _, _, b, rfl, .ty T, .base (.tup ha), kit_ty h, q⟩
theorem isi_bl {K : PySem.W.Frag} {x : Bool} {T : String} {b : Bool} {H : Hp} {Q : VK} (h : kitB "bool" T = some b) (q : Q (.bl b) H) : rIsi K [.bl x, .ty T] H Q :=
  ⟨_, _, _, _, b, rfl, .ty T, .base (.bl x), kit_ty h, q⟩
theorem isi_lst {K : PySem.W.Frag} {a : Addr} {xs : List V} {T : String} {b : Bool} {H : Hp} {Q : VK} (ha : H a = some (.lst xs)) (h : kitB "list" T = some b) (q : Q (.bl b) H) : rIsi K [.ref a, .ty T] H Q :=
  ⟨_, _, _, _, b, rfl, .ty T, .base (.lst ha), kit_ty h, q⟩
/-- the law's own promise -/
def spLaw (K : PySem.W.Frag) : Sp := fun vs H Q _ => ∃ (a : Addr) (ns : List Int), vs = [.ref a] ∧ SqL K H a (ns.map V.int) ∧ ns.length ≤ 63 ∧ ∀ H', Q (.bl true) H'
/-- a test by an own truth -/
theorem pt_own {X : Cx} {a : Expr} {ta : TE} {r : V → Hp → (Bool → Hp → Prop) → Prop} (ha : PE X a ta) (hr : TruR X r) (he : ∀ whole, isTrue a X.env whole = (do let v ← whole; standAt a.pos; holding [v] (truthy v)) := by intro _; rfl) :
    PT X a (fun σ H Q => ta σ H fun x H' => r x H' Q) :=
  ⟨fun pins s σ H Q I h => isTrue_plain (thn (ha.run pins s σ H _ I h) fun v s1 ⟨x, H1, I1, r1, q1⟩ => hr pins s1 σ H1 x v Q I1 r1 q1) (he _)⟩
theorem allN {R : V → Prop} : ∀ x ∈ ([] : List V), R x := fun _ h => nomatch h
theorem allC {R : V → Prop} {a : V} {l : List V} (h : R a) (t : ∀ x ∈ l, R x) : ∀ x ∈ a :: l, R x := fun x hx => by
  rcases List.mem_cons.mp hx with e | e
  · rw [e]
    exact h
  · exact t x e
/-- an item at an open place in bounds -/
theorem at_some {xs : List V} {v : Int} (h0 : 0 ≤ v) (h1 : v < xs.length) : ∃ x, atI xs v = some x ∧ x ∈ xs := by
  have hv : ((v.toNat : Nat) : Int) = v := Int.toNat_of_nonneg h0
  have hl : v.toNat < xs.length := by omega
  have z : atI xs ((v.toNat : Nat) : Int) = some xs[v.toNat] := atI_nat (List.getElem?_eq_getElem hl)
  rw [hv] at z
  exact ⟨xs[v.toNat], z, List.getElem_mem hl⟩
def SameBut (p : Addr) (H H' : Hp) : Prop := ∀ b o, b ≠ p → H b = some o → H' b = some o
theorem SameBut.of {p : Addr} {H H' : Hp} (e : ∀ q, q ≠ p → H' q = H q) : SameBut p H H' := fun b o hb h => by
  rw [e b hb]
  exact h
theorem SameBut.trans {p : Addr} {H H1 H2 : Hp} (a : SameBut p H H1) (b : SameBut p H1 H2) : SameBut p H H2 := fun c o hc h => b c o hc (a c o hc h)
theorem sbut {p : Addr} {H H' : Hp} (s : Same H H') : SameBut p H H' := fun b o _ h => s b o h
/-- what was tracked ahead of the pool -/
theorem SameBut.same {p : Addr} {H0 H H' : Hp} (s : Same H0 H) (np : H0 p = none) (e : SameBut p H H') : Same H0 H' := fun b o h => e b o (ne_of_none h np) (s b o h)
theorem PoolAt.same {H H' : Hp} {p : Addr} (h : PoolAt H p) (s : Same H H') : PoolAt H' p := by
  obtain ⟨x, y, z, e⟩ := h
  exact ⟨x, y, z, s _ _ e⟩
theorem PoolAt.new {H : Hp} {p a : Addr} (h : PoolAt H p) (n : H a = none) : a ≠ p := fun e => by
  obtain ⟨x, y, z, q⟩ := h
  rw [e, q] at n
  cases n
/-! own errors of one attribute whose __init__ asks something of the argument -/
def spInitP (C : Addr) (fld : Str) (ok : V → Prop) : Sp := fun vs H Q _ => ∃ (a : Addr) (v : V), vs = [.ref a, v] ∧ ok v ∧ H a = some (exo a C none) ∧
  ∀ d, H d = none → d ≠ a → Q .non (upd (upd H d (exd d [(fld, v)])) a (exo a C (some d)))
structure ErP (P : Program) (w : World) (K : PySem.W.Frag) (mg : Str → Option Value) (base : Heap) (nm fld : Str) (C : Addr) (ok : V → Prop) : Prop where
  ex : ∃ (fI : Addr) (fd : FuncData) (ps : List Str), ErrC K mg nm fld C fI ∧ FnOk P w K mg base CX0 1 fI fd ps (spInitP C fld ok) ∧ Binds K fd ps []
theorem ps_raiseP {X : Cx} {W : WX} {x fld : Str} {C : Addr} {ok : V → Prop} {j : Nat} {e : Expr} {ta : TA} {p pos pos' : Pos} (c : ErP X.prog X.w X.K X.mg X.base x fld C ok) (hr : Room j X.A) (tk : L2N.Takes X W) (ha : PA X [e] ta) (hj : 2 ≤ j := by decide) (hcalm : X.calm = true := by rfl) (hg : Gl X x := by rfl)
    (hdb : (x == ("__debug__" : Str)) = false := by decide) (he : starEach [e] X.env = (false, eval e X.env) :: starEach [] X.env := by rfl) (hpl : (backTo pos (starEach [] X.env)).any (·.1) = false := by rfl) :
    PS X (.Raise (some (.Call (.Name x p) [e] [] pos)) none pos') (fun _ σ H => tMkO C (spInitP C fld ok) [] ta σ H fun cls d H' => W cls d σ H') := by
  obtain ⟨fI, fd, ps, T, F, b⟩ := c.ex
  exact L2N.ps_raise hcalm tk (pmk_oexN (X := X) (p := p) (pos := pos) T.oex T.iC T.tI F (hr.mono hj) b .nil hg T.g ha hdb he hpl)
theorem mkP {C : Addr} {fld : Str} {ok : V → Prop} {v : V} {H1 : Hp} {Q : XK} (o : ok v) (k : ∀ d H2, Same H1 H2 → H1 d = none → H2 d = some (.xd [(fld, v)]) → Q (.ref C) (some d) H2) :
    ([v] : List V).length ≤ 1000 ∧ ∀ a, H1 a = none → spInitP C fld ok (.ref a :: ([v] ++ [])) (upd H1 a (exo a C none))
      (fun u H2 => u = .non ∧ ∃ (d : Addr) (fs : List (Str × V)), H2 a = some (exo a C (some d)) ∧ H2 d = some (exd d fs) ∧ H1 d = none ∧ Q (.ref C) (some d) (upd (del H2 a) d (.xd fs))) (fun _ _ _ => False) := by
  obtain ⟨h1, h2⟩ := mk1 (C := C) (fld := fld) (v := v) (H1 := H1) (Q := Q) k
  refine ⟨h1, fun a ha => ?_⟩
  obtain ⟨a', v', e, ha', q⟩ := h2 a ha
  exact ⟨a', v', e, by rw [show v' = v from by simpa using (List.cons.inj (List.cons.inj e).2).1.symm]; exact o, ha', q⟩
/-- an index that is written in a message -/
def okNat : V → Prop := fun v => ∃ n : Nat, v = .int (n : Int) ∧ n < 2 ^ 62
theorem log_nat {n : Nat} (h : n < 2 ^ 62) : (n : Int).natAbs.log2 < 1920 := by
  show n.log2 < 1920
  by_cases c : n = 0
  · rw [c]
    decide
  · have := (Nat.log2_lt c).mpr h
    omega
theorem str_len (x : Str) : x.length = (TL.tl x).length := TL.len_tl x
theorem num_len {n : Nat} (h : n < 2 ^ 62) : (Str.ofString (toString (n : Int))).length ≤ 19 := by
  rw [str_len, TL.tl_num]
  exact TL.numL_len (by decide) (Nat.lt_of_lt_of_le h (by decide))
theorem app_len (x y : Str) : (x ++ y).length = x.length + y.length := by
  rw [str_len, TL.tl_append, List.length_append, ← str_len, ← str_len]
theorem empty_app (x : Str) : Str.empty ++ x = x := TL.ext_tl (by rw [TL.tl_append] <;> rfl)
/-! own errors whose __init__ keeps any promise; errors without arguments -/
structure ErG (P : Program) (w : World) (K : PySem.W.Frag) (mg : Str → Option Value) (base : Heap) (nm : Str) (C : Addr) (sp : Sp) : Prop where
  ex : ∃ (fI : Addr) (fd : FuncData) (ps : List Str), mg nm = some (.ref C) ∧ OexC K C ∧ PySem.W.findIn K (.ref C) "__init__" = some (some (.ref fI)) ∧ PySem.W.typeIn K (.ref fI) = some (.type "function") ∧ FnOk P w K mg base CX0 1 fI fd ps sp ∧ Binds K fd ps []
theorem ps_raiseG {X : Cx} {W : WX} {x : Str} {C : Addr} {sp : Sp} {j : Nat} {e : Expr} {es : List Expr} {ta : TA} {p pos pos' : Pos} (c : ErG X.prog X.w X.K X.mg X.base x C sp) (hr : Room j X.A) (tk : L2N.Takes X W) (ha : PA X (e :: es) ta) (hj : 2 ≤ j := by decide) (hcalm : X.calm = true := by rfl) (hg : Gl X x := by rfl)
    (hdb : (x == ("__debug__" : Str)) = false := by decide) (he : starEach (e :: es) X.env = (false, eval e X.env) :: starEach es X.env := by rfl) (hpl : (backTo pos (starEach es X.env)).any (·.1) = false := by rfl) :
    PS X (.Raise (some (.Call (.Name x p) (e :: es) [] pos)) none pos') (fun _ σ H => tMkO C sp [] ta σ H fun cls d H' => W cls d σ H') := by
  obtain ⟨fI, fd, ps, g, T, iC, tI, F, b⟩ := c.ex
  exact L2N.ps_raise hcalm tk (pmk_oexN (X := X) (p := p) (pos := pos) T iC tI F (hr.mono hj) b .nil hg g ha hdb he hpl)
/-- the exception is let go; it has no dict -/
theorem let_go {X : Cx} {pins : List (Addr × Obj)} {σ : L2.St} {H1 H2 : Hp} {hp hp2 h2 : Heap} {g1 g2 : Array GenState} {d1 d2 : Drawn} {t1 t2 : Nat} {os1 os2 : OsState} {a C : Addr} (I1 : Inv X pins σ H1 ⟨hp, g1, d1, t1, os1⟩)
    (ha : hp.objs.size ≤ a) (k : ∀ b o, hp.get? b = some o → hp2.get? b = some o) (un : Un (frs X.stack) [] (upd H1 a (exo a C none)) H2 hp2 h2) (hok : HOk X.prog X.w H2 h2) (ho : os2 = os1) (hb : AllBare g2) (ea : H2 a = some (exo a C none)) :
    ∃ (t0 : Addr) (G : Heap), Inv X pins σ (del H2 a) ⟨G, g2, d2, t2, os2⟩ ∧ (∀ b o, G.get? b = some o → h2.get? b = some o) ∧ G.get? a = none ∧
      h2.get? a = some ({ cls := .ref C, dict := none, data := .fields #[.ref t0, .none, .none, .none, .bool false, .none] } : Obj) ∧ del H2 a a = none := by
  obtain ⟨t0, stands⟩ := exo_at hok ea
  have n1 : H1 a = none := I1.hok.fresh ha
  obtain ⟨G, same, gone⟩ := restrict h2 fun b => decide (b ≠ a)
  have at_ : ∀ b, b ≠ a → G.get? b = h2.get? b := fun b q => same b (decide_eq_true q)
  have no : G.get? a = none := gone a (by simp)
  have old : ∀ {b : Addr} {o : Obj}, hp.get? b = some o → b ≠ a := fun {b o} z => Nat.ne_of_lt (Nat.lt_of_lt_of_le (Heap.lt_size z) ha)
  have un1 : ∀ {b : Addr}, b ≠ a → H1 b = none → upd H1 a (exo a C none) b = none := fun {b} q n => by
    rw [upd_ne q]
    exact n
  have U : Un (frs X.stack) [] H1 (del H2 a) hp G := {
    keep := fun b o z n f x => by
      rw [at_ b (old z)]
      exact un.keep b o (k b o z) (un1 (old z) n) f x
    slot := fun b o z n f x => by
      rw [at_ b (old z)]
      exact un.slot b o (k b o z) (un1 (old z) n) f x
    free := fun b o z n x => by
      rw [del_ne (old z)]
      exact un.free b o (k b o z) (un1 (old z) n) x
    there := fun b o z x => by
      rw [at_ b (old z)]
      exact un.there b o (k b o z) x
    tups := fun b xs z => by
      have q := ne_of_none z n1
      rw [del_ne q]
      exact un.tups b xs (by rw [upd_ne q]; exact z)
    frzs := fun b o v z => by
      have q := ne_of_none z n1
      rw [del_ne q]
      exact un.frzs b o v (by rw [upd_ne q]; exact z)
    tbls := fun b ps z => by
      have q := ne_of_none z n1
      rw [del_ne q]
      exact un.tbls b ps (by rw [upd_ne q]; exact z) }
  have good : HOk X.prog X.w (del H2 a) G := fun b o z => by
    have q : b ≠ a := fun e => by
      rw [e, del_same] at z
      cases z
    rw [del_ne q] at z
    have far : ∀ {c : Addr}, H2 c = some (.own b) → c ≠ a := fun {c} y => at_ne ea y exo_own
    exact (hok b o z).stay (fun c v hc y => by
        have q2 : c ≠ a := by
          rcases hc with hc | hc
          · rw [hc]
            exact q
          · exact far hc
        rw [at_ c q2]
        exact y)
      (fun c y => by rw [del_ne (far y)]; exact y) (fun c xs y => by rw [del_ne (at_ne ea y exo_tup)]; exact y)
  refine ⟨t0, G, I1.call' (ch := []) ho U good hb (fun b z => absurd z (by simp)), fun b o z => ?_, no, stands, del_same⟩
  by_cases q : b = a
  · rw [q, no] at z
    cases z
  · exact (at_ b q).symm.trans z
/-- C(), C's own __init__ gives it no field -/
def tMkZ (C : Addr) (sp : Sp) : L2.St → Hp → XK → Prop := fun _ H Q => ∀ a, H a = none → sp [.ref a] (upd H a (exo a C none)) (fun v H2 => v = .non ∧ H2 a = some (exo a C none) ∧ Q (.ref C) none (del H2 a)) (fun _ _ _ => False)
theorem pmk_z {X : Cx} {p pos : Pos} {x : Str} {C : Addr} {sp : Sp} {j : Nat} (c : ErG X.prog X.w X.K X.mg X.base x C sp) (hr : Room j X.A) (hj : 2 ≤ j) (hg : Gl X x) (hdb : (x == ("__debug__" : Str)) = false) : L2N.PMk X (.Call (.Name x p) [] [] pos) (tMkZ C sp) := by
  obtain ⟨fI, fd, ps, hm, T, iC, tI, F1, b⟩ := c.ex
  intro pins s σ H Q I h
  obtain ⟨nm, q, N, bs, bm, sn, sub, ab, col, dd, k0, k1, k2, k3, k5, hC, hbm⟩ := T.cls
  refine wpAny_Call_Name_kw (ld_glob I hg hm ?_ hdb)
  refine PySem.W.callWith_K0 I.kIn T.kC ?_
  obtain ⟨hp, g, dr, tk, os⟩ := s
  generalize ex : hp.objs.size + 1 = x1 at *
  have le1 : hp.objs.size ≤ x1 := by omega
  have sp1 := h x1 (I.hok.fresh le1)
  have old : ∀ b o, hp.get? b = some o → ((hp.push (PySem.W.kdv_tup [])).push (PySem.HandSPX.excO C hp.objs.size)).get? b = some o := fun b o z =>
    Heap.get?_push_of_some _ (Heap.get?_push_of_some _ z)
  have new1 : ((hp.push (PySem.W.kdv_tup [])).push (PySem.HandSPX.excO C hp.objs.size)).get? x1 = some (PySem.HandSPX.excO C hp.objs.size) := by
    subst ex
    heap_get
  have I2 := I.laid (t' := tk) (a := x1) (o := exo x1 C none) old le1 (exo_ok new1)
  have many : ([Value.ref x1] : List Value).length = ps.length := F1.len _ _ _ _ sp1
  have bound := b _ [Value.ref x1] I2.kIn (by rw [List.append_nil]; exact many)
  rw [List.append_nil] at bound
  have run := F1.run _ X.stack _ _ ⟨[Value.ref x1], []⟩ [Value.ref x1] [V.ref x1] _ (fun _ _ _ => False) ((hr.mono hj).make C [] []) (I2.env0.make C [] []) bound (.cons rfl .nil) sp1
  refine wpAny_call (PySem.HandSPX.call_own F.excBase_ValueError (fun Y => PySem.HandSPX.refsVE_contains Y bm hbm) (I.kIn _ _ hC) (PySem.W.looks_findIn I.kIn iC) (fun self => PySem.W.bind_fn I.kIn self tI) (Nat.zero_le _) ?_)
  subst ex
  refine codeAny_mono run fun r s' back => ?_
  cases r with
  | error er => exact False.elim back
  | ok fl =>
    cases fl with
    | ret u =>
      obtain ⟨v, H2, os2, bare2, un2, hok2, rv, ev, ea, q2⟩ := back
      subst ev
      obtain ⟨h2, g2, d2, t2, os'⟩ := s'
      obtain ⟨t0, G, J, kG, ge, hoe, na⟩ := let_go (d2 := d2) (t2 := t2) I le1 old un2 hok2 os2 bare2 ea
      exact ⟨rv, _, _, _, ⟨G, g2, d2, t2, os'⟩, _, .ref C, none, rfl, J, kG, ge, hoe, ⟨rfl, rfl, fun vs z => by cases z; rfl⟩, rfl, rfl, na, rfl, bare2, raises_own T.exC T.tyC, q2⟩
    | next => exact False.elim back
    | brk => exact False.elim back
    | cont => exact False.elim back
theorem ps_raiseZ {X : Cx} {W : WX} {x : Str} {C : Addr} {sp : Sp} {j : Nat} {p pos pos' : Pos} (c : ErG X.prog X.w X.K X.mg X.base x C sp) (hr : Room j X.A) (tk : L2N.Takes X W) (hj : 2 ≤ j := by decide) (hcalm : X.calm = true := by rfl) (hg : Gl X x := by rfl) (hdb : (x == ("__debug__" : Str)) = false := by decide) :
    PS X (.Raise (some (.Call (.Name x p) [] [] pos)) none pos') (fun _ σ H => tMkZ C sp σ H fun cls d H' => W cls d σ H') :=
  L2N.ps_raise hcalm tk (pmk_z c hr hj hg hdb)
/-- {t}, t a tuple of ints -/
theorem repr_ints {prog : Program} {w : World} : ∀ {l : List Int} {its : List Value}, Vals (l.map V.int) its → (∀ i ∈ l, i.natAbs.log2 < 1920) → ReprAll prog w its (l.map fun i => Str.ofString (toString i))
  | [], _, r, _ => by
    cases r
    exact .nil
  | i :: l, _, r, h => by
    cases r with
    | cons r1 r2 =>
      obtain ⟨t, rfl⟩ := r1
      exact .cons (ReprIs.int t (h i List.mem_cons_self)) (repr_ints r2 fun z hz => h z (List.mem_cons_of_mem _ hz))
theorem piled_ints : ∀ l : List Int, (∀ i ∈ l, i.natAbs.log2 < 1920) → piled (l.map fun i => Str.ofString (toString i)) ≤ l.length * 1925
  | [], _ => Nat.zero_le _
  | i :: l, h => by
    have h1 := int_text_len_1921 (h i List.mem_cons_self)
    have h2 := piled_ints l fun z hz => h z (List.mem_cons_of_mem _ hz)
    rw [List.map_cons, piled_cons, List.length_cons, Nat.succ_mul]
    omega
def tFmtI (K : PySem.W.Frag) (te : TE) : TE := fun σ H Q => te σ H fun x H1 => ∃ (a : Addr) (l : List Int), x = .ref a ∧ SqT K H1 a (l.map V.int) ∧ (∀ i ∈ l, i.natAbs.log2 < 1920) ∧ l.length ≤ 10 ∧ ∀ m : Str, m.length ≤ 20000 → Q (.str m) H1
theorem pe_fmtI {X : Cx} {e : Expr} {te : TE} {pos : Pos} {k : Nat} (hr : Room k X.A) (he : PE X e te) : PE X (.FormattedValue e (-1) none pos) (tFmtI X.K te) := by
  refine ⟨fun pins s σ H Q I h => wpAny_FormattedValue_plain (thn (he.run pins s σ H _ I h) fun v s1 hv => ?_)⟩
  obtain ⟨x, H1, I1, r1, a, l, rfl, ht, hc, few, q⟩ := hv
  cases r1
  obtain ⟨its, rv, ⟨o, ho, hcl, n, hd⟩, _⟩ := I1.tuple ht
  have h1 := piled_ints l hc
  have h2 := fmt_text (l.map fun i => Str.ofString (toString i))
  have hu := hr.units
  have h3 : l.length * 1925 ≤ 10 * 1925 := Nat.mul_le_mul_right _ few
  exact fmt_tuple (ts := l.map fun i => Str.ofString (toString i)) (by omega) ho hcl hd (repr_ints rv hc) (by rw [sizeLine_eq]; omega) fun m u tk hm => ⟨.str m, H1, I1.tok _, ⟨u, rfl⟩, q m (by omega)⟩
/-! rules whose readings name the frame: for the body of a try and for except suites -/
section
variable {X : Cx} {K : PySem.W.Frag} {o e : Expr} {es : List Expr} {to : TE} {t : TA} {name : Str} {apos cpos : Pos} {T id : String} {r : V → List V → Hp → VK → Prop}
theorem pe_bm0K (hK : X.K = K) (pa : PlainAttrs T) (slot : Slot T name id) (ty : typeOf (.builtin id) = pure (.type "method_descriptor")) (hm : MtR X id r) (ho : PE X o to)
    (hb : attributeBase o name X.env (eval o X.env) = eval o X.env := by rfl) (hl : (apos.endLine == cpos.line) = true := by rfl) : PE X (.Call (.Attribute o name apos) [] [] cpos) (tBM0 K T r to) := by
  subst hK
  exact pe_bm0 pa slot ty hm ho hb hl
theorem pe_bmK (hK : X.K = K) (pa : PlainAttrs T) (slot : Slot T name id) (ty : typeOf (.builtin id) = pure (.type "method_descriptor")) (hm : MtR X id r) (ho : PE X o to) (ha : PA X (e :: es) t)
    (hb : attributeBase o name X.env (eval o X.env) = eval o X.env := by rfl)
    (hf : ((backTo cpos (starEach (e :: es) X.env)).all (fun x => !x.1) && (backToKw cpos (keywordEach [] X.env)).all (fun x => x.1.isSome) && decide ((e :: es).length + ([] : List Keyword).length + (if ([] : List Keyword).isEmpty then 0 else 1) < 30)) = true := by rfl)
    (hl : (apos.endLine == cpos.line) = true := by rfl) (hs : starEach (e :: es) X.env = (false, eval e X.env) :: starEach es X.env := by rfl) (hp : (backTo cpos (starEach es X.env)).any (·.1) = false := by rfl) :
    PE X (.Call (.Attribute o name apos) (e :: es) [] cpos) (tBM K T r to t) := by
  subst hK
  exact pe_bm pa slot ty hm ho ha hb hf hl hs hp
theorem call_isiK (hK : X.K = K) : CallR X (.builtin "isinstance") (rIsi K) := by
  subst hK
  exact call_isi
end
theorem room_suite {X : Cx} {j : Nat} {a : Addr} {l : List (Addr × Obj)} (hr : Room j X.A) : L2H.RoomH j (X.suite a l).A := ⟨hr.dp, hr.un⟩
/-! defs that are called within an except suite and are given the caught exception -/
abbrev SpE := Addr → Value → Option Addr → Sp
structure FnP (P : Program) (w : World) (K : PySem.W.Frag) (mg : Str → Option Value) (base : Heap) (k : Nat) (f : Addr) (fd : FuncData) (ps : List Str) (sp : SpE) : Prop where
  len : ∀ a cls d vs H Q E, sp a cls d vs H Q E → vs.length = ps.length
  run : ∀ (A : Around) (outer : List Env) (s : Shared) (H : Hp) (args : Args) (us : List Value) (vs : List V) (Q : VK) (E : XK) (p : Addr × Obj) (cls : Value) (d : Option Addr), L2H.RoomH k A → L2H.Hot1 A p → L2N.Zn cls d p.2 →
    L2H.PinOk outer H s p → Env0 P w K mg base A outer s H → BindsTo s fd args (ps.zip us) → Vals vs us → sp p.1 cls d vs H Q E → codeAny (model P w) A (.call (.ref f) args) (CR CX0 outer P w H s Q E) s
theorem fnp_of {P : Program} {w : World} {K : PySem.W.Frag} {mg : Str → Option Value} {base : Heap} {x qual : Str} {st : Stmt} {f : Addr} {fd : FuncData} {N ps : List Str} {k : Nat} {sp : SpE} (F : Fun K x qual st f fd) (S : FnScope N ps (defScope st)) (len : ∀ a cls d vs H Q E, sp a cls d vs H Q E → vs.length = ps.length)
    (body : ∀ (cdv : Value) (A : Around) (outer : List Env) (s : Shared) (H : Hp) (vs : List V) (Q : VK) (E : XK) (p : Addr × Obj) (cls : Value) (d : Option Addr), L2H.Hot1 A p → L2N.Zn cls d p.2 → L2H.RoomH k (A.deeper (envOfC qual (defScope st) s.heap.objs.size f cdv)) → sp p.1 cls d vs H Q E →
      ∃ t, PSs (L2H.cxH CX0 P w K mg base N qual (defScope st) f cdv A outer s H E p) (defBody st) t ∧ t { nx := fun _ G => Q .non G, rt := Q } (L2.start N vs) H) : FnP P w K mg base (k + 1) f fd ps sp := by
  obtain ⟨oc, od, kV, doc, pm, an, cdv, ct, osl, rfl, lk, hcd⟩ := F.ex
  refine ⟨len, fun A outer s H args us vs Q E p cls d room hot zn pin e0 bound rel asks => ?_⟩
  have keeps : ∀ b o, base.get? b = some o → s.heap.get? b = some o := fun b o e => (e0.bs b o e).1
  have there : K.In s.heap := e0.mod.kin.keeps keeps
  have kinds : ∀ y ∈ ps.zip us, (defScope st).names.lookup y.1 = some .local ∨ ((defScope st).names.lookup y.1 = some .cell ∧ ((cellsFrom (s.heap.objs.size + 1) (defScope st).names []).lookup y.1).isSome = true) := fun y hy =>
    match S.par y.1 (List.of_mem_zip hy).1 with
    | .inl q => .inl q
    | .inr q => .inr ⟨q, PySem.W.cellsFrom_some _ _ _ (.inl q)⟩
  refine codeAny_call_function room.depth (there _ _ lk) rfl S.co S.gen rfl (PySem.W.codeRec_of there hcd) (bound _ _ _ _ (wpAny_newFunctionEnv_cells S.kind kinds fun env same s1 laid => ?_))
  subst same
  refine ⟨(e0.mod.nolimit.keeps keeps).keeps laid.toInCall.keep, codeAny_func ?_⟩
  obtain ⟨t, walked, reading⟩ := body cdv A outer s H vs Q E p cls d hot zn (room.deeper _) asks
  have many : vs.length = ps.length := len _ _ _ _ _ _ _ asks
  refine wpAny_mono (walked.run [] s1 (L2.start N vs) H _ (L2H.inv_startH S pin e0 many rel laid) reading) (fun fl s2 went => ?_) fun _ _ z => z
  cases fl with
  | ret u =>
    obtain ⟨v, τ, G, J, rv, q⟩ := went
    exact ⟨v, G, J.os, J.bare, J.base, J.hok, rv, q⟩
  | next =>
    obtain ⟨τ, G, J, q⟩ := went
    exact ⟨V.non, G, J.os, J.bare, J.base, J.hok, rfl, q⟩
  | brk =>
    obtain ⟨_, _, _, no⟩ := went
    exact no.elim
  | cont =>
    obtain ⟨_, _, _, no⟩ := went
    exact no.elim
/-- the exception that is handled, as a context bears it -/
def Held (X : Cx) (a : Addr) (cls : Value) (d : Option Addr) : Prop := ∃ oe : Obj, X.A.handled = some (.ref a) ∧ L2N.Zn cls d oe ∧ (∃ vs, oe.data = .fields vs) ∧ (a, oe) ∈ X.pn
theorem held_suite {X : Cx} {a : Addr} {oe : Obj} {cls : Value} {d : Option Addr} {pn : List (Addr × Obj)} (z : L2N.Zn cls d oe) (f : ∃ vs, oe.data = .fields vs) : Held (X.suite a ((a, oe) :: pn)) a cls d := ⟨oe, rfl, z, f, List.mem_cons_self⟩
theorem held_def {CX : CXT} {P : Program} {w : World} {K : PySem.W.Frag} {mg : Str → Option Value} {base : Heap} {N : List Str} {qual : Str} {sc : Scope} {f : Addr} {cd : Value} {A : Around} {outer : List Env} {s : Shared} {H : Hp} {E : XK} {p : Addr × Obj} {cls : Value} {d : Option Addr} (hot : L2H.Hot1 A p) (z : L2N.Zn cls d p.2) :
    Held (L2H.cxH CX P w K mg base N qual sc f cd A outer s H E p) p.1 cls d := by
  obtain ⟨h, vs, e, _⟩ := hot
  exact ⟨p.2, h, z, ⟨vs, e⟩, List.mem_singleton.mpr rfl⟩
structure ClP (P : Program) (w : World) (K : PySem.W.Frag) (mg : Str → Option Value) (base : Heap) (k : Nat) (x : Str) (sp : SpE) : Prop where
  ex : ∃ (f : Addr) (fd : FuncData) (ps : List Str), FnP P w K mg base k f fd ps sp ∧ mg x = some (.ref f) ∧ PySem.W.keepIn K (.ref f) = true ∧ Binds K fd ps []
section
variable {X : Cx} {a : Addr} {cls : Value} {d : Option Addr}
def tCallE (sp : SpE) (a : Addr) (cls : Value) (d : Option Addr) (t : TA) : TE := fun σ H Q => t σ H fun vs G => sp a cls d vs G Q E0
theorem pe_clP {k j : Nat} {x : Str} {sp : SpE} {q pos : Pos} {e : Expr} {es : List Expr} {t : TA} (c : ClP X.prog X.w X.K X.mg X.base k x sp) (held : Held X a cls d) (hr : L2H.RoomH j X.A) (ha : PA X (e :: es) t) (hk : k ≤ j := by decide) (hg : Gl X x := by rfl)
    (hdb : (x == ("__debug__" : Str)) = false := by decide) (he : starEach (e :: es) X.env = (false, eval e X.env) :: starEach es X.env := by rfl) (hpl : (backTo pos (starEach es X.env)).any (·.1) = false := by rfl) :
    PE X (.Call (.Name x q) (e :: es) [] pos) (tCallE sp a cls d t) := by
  obtain ⟨f, fd, ps, F, hm, kp, b⟩ := c.ex
  obtain ⟨oe, hh, zn, ⟨v0, e0⟩, mem⟩ := held
  refine ⟨fun pins s σ H Q I h => wpAny_Call_Name_kw (ld_glob I hg hm (PySem.W.callWith_K (h₀ := X.base) I.ok.mod.kin kp (thn (ha.run pos pins s σ H _ I h) fun us s1 ⟨vs, G, J, rel, asks⟩ => ⟨J.kIn, ?_⟩) he hpl) hdb)⟩
  have pinned := J.pin (a, oe) (List.mem_append_left _ mem)
  have ok : L2H.PinOk X.stack G s1 (a, oe) := ⟨pinned.1, pinned.2.1, fun hm => (List.mem_cons.mp (J.stkSub a hm)).elim pinned.2.2.1 pinned.2.2.2.1, pinned.2.2.2.2⟩
  have many : us.length = ps.length := by
    rw [← Paired.length rel]
    exact F.len _ _ _ _ _ _ _ asks
  have bound := b s1 us J.kIn (by rw [List.append_nil]; exact many)
  rw [List.append_nil] at bound
  refine wpAny_call (codeAny_mono (F.run X.A X.stack s1 G ⟨us, []⟩ us vs Q _ (a, oe) cls d (hr.mono hk) ⟨hh, v0, e0, zn.2.2 v0 e0⟩ zn ok J.env0 bound rel asks) fun r s2 back => ?_)
  cases r with
  | error er => exact pass0 pins σ G s1 er s2 J back
  | ok fl =>
    cases fl with
    | ret u => exact J.after back
    | next => exact False.elim back
    | brk => exact False.elim back
    | cont => exact False.elim back
end
/-! isinstance of it, and its fields -/
section
open PySem.W
variable {prog : Program} {w : World} {A : Around} {E : Value → Shared → Prop} {s : Shared} {K : Frag} {x D : Addr} {ox : Obj} {od : Option Obj}
theorem find_data {C : Addr} {n : Str} {v g : Value} (isC : (clsIn K C).isSome = true) (at_ : findIn K (.ref C) n = some (some v)) (get : specialIn K v "__get__" = some (some g)) (tk : takesIn K v = some true) : findObj K C od n = some (.bind g v) := by
  obtain ⟨cd, e⟩ := Option.isSome_iff_exists.mp isC
  unfold findObj
  rw [e, Option.bind_some, at_, Option.bind_some]
  simp only [get, tk, Option.bind_some]
theorem class_of_exc {Q : Option Value → Shared → Prop} (c : L2.ExcC K D) (X : K.In s.heap) (I : InstAt s.heap x ox D od) (h : Q (some (.ref D)) { s with toks := s.toks + 1 }) : wpAny (model prog w) A (getAttr? (.ref x) "__class__") Q E s := by
  obtain ⟨cd, hcd, _⟩ := any_some c.hd
  have found : findObj K D od "__class__" = some (.bind (.builtin "getset_descriptor.__get__") (.builtin "object.__class__")) := find_data (by rw [hcd] <;> rfl) c.ha c.hn c.ht
  obtain ⟨hp, g, dr, t, os⟩ := s
  have kind := I.type (M := model prog w)
  have hooks := looks_findIn (M := model prog w) X c.hg
  have looks := looks_find (M := model prog w) X I found
  have above : Looks (model prog w) hp (isInstance (.ref x) (.type "BaseException")) true := kind.andThen (looks_subIn X c.hs)
  have other : (Value.builtin "BaseException.__getattribute__" == Value.builtin "object.__getattribute__") = false := by decide +kernel
  have own : (onTheHeap (Value.ref D) && Value.builtin "BaseException.__getattribute__" == Value.builtin "object.__getattribute__") = false := by
    rw [other]
    rfl
  unfold getAttr? getAttrBy?
  unfold getAttrBy
  refine wpAny_bind (wpAny_mkText (wpAny_bind (wpAny_attempt (wpAny_holding (wpAny_bind (kind.at (wpAny_bind (hooks.at ?_))))))))
  show wpAny _ _ (if (onTheHeap (Value.ref D) && Value.builtin "BaseException.__getattribute__" == Value.builtin "object.__getattribute__") = true then _ else _) _ _ _
  rw [own, if_neg Bool.false_ne_true]
  unfold getAttrByItsOwn
  unfold hookBefore
  refine wpAny_bind ?_
  rw [if_pos (show onTheHeap (Value.ref D) = true from rfl)]
  refine (looks_findIn (M := model prog w) X c.hk).at (wpAny_bind (wpAny_attempt (wpAny_holding ?_)))
  unfold callGetattribute
  rw [show (false && onTheHeap (Value.builtin "BaseException.__getattribute__")) = false from rfl, if_neg Bool.false_ne_true]
  unfold boundAndCalled
  rw [PySem.F.excAttr_ValueError.ga.bind (.ref x)]
  refine wpAny_bind (wpAny_pure ?_)
  show wpAny _ _ (call (.builtin "BaseException.__getattribute__") [.ref x, .str "__class__" t]) _ _ _
  refine wpAny_call (codeAny_call_builtin PySem.F.excAttr_ValueError.ga.plain PySem.F.entry_bexc_ga ?_)
  refine @check_slot (model prog w) _ _ ⟨hp, g, dr, t + 1, os⟩ "BaseException.__getattribute__" "BaseException" "__getattribute__" (.ref x) [.str "__class__" t] [] _ (by decide +kernel) (by decide +kernel) above (PySem.F.args_bexc_ga (.ref x) (.str "__class__" t)) ?_
  unfold Builtin.«object.__getattribute__»
  refine wpAny_bind (wpAny_of_eq (a := ((Value.ref x : Value), [Value.str "__class__" t])) (by first | rfl | (simp only [slotArgs]; rfl)) ?_)
  refine wpAny_bind (wpAny_pure (wpAny_bind (kind.at (wpAny_bind (looks.at ?_)))))
  show wpAny _ _ (holding [Value.builtin "object.__class__"] (call (.builtin "getset_descriptor.__get__") [.builtin "object.__class__", .ref x, .ref D]) >>= ret) _ _ _
  refine wpAny_bind (wpAny_holding (wpAny_call (class_get (s := ⟨hp, g, dr, t + 1, os⟩) (ox := ox) (od := od) X I c.hm (wpAny_pure ?_))))
  show wpAny _ _ (handedOut (.ref D)) _ _ _
  rw [handedOut_of (v := .ref D) rfl]
  first
    | exact wpAny_pure (wpAny_pure h)
    | exact wpAny_pure h
    | exact wpAny_pure (wpAny_bind (wpAny_pure (wpAny_pure h)))
theorem kit_exc (c : L2.ExcC K D) : KitX K (.ref x) (.ref D) (fun h => InstAt h x ox D od) where
  ty := fun _ _ _ I => I.type
  it := fun _ _ X _ => by
    obtain ⟨cd, e, _⟩ := any_some c.hd
    unfold clsIn at e
    split at e
    · rename_i ho
      intro _ _ _ s' keep q
      unfold isType loadHead
      exact wpAny_bind (wpAny_loadPart (keep _ _ (X _ _ ho)) (wpAny_pure q))
    · cases e
  ne := fun h tp dd its n sl X at_ => by
    obtain ⟨cd, e, _⟩ := any_some c.hd
    refine Bool.eq_false_iff.mpr fun q => ?_
    have same : D = tp := Value.ref.inj (beq_iff_eq.mp q)
    subst same
    unfold clsIn at e
    split at e
    · rename_i ho
      cases (X _ _ ho).symm.trans at_
    · cases e
  ca := fun X I k => class_of_exc c X I k
end
section
variable {X : Cx} {a : Addr} {cls : Value} {d : Option Addr}
/-- its dict stands, if it has one -/
def DictAt (H : Hp) (d : Option Addr) (fs : List (Str × V)) : Prop := (d = none ∧ fs = []) ∨ ∃ dd, d = some dd ∧ H dd = some (.xd fs)
theorem DictAt.same {H H' : Hp} {d : Option Addr} {fs : List (Str × V)} (h : DictAt H d fs) (s : Same H H') : DictAt H' d fs := by
  rcases h with h | ⟨dd, h1, h2⟩
  · exact .inl h
  · exact .inr ⟨dd, h1, s _ _ h2⟩
theorem held_inst {pins : List (Addr × Obj)} {σ : L2.St} {H : Hp} {s : Shared} {D : Addr} {oe : Obj} {fs : List (Str × V)} (I : Inv X pins σ H s) (mem : (a, oe) ∈ X.pn) (z : L2N.Zn (.ref D) d oe) (hf : ∃ vs, oe.data = .fields vs) (hd : DictAt H d fs) : ∃ od, PySem.W.InstAt s.heap a oe D od := by
  have at_ := (I.pin (a, oe) (List.mem_append_left _ mem)).1
  obtain ⟨vs, ev⟩ := hf
  have nc : PySem.W.notCls oe := by
    unfold PySem.W.notCls
    rw [ev] <;> trivial
  rcases hd with ⟨rfl, _⟩ | ⟨dd, rfl, ed⟩
  · exact ⟨none, at_, z.1, nc, by rw [z.2.1] <;> trivial⟩
  · have ok : ObjOk X.prog X.w H s.heap dd (.xd fs) := I.hok dd _ ed
    obtain ⟨mA, hns, _⟩ := ok
    obtain ⟨od, ho, _⟩ := lookIn_ns hns
    exact ⟨some od, at_, z.1, nc, by rw [z.2.1]; exact ho⟩
def rIsP (K : PySem.W.Frag) (a : Addr) (cls : Value) (d : Option Addr) : List V → Hp → VK → Prop := fun xs H Q => ∃ (D : Addr) (c : V) (cv : Value) (b : Bool) (fs : List (Str × V)), xs = [.ref a, c] ∧ cls = .ref D ∧ ExcC K D ∧ DictAt H d fs ∧ (∀ u, RelV c u → u = cv) ∧ PySem.W.kitOne K (.ref D) cv = some b ∧ Q (.bl b) H
theorem call_isP {K : PySem.W.Frag} (hK : X.K = K) (held : Held X a cls d) : CallR X (.builtin "isinstance") (rIsP K a cls d) := by
  subst hK
  intro pins s σ H xs us Q I r h
  obtain ⟨D, c, cv, b, fs, rfl, rfl, hC, hd, one, kit, q⟩ := h
  obtain ⟨oe, _, zn, hf, mem⟩ := held
  obtain ⟨od, J⟩ := held_inst I mem zn hf hd
  cases r with
  | cons rx rr =>
    cases rr with
    | cons rt rr =>
      cases rr
      cases rx
      cases one _ rt
      exact PySem.W.kia_one (kit_exc hC) I.kIn J kit (fun z => nomatch z) fun tk => ⟨.bl b, H, I.kept (t' := tk) fun _ _ z => z, rfl, q⟩
def tFldP (K : PySem.W.Frag) (a : Addr) (cls : Value) (d : Option Addr) (n : Str) (te : TE) : TE := fun σ H Q => te σ H fun x G => ∃ (D : Addr) (fs : List (Str × V)) (v : V), x = .ref a ∧ cls = .ref D ∧ XfC K D ∧ PySem.W.findIn K (.ref D) n = some none ∧ (∃ dd, d = some dd ∧ G dd = some (.xd fs)) ∧ fs.lookup n = some v ∧ Q v G
theorem pe_fldP {K : PySem.W.Frag} {e : Expr} {te : TE} {pos : Pos} {n : Str} (hK : X.K = K) (held : Held X a cls d) (he : PE X e te) (hb : attributeBase e n X.env (eval e X.env) = eval e X.env := by rfl) : PE X (.Attribute e n pos) (tFldP K a cls d n te) := by
  subst hK
  refine ⟨fun pins s σ H Q I h => attr_of hb (thn (he.run pins s σ H _ I h) fun u s1 ⟨x, G, J, rx, D, fs, v, ex, ec, T, no, ⟨dd, ed, at_⟩, l, q⟩ => ?_)⟩
  subst ex ec ed
  obtain rfl : u = Value.ref a := rx
  obtain ⟨oe, _, zn, ⟨vs, ev⟩, mem⟩ := held
  have stands := (J.pin (a, oe) (List.mem_append_left _ mem)).1
  have ok : ObjOk X.prog X.w G s1.heap dd (.xd fs) := J.hok dd _ at_
  obtain ⟨mA, hns, rel⟩ := ok
  obtain ⟨od, ho, look⟩ := lookIn_ns hns
  obtain ⟨y, hy, ry⟩ := RelO.some_of (v := v) (o := mA n) (by rw [← l]; exact rel n)
  have inst : PySem.W.InstAt s1.heap a oe D (some od) := ⟨stands, zn.1, by unfold PySem.W.notCls; rw [ev] <;> trivial, by rw [zn.2.1]; exact ho⟩
  exact HandSPX.exc_get J.kIn inst T.ga T.gg T.exC (PySem.W.findObj_own T.hdC no rfl (by rw [look, hy])) (handed_of ry) ⟨v, G, J.tok _, ry, q⟩
end
/-! the thirteen classes: what each __init__ does -/
def okT : V → Prop := fun _ => True
def okI : V → Prop := fun v => ∃ i : Int, v = .int i ∧ i.natAbs.log2 < 1920
def okS : V → Prop := fun v => ∃ z : Str, v = .str z ∧ z.length ≤ 1000
theorem int_len {i : Int} (h : i.natAbs.log2 < 1920) : (Str.ofString (toString i)).length ≤ 1921 := int_text_len_1921 h
abbrev s_ibn : Stmt := inClass (top 2) 0
theorem sc_ibn : FnScope ["self", "n"] ["self", "n"] (defScope s_ibn) := ⟨rfl, rfl, rfl, by decide +kernel, rfl, by decide +kernel, by decide +kernel⟩
theorem ok_ibn {f C CF : Addr} {fd : FuncData} (TF : FErr K mg CF) (hC : OexC K C) (hno : PySem.W.findIn K (.ref C) "n" = some none) (F : Fun K "__init__" "BadNumber.__init__" s_ibn f fd) : FnOk P w K mg base CX0 1 f fd ["self", "n"] (spInitP C "n" okT) := by
  refine F.ok sc_ibn (fun vs H Q E h => ?_) (fun cdv A outer s H vs Q E hr h => ?_)
  · obtain ⟨a, v, rfl, _⟩ := h
    rfl
  · obtain ⟨a, v, rfl, o, ha, q⟩ := h
    refine ⟨_, (pss_cons (ps_expr (pe_feinit TF (pa_cons (pv 0) (pa_cons pe_str pa_nil))))
 (pss_one (ps_ost (pv 0) (pv 1)))), ?_⟩
    refine ⟨_, rfl, a, C, _, rfl, (by show 1 ≤ 1000; decide), hC, ha, ?_⟩
    exact ⟨_, rfl, _, rfl, a, C, rfl, hC, hno, .inl ⟨ha, fun dx hn hne => q dx hn hne⟩⟩
abbrev s_ibc : Stmt := inClass (top 3) 0
theorem sc_ibc : FnScope ["self", "p"] ["self", "p"] (defScope s_ibc) := ⟨rfl, rfl, rfl, by decide +kernel, rfl, by decide +kernel, by decide +kernel⟩
theorem ok_ibc {f C CF : Addr} {fd : FuncData} (TF : FErr K mg CF) (hC : OexC K C) (hno : PySem.W.findIn K (.ref C) "p" = some none) (F : Fun K "__init__" "BadCharacteristic.__init__" s_ibc f fd) : FnOk P w K mg base CX0 1 f fd ["self", "p"] (spInitP C "p" okT) := by
  refine F.ok sc_ibc (fun vs H Q E h => ?_) (fun cdv A outer s H vs Q E hr h => ?_)
  · obtain ⟨a, v, rfl, _⟩ := h
    rfl
  · obtain ⟨a, v, rfl, o, ha, q⟩ := h
    refine ⟨_, (pss_cons (ps_expr (pe_feinit TF (pa_cons (pv 0) (pa_cons pe_str pa_nil))))
 (pss_one (ps_ost (pv 0) (pv 1)))), ?_⟩
    refine ⟨_, rfl, a, C, _, rfl, (by show 1 ≤ 1000; decide), hC, ha, ?_⟩
    exact ⟨_, rfl, _, rfl, a, C, rfl, hC, hno, .inl ⟨ha, fun dx hn hne => q dx hn hne⟩⟩
abbrev s_ibt : Stmt := inClass (top 4) 0
theorem sc_ibt : FnScope ["self", "at"] ["self", "at"] (defScope s_ibt) := ⟨rfl, rfl, rfl, by decide +kernel, rfl, by decide +kernel, by decide +kernel⟩
theorem ok_ibt {f C CF : Addr} {fd : FuncData} (TF : FErr K mg CF) (hC : OexC K C) (hno : PySem.W.findIn K (.ref C) "at" = some none) (F : Fun K "__init__" "BadText.__init__" s_ibt f fd) : FnOk P w K mg base CX0 1 f fd ["self", "at"] (spInitP C "at" okI) := by
  refine F.ok sc_ibt (fun vs H Q E h => ?_) (fun cdv A outer s H vs Q E hr h => ?_)
  · obtain ⟨a, v, rfl, _⟩ := h
    rfl
  · obtain ⟨a, v, rfl, o, ha, q⟩ := h
    obtain ⟨i, rfl, hi⟩ := o
    have ln := int_len hi
    have m1 : ("the text is not of the right form at index " : Str).length ≤ 100 := by decide +kernel
    refine ⟨_, (pss_cons (ps_expr (pe_feinit TF (pa_cons (pv 0) (pa_cons (pe_joined (.cons pe_str (.cons (pe_fmt (pv 1)) .nil))) pa_nil))))
 (pss_one (ps_ost (pv 0) (pv 1)))), ?_⟩
    refine ⟨_, rfl, _, rfl, by rw [empty_app, sizeLine_eq]; omega, _, rfl, .inr ⟨_, rfl, hi, _, rfl, by rw [empty_app, app_len, sizeLine_eq]; omega, ?_⟩⟩
    refine ⟨a, C, _, rfl, (by show 1 ≤ 1000; decide), hC, ha, ?_⟩
    exact ⟨_, rfl, _, rfl, a, C, rfl, hC, hno, .inl ⟨ha, fun dx hn hne => q dx hn hne⟩⟩
abbrev s_ibr : Stmt := inClass (top 5) 0
theorem sc_ibr : FnScope ["self", "at"] ["self", "at"] (defScope s_ibr) := ⟨rfl, rfl, rfl, by decide +kernel, rfl, by decide +kernel, by decide +kernel⟩
theorem ok_ibr {f C CF : Addr} {fd : FuncData} (TF : FErr K mg CF) (hC : OexC K C) (hno : PySem.W.findIn K (.ref C) "at" = some none) (F : Fun K "__init__" "BadRow.__init__" s_ibr f fd) : FnOk P w K mg base CX0 1 f fd ["self", "at"] (spInitP C "at" okI) := by
  refine F.ok sc_ibr (fun vs H Q E h => ?_) (fun cdv A outer s H vs Q E hr h => ?_)
  · obtain ⟨a, v, rfl, _⟩ := h
    rfl
  · obtain ⟨a, v, rfl, o, ha, q⟩ := h
    obtain ⟨i, rfl, hi⟩ := o
    have ln := int_len hi
    have m1 : ("the row with index " : Str).length ≤ 100 := by decide +kernel
    have m2 : (" is not as long as the first one" : Str).length ≤ 100 := by decide +kernel
    refine ⟨_, (pss_cons (ps_expr (pe_feinit TF (pa_cons (pv 0) (pa_cons (pe_joined (.cons pe_str (.cons (pe_fmt (pv 1)) (.cons pe_str .nil)))) pa_nil))))
 (pss_one (ps_ost (pv 0) (pv 1)))), ?_⟩
    refine ⟨_, rfl, _, rfl, by rw [empty_app, sizeLine_eq]; omega, _, rfl, .inr ⟨_, rfl, hi, _, rfl, by rw [empty_app, app_len, sizeLine_eq]; omega, ?_⟩⟩
    refine ⟨_, rfl, by rw [empty_app, app_len, app_len, sizeLine_eq]; omega, ?_⟩
    refine ⟨a, C, _, rfl, (by show 1 ≤ 1000; decide), hC, ha, ?_⟩
    exact ⟨_, rfl, _, rfl, a, C, rfl, hC, hno, .inl ⟨ha, fun dx hn hne => q dx hn hne⟩⟩
abbrev s_ibs : Stmt := inClass (top 10) 0
theorem sc_ibs : FnScope ["self", "at"] ["self", "at"] (defScope s_ibs) := ⟨rfl, rfl, rfl, by decide +kernel, rfl, by decide +kernel, by decide +kernel⟩
theorem ok_ibs {f C CF : Addr} {fd : FuncData} (TF : FErr K mg CF) (hC : OexC K C) (hno : PySem.W.findIn K (.ref C) "at" = some none) (F : Fun K "__init__" "BadStep.__init__" s_ibs f fd) : FnOk P w K mg base CX0 1 f fd ["self", "at"] (spInitP C "at" okI) := by
  refine F.ok sc_ibs (fun vs H Q E h => ?_) (fun cdv A outer s H vs Q E hr h => ?_)
  · obtain ⟨a, v, rfl, _⟩ := h
    rfl
  · obtain ⟨a, v, rfl, o, ha, q⟩ := h
    obtain ⟨i, rfl, hi⟩ := o
    have ln := int_len hi
    have m1 : ("the step with index " : Str).length ≤ 100 := by decide +kernel
    have m2 : (" is not a right one" : Str).length ≤ 100 := by decide +kernel
    refine ⟨_, (pss_cons (ps_expr (pe_feinit TF (pa_cons (pv 0) (pa_cons (pe_joined (.cons pe_str (.cons (pe_fmt (pv 1)) (.cons pe_str .nil)))) pa_nil))))
 (pss_one (ps_ost (pv 0) (pv 1)))), ?_⟩
    refine ⟨_, rfl, _, rfl, by rw [empty_app, sizeLine_eq]; omega, _, rfl, .inr ⟨_, rfl, hi, _, rfl, by rw [empty_app, app_len, sizeLine_eq]; omega, ?_⟩⟩
    refine ⟨_, rfl, by rw [empty_app, app_len, app_len, sizeLine_eq]; omega, ?_⟩
    refine ⟨a, C, _, rfl, (by show 1 ≤ 1000; decide), hC, ha, ?_⟩
    exact ⟨_, rfl, _, rfl, a, C, rfl, hC, hno, .inl ⟨ha, fun dx hn hne => q dx hn hne⟩⟩
abbrev s_iun : Stmt := inClass (top 11) 0
theorem sc_iun : FnScope ["self", "name"] ["self", "name"] (defScope s_iun) := ⟨rfl, rfl, rfl, by decide +kernel, rfl, by decide +kernel, by decide +kernel⟩
theorem ok_iun {f C CF : Addr} {fd : FuncData} (TF : FErr K mg CF) (hC : OexC K C) (hno : PySem.W.findIn K (.ref C) "name" = some none) (F : Fun K "__init__" "UnknownName.__init__" s_iun f fd) : FnOk P w K mg base CX0 1 f fd ["self", "name"] (spInitP C "name" okS) := by
  refine F.ok sc_iun (fun vs H Q E h => ?_) (fun cdv A outer s H vs Q E hr h => ?_)
  · obtain ⟨a, v, rfl, _⟩ := h
    rfl
  · obtain ⟨a, v, rfl, o, ha, q⟩ := h
    obtain ⟨z, rfl, hz⟩ := o
    have ln := hz
    have m1 : ("nothing has the name " : Str).length ≤ 100 := by decide +kernel
    refine ⟨_, (pss_cons (ps_expr (pe_feinit TF (pa_cons (pv 0) (pa_cons (pe_joined (.cons pe_str (.cons (pe_fmt (pv 1)) .nil))) pa_nil))))
 (pss_one (ps_ost (pv 0) (pv 1)))), ?_⟩
    refine ⟨_, rfl, _, rfl, by rw [empty_app, sizeLine_eq]; omega, _, rfl, .inl ⟨_, rfl, by rw [sizeLine_eq]; omega, _, rfl, by rw [empty_app, app_len, sizeLine_eq]; omega, ?_⟩⟩
    refine ⟨a, C, _, rfl, (by show 1 ≤ 1000; decide), hC, ha, ?_⟩
    exact ⟨_, rfl, _, rfl, a, C, rfl, hC, hno, .inl ⟨ha, fun dx hn hne => q dx hn hne⟩⟩
abbrev s_int : Stmt := inClass (top 12) 0
theorem sc_int : FnScope ["self", "name"] ["self", "name"] (defScope s_int) := ⟨rfl, rfl, rfl, by decide +kernel, rfl, by decide +kernel, by decide +kernel⟩
theorem ok_int {f C CF : Addr} {fd : FuncData} (TF : FErr K mg CF) (hC : OexC K C) (hno : PySem.W.findIn K (.ref C) "name" = some none) (F : Fun K "__init__" "NameTaken.__init__" s_int f fd) : FnOk P w K mg base CX0 1 f fd ["self", "name"] (spInitP C "name" okS) := by
  refine F.ok sc_int (fun vs H Q E h => ?_) (fun cdv A outer s H vs Q E hr h => ?_)
  · obtain ⟨a, v, rfl, _⟩ := h
    rfl
  · obtain ⟨a, v, rfl, o, ha, q⟩ := h
    obtain ⟨z, rfl, hz⟩ := o
    have ln := hz
    have m1 : ("the name " : Str).length ≤ 100 := by decide +kernel
    have m2 : (" is taken" : Str).length ≤ 100 := by decide +kernel
    refine ⟨_, (pss_cons (ps_expr (pe_feinit TF (pa_cons (pv 0) (pa_cons (pe_joined (.cons pe_str (.cons (pe_fmt (pv 1)) (.cons pe_str .nil)))) pa_nil))))
 (pss_one (ps_ost (pv 0) (pv 1)))), ?_⟩
    refine ⟨_, rfl, _, rfl, by rw [empty_app, sizeLine_eq]; omega, _, rfl, .inl ⟨_, rfl, by rw [sizeLine_eq]; omega, _, rfl, by rw [empty_app, app_len, sizeLine_eq]; omega, ?_⟩⟩
    refine ⟨_, rfl, by rw [empty_app, app_len, app_len, sizeLine_eq]; omega, ?_⟩
    refine ⟨a, C, _, rfl, (by show 1 ≤ 1000; decide), hC, ha, ?_⟩
    exact ⟨_, rfl, _, rfl, a, C, rfl, hC, hno, .inl ⟨ha, fun dx hn hne => q dx hn hne⟩⟩
/-- two fields -/
def spInit2 (C : Addr) (f1 f2 : Str) (ok : V → V → Hp → Prop) : Sp := fun vs H Q _ => ∃ (a : Addr) (v1 v2 : V), vs = [.ref a, v1, v2] ∧ ok v1 v2 H ∧ H a = some (exo a C none) ∧
  ∀ d, H d = none → d ≠ a → Q .non (upd (upd (upd H d (exd d [(f1, v1)])) a (exo a C (some d))) d (exd d [(f2, v2), (f1, v1)]))
theorem mk2 {C : Addr} {f1 f2 : Str} {ok : V → V → Hp → Prop} {v1 v2 : V} {H1 : Hp} {Q : XK} (o : ∀ a, H1 a = none → ok v1 v2 (upd H1 a (exo a C none))) (k : ∀ d H2, Same H1 H2 → H1 d = none → H2 d = some (.xd [(f2, v2), (f1, v1)]) → Q (.ref C) (some d) H2) :
    ([v1, v2] : List V).length ≤ 1000 ∧ ∀ a, H1 a = none → spInit2 C f1 f2 ok (.ref a :: ([v1, v2] ++ [])) (upd H1 a (exo a C none))
      (fun u H2 => u = .non ∧ ∃ (d : Addr) (fs : List (Str × V)), H2 a = some (exo a C (some d)) ∧ H2 d = some (exd d fs) ∧ H1 d = none ∧ Q (.ref C) (some d) (upd (del H2 a) d (.xd fs))) (fun _ _ _ => False) := by
  refine ⟨(by show 2 ≤ 1000; decide), fun a ha => ⟨a, v1, v2, rfl, o a ha, upd_same, fun d hd hda => ⟨rfl, d, [(f2, v2), (f1, v1)], ?_, upd_same, ?_, ?_⟩⟩⟩
  · rw [upd_ne (Ne.symm hda), upd_same]
  · rw [upd_ne hda] at hd
    exact hd
  · rw [upd_ne hda] at hd
    refine k d _ (fun b o e => ?_) hd upd_same
    have hba := ne_of_none e ha
    have hbd := ne_of_none e hd
    rw [upd_ne hbd, del_ne hba, upd_ne hbd, upd_ne hba, upd_ne hbd, upd_ne hba]
    exact e
def okTI (K : PySem.W.Frag) : V → V → Hp → Prop := fun v1 v2 H => (∃ (t : Addr) (l : List Int), v1 = .ref t ∧ SqT K H t (l.map V.int) ∧ (∀ i ∈ l, i.natAbs.log2 < 1920) ∧ l.length ≤ 10) ∧ okI v2
def okII : V → V → Hp → Prop := fun v1 v2 _ => okI v1 ∧ okI v2
abbrev s_ius : Stmt := inClass (top 6) 0
theorem sc_ius : FnScope ["self", "first", "second"] ["self", "first", "second"] (defScope s_ius) := ⟨rfl, rfl, rfl, by decide +kernel, rfl, by decide +kernel, by decide +kernel⟩
theorem ok_ius {f C CF : Addr} {fd : FuncData} (TF : FErr K mg CF) (hC : OexC K C) (n1 : PySem.W.findIn K (.ref C) "first" = some none) (n2 : PySem.W.findIn K (.ref C) "second" = some none) (F : Fun K "__init__" "UnlikeShapes.__init__" s_ius f fd) : FnOk P w K mg base CX0 1 f fd ["self", "first", "second"] (spInit2 C "first" "second" (okTI K)) := by
  refine F.ok sc_ius (fun vs H Q E h => ?_) (fun cdv A outer s H vs Q E hr h => ?_)
  · obtain ⟨a, v1, v2, rfl, _⟩ := h
    rfl
  · obtain ⟨a, v1, v2, rfl, ⟨⟨t, l, rfl, ht, hl, few⟩, ⟨i, rfl, hi⟩⟩, ha, q⟩ := h
    have ln := int_len hi
    have m1 : ("the shapes " : Str).length ≤ 100 := by decide +kernel
    have m2 : (" and " : Str).length ≤ 100 := by decide +kernel
    have m3 : (" do not go together" : Str).length ≤ 100 := by decide +kernel
    refine ⟨_, (pss_cons (ps_expr (pe_feinit TF (pa_cons (pv 0) (pa_cons (pe_joined (.cons pe_str (.cons (pe_fmtI hr (pv 1)) (.cons pe_str (.cons (pe_fmt (pv 2)) (.cons pe_str .nil)))))) pa_nil))))
 (pss_cons (ps_ost (pv 0) (pv 1))
 (pss_one (ps_ost (pv 0) (pv 2))))), ?_⟩
    refine ⟨_, rfl, _, rfl, by rw [empty_app, sizeLine_eq]; omega, _, rfl, t, l, rfl, ht, hl, few, fun m hm => ⟨_, rfl, by rw [empty_app, app_len, sizeLine_eq]; omega, ?_⟩⟩
    refine ⟨_, rfl, by rw [empty_app, app_len, app_len, sizeLine_eq]; omega, _, rfl, .inr ⟨_, rfl, hi, _, rfl, by rw [empty_app, app_len, app_len, app_len, sizeLine_eq]; omega, ?_⟩⟩
    refine ⟨_, rfl, by rw [empty_app, app_len, app_len, app_len, app_len, sizeLine_eq]; omega, ?_⟩
    refine ⟨a, C, _, rfl, (by show 1 ≤ 1000; decide), hC, ha, ?_⟩
    refine ⟨_, rfl, _, rfl, a, C, rfl, hC, n1, .inl ⟨ha, fun dx hn hne => ?_⟩⟩
    exact ⟨_, rfl, _, rfl, a, C, rfl, hC, n2, .inr ⟨dx, _, upd_same, by rw [upd_ne hne]; exact upd_same, (by show 1 ≤ 900; decide), q dx hn hne⟩⟩
abbrev s_isq : Stmt := inClass (top 7) 0
theorem sc_isq : FnScope ["self", "height", "width"] ["self", "height", "width"] (defScope s_isq) := ⟨rfl, rfl, rfl, by decide +kernel, rfl, by decide +kernel, by decide +kernel⟩
theorem ok_isq {f C CF : Addr} {fd : FuncData} (TF : FErr K mg CF) (hC : OexC K C) (n1 : PySem.W.findIn K (.ref C) "height" = some none) (n2 : PySem.W.findIn K (.ref C) "width" = some none) (F : Fun K "__init__" "NotSquare.__init__" s_isq f fd) : FnOk P w K mg base CX0 1 f fd ["self", "height", "width"] (spInit2 C "height" "width" okII) := by
  refine F.ok sc_isq (fun vs H Q E h => ?_) (fun cdv A outer s H vs Q E hr h => ?_)
  · obtain ⟨a, v1, v2, rfl, _⟩ := h
    rfl
  · obtain ⟨a, v1, v2, rfl, ⟨⟨i, rfl, hi⟩, ⟨j, rfl, hj⟩⟩, ha, q⟩ := h
    have l1 := int_len hi
    have l2 := int_len hj
    have m1 : ("a matrix with " : Str).length ≤ 100 := by decide +kernel
    have m2 : (" rows and " : Str).length ≤ 100 := by decide +kernel
    have m3 : (" columns is not square" : Str).length ≤ 100 := by decide +kernel
    refine ⟨_, (pss_cons (ps_expr (pe_feinit TF (pa_cons (pv 0) (pa_cons (pe_joined (.cons pe_str (.cons (pe_fmt (pv 1)) (.cons pe_str (.cons (pe_fmt (pv 2)) (.cons pe_str .nil)))))) pa_nil))))
 (pss_cons (ps_ost (pv 0) (pv 1))
 (pss_one (ps_ost (pv 0) (pv 2))))), ?_⟩
    refine ⟨_, rfl, _, rfl, by rw [empty_app, sizeLine_eq]; omega, _, rfl, .inr ⟨_, rfl, hi, _, rfl, by rw [empty_app, app_len, sizeLine_eq]; omega, ?_⟩⟩
    refine ⟨_, rfl, by rw [empty_app, app_len, app_len, sizeLine_eq]; omega, _, rfl, .inr ⟨_, rfl, hj, _, rfl, by rw [empty_app, app_len, app_len, app_len, sizeLine_eq]; omega, ?_⟩⟩
    refine ⟨_, rfl, by rw [empty_app, app_len, app_len, app_len, app_len, sizeLine_eq]; omega, ?_⟩
    refine ⟨a, C, _, rfl, (by show 1 ≤ 1000; decide), hC, ha, ?_⟩
    refine ⟨_, rfl, _, rfl, a, C, rfl, hC, n1, .inl ⟨ha, fun dx hn hne => ?_⟩⟩
    exact ⟨_, rfl, _, rfl, a, C, rfl, hC, n2, .inr ⟨dx, _, upd_same, by rw [upd_ne hne]; exact upd_same, (by show 1 ≤ 900; decide), q dx hn hne⟩⟩
/-- a copy of a list as the field -/
def spInitL (K : PySem.W.Frag) (C : Addr) (fld : Str) : Sp := fun vs H Q _ => ∃ (a l : Addr) (xs : List V), vs = [.ref a, .ref l] ∧ SqL K H l xs ∧ H a = some (exo a C none) ∧
  ∀ q d, H q = none → q ≠ a → upd H q (.lst xs) d = none → d ≠ a → Q .non (upd (upd (upd H q (.lst xs)) d (exd d [(fld, .ref q)])) a (exo a C (some d)))
theorem mkL {K : PySem.W.Frag} {C l : Addr} {fld : Str} {xs : List V} {H1 : Hp} {Q : XK} (hl : SqL K H1 l xs) (k : ∀ q d H2, Same H1 H2 → H1 q = none → H2 q = some (.lst xs) → H2 d = some (.xd [(fld, .ref q)]) → Q (.ref C) (some d) H2) :
    ([V.ref l] : List V).length ≤ 1000 ∧ ∀ a, H1 a = none → spInitL K C fld (.ref a :: ([V.ref l] ++ [])) (upd H1 a (exo a C none))
      (fun u H2 => u = .non ∧ ∃ (d : Addr) (fs : List (Str × V)), H2 a = some (exo a C (some d)) ∧ H2 d = some (exd d fs) ∧ H1 d = none ∧ Q (.ref C) (some d) (upd (del H2 a) d (.xd fs))) (fun _ _ _ => False) := by
  refine ⟨(by show 1 ≤ 1000; decide), fun a ha => ⟨a, l, xs, rfl, (same_upd ha).seq hl, upd_same, fun q d hq hqa hd hda => ⟨rfl, d, [(fld, .ref q)], upd_same, ?_, ?_, ?_⟩⟩⟩
  · rw [upd_ne hda, upd_same]
  · have hdq : d ≠ q := fun z => by
      rw [z, upd_same] at hd
      cases hd
    rw [upd_ne hdq, upd_ne hda] at hd
    exact hd
  · have hdq : d ≠ q := fun z => by
      rw [z, upd_same] at hd
      cases hd
    rw [upd_ne hdq, upd_ne hda] at hd
    rw [upd_ne hqa] at hq
    refine k q d _ (fun b o e => ?_) hq ?_ upd_same
    · have hba := ne_of_none e ha
      have hbd := ne_of_none e hd
      have hbq := ne_of_none e hq
      rw [upd_ne hbd, del_ne hba, upd_ne hba, upd_ne hbd, upd_ne hbq, upd_ne hba]
      exact e
    · rw [upd_ne (Ne.symm hdq), del_ne hqa, upd_ne hqa, upd_ne (Ne.symm hdq)]
      exact upd_same
abbrev s_ico : Stmt := inClass (top 13) 0
theorem sc_ico : FnScope ["self", "clash"] ["self", "clash"] (defScope s_ico) := ⟨rfl, rfl, rfl, by decide +kernel, rfl, by decide +kernel, by decide +kernel⟩
theorem ok_ico {f C CF : Addr} {fd : FuncData} (T : Txt mg) (TF : FErr K mg CF) (hC : OexC K C) (hno : PySem.W.findIn K (.ref C) "clash" = some none) (F : Fun K "__init__" "Contradiction.__init__" s_ico f fd) : FnOk P w K mg base CX0 1 f fd ["self", "clash"] (spInitL K C "clash") := by
  refine F.ok sc_ico (fun vs H Q E h => ?_) (fun cdv A outer s H vs Q E hr h => ?_)
  · obtain ⟨a, l, xs, rfl, _⟩ := h
    rfl
  · obtain ⟨a, l, xs, rfl, hl, ha, q⟩ := h
    refine ⟨_, (pss_cons (ps_expr (pe_feinit TF (pa_cons (pv 0) (pa_cons pe_str pa_nil))))
 (pss_one (ps_ost (pv 0) (pe_callTy call_list_of (by rfl) T.list boot_list (pa_cons (pv 1) pa_nil))))), ?_⟩
    refine ⟨_, rfl, a, C, _, rfl, (by show 1 ≤ 1000; decide), hC, ha, ?_⟩
    refine ⟨_, rfl, l, xs, rfl, .inl hl, fun q1 nq => ?_⟩
    have hqa : q1 ≠ a := (ne_of_none ha nq).symm
    exact ⟨_, rfl, a, C, rfl, hC, hno, .inl ⟨(same_upd nq) _ _ ha, fun dx hn hne => q q1 dx nq hqa hn hne⟩⟩
/-- no field -/
def spInit0 (C : Addr) : Sp := fun vs H Q _ => ∃ a : Addr, vs = [.ref a] ∧ H a = some (exo a C none) ∧ Q .non H
theorem mk0 {C : Addr} {σ : L2.St} {H1 : Hp} {Q : XK} (k : ∀ H2, Same H1 H2 → Q (.ref C) none H2) : tMkZ C (spInit0 C) σ H1 Q := fun a ha => ⟨a, rfl, upd_same, rfl, upd_same, k _ fun b o e => by
  have hba := ne_of_none e ha
  rw [del_ne hba, upd_ne hba]
  exact e⟩
abbrev s_ins : Stmt := inClass (top 8) 0
theorem sc_ins : FnScope ["self"] ["self"] (defScope s_ins) := ⟨rfl, rfl, rfl, by decide +kernel, rfl, by decide +kernel, by decide +kernel⟩
theorem ok_ins {f C CF : Addr} {fd : FuncData} (TF : FErr K mg CF) (hC : OexC K C) (F : Fun K "__init__" "NoSolution.__init__" s_ins f fd) : FnOk P w K mg base CX0 1 f fd ["self"] (spInit0 C) := by
  refine F.ok sc_ins (fun vs H Q E h => ?_) (fun cdv A outer s H vs Q E hr h => ?_)
  · obtain ⟨a, rfl, _⟩ := h
    rfl
  · obtain ⟨a, rfl, ha, q⟩ := h
    refine ⟨_, (pss_one (ps_expr (pe_feinit TF (pa_cons (pv 0) (pa_cons pe_str pa_nil))))), ?_⟩
    exact ⟨_, rfl, a, C, _, rfl, (by show 1 ≤ 1000; decide), hC, ha, q⟩
abbrev s_ini : Stmt := inClass (top 9) 0
theorem sc_ini : FnScope ["self"] ["self"] (defScope s_ini) := ⟨rfl, rfl, rfl, by decide +kernel, rfl, by decide +kernel, by decide +kernel⟩
theorem ok_ini {f C CF : Addr} {fd : FuncData} (TF : FErr K mg CF) (hC : OexC K C) (F : Fun K "__init__" "NoInverse.__init__" s_ini f fd) : FnOk P w K mg base CX0 1 f fd ["self"] (spInit0 C) := by
  refine F.ok sc_ini (fun vs H Q E h => ?_) (fun cdv A outer s H vs Q E hr h => ?_)
  · obtain ⟨a, rfl, _⟩ := h
    rfl
  · obtain ⟨a, rfl, ha, q⟩ := h
    refine ⟨_, (pss_one (ps_expr (pe_feinit TF (pa_cons (pv 0) (pa_cons pe_str pa_nil))))), ?_⟩
    exact ⟨_, rfl, a, C, _, rfl, (by show 1 ≤ 1000; decide), hC, ha, q⟩
abbrev s_inu : Stmt := inClass (top 14) 0
theorem sc_inu : FnScope ["self"] ["self"] (defScope s_inu) := ⟨rfl, rfl, rfl, by decide +kernel, rfl, by decide +kernel, by decide +kernel⟩
theorem ok_inu {f C CF : Addr} {fd : FuncData} (TF : FErr K mg CF) (hC : OexC K C) (F : Fun K "__init__" "NothingToUndo.__init__" s_inu f fd) : FnOk P w K mg base CX0 1 f fd ["self"] (spInit0 C) := by
  refine F.ok sc_inu (fun vs H Q E h => ?_) (fun cdv A outer s H vs Q E hr h => ?_)
  · obtain ⟨a, rfl, _⟩ := h
    rfl
  · obtain ⟨a, rfl, ha, q⟩ := h
    refine ⟨_, (pss_one (ps_expr (pe_feinit TF (pa_cons (pv 0) (pa_cons pe_str pa_nil))))), ?_⟩
    exact ⟨_, rfl, a, C, _, rfl, (by show 1 ≤ 1000; decide), hC, ha, q⟩
/-- the thirteen classes -/
structure C13 where
  bn : Addr
  bc : Addr
  bt : Addr
  br : Addr
  us : Addr
  sq : Addr
  ns : Addr
  ni : Addr
  bs : Addr
  un : Addr
  nt : Addr
  co : Addr
  nu : Addr
def C13.at (c : C13) : Nat → Addr
  | 0 => c.bn
  | 1 => c.bc
  | 2 => c.bt
  | 3 => c.br
  | 4 => c.us
  | 5 => c.sq
  | 6 => c.ns
  | 7 => c.ni
  | 8 => c.bs
  | 9 => c.un
  | 10 => c.nt
  | 11 => c.co
  | _ => c.nu
/-- the fields, u1 and u2 the arguments (u1 a copy where the argument is a list) -/
def Fl (u1 u2 : V) : Nat → List (Str × V)
  | 0 => [("n", u1)]
  | 1 => [("p", u1)]
  | 2 => [("at", u1)]
  | 3 => [("at", u1)]
  | 4 => [("second", u2), ("first", u1)]
  | 5 => [("width", u2), ("height", u1)]
  | 6 => []
  | 7 => []
  | 8 => [("at", u1)]
  | 9 => [("name", u1)]
  | 10 => [("name", u1)]
  | 11 => [("clash", u1)]
  | _ => []
/-- .. as the law lists them -/
def vals01 {α : Type} (u1 u2 : α) : Nat → List α
  | 4 => [u1, u2]
  | 5 => [u1, u2]
  | 6 => []
  | 7 => []
  | 12 => []
  | _ => [u1]
/-- what the message asks of the arguments -/
def Arg01 (K : PySem.W.Frag) (v1 v2 : V) (xs : List V) (H : Hp) : Nat → Prop
  | 2 => okI v1
  | 3 => okI v1
  | 4 => okTI K v1 v2 H
  | 5 => okII v1 v2 H
  | 8 => okI v1
  | 9 => okS v1
  | 10 => okS v1
  | 11 => ∃ l : Addr, v1 = .ref l ∧ SqL K H l xs
  | _ => True
/-- u1 is v1, or a copy of the list that it is -/
def Copy01 (v1 u1 : V) (xs : List V) (H H' : Hp) (k : Nat) : Prop := (k ≠ 11 ∧ u1 = v1) ∨ (k = 11 ∧ ∃ q : Addr, u1 = .ref q ∧ H q = none ∧ H' q = some (.lst xs))
theorem none_same {H H' : Hp} {d : Addr} (s : Same H H') (h : H' d = none) : H d = none := by
  cases e : H d with
  | none => rfl
  | some o =>
    rw [s _ _ e] at h
    cases h
abbrev s_lraise : Stmt := top 19
theorem sc_lraise : FnScope ["_law_which", "_law_first", "_law_second"] ["_law_which", "_law_first", "_law_second"] (defScope s_lraise) := ⟨rfl, rfl, rfl, by decide +kernel, rfl, by decide +kernel, by decide +kernel⟩
def spRaise (c : C13) (K : PySem.W.Frag) : Sp := fun vs H Q E => ∃ (k : Nat) (v1 v2 : V) (xs : List V), vs = [.int (k : Int), v1, v2] ∧ k < 13 ∧ Arg01 K v1 v2 xs H k ∧
  ∀ (d : Option Addr) (u1 : V) (H' : Hp), Same H H' → DictAt H' d (Fl u1 v2 k) → Copy01 v1 u1 xs H H' k → E (.ref (c.at k)) d H'
theorem ok_lraise {f : Addr} {fd : FuncData} {c : C13} (F : Fun K "_law_raise" "_law_raise" s_lraise f fd)
    (x_bn : ErG P w K mg base "BadNumber" c.bn (spInitP c.bn "n" okT))
    (x_bc : ErG P w K mg base "BadCharacteristic" c.bc (spInitP c.bc "p" okT))
    (x_bt : ErG P w K mg base "BadText" c.bt (spInitP c.bt "at" okI))
    (x_br : ErG P w K mg base "BadRow" c.br (spInitP c.br "at" okI))
    (x_us : ErG P w K mg base "UnlikeShapes" c.us (spInit2 c.us "first" "second" (okTI K)))
    (x_sq : ErG P w K mg base "NotSquare" c.sq (spInit2 c.sq "height" "width" okII))
    (x_ns : ErG P w K mg base "NoSolution" c.ns (spInit0 c.ns))
    (x_ni : ErG P w K mg base "NoInverse" c.ni (spInit0 c.ni))
    (x_bs : ErG P w K mg base "BadStep" c.bs (spInitP c.bs "at" okI))
    (x_un : ErG P w K mg base "UnknownName" c.un (spInitP c.un "name" okS))
    (x_nt : ErG P w K mg base "NameTaken" c.nt (spInitP c.nt "name" okS))
    (x_co : ErG P w K mg base "Contradiction" c.co (spInitL K c.co "clash"))
    (x_nu : ErG P w K mg base "NothingToUndo" c.nu (spInit0 c.nu))
    : FnOk P w K mg base (L2N.CX P w) 3 f fd ["_law_which", "_law_first", "_law_second"] (spRaise c K) := by
  refine okN F sc_lraise (fun vs H Q E h => ?_) (fun cdv A outer s H vs Q E hr h => ?_)
  · obtain ⟨k, v1, v2, xs, rfl, _⟩ := h
    rfl
  · obtain ⟨k, v1, v2, xs, rfl, hk, ok, q⟩ := h
    have at_k : ∀ j : Nat, decide (V.int (k : Int) = V.int (j : Int)) = decide (k = j) := fun j => by
      by_cases e : k = j
      · rw [e, decide_eq_true rfl, decide_eq_true rfl]
      · rw [decide_eq_false e, decide_eq_false fun z => e (by have := V.int.inj z; omega)]
    refine ⟨_, (pss_cons (ps_if (pt_cmpR op_eq (pv 0) pe_int (nomark _)) (pss_one (ps_raiseG x_bn hr (L2N.takes_of rfl rfl rfl rfl) (pa_cons (pv 1) pa_nil))) pss_nil)
 (pss_cons (ps_if (pt_cmpR op_eq (pv 0) pe_int (nomark _)) (pss_one (ps_raiseG x_bc hr (L2N.takes_of rfl rfl rfl rfl) (pa_cons (pv 1) pa_nil))) pss_nil)
 (pss_cons (ps_if (pt_cmpR op_eq (pv 0) pe_int (nomark _)) (pss_one (ps_raiseG x_bt hr (L2N.takes_of rfl rfl rfl rfl) (pa_cons (pv 1) pa_nil))) pss_nil)
 (pss_cons (ps_if (pt_cmpR op_eq (pv 0) pe_int (nomark _)) (pss_one (ps_raiseG x_br hr (L2N.takes_of rfl rfl rfl rfl) (pa_cons (pv 1) pa_nil))) pss_nil)
 (pss_cons (ps_if (pt_cmpR op_eq (pv 0) pe_int (nomark _)) (pss_one (ps_raiseG x_us hr (L2N.takes_of rfl rfl rfl rfl) (pa_cons (pv 1) (pa_cons (pv 2) pa_nil)))) pss_nil)
 (pss_cons (ps_if (pt_cmpR op_eq (pv 0) pe_int (nomark _)) (pss_one (ps_raiseG x_sq hr (L2N.takes_of rfl rfl rfl rfl) (pa_cons (pv 1) (pa_cons (pv 2) pa_nil)))) pss_nil)
 (pss_cons (ps_if (pt_cmpR op_eq (pv 0) pe_int (nomark _)) (pss_one (ps_raiseZ x_ns hr (L2N.takes_of rfl rfl rfl rfl))) pss_nil)
 (pss_cons (ps_if (pt_cmpR op_eq (pv 0) pe_int (nomark _)) (pss_one (ps_raiseZ x_ni hr (L2N.takes_of rfl rfl rfl rfl))) pss_nil)
 (pss_cons (ps_if (pt_cmpR op_eq (pv 0) pe_int (nomark _)) (pss_one (ps_raiseG x_bs hr (L2N.takes_of rfl rfl rfl rfl) (pa_cons (pv 1) pa_nil))) pss_nil)
 (pss_cons (ps_if (pt_cmpR op_eq (pv 0) pe_int (nomark _)) (pss_one (ps_raiseG x_un hr (L2N.takes_of rfl rfl rfl rfl) (pa_cons (pv 1) pa_nil))) pss_nil)
 (pss_cons (ps_if (pt_cmpR op_eq (pv 0) pe_int (nomark _)) (pss_one (ps_raiseG x_nt hr (L2N.takes_of rfl rfl rfl rfl) (pa_cons (pv 1) pa_nil))) pss_nil)
 (pss_cons (ps_if (pt_cmpR op_eq (pv 0) pe_int (nomark _)) (pss_one (ps_raiseG x_co hr (L2N.takes_of rfl rfl rfl rfl) (pa_cons (pv 1) pa_nil))) pss_nil)
 (pss_one (ps_raiseZ x_nu hr (L2N.takes_of rfl rfl rfl rfl))))))))))))))), ?_⟩
    refine ⟨_, rfl, rfl, _, rfl, ?_⟩
    by_cases e0 : k = 0
    · subst e0
      refine if_pos_of rfl ?_
      exact ⟨_, rfl, mkP trivial fun d H2 s2 _ hd => q (some d) v1 H2 s2 (.inr ⟨d, rfl, hd⟩) (.inl ⟨by decide, rfl⟩)⟩
    refine if_neg_of ((at_k 0).trans (decide_eq_false e0)) ?_
    refine ⟨_, rfl, rfl, _, rfl, ?_⟩
    by_cases e1 : k = 1
    · subst e1
      refine if_pos_of rfl ?_
      exact ⟨_, rfl, mkP trivial fun d H2 s2 _ hd => q (some d) v1 H2 s2 (.inr ⟨d, rfl, hd⟩) (.inl ⟨by decide, rfl⟩)⟩
    refine if_neg_of ((at_k 1).trans (decide_eq_false e1)) ?_
    refine ⟨_, rfl, rfl, _, rfl, ?_⟩
    by_cases e2 : k = 2
    · subst e2
      refine if_pos_of rfl ?_
      exact ⟨_, rfl, mkP ok fun d H2 s2 _ hd => q (some d) v1 H2 s2 (.inr ⟨d, rfl, hd⟩) (.inl ⟨by decide, rfl⟩)⟩
    refine if_neg_of ((at_k 2).trans (decide_eq_false e2)) ?_
    refine ⟨_, rfl, rfl, _, rfl, ?_⟩
    by_cases e3 : k = 3
    · subst e3
      refine if_pos_of rfl ?_
      exact ⟨_, rfl, mkP ok fun d H2 s2 _ hd => q (some d) v1 H2 s2 (.inr ⟨d, rfl, hd⟩) (.inl ⟨by decide, rfl⟩)⟩
    refine if_neg_of ((at_k 3).trans (decide_eq_false e3)) ?_
    refine ⟨_, rfl, rfl, _, rfl, ?_⟩
    by_cases e4 : k = 4
    · subst e4
      refine if_pos_of rfl ?_
      exact ⟨_, rfl, _, rfl, mk2 (fun a ha => ⟨by obtain ⟨⟨t, l, h1, h2, h3⟩, _⟩ := ok; exact ⟨t, l, h1, Evl.ex_t (same_upd ha) h2, h3⟩, ok.2⟩) fun d H2 s2 _ hd => q (some d) v1 H2 s2 (.inr ⟨d, rfl, hd⟩) (.inl ⟨by decide, rfl⟩)⟩
    refine if_neg_of ((at_k 4).trans (decide_eq_false e4)) ?_
    refine ⟨_, rfl, rfl, _, rfl, ?_⟩
    by_cases e5 : k = 5
    · subst e5
      refine if_pos_of rfl ?_
      exact ⟨_, rfl, _, rfl, mk2 (fun _ _ => ok) fun d H2 s2 _ hd => q (some d) v1 H2 s2 (.inr ⟨d, rfl, hd⟩) (.inl ⟨by decide, rfl⟩)⟩
    refine if_neg_of ((at_k 5).trans (decide_eq_false e5)) ?_
    refine ⟨_, rfl, rfl, _, rfl, ?_⟩
    by_cases e6 : k = 6
    · subst e6
      refine if_pos_of rfl ?_
      exact mk0 (σ := []) fun H2 s2 => q none v1 H2 s2 (.inl ⟨rfl, rfl⟩) (.inl ⟨by decide, rfl⟩)
    refine if_neg_of ((at_k 6).trans (decide_eq_false e6)) ?_
    refine ⟨_, rfl, rfl, _, rfl, ?_⟩
    by_cases e7 : k = 7
    · subst e7
      refine if_pos_of rfl ?_
      exact mk0 (σ := []) fun H2 s2 => q none v1 H2 s2 (.inl ⟨rfl, rfl⟩) (.inl ⟨by decide, rfl⟩)
    refine if_neg_of ((at_k 7).trans (decide_eq_false e7)) ?_
    refine ⟨_, rfl, rfl, _, rfl, ?_⟩
    by_cases e8 : k = 8
    · subst e8
      refine if_pos_of rfl ?_
      exact ⟨_, rfl, mkP ok fun d H2 s2 _ hd => q (some d) v1 H2 s2 (.inr ⟨d, rfl, hd⟩) (.inl ⟨by decide, rfl⟩)⟩
    refine if_neg_of ((at_k 8).trans (decide_eq_false e8)) ?_
    refine ⟨_, rfl, rfl, _, rfl, ?_⟩
    by_cases e9 : k = 9
    · subst e9
      refine if_pos_of rfl ?_
      exact ⟨_, rfl, mkP ok fun d H2 s2 _ hd => q (some d) v1 H2 s2 (.inr ⟨d, rfl, hd⟩) (.inl ⟨by decide, rfl⟩)⟩
    refine if_neg_of ((at_k 9).trans (decide_eq_false e9)) ?_
    refine ⟨_, rfl, rfl, _, rfl, ?_⟩
    by_cases e10 : k = 10
    · subst e10
      refine if_pos_of rfl ?_
      exact ⟨_, rfl, mkP ok fun d H2 s2 _ hd => q (some d) v1 H2 s2 (.inr ⟨d, rfl, hd⟩) (.inl ⟨by decide, rfl⟩)⟩
    refine if_neg_of ((at_k 10).trans (decide_eq_false e10)) ?_
    refine ⟨_, rfl, rfl, _, rfl, ?_⟩
    by_cases e11 : k = 11
    · subst e11
      refine if_pos_of rfl ?_
      obtain ⟨l, rfl, hl⟩ := ok
      exact ⟨_, rfl, mkL hl fun p d H2 s2 np hp hd => q (some d) (.ref p) H2 s2 (.inr ⟨d, rfl, hd⟩) (.inr ⟨rfl, p, rfl, np, hp⟩)⟩
    refine if_neg_of ((at_k 11).trans (decide_eq_false e11)) ?_
    have e12 : k = 12 := by omega
    subst e12
    exact mk0 (σ := []) fun H2 s2 => q none v1 H2 s2 (.inl ⟨rfl, rfl⟩) (.inl ⟨by decide, rfl⟩)
abbrev s_lflags : Stmt := top 20
theorem sc_lflags : FnScope ["_law_e", "_law_flags_here"] ["_law_e"] (defScope s_lflags) := ⟨rfl, rfl, rfl, by decide +kernel, rfl, by decide +kernel, by decide +kernel⟩
def spFlags (c : C13) (K : PySem.W.Frag) : SpE := fun a cls d vs H Q _ => ∃ (k : Nat) (fs : List (Str × V)), vs = [.ref a] ∧ k < 13 ∧ cls = .ref (c.at k) ∧ DictAt H d fs ∧ ∀ r H', Same H H' → H' r = some (.lst ((List.range 13).map fun j => V.bl (decide (k = j)))) → Q (.ref r) H'
theorem ok_lflags {f : Addr} {fd : FuncData} {c : C13} (T : Txt mg) (F : Fun K "_law_flags" "_law_flags" s_lflags f fd) (ex : ∀ k, k < 13 → ExcC K (c.at k)) (kt : ∀ i j, i < 13 → j < 13 → PySem.W.kitOne K (.ref (c.at i)) (.ref (c.at j)) = some (decide (i = j)))
    (g_bn : mg "BadNumber" = some (.ref c.bn)) (g_bc : mg "BadCharacteristic" = some (.ref c.bc)) (g_bt : mg "BadText" = some (.ref c.bt)) (g_br : mg "BadRow" = some (.ref c.br)) (g_us : mg "UnlikeShapes" = some (.ref c.us)) (g_sq : mg "NotSquare" = some (.ref c.sq)) (g_ns : mg "NoSolution" = some (.ref c.ns)) (g_ni : mg "NoInverse" = some (.ref c.ni)) (g_bs : mg "BadStep" = some (.ref c.bs)) (g_un : mg "UnknownName" = some (.ref c.un)) (g_nt : mg "NameTaken" = some (.ref c.nt)) (g_co : mg "Contradiction" = some (.ref c.co)) (g_nu : mg "NothingToUndo" = some (.ref c.nu))
    : FnP P w K mg base 1 f fd ["_law_e"] (spFlags c K) := by
  refine fnp_of F sc_lflags (fun a cls d vs H Q E h => ?_) (fun cdv A outer s H vs Q E p cls d hot zn hr h => ?_)
  · obtain ⟨k, fs, rfl, _⟩ := h
    rfl
  · obtain ⟨k, fs, rfl, hk, rfl, hd, q⟩ := h
    have held := held_def (CX := CX0) (P := P) (w := w) (K := K) (mg := mg) (base := base) (N := ["_law_e", "_law_flags_here"]) (qual := "_law_flags") (sc := defScope s_lflags) (f := f) (cd := cdv) (outer := outer) (s := s) (H := H) (E := E) hot zn
    refine ⟨_, (pss_cons (ps_set (i := 1) sc_lflags.nd rfl (Or.inl rfl) (pe_lst (pa_cons (pe_callB (call_isP rfl held) (by rfl) T.isinstance boot_isinstance (pa_cons (pv 0) (pa_cons (pe_glob (v := .ref c.bn) (by rfl) g_bn rfl) pa_nil))) (pa_cons (pe_callB (call_isP rfl held) (by rfl) T.isinstance boot_isinstance (pa_cons (pv 0) (pa_cons (pe_glob (v := .ref c.bc) (by rfl) g_bc rfl) pa_nil))) (pa_cons (pe_callB (call_isP rfl held) (by rfl) T.isinstance boot_isinstance (pa_cons (pv 0) (pa_cons (pe_glob (v := .ref c.bt) (by rfl) g_bt rfl) pa_nil))) (pa_cons (pe_callB (call_isP rfl held) (by rfl) T.isinstance boot_isinstance (pa_cons (pv 0) (pa_cons (pe_glob (v := .ref c.br) (by rfl) g_br rfl) pa_nil))) pa_nil))))))
 (pss_cons (ps_set (i := 1) sc_lflags.nd rfl (Or.inl rfl) (pe_op op_cat (pv 1) (pe_lst (pa_cons (pe_callB (call_isP rfl held) (by rfl) T.isinstance boot_isinstance (pa_cons (pv 0) (pa_cons (pe_glob (v := .ref c.us) (by rfl) g_us rfl) pa_nil))) (pa_cons (pe_callB (call_isP rfl held) (by rfl) T.isinstance boot_isinstance (pa_cons (pv 0) (pa_cons (pe_glob (v := .ref c.sq) (by rfl) g_sq rfl) pa_nil))) (pa_cons (pe_callB (call_isP rfl held) (by rfl) T.isinstance boot_isinstance (pa_cons (pv 0) (pa_cons (pe_glob (v := .ref c.ns) (by rfl) g_ns rfl) pa_nil))) pa_nil))))))
 (pss_cons (ps_set (i := 1) sc_lflags.nd rfl (Or.inl rfl) (pe_op op_cat (pv 1) (pe_lst (pa_cons (pe_callB (call_isP rfl held) (by rfl) T.isinstance boot_isinstance (pa_cons (pv 0) (pa_cons (pe_glob (v := .ref c.ni) (by rfl) g_ni rfl) pa_nil))) (pa_cons (pe_callB (call_isP rfl held) (by rfl) T.isinstance boot_isinstance (pa_cons (pv 0) (pa_cons (pe_glob (v := .ref c.bs) (by rfl) g_bs rfl) pa_nil))) (pa_cons (pe_callB (call_isP rfl held) (by rfl) T.isinstance boot_isinstance (pa_cons (pv 0) (pa_cons (pe_glob (v := .ref c.un) (by rfl) g_un rfl) pa_nil))) pa_nil))))))
 (pss_one (ps_ret (pe_op op_cat (pv 1) (pe_lst (pa_cons (pe_callB (call_isP rfl held) (by rfl) T.isinstance boot_isinstance (pa_cons (pv 0) (pa_cons (pe_glob (v := .ref c.nt) (by rfl) g_nt rfl) pa_nil))) (pa_cons (pe_callB (call_isP rfl held) (by rfl) T.isinstance boot_isinstance (pa_cons (pv 0) (pa_cons (pe_glob (v := .ref c.co) (by rfl) g_co rfl) pa_nil))) (pa_cons (pe_callB (call_isP rfl held) (by rfl) T.isinstance boot_isinstance (pa_cons (pv 0) (pa_cons (pe_glob (v := .ref c.nu) (by rfl) g_nu rfl) pa_nil))) pa_nil)))))))))), ?_⟩
    refine ⟨_, rfl, c.at k, .ref (c.at 0), .ref (c.at 0), _, fs, rfl, rfl, ex k hk, hd, (fun _ z => z), kt k 0 hk (by decide), _, rfl, c.at k, .ref (c.at 1), .ref (c.at 1), _, fs, rfl, rfl, ex k hk, hd, (fun _ z => z), kt k 1 hk (by decide), _, rfl, c.at k, .ref (c.at 2), .ref (c.at 2), _, fs, rfl, rfl, ex k hk, hd, (fun _ z => z), kt k 2 hk (by decide), _, rfl, c.at k, .ref (c.at 3), .ref (c.at 3), _, fs, rfl, rfl, ex k hk, hd, (fun _ z => z), kt k 3 hk (by decide), (by show 4 ≤ sizeLine; decide), fun a1 n1 => ?_⟩
    have s1 := same_upd (o := .lst [.bl (decide (k = 0)), .bl (decide (k = 1)), .bl (decide (k = 2)), .bl (decide (k = 3))]) n1
    have d1 := hd.same s1
    refine ⟨_, rfl, _, rfl, c.at k, .ref (c.at 4), .ref (c.at 4), _, fs, rfl, rfl, ex k hk, d1, (fun _ z => z), kt k 4 hk (by decide), _, rfl, c.at k, .ref (c.at 5), .ref (c.at 5), _, fs, rfl, rfl, ex k hk, d1, (fun _ z => z), kt k 5 hk (by decide), _, rfl, c.at k, .ref (c.at 6), .ref (c.at 6), _, fs, rfl, rfl, ex k hk, d1, (fun _ z => z), kt k 6 hk (by decide), (by show 3 ≤ sizeLine; decide), fun a2 n2 => ?_⟩
    have s2 := same_upd (o := .lst [.bl (decide (k = 4)), .bl (decide (k = 5)), .bl (decide (k = 6))]) n2
    refine ⟨a1, a2, _, _, rfl, rfl, s2 _ _ upd_same, upd_same, (by show 7 ≤ sizeLine; decide), fun a3 n3 => ?_⟩
    have s3 := same_upd (o := .lst ([.bl (decide (k = 0)), .bl (decide (k = 1)), .bl (decide (k = 2)), .bl (decide (k = 3))] ++ [.bl (decide (k = 4)), .bl (decide (k = 5)), .bl (decide (k = 6))])) n3
    have d3 := d1.same (s2.trans s3)
    refine ⟨_, rfl, _, rfl, c.at k, .ref (c.at 7), .ref (c.at 7), _, fs, rfl, rfl, ex k hk, d3, (fun _ z => z), kt k 7 hk (by decide), _, rfl, c.at k, .ref (c.at 8), .ref (c.at 8), _, fs, rfl, rfl, ex k hk, d3, (fun _ z => z), kt k 8 hk (by decide), _, rfl, c.at k, .ref (c.at 9), .ref (c.at 9), _, fs, rfl, rfl, ex k hk, d3, (fun _ z => z), kt k 9 hk (by decide), (by show 3 ≤ sizeLine; decide), fun a4 n4 => ?_⟩
    have s4 := same_upd (o := .lst [.bl (decide (k = 7)), .bl (decide (k = 8)), .bl (decide (k = 9))]) n4
    refine ⟨a3, a4, _, _, rfl, rfl, s4 _ _ upd_same, upd_same, (by show 10 ≤ sizeLine; decide), fun a5 n5 => ?_⟩
    have s5 := same_upd (o := .lst ([.bl (decide (k = 0)), .bl (decide (k = 1)), .bl (decide (k = 2)), .bl (decide (k = 3))] ++ [.bl (decide (k = 4)), .bl (decide (k = 5)), .bl (decide (k = 6))] ++ [.bl (decide (k = 7)), .bl (decide (k = 8)), .bl (decide (k = 9))])) n5
    have d5 := d3.same (s4.trans s5)
    refine ⟨_, rfl, _, rfl, c.at k, .ref (c.at 10), .ref (c.at 10), _, fs, rfl, rfl, ex k hk, d5, (fun _ z => z), kt k 10 hk (by decide), _, rfl, c.at k, .ref (c.at 11), .ref (c.at 11), _, fs, rfl, rfl, ex k hk, d5, (fun _ z => z), kt k 11 hk (by decide), _, rfl, c.at k, .ref (c.at 12), .ref (c.at 12), _, fs, rfl, rfl, ex k hk, d5, (fun _ z => z), kt k 12 hk (by decide), (by show 3 ≤ sizeLine; decide), fun a6 n6 => ?_⟩
    have s6 := same_upd (o := .lst [.bl (decide (k = 10)), .bl (decide (k = 11)), .bl (decide (k = 12))]) n6
    refine ⟨a5, a6, _, _, rfl, rfl, s6 _ _ upd_same, upd_same, (by show 13 ≤ sizeLine; decide), fun a7 n7 => ?_⟩
    exact q a7 _ ((((s1.trans s2).trans s3).trans (s4.trans s5)).trans (s6.trans (same_upd n7))) upd_same
abbrev s_lfields : Stmt := top 21
theorem sc_lfields : FnScope ["_law_which", "_law_e"] ["_law_which", "_law_e"] (defScope s_lfields) := ⟨rfl, rfl, rfl, by decide +kernel, rfl, by decide +kernel, by decide +kernel⟩
def spFields (c : C13) : SpE := fun a cls d vs H Q _ => ∃ (k : Nat) (u1 u2 : V), vs = [.int (k : Int), .ref a] ∧ k < 13 ∧ cls = .ref (c.at k) ∧ DictAt H d (Fl u1 u2 k) ∧ ∀ r H', Same H H' → H' r = some (.lst (vals01 u1 u2 k)) → Q (.ref r) H'
theorem ok_lfields {f : Addr} {fd : FuncData} {c : C13} (F : Fun K "_law_fields" "_law_fields" s_lfields f fd) (xf : ∀ k, k < 13 → XfC K (c.at k))
    (no_0_n : PySem.W.findIn K (.ref (c.at 0)) "n" = some none) (no_1_p : PySem.W.findIn K (.ref (c.at 1)) "p" = some none) (no_2_at : PySem.W.findIn K (.ref (c.at 2)) "at" = some none) (no_3_at : PySem.W.findIn K (.ref (c.at 3)) "at" = some none) (no_4_first : PySem.W.findIn K (.ref (c.at 4)) "first" = some none) (no_4_second : PySem.W.findIn K (.ref (c.at 4)) "second" = some none) (no_5_height : PySem.W.findIn K (.ref (c.at 5)) "height" = some none) (no_5_width : PySem.W.findIn K (.ref (c.at 5)) "width" = some none) (no_8_at : PySem.W.findIn K (.ref (c.at 8)) "at" = some none) (no_9_name : PySem.W.findIn K (.ref (c.at 9)) "name" = some none) (no_10_name : PySem.W.findIn K (.ref (c.at 10)) "name" = some none) (no_11_clash : PySem.W.findIn K (.ref (c.at 11)) "clash" = some none)
    : FnP P w K mg base 1 f fd ["_law_which", "_law_e"] (spFields c) := by
  refine fnp_of F sc_lfields (fun a cls d vs H Q E h => ?_) (fun cdv A outer s H vs Q E p cls d hot zn hr h => ?_)
  · obtain ⟨k, u1, u2, rfl, _⟩ := h
    rfl
  · obtain ⟨k, u1, u2, rfl, hk, rfl, hd, q⟩ := h
    have held := held_def (CX := CX0) (P := P) (w := w) (K := K) (mg := mg) (base := base) (N := ["_law_which", "_law_e"]) (qual := "_law_fields") (sc := defScope s_lfields) (f := f) (cd := cdv) (outer := outer) (s := s) (H := H) (E := E) hot zn
    have at_k : ∀ j : Nat, decide (V.int (k : Int) = V.int (j : Int)) = decide (k = j) := fun j => by
      by_cases e : k = j
      · rw [e, decide_eq_true rfl, decide_eq_true rfl]
      · rw [decide_eq_false e, decide_eq_false fun z => e (by have := V.int.inj z; omega)]
    have some_d : Fl u1 u2 k ≠ [] → ∃ dd, d = some dd ∧ H dd = some (.xd (Fl u1 u2 k)) := fun h => by
      rcases hd with ⟨_, e⟩ | e
      · exact absurd e h
      · exact e
    refine ⟨_, (pss_cons (ps_if (pt_cmpR op_eq (pv 0) pe_int (nomark _)) (pss_one (ps_ret (pe_lst (pa_cons (pe_fldP (K := K) rfl held (pv 1)) pa_nil)))) pss_nil)
 (pss_cons (ps_if (pt_cmpR op_eq (pv 0) pe_int (nomark _)) (pss_one (ps_ret (pe_lst (pa_cons (pe_fldP (K := K) rfl held (pv 1)) pa_nil)))) pss_nil)
 (pss_cons (ps_if (pw_or (pt_cmpR op_eq (pv 0) pe_int (nomark _)) (pw_or (pt_cmpR op_eq (pv 0) pe_int (nomark _)) (pw_or1 (pt_cmpR op_eq (pv 0) pe_int (nomark _))))).pt (pss_one (ps_ret (pe_lst (pa_cons (pe_fldP (K := K) rfl held (pv 1)) pa_nil)))) pss_nil)
 (pss_cons (ps_if (pt_cmpR op_eq (pv 0) pe_int (nomark _)) (pss_one (ps_ret (pe_lst (pa_cons (pe_fldP (K := K) rfl held (pv 1)) (pa_cons (pe_fldP (K := K) rfl held (pv 1)) pa_nil))))) pss_nil)
 (pss_cons (ps_if (pt_cmpR op_eq (pv 0) pe_int (nomark _)) (pss_one (ps_ret (pe_lst (pa_cons (pe_fldP (K := K) rfl held (pv 1)) (pa_cons (pe_fldP (K := K) rfl held (pv 1)) pa_nil))))) pss_nil)
 (pss_cons (ps_if (pw_or (pt_cmpR op_eq (pv 0) pe_int (nomark _)) (pw_or1 (pt_cmpR op_eq (pv 0) pe_int (nomark _)))).pt (pss_one (ps_ret (pe_lst (pa_cons (pe_fldP (K := K) rfl held (pv 1)) pa_nil)))) pss_nil)
 (pss_cons (ps_if (pt_cmpR op_eq (pv 0) pe_int (nomark _)) (pss_one (ps_ret (pe_lst (pa_cons (pe_fldP (K := K) rfl held (pv 1)) pa_nil)))) pss_nil)
 (pss_one (ps_ret (pe_lst pa_nil)))))))))), ?_⟩
    refine ⟨_, rfl, rfl, _, rfl, ?_⟩
    by_cases e0 : k = 0
    · subst e0
      refine if_pos_of rfl ?_
      have sd := some_d (fun z => nomatch z)
      exact ⟨_, rfl, c.at 0, Fl u1 u2 0, _, rfl, rfl, xf 0 (by decide), no_0_n, sd, rfl, (by show 1 ≤ sizeLine; decide), fun r nr => q r _ (same_upd nr) upd_same⟩
    refine if_neg_of ((at_k 0).trans (decide_eq_false e0)) ?_
    refine ⟨_, rfl, rfl, _, rfl, ?_⟩
    by_cases e1 : k = 1
    · subst e1
      refine if_pos_of rfl ?_
      have sd := some_d (fun z => nomatch z)
      exact ⟨_, rfl, c.at 1, Fl u1 u2 1, _, rfl, rfl, xf 1 (by decide), no_1_p, sd, rfl, (by show 1 ≤ sizeLine; decide), fun r nr => q r _ (same_upd nr) upd_same⟩
    refine if_neg_of ((at_k 1).trans (decide_eq_false e1)) ?_
    refine ⟨_, rfl, rfl, _, rfl, ?_⟩
    by_cases e2 : k = 2
    · subst e2
      refine if_pos_of rfl ?_
      have sd := some_d (fun z => nomatch z)
      exact ⟨_, rfl, c.at 2, Fl u1 u2 2, _, rfl, rfl, xf 2 (by decide), no_2_at, sd, rfl, (by show 1 ≤ sizeLine; decide), fun r nr => q r _ (same_upd nr) upd_same⟩
    refine if_neg_of ((at_k 2).trans (decide_eq_false e2)) ?_
    refine ⟨_, rfl, rfl, _, rfl, ?_⟩
    by_cases e3 : k = 3
    · subst e3
      refine if_pos_of rfl ?_
      have sd := some_d (fun z => nomatch z)
      exact ⟨_, rfl, c.at 3, Fl u1 u2 3, _, rfl, rfl, xf 3 (by decide), no_3_at, sd, rfl, (by show 1 ≤ sizeLine; decide), fun r nr => q r _ (same_upd nr) upd_same⟩
    refine if_neg_of ((at_k 3).trans (decide_eq_false e3)) ?_
    refine ⟨_, rfl, rfl, _, rfl, ?_⟩
    by_cases e8 : k = 8
    · subst e8
      refine if_pos_of rfl ?_
      have sd := some_d (fun z => nomatch z)
      exact ⟨_, rfl, c.at 8, Fl u1 u2 8, _, rfl, rfl, xf 8 (by decide), no_8_at, sd, rfl, (by show 1 ≤ sizeLine; decide), fun r nr => q r _ (same_upd nr) upd_same⟩
    refine if_neg_of ((at_k 8).trans (decide_eq_false e8)) ?_
    refine ⟨_, rfl, rfl, _, rfl, ?_⟩
    by_cases e4 : k = 4
    · subst e4
      refine if_pos_of rfl ?_
      have sd := some_d (fun z => nomatch z)
      exact ⟨_, rfl, c.at 4, Fl u1 u2 4, _, rfl, rfl, xf 4 (by decide), no_4_first, sd, rfl, _, rfl, c.at 4, Fl u1 u2 4, _, rfl, rfl, xf 4 (by decide), no_4_second, sd, rfl, (by show 2 ≤ sizeLine; decide), fun r nr => q r _ (same_upd nr) upd_same⟩
    refine if_neg_of ((at_k 4).trans (decide_eq_false e4)) ?_
    refine ⟨_, rfl, rfl, _, rfl, ?_⟩
    by_cases e5 : k = 5
    · subst e5
      refine if_pos_of rfl ?_
      have sd := some_d (fun z => nomatch z)
      exact ⟨_, rfl, c.at 5, Fl u1 u2 5, _, rfl, rfl, xf 5 (by decide), no_5_height, sd, rfl, _, rfl, c.at 5, Fl u1 u2 5, _, rfl, rfl, xf 5 (by decide), no_5_width, sd, rfl, (by show 2 ≤ sizeLine; decide), fun r nr => q r _ (same_upd nr) upd_same⟩
    refine if_neg_of ((at_k 5).trans (decide_eq_false e5)) ?_
    refine ⟨_, rfl, rfl, _, rfl, ?_⟩
    by_cases e9 : k = 9
    · subst e9
      refine if_pos_of rfl ?_
      have sd := some_d (fun z => nomatch z)
      exact ⟨_, rfl, c.at 9, Fl u1 u2 9, _, rfl, rfl, xf 9 (by decide), no_9_name, sd, rfl, (by show 1 ≤ sizeLine; decide), fun r nr => q r _ (same_upd nr) upd_same⟩
    refine if_neg_of ((at_k 9).trans (decide_eq_false e9)) ?_
    refine ⟨_, rfl, rfl, _, rfl, ?_⟩
    by_cases e10 : k = 10
    · subst e10
      refine if_pos_of rfl ?_
      have sd := some_d (fun z => nomatch z)
      exact ⟨_, rfl, c.at 10, Fl u1 u2 10, _, rfl, rfl, xf 10 (by decide), no_10_name, sd, rfl, (by show 1 ≤ sizeLine; decide), fun r nr => q r _ (same_upd nr) upd_same⟩
    refine if_neg_of ((at_k 10).trans (decide_eq_false e10)) ?_
    refine ⟨_, rfl, rfl, _, rfl, ?_⟩
    by_cases e11 : k = 11
    · subst e11
      refine if_pos_of rfl ?_
      have sd := some_d (fun z => nomatch z)
      exact ⟨_, rfl, c.at 11, Fl u1 u2 11, _, rfl, rfl, xf 11 (by decide), no_11_clash, sd, rfl, (by show 1 ≤ sizeLine; decide), fun r nr => q r _ (same_upd nr) upd_same⟩
    refine if_neg_of ((at_k 11).trans (decide_eq_false e11)) ?_
    refine ⟨(by show 0 ≤ sizeLine; decide), fun r nr => q r _ (same_upd nr) ?_⟩
    rw [upd_same]
    have h : k = 6 ∨ k = 7 ∨ k = 12 := by omega
    rcases h with rfl | rfl | rfl <;> rfl
abbrev s_ldue : Stmt := top 22
theorem sc_ldue : FnScope ["_law_which", "_law_first", "_law_second"] ["_law_which", "_law_first", "_law_second"] (defScope s_ldue) := ⟨rfl, rfl, rfl, by decide +kernel, rfl, by decide +kernel, by decide +kernel⟩
def spDue01 (K : PySem.W.Frag) : Sp := fun vs H Q _ => ∃ (k : Nat) (v1 v2 : V) (xs : List V), vs = [.int (k : Int), v1, v2] ∧ k < 13 ∧ (k = 11 → ∃ l : Addr, v1 = .ref l ∧ SqL K H l xs) ∧ ∀ r u1 H', Same H H' → Copy01 v1 u1 xs H H' k → H' r = some (.lst (vals01 u1 v2 k)) → Q (.ref r) H'
theorem ok_ldue {f : Addr} {fd : FuncData} (T : Txt mg) (F : Fun K "_law_due" "_law_due" s_ldue f fd) : FnOk P w K mg base CX0 1 f fd ["_law_which", "_law_first", "_law_second"] (spDue01 K) := by
  refine F.ok sc_ldue (fun vs H Q E h => ?_) (fun cdv A outer s H vs Q E hr h => ?_)
  · obtain ⟨k, v1, v2, xs, rfl, _⟩ := h
    rfl
  · obtain ⟨k, v1, v2, xs, rfl, hk, lst, q⟩ := h
    have at_k : ∀ j : Nat, decide (V.int (k : Int) = V.int (j : Int)) = decide (k = j) := fun j => by
      by_cases e : k = j
      · rw [e, decide_eq_true rfl, decide_eq_true rfl]
      · rw [decide_eq_false e, decide_eq_false fun z => e (by have := V.int.inj z; omega)]
    refine ⟨_, (pss_cons (ps_if (pw_or (pt_cmpR op_eq (pv 0) pe_int (nomark _)) (pw_or1 (pt_cmpR op_eq (pv 0) pe_int (nomark _)))).pt (pss_one (ps_ret (pe_lst (pa_cons (pv 1) (pa_cons (pv 2) pa_nil))))) pss_nil)
 (pss_cons (ps_if (pt_cmpR op_eq (pv 0) pe_int (nomark _)) (pss_one (ps_ret (pe_lst (pa_cons (pe_callTy call_list_of (by rfl) T.list boot_list (pa_cons (pv 1) pa_nil)) pa_nil)))) pss_nil)
 (pss_cons (ps_if (pw_or (pt_cmpR op_eq (pv 0) pe_int (nomark _)) (pw_or (pt_cmpR op_eq (pv 0) pe_int (nomark _)) (pw_or1 (pt_cmpR op_eq (pv 0) pe_int (nomark _))))).pt (pss_one (ps_ret (pe_lst pa_nil))) pss_nil)
 (pss_one (ps_ret (pe_lst (pa_cons (pv 1) pa_nil))))))), ?_⟩
    refine ⟨_, rfl, rfl, _, rfl, ?_⟩
    by_cases e4 : k = 4
    · subst e4
      refine if_pos_of rfl ?_
      exact ⟨_, rfl, _, rfl, (by show 2 ≤ sizeLine; decide), fun r nr => q r v1 _ (same_upd nr) (.inl ⟨by decide, rfl⟩) upd_same⟩
    refine if_neg_of ((at_k 4).trans (decide_eq_false e4)) ?_
    refine ⟨_, rfl, rfl, _, rfl, ?_⟩
    by_cases e5 : k = 5
    · subst e5
      refine if_pos_of rfl ?_
      exact ⟨_, rfl, _, rfl, (by show 2 ≤ sizeLine; decide), fun r nr => q r v1 _ (same_upd nr) (.inl ⟨by decide, rfl⟩) upd_same⟩
    refine if_neg_of ((at_k 5).trans (decide_eq_false e5)) ?_
    refine ⟨_, rfl, rfl, _, rfl, ?_⟩
    by_cases e11 : k = 11
    · subst e11
      refine if_pos_of rfl ?_
      obtain ⟨l, rfl, hl⟩ := lst rfl
      refine ⟨_, rfl, l, xs, rfl, .inl hl, fun p np => ⟨(by show 1 ≤ sizeLine; decide), fun r nr => ?_⟩⟩
      have g1 := same_upd (o := .lst xs) np
      have g2 := same_upd (o := .lst [.ref p]) nr
      exact q r (.ref p) _ (g1.trans g2) (.inr ⟨rfl, p, rfl, np, g2 _ _ upd_same⟩) upd_same
    refine if_neg_of ((at_k 11).trans (decide_eq_false e11)) ?_
    refine ⟨_, rfl, rfl, _, rfl, ?_⟩
    by_cases e6 : k = 6
    · subst e6
      refine if_pos_of rfl ?_
      exact ⟨(by show 0 ≤ sizeLine; decide), fun r nr => q r v1 _ (same_upd nr) (.inl ⟨by decide, rfl⟩) upd_same⟩
    refine if_neg_of ((at_k 6).trans (decide_eq_false e6)) ?_
    refine ⟨_, rfl, rfl, _, rfl, ?_⟩
    by_cases e7 : k = 7
    · subst e7
      refine if_pos_of rfl ?_
      exact ⟨(by show 0 ≤ sizeLine; decide), fun r nr => q r v1 _ (same_upd nr) (.inl ⟨by decide, rfl⟩) upd_same⟩
    refine if_neg_of ((at_k 7).trans (decide_eq_false e7)) ?_
    refine ⟨_, rfl, rfl, _, rfl, ?_⟩
    by_cases e12 : k = 12
    · subst e12
      refine if_pos_of rfl ?_
      exact ⟨(by show 0 ≤ sizeLine; decide), fun r nr => q r v1 _ (same_upd nr) (.inl ⟨by decide, rfl⟩) upd_same⟩
    refine if_neg_of ((at_k 12).trans (decide_eq_false e12)) ?_
    refine ⟨_, rfl, (by show 1 ≤ sizeLine; decide), fun r nr => q r v1 _ (same_upd nr) (.inl ⟨e11, rfl⟩) ?_⟩
    rw [upd_same]
    have h : k = 0 ∨ k = 1 ∨ k = 2 ∨ k = 3 ∨ k = 8 ∨ k = 9 ∨ k = 10 := by omega
    rcases h with rfl | rfl | rfl | rfl | rfl | rfl | rfl <;> rfl
def small (i : Int) : Prop := i.natAbs.log2 < 1920
theorem small_lt {i : Int} (h : i.natAbs < 2 ^ 1000) : small i := by
  show i.natAbs.log2 < 1920
  by_cases c : i.natAbs = 0
  · rw [c]
    decide
  · have := (Nat.log2_lt c).mpr (Nat.lt_of_lt_of_le h (Nat.pow_le_pow_right (by decide) (show 1000 ≤ 1920 by decide)))
    exact this
theorem small_mod (i : Int) : small (i % 10 ^ 40) := by
  refine small_lt ?_
  have h1 := Int.emod_nonneg i (show (10 ^ 40 : Int) ≠ 0 by decide)
  have h2 := Int.emod_lt_of_pos i (show (0 : Int) < 10 ^ 40 by decide)
  have h3 : (10 ^ 40 : Int) < 2 ^ 200 := by decide
  have h4 : (2 : Nat) ^ 200 ≤ 2 ^ 1000 := Nat.pow_le_pow_right (by decide) (by decide)
  have h5 : ((2 : Nat) ^ 200 : Int) = (2 : Int) ^ 200 := by decide
  omega
/-- the first argument, by the class -/
def FirstAt (k : Nat) (v1 : V) (xs : List V) (H : Hp) : Prop :=
  (k = 4 ∧ ∃ (t : Addr) (a b : Int), v1 = .ref t ∧ H t = some (.tup [.int a, .int b]) ∧ small a ∧ small b) ∨
  (k = 11 ∧ ∃ (l : Addr) (ns : List Int), v1 = .ref l ∧ xs = ns.map V.int ∧ H l = some (.lst xs)) ∨
  ((k = 9 ∨ k = 10) ∧ ∃ z : Str, v1 = .str z ∧ z.length ≤ 1000 ∧ PyData.strOk z = true) ∨
  (k ≠ 4 ∧ k ≠ 11 ∧ k ≠ 9 ∧ k ≠ 10 ∧ ∃ i : Int, v1 = .int i ∧ small i)
theorem FirstAt.same {k : Nat} {v1 : V} {xs : List V} {H H' : Hp} (h : FirstAt k v1 xs H) (s : Same H H') : FirstAt k v1 xs H' := by
  rcases h with ⟨e, t, a, b, h1, h2, h3⟩ | ⟨e, l, ns, h1, h0, h2⟩ | h | h
  · exact .inl ⟨e, t, a, b, h1, s _ _ h2, h3⟩
  · exact .inr (.inl ⟨e, l, ns, h1, h0, s _ _ h2⟩)
  · exact .inr (.inr (.inl h))
  · exact .inr (.inr (.inr h))
theorem arg_of {K : PySem.W.Frag} {k : Nat} {v1 : V} {xs : List V} {H : Hp} {n2 : Int} (hk : k < 13) (h : FirstAt k v1 xs H) (h2 : small n2) : Arg01 K v1 (.int n2) xs H k := by
  rcases h with ⟨rfl, t, a, b, rfl, ht, ha, hb⟩ | ⟨rfl, l, ns, rfl, e, hl⟩ | ⟨e, z, rfl, hz, _⟩ | ⟨e1, e2, e3, e4, i, rfl, hi⟩
  · refine ⟨⟨t, [a, b], rfl, SqT.of ht, fun i hi => ?_, (by show 2 ≤ 10; decide)⟩, n2, rfl, h2⟩
    rcases List.mem_cons.mp hi with h | h
    · rw [h]
      exact ha
    · rw [List.mem_singleton.mp h]
      exact hb
  · exact ⟨l, rfl, SqL.of hl⟩
  · rcases e with rfl | rfl
    · exact ⟨z, rfl, hz⟩
    · exact ⟨z, rfl, hz⟩
  · match k, hk with
    | 0, _ => exact trivial
    | 1, _ => exact trivial
    | 2, _ => exact ⟨i, rfl, hi⟩
    | 3, _ => exact ⟨i, rfl, hi⟩
    | 4, _ => exact absurd rfl e1
    | 5, _ => exact ⟨⟨i, rfl, hi⟩, n2, rfl, h2⟩
    | 6, _ => exact trivial
    | 7, _ => exact trivial
    | 8, _ => exact ⟨i, rfl, hi⟩
    | 9, _ => exact absurd rfl e3
    | 10, _ => exact absurd rfl e4
    | 11, _ => exact absurd rfl e2
    | 12, _ => exact trivial
theorem isi_first {K : PySem.W.Frag} {k : Nat} {v1 : V} {xs : List V} {H : Hp} (h : FirstAt k v1 xs H) : ∃ t : Value, TyX K H v1 t ∧ PySem.W.kitOne K t (.type "list") = some (decide (k = 11)) := by
  rcases h with ⟨rfl, t, a, b, rfl, ht, _⟩ | ⟨rfl, l, ns, rfl, _, hl⟩ | ⟨e, z, rfl, _⟩ | ⟨_, e2, _, _, i, rfl, _⟩
  · exact ⟨_, .base (.tup ht), kit_ty (by decide +kernel)⟩
  · exact ⟨_, .base (.lst hl), kit_ty (by decide +kernel)⟩
  · have e : k ≠ 11 := by omega
    rw [decide_eq_false e]
    exact ⟨_, .base (.str z), kit_ty (by decide +kernel)⟩
  · rw [decide_eq_false e2]
    exact ⟨_, .base (.int i), kit_ty (by decide +kernel)⟩
/-- data of the values -/
theorem first_data {k : Nat} {v1 : V} {xs : List V} {H : Hp} (h : FirstAt k v1 xs H) : ∃ d : PyData, PyData.canLay0 d = true ∧ PyData.depth d ≤ 1 ∧ ∀ (K : PySem.W.Frag) (H0 H' : Hp) (u1 : V), Same H H' → Copy01 v1 u1 xs H0 H' k → Dp K H' u1 d := by
  rcases h with ⟨rfl, t, a, b, rfl, ht, _⟩ | ⟨rfl, l, ns, rfl, e, hl⟩ | ⟨e, z, rfl, _, hz⟩ | ⟨_, e2, _, _, i, rfl, _⟩
  · refine ⟨.tuple ([a, b].map PyData.int), by simp [PyData.canLay0, PyData.canLayAll0], by simp [PyData.depth, PyData.depthAll], fun K H0 H' u1 s c => ?_⟩
    rcases c with ⟨_, rfl⟩ | ⟨c, _⟩
    · exact dp_tup (SqT.of (s _ _ ht))
    · cases c
  · refine ⟨.list (ns.map PyData.int), by rw [PyData.canLay0, canLay_ints], by rw [PyData.depth, depth_ints]; decide, fun K H0 H' u1 s c => ?_⟩
    rcases c with ⟨c, _⟩ | ⟨_, q, rfl, _, hq⟩
    · exact absurd rfl c
    · rw [e] at hq
      exact dp_lst (SqL.of hq)
  · refine ⟨.str z, by rw [PyData.canLay0, hz], by rw [PyData.depth]; decide, fun K H0 H' u1 s c => ?_⟩
    rcases c with ⟨_, rfl⟩ | ⟨c, _⟩
    · exact .str z
    · omega
  · refine ⟨.int i, by rw [PyData.canLay0], by rw [PyData.depth]; decide, fun K H0 H' u1 s c => ?_⟩
    rcases c with ⟨_, rfl⟩ | ⟨c, _⟩
    · exact .int i
    · exact absurd c e2
mutual
theorem dp_same {K : PySem.W.Frag} {H H' : Hp} (s : Same H H') : ∀ {v : V} {d : PyData}, Dp K H v d → Dp K H' v d
  | _, _, .non => .non
  | _, _, .bl b => .bl b
  | _, _, .int i => .int i
  | _, _, .str z => .str z
  | _, _, .lst h a => .lst (s.seq h) (dpAll_same s a)
  | _, _, .tup h a => .tup (Evl.ex_t s h) (dpAll_same s a)
theorem dpAll_same {K : PySem.W.Frag} {H H' : Hp} (s : Same H H') : ∀ {vs : List V} {ds : List PyData}, DpAll K H vs ds → DpAll K H' vs ds
  | _, _, .nil => .nil
  | _, _, .cons a b => .cons (dp_same s a) (dpAll_same s b)
end
theorem dp_vals {K : PySem.W.Frag} {H : Hp} {u1 u2 : V} {d1 d2 : PyData} (h1 : Dp K H u1 d1) (h2 : Dp K H u2 d2) : ∀ {k : Nat}, k < 13 → DpAll K H (vals01 u1 u2 k) (vals01 d1 d2 k)
  | 0, _ => .cons h1 .nil
  | 1, _ => .cons h1 .nil
  | 2, _ => .cons h1 .nil
  | 3, _ => .cons h1 .nil
  | 4, _ => .cons h1 (.cons h2 .nil)
  | 5, _ => .cons h1 (.cons h2 .nil)
  | 6, _ => .nil
  | 7, _ => .nil
  | 8, _ => .cons h1 .nil
  | 9, _ => .cons h1 .nil
  | 10, _ => .cons h1 .nil
  | 11, _ => .cons h1 .nil
  | 12, _ => .nil
  | n + 13, h => absurd h (by omega)
theorem lay_vals {d1 d2 : PyData} (a1 : PyData.canLay0 d1 = true) (b1 : PyData.depth d1 ≤ 1) (a2 : PyData.canLay0 d2 = true) (b2 : PyData.depth d2 ≤ 1) : ∀ {k : Nat}, k < 13 → PyData.canLayAll0 (vals01 d1 d2 k) = true ∧ PyData.depthAll (vals01 d1 d2 k) ≤ 1 := by
  have one : PyData.canLayAll0 [d1] = true ∧ PyData.depthAll [d1] ≤ 1 := by
    constructor
    · simp [PyData.canLayAll0, a1]
    · simp only [PyData.depthAll]
      omega
  have two : PyData.canLayAll0 [d1, d2] = true ∧ PyData.depthAll [d1, d2] ≤ 1 := by
    constructor
    · simp [PyData.canLayAll0, a1, a2]
    · simp only [PyData.depthAll]
      omega
  have nil : PyData.canLayAll0 [] = true ∧ PyData.depthAll [] ≤ 1 := by
    constructor
    · simp [PyData.canLayAll0]
    · simp [PyData.depthAll]
  intro k hk
  match k, hk with
  | 0, _ => exact one
  | 1, _ => exact one
  | 2, _ => exact one
  | 3, _ => exact one
  | 4, _ => exact two
  | 5, _ => exact two
  | 6, _ => exact nil
  | 7, _ => exact nil
  | 8, _ => exact one
  | 9, _ => exact one
  | 10, _ => exact one
  | 11, _ => exact one
  | 12, _ => exact nil
theorem dp_bools {K : PySem.W.Frag} {H : Hp} (g : Nat → Bool) : ∀ l : List Nat, DpAll K H (l.map fun j => V.bl (g j)) (l.map fun j => PyData.bool (g j))
  | [] => .nil
  | j :: l => .cons (.bl _) (dp_bools g l)
theorem lay_bools (g : Nat → Bool) : ∀ l : List Nat, PyData.canLayAll0 (l.map fun j => PyData.bool (g j)) = true ∧ PyData.depthAll (l.map fun j => PyData.bool (g j)) = 0
  | [] => by simp [PyData.canLayAll0, PyData.depthAll]
  | j :: l => by simp [PyData.canLayAll0, PyData.depthAll, PyData.canLay0, PyData.depth, lay_bools g l]
abbrev s_law : Stmt := top 23
theorem sc_law : FnScope ["_law_script", "_law_pool_here", "_law_which", "_law_numbers", "_law_first", "_law_second", "_law_cell_here", "_law_due_here", "_law_turn", "_law_seen", "_law_e", "_law_k"] ["_law_script"] (defScope s_law) := ⟨rfl, rfl, rfl, by decide +kernel, rfl, by decide +kernel, by decide +kernel⟩
theorem ok_law {f CF : Addr} {fd : FuncData} {c : C13} (T : Txt mg) (n_ve : mg "ValueError" = none) (TF : FErr K mg CF) (F : Fun K "law" "law" s_law f fd) (c_pool : Cl P w K mg base CX0 1 "_law_pool" spPool) (c_take : Cl P w K mg base CX0 1 "_law_take" spTake) (c_cell : Cl P w K mg base CX0 1 "_law_cell" (spCellL K))
    (c_raise : Cl P w K mg base (L2N.CX P w) 3 "_law_raise" (spRaise c K)) (c_flags : ClP P w K mg base 1 "_law_flags" (spFlags c K)) (c_fields : ClP P w K mg base 1 "_law_fields" (spFields c)) (c_due : Cl P w K mg base CX0 1 "_law_due" (spDue01 K))
    (ex : ∀ k, k < 13 → ExcC K (c.at k)) (kv : ∀ k, k < 13 → PySem.W.kitOne K (.ref (c.at k)) (.type "ValueError") = some true) (te : ∀ k, k < 13 → PySem.W.exmOne K (.ref (c.at k)) (.ref CF) = some true) :
    FnOk P w K mg base CX0 4 f fd ["_law_script"] (spLaw K) := by
  refine F.ok sc_law (fun vs H Q E h => ?_) (fun cdv A outer s H vs Q E hr h => ?_)
  · obtain ⟨a, ns, rfl, _⟩ := h
    rfl
  · obtain ⟨l0, ns0, rfl, hS, hlen, q⟩ := h
    refine ⟨_, (pss_cons (ps_set (i := 1) sc_law.nd rfl (Or.inl rfl) (pe_cl c_pool hr (pa_cons (pe_cl c_cell hr (pa_cons (pv 0) (pa_cons pe_int pa_nil))) pa_nil)))
 (pss_cons (ps_set (i := 2) sc_law.nd rfl (Or.inr rfl) (pe_cl c_take hr (pa_cons (pv 1) (pa_cons pe_int pa_nil))))
 (Evl.pss_cut (ps_set (i := 3) sc_law.nd rfl (Or.inl rfl) (pe_lst (pa_cons (pe_op op_sub (pe_cl c_take hr (pa_cons (pv 1) (pa_cons pe_int pa_nil))) pe_int) (pa_cons (pe_op op_mod (pe_callTy call_int1 (by rfl) T.int boot_int (pa_cons (pe_cl c_cell hr (pa_cons (pv 0) (pa_cons pe_int pa_nil))) pa_nil)) (pe_op op_pow pe_int pe_int)) (pa_cons (pe_op op_mod (pe_callTy call_int1 (by rfl) T.int boot_int (pa_cons (pe_cl c_cell hr (pa_cons (pv 0) (pa_cons pe_int pa_nil))) pa_nil)) (pe_op op_pow pe_int pe_int)) pa_nil)))))
 (Evl.pss_cut (ps_set (i := 4) sc_law.nd rfl (Or.inl rfl) (pe_ix ix_list (pv 3) (pe_cl c_take hr (pa_cons (pv 1) (pa_cons pe_int pa_nil))) (fun _ _ => rfl)))
 (pss_cons (ps_set (i := 5) sc_law.nd rfl (Or.inl rfl) (pe_ix ix_list (pv 3) pe_int (fun _ _ => rfl)))
 (Evl.pss_cut (ps_if (pt_cmpR op_eq (pv 2) pe_int (nomark _)) (pss_one (ps_set (i := 4) sc_law.nd rfl (Or.inl rfl) (pe_tup (pa_cons (pe_ix ix_list (pv 3) pe_int (fun _ _ => rfl)) (pa_cons (pe_ix ix_list (pv 3) pe_int (fun _ _ => rfl)) pa_nil))))) pss_nil)
 (Evl.pss_cut (ps_if (pw_or (pt_cmpR op_eq (pv 2) pe_int (nomark _)) (pw_or1 (pt_cmpR op_eq (pv 2) pe_int (nomark _)))).pt (pss_one (ps_set (i := 4) sc_law.nd rfl (Or.inl rfl) (pe_ix ix_list (pe_lst (pa_cons pe_str (pa_cons pe_str (pa_cons pe_str (pa_cons pe_str pa_nil))))) (pe_cl c_take hr (pa_cons (pv 1) (pa_cons pe_int pa_nil))) (fun _ _ => rfl)))) pss_nil)
 (Evl.pss_cut (ps_if (pt_cmpR op_eq (pv 2) pe_int (nomark _)) (pss_one (ps_setLc (i := 4) (own := [("_law_cell_here", 6)]) (g := (gName 6)) (tt := tYes) rfl sc_law.nd rfl rfl (sw_true rfl rfl rfl (by decide +kernel)) (pi_list (pe_slice sl_list (pv 0) (po_some pe_int) (po_some pe_int))) (blkOk_by (N := ["_law_script", "_law_pool_here", "_law_which", "_law_numbers", "_law_first", "_law_second", "_law_cell_here", "_law_due_here", "_law_turn", "_law_seen", "_law_e", "_law_k"]) (sc := defScope s_law) (by decide +kernel)) (fun _ _ _ _ _ => (pg_name (i := 6) sc_law.nd rfl (Or.inl rfl))) (fun _ _ _ _ _ => pts_nil) (fun _ _ _ _ _ => (pe_op op_mod (pe_callTy call_int1 (by rfl) T.int boot_int (pa_cons (pv 6) pa_nil)) pe_int)))) pss_nil)
 (Evl.pss_cut (ps_set (i := 7) sc_law.nd rfl (Or.inl rfl) (pe_cl c_due hr (pa_cons (pv 2) (pa_cons (pv 4) (pa_cons (pv 5) pa_nil)))))
 (Evl.pss_cut (ps_for PassesOwn.never rfl (pi_range1 rfl T.range (pa_cons pe_int pa_nil)) (pg_name (i := 8) sc_law.nd rfl (Or.inl rfl)) (pss_cons (ps_set (i := 9) sc_law.nd rfl (Or.inl rfl) (pe_lst pa_nil))
 (Evl.pss_cut (L2N.ps_try_as (i := 10) rfl rfl sc_law.nd rfl rfl ⟨rfl, by decide, Or.inl TF.g⟩ takes0N
  (fun W pn xe tk _ => (pss_one (ps_expr (pe_clNX c_raise hr tk (pa_cons (pv 2) (pa_cons (pv 4) (pa_cons (pv 5) pa_nil)))))))
  (fun a oe cls d pn hz hf => (pss_cons (ps_if (pt_not (pt_val (pe_callB (call_isP (K := K) rfl (held_suite hz hf)) (by rfl) T.isinstance boot_isinstance (pa_cons (pv 10) (pa_cons (pe_bltn (v := .ty "ValueError") (by rfl) n_ve PyProof.Rows.Boot.«ValueError» rfl) pa_nil))))) (pss_one (ps_ret pe_bl)) pss_nil)
 (Evl.pss_cut (ps_if (pt_val (pe_callB (call_isiK (K := K) rfl) (by rfl) T.isinstance boot_isinstance (pa_cons (pv 4) (pa_cons (pe_bltn (v := .ty "list") (by rfl) T.list boot_list rfl) pa_nil)))) (pss_one (ps_expr (pe_bmK (K := K) rfl PySem.F.plainAttrs_list PySem.F.slot_list_append PySem.F.type_list_append mt_append (pv 4) (pa_cons pe_int pa_nil)))) pss_nil)
 (pss_cons (ps_set (i := 9) sc_law.nd rfl (Or.inl rfl) (pe_lst (pa_cons (pe_clP c_flags (held_suite hz hf) (room_suite (j := 3) hr) (pa_cons (pv 10) pa_nil)) (pa_cons (pe_clP c_fields (held_suite hz hf) (room_suite (j := 3) hr) (pa_cons (pv 2) (pa_cons (pv 10) pa_nil))) pa_nil))))
 (pss_one (ps_if (pt_val (pe_callB (call_isiK (K := K) rfl) (by rfl) T.isinstance boot_isinstance (pa_cons (pv 4) (pa_cons (pe_bltn (v := .ty "list") (by rfl) T.list boot_list rfl) pa_nil)))) (pss_one (ps_expr (pe_bm0K (K := K) rfl PySem.F.plainAttrs_list PySem.F.slot_list_pop PySem.F.type_list_pop mt_pop (pv 4)))) pss_nil)))))))
 (pss_one (ps_if (pt_cmpR (op_neD (hu64 hr)) (pv 9) (pe_lst (pa_cons (pe_lc (own := [("_law_k", 11)]) (g := (gName 11)) (tt := tYes) rfl sc_law.nd (pi_range1 rfl T.range (pa_cons pe_int pa_nil)) (blkOk_by (N := ["_law_script", "_law_pool_here", "_law_which", "_law_numbers", "_law_first", "_law_second", "_law_cell_here", "_law_due_here", "_law_turn", "_law_seen", "_law_e", "_law_k"]) (sc := defScope s_law) (by decide +kernel)) (fun _ _ _ _ _ => (pg_name (i := 11) sc_law.nd rfl (Or.inl rfl))) (fun _ _ _ _ _ => pts_nil) (fun _ _ _ _ _ => (pe_cmpR op_eq (pv 11) (pv 2) (nomark _)))) (pa_cons (pv 7) pa_nil))) (nomark _)) (pss_one (ps_ret pe_bl)) pss_nil)))))
 (pss_one (ps_ret pe_bl)))))))))))), ?_⟩
    refine ⟨_, rfl, l0, ns0, 0, rfl, hS, fun ce => ⟨ce, rfl, fun p H1 np s1 P1 => ?_⟩⟩
    refine ⟨_, rfl, p, 13, rfl, P1, by decide, by decide, fun v H2 v0 v1 e2 P2 => ?_⟩
    obtain ⟨k, rfl⟩ := Int.eq_ofNat_of_zero_le v0
    have hk : k < 13 := by omega
    have gA : Same H H2 := (SameBut.of e2).same s1 np
    -- numbers
    have at_k : ∀ j : Nat, decide (V.int (k : Int) = V.int (j : Int)) = decide (k = j) := fun j => by
      by_cases e : k = j
      · rw [e, decide_eq_true rfl, decide_eq_true rfl]
      · rw [decide_eq_false e, decide_eq_false fun z => e (by have := V.int.inj z; omega)]
    refine ⟨fun σ H' => ∃ (nu : Addr) (n0 n1 n2 : Int), nu ≠ p ∧ Same H H' ∧ PoolAt H' p ∧ H' nu = some (.lst [.int n0, .int n1, .int n2]) ∧ small n0 ∧ small n1 ∧ small n2 ∧ σ = [some (.ref l0), some (.ref p), some (.int (k : Int)), some (.ref nu), none, none, none, none, none, none, none, none], ?_, ?_⟩
    · refine ⟨_, rfl, p, 40, rfl, P2, by decide, by decide, fun u H3 u0 u1 e3 P3 => ?_⟩
      have gB : Same H H3 := (SameBut.of e3).same gA np
      refine ⟨_, _, rfl, rfl, ?_⟩
      refine ⟨_, rfl, l0, ns0, 1, rfl, gB.seq hS, fun c1 => .inl ⟨_, rfl, _, _, rfl, rfl, ⟨by decide, by decide, by decide⟩, _, _, rfl, rfl, (by show (0 : Int) < 10 ^ 40; decide), ?_⟩⟩
      refine ⟨_, rfl, l0, ns0, 2, rfl, gB.seq hS, fun c2 => .inl ⟨_, rfl, _, _, rfl, rfl, ⟨by decide, by decide, by decide⟩, _, _, rfl, rfl, (by show (0 : Int) < 10 ^ 40; decide), ?_⟩⟩
      refine ⟨(by show 3 ≤ sizeLine; decide), fun nu nn => ⟨nu, _, _, _, P3.new nn, gB.trans (same_upd nn), P3.same (same_upd nn), upd_same, small_lt ?_, small_mod c1, small_mod c2, rfl⟩⟩
      have : (100 : Nat) < 2 ^ 1000 := Nat.lt_of_lt_of_le (show 100 < 2 ^ 10 by decide) (Nat.pow_le_pow_right (by decide) (by decide))
      omega
    rintro σ H3 ⟨nu, n0, n1, n2, nup, g3, P3, hnu, sm0, sm1, sm2, rfl⟩
    clear gA e2 P2 s1 P1
    -- first
    refine ⟨fun σ H' => ∃ i : Int, Same H H' ∧ PoolAt H' p ∧ H' nu = some (.lst [.int n0, .int n1, .int n2]) ∧ small i ∧ σ = [some (.ref l0), some (.ref p), some (.int (k : Int)), some (.ref nu), some (.int i), none, none, none, none, none, none, none], ?_, ?_⟩
    · refine ⟨_, rfl, _, rfl, p, 2, rfl, P3, by decide, by decide, fun u H4 u0 u1 e4 P4 => ?_⟩
      have b4 : SameBut p H3 H4 := SameBut.of e4
      have hnu4 := b4 _ _ nup hnu
      obtain ⟨y, hy, hym⟩ := at_some (xs := [V.int n0, V.int n1, V.int n2]) u0 (by show u < 3; omega)
      have hall : ∃ i, y = V.int i ∧ small i := by
        rcases List.mem_cons.mp hym with h | hym
        · exact ⟨n0, h, sm0⟩
        · rcases List.mem_cons.mp hym with h | hym
          · exact ⟨n1, h, sm1⟩
          · exact ⟨n2, List.mem_singleton.mp hym, sm2⟩
      obtain ⟨i, rfl, smi⟩ := hall
      exact ⟨nu, _, _, _, rfl, rfl, SqL.of hnu4, hy, i, b4.same g3 np, P4, hnu4, smi, rfl⟩
    rintro σ H4 ⟨i, g4, P4, hnu4, smi, rfl⟩
    clear hnu P3 g3
    -- second
    refine ⟨_, rfl, nu, _, _, _, rfl, rfl, SqL.of hnu4, atI_nat (j := 2) rfl, ?_⟩
    -- if which == 4
    refine ⟨fun σ H' => ∃ v1 : V, Same H H' ∧ PoolAt H' p ∧ (k = 4 → FirstAt k v1 [] H') ∧ (k ≠ 4 → v1 = .int i) ∧ σ = [some (.ref l0), some (.ref p), some (.int (k : Int)), some (.ref nu), some v1, some (.int n2), none, none, none, none, none, none], ?_, ?_⟩
    · refine ⟨_, rfl, rfl, _, rfl, ?_⟩
      by_cases e : k = 4
      · refine if_pos_of ((at_k 4).trans (decide_eq_true e)) ?_
        refine ⟨_, rfl, nu, _, _, _, rfl, rfl, SqL.of hnu4, atI_nat (j := 0) rfl, _, rfl, nu, _, _, _, rfl, rfl, SqL.of hnu4, atI_nat (j := 1) rfl, (by show 2 ≤ sizeLine; decide), fun t nt => ?_⟩
        exact ⟨.ref t, g4.trans (same_upd nt), P4.same (same_upd nt), fun _ => .inl ⟨e, t, n0, n1, rfl, upd_same, sm0, sm1⟩, fun h => absurd e h, rfl⟩
      · exact if_neg_of ((at_k 4).trans (decide_eq_false e)) ⟨.int i, g4, P4, fun h => absurd h e, fun _ => rfl, rfl⟩
    rintro σ H5 ⟨v1, g5, P5, f4, fi, rfl⟩
    -- if which == 9 or which == 10
    refine ⟨fun σ H' => ∃ v1 : V, Same H H' ∧ PoolAt H' p ∧ (k ≠ 11 → FirstAt k v1 [] H') ∧ σ = [some (.ref l0), some (.ref p), some (.int (k : Int)), some (.ref nu), some v1, some (.int n2), none, none, none, none, none, none], ?_, ?_⟩
    · have text : k = 9 ∨ k = 10 → _ := fun h => h
      refine ⟨_, rfl, rfl, _, rfl, ?_⟩
      have go : (k = 9 ∨ k = 10) → ∀ (u : Int) (H6 : Hp) (q1 : Addr), H6 q1 = some (.lst [.str "", .str "x", .str "A1", .str "a b"]) → 0 ≤ u → u < 4 → ∃ y : V, atI [V.str "", V.str "x", V.str "A1", V.str "a b"] u = some y ∧ FirstAt k y [] H6 := fun hk9 u H6 q1 h1 u0 u1 => by
        obtain ⟨y, hy, hym⟩ := at_some (xs := [V.str "", V.str "x", V.str "A1", V.str "a b"]) u0 (by show u < 4; omega)
        refine ⟨y, hy, .inr (.inr (.inl ⟨hk9, ?_⟩))⟩
        have hs : ∀ z ∈ (["", "x", "A1", "a b"] : List Str), z.length ≤ 1000 ∧ PyData.strOk z = true := by decide +kernel
        obtain ⟨z, hz, rfl⟩ := List.mem_map.mp (show y ∈ (["", "x", "A1", "a b"] : List Str).map V.str from hym)
        exact ⟨z, rfl, hs z hz⟩
      by_cases e9 : k = 9
      · refine if_pos_of ((at_k 9).trans (decide_eq_true e9)) ?_
        refine ⟨(by show 4 ≤ sizeLine; decide), fun q1 nq => ⟨_, rfl, p, 4, rfl, P5.same (same_upd nq), by decide, by decide, fun u H6 u0 u1 e6 P6 => ?_⟩⟩
        have q1p := P5.new nq
        have hq6 : H6 q1 = some (.lst [.str "", .str "x", .str "A1", .str "a b"]) := by
          rw [e6 q1 q1p]
          exact upd_same
        obtain ⟨y, hy, fy⟩ := go (.inl e9) u H6 q1 hq6 u0 u1
        exact ⟨q1, _, _, _, rfl, rfl, SqL.of hq6, hy, y, (SameBut.of e6).same (g5.trans (same_upd nq)) np, P6, fun _ => fy, rfl⟩
      · refine if_neg_of ((at_k 9).trans (decide_eq_false e9)) ?_
        refine ⟨_, rfl, rfl, _, rfl, ?_⟩
        by_cases e10 : k = 10
        · refine if_pos_of ((at_k 10).trans (decide_eq_true e10)) ?_
          refine ⟨(by show 4 ≤ sizeLine; decide), fun q1 nq => ⟨_, rfl, p, 4, rfl, P5.same (same_upd nq), by decide, by decide, fun u H6 u0 u1 e6 P6 => ?_⟩⟩
          have q1p := P5.new nq
          have hq6 : H6 q1 = some (.lst [.str "", .str "x", .str "A1", .str "a b"]) := by
            rw [e6 q1 q1p]
            exact upd_same
          obtain ⟨y, hy, fy⟩ := go (.inr e10) u H6 q1 hq6 u0 u1
          exact ⟨q1, _, _, _, rfl, rfl, SqL.of hq6, hy, y, (SameBut.of e6).same (g5.trans (same_upd nq)) np, P6, fun _ => fy, rfl⟩
        · refine if_neg_of ((at_k 10).trans (decide_eq_false e10)) ⟨v1, g5, P5, fun e11 => ?_, rfl⟩
          by_cases e4 : k = 4
          · exact f4 e4
          · exact .inr (.inr (.inr ⟨e4, e11, e9, e10, i, fi e4, smi⟩))
    clear f4 fi P5 g5
    rintro σ H5 ⟨v1', g5, P5, f5, rfl⟩
    -- if which == 11
    refine ⟨fun σ H' => ∃ (v1 : V) (xs : List V), Same H H' ∧ FirstAt k v1 xs H' ∧ xs.length ≤ 63 ∧ σ = [some (.ref l0), some (.ref p), some (.int (k : Int)), some (.ref nu), some v1, some (.int n2), none, none, none, none, none, none], ?_, ?_⟩
    · refine ⟨_, rfl, rfl, _, rfl, ?_⟩
      by_cases e : k = 11
      · refine if_pos_of ((at_k 11).trans (decide_eq_true e)) ?_
        refine ⟨_, rfl, _, rfl, _, rfl, l0, _, rfl, g5.seq hS, fun q1 nq => ?_⟩
        generalize hxs : cutV (ns0.map V.int) (some 2) (some 12) = ys
        have ly : ys.length ≤ 63 := by
          rw [← hxs]
          have := cutV_length (ns0.map V.int) (some 2) (some 12)
          rw [List.length_map] at this
          omega
        have iy : ∀ y ∈ ys, ∃ z : Int, y = V.int z := fun y hy => by
          rw [← hxs] at hy
          unfold cutV at hy
          obtain ⟨z, _, rfl⟩ := List.mem_map.mp (List.mem_of_mem_drop (List.mem_of_mem_take hy))
          exact ⟨z, rfl⟩
        refine ⟨q1, rfl, ⟨_, SqL.of upd_same⟩, fun D hD => lc_list (K := K) (a := q1) (xs := ys) (fun i H' => Same (upd H5 q1 (.lst ys)) H' ∧ ∃ acc : List Int, H' D = some (.lst (acc.map V.int)) ∧ acc.length = i)
          ⟨same_upd hD, [], upd_same, rfl⟩ (fun i H' _ h => h.1.seq (SqL.of upd_same)) ?_ ?_⟩
        · rintro j y H6 hj ⟨s6, acc, hacc, hl⟩
          obtain ⟨z, rfl⟩ := iy y (List.mem_of_getElem? hj)
          have lt := (List.getElem?_eq_some_iff.mp hj).1
          refine ⟨rfl, _, rfl, .inl ⟨_, rfl, _, _, rfl, rfl, (by show (0 : Int) < 9; decide), ?_⟩⟩
          refine ⟨_, hacc, by rw [List.length_map]; exact small1000 (by omega), fun b o eb => ?_, acc ++ [z % 9], ?_, ?_⟩
          · rw [upd_ne (ne_of_none eb hD)]
            exact s6 b o eb
          · rw [List.map_append]
            exact upd_same
          · rw [List.length_append, hl]
            rfl
        · rintro H6 ⟨s6, acc, hacc, hl⟩
          exact ⟨.ref D, acc.map V.int, g5.trans ((same_upd nq).trans s6), .inr (.inl ⟨e, D, acc, rfl, rfl, hacc⟩), by rw [List.length_map]; omega, rfl⟩
      · exact if_neg_of ((at_k 11).trans (decide_eq_false e)) ⟨v1', [], g5, f5 e, Nat.zero_le _, rfl⟩
    clear f5 P5 g5 v1' v1 H5 hnu4 P4 g4 nup
    rintro σ H5 ⟨v1, xs, g5, f5, lx, rfl⟩
    obtain ⟨d1, a1, b1, dp1⟩ := first_data f5
    -- due
    refine ⟨fun σ H' => ∃ (du : Addr) (u1 : V), Same H5 H' ∧ Copy01 v1 u1 xs H5 H' k ∧ H' du = some (.lst (vals01 u1 (.int n2) k)) ∧ σ = [some (.ref l0), some (.ref p), some (.int (k : Int)), some (.ref nu), some v1, some (.int n2), none, some (.ref du), none, none, none, none], ?_, ?_⟩
    · refine ⟨_, rfl, _, rfl, _, rfl, k, v1, .int n2, xs, rfl, hk, fun e => ?_, fun r u1 H6 s6 cp hr6 => ⟨r, u1, s6, cp, hr6, rfl⟩⟩
      rcases f5 with ⟨c, _⟩ | ⟨_, l, ns, h1, _, h2⟩ | ⟨c, _⟩ | ⟨_, c, _⟩
      · omega
      · exact ⟨l, h1, SqL.of h2⟩
      · omega
      · exact absurd e c
    rintro σ H6 ⟨du, u1, s6, cp1, hdu, rfl⟩
    have f6 := f5.same s6
    -- for turn in range(2)
    refine ⟨fun σ H' => True, ?_, fun σ H' _ => q H'⟩
    refine ⟨2, rfl, by decide, by decide, for_range (lo := 0) (n := 2) (fun _ σ H' => Same H6 H' ∧ ∃ x8 x9, σ = [some (.ref l0), some (.ref p), some (.int (k : Int)), some (.ref nu), some v1, some (.int n2), none, some (.ref du), x8, x9, none, none]) ⟨Same.refl _, _, _, rfl⟩ ?_ fun _ _ _ => trivial⟩
    rintro t σ H7 ht ⟨s7, x8, x9, rfl⟩
    refine ⟨(by show 0 ≤ sizeLine; decide), fun sn0 nsn => ?_⟩
    have k0 := same_upd (o := .lst []) nsn
    have s8 := s7.trans k0
    have f8 := f6.same s8
    -- try
    refine ⟨fun σ H' => Same H6 H' ∧ ∃ (sn fl fi : Addr) (u : V), H' sn = some (.lst [.ref fl, .ref fi]) ∧ H' fl = some (.lst ((List.range 13).map fun j => V.bl (decide (k = j)))) ∧ H' fi = some (.lst (vals01 u (.int n2) k)) ∧ Dp K H' u d1 ∧ σ = [some (.ref l0), some (.ref p), some (.int (k : Int)), some (.ref nu), some v1, some (.int n2), none, some (.ref du), some (.int (0 + (t : Int))), some (.ref sn), none, none], ?_, ?_⟩
    · refine ⟨_, rfl, _, rfl, _, rfl, k, v1, .int n2, xs, rfl, hk, arg_of hk f8 sm2, fun d u H9 s9 hd cp => ?_⟩
      refine ⟨true, te k hk, fun _ a ha => ?_, fun z => Bool.noConfusion z⟩
      refine ⟨_, rfl, c.at k, .ty "ValueError", .type "ValueError", true, _, rfl, rfl, ex k hk, hd, (fun _ z => z), kv k hk, _, rfl, if_neg_of rfl ?_⟩
      have f9 := f8.same s9
      have l_at : k = 11 → ∃ (l q1 : Addr), v1 = .ref l ∧ upd H7 sn0 (.lst []) l = some (.lst xs) ∧ H9 l = some (.lst xs) ∧ u = .ref q1 ∧ q1 ≠ l ∧ H9 q1 = some (.lst xs) := fun e => by
        rcases f8 with ⟨c, _⟩ | ⟨_, l, ns, h1, _, h2⟩ | ⟨c, _⟩ | ⟨_, c, _⟩
        · omega
        · rcases cp with ⟨c, _⟩ | ⟨_, q1, hu, nq, hq⟩
          · exact absurd e c
          · exact ⟨l, q1, h1, h2, s9 _ _ h2, hu, (fun z => by rw [z, h2] at nq; cases nq), hq⟩
        · omega
        · exact absurd e c
      -- append
      refine ⟨fun σ H' => ((k = 11 ∧ ∃ l, v1 = .ref l ∧ H9 l = some (.lst xs) ∧ H' = upd H9 l (.lst (xs ++ [.int 9]))) ∨ (k ≠ 11 ∧ H' = H9)) ∧ σ = [some (.ref l0), some (.ref p), some (.int (k : Int)), some (.ref nu), some v1, some (.int n2), none, some (.ref du), some (.int (0 + (t : Int))), some (.ref sn0), some (.ref a), none], ?_, ?_⟩
      · obtain ⟨tv, hty, hkit⟩ := isi_first (K := K) f9
        refine ⟨_, rfl, _, _, _, _, _, rfl, .ty "list", hty, hkit, _, rfl, ?_⟩
        by_cases e : k = 11
        · obtain ⟨l, q1, rfl, _, hl, _⟩ := l_at e
          exact if_pos_of (decide_eq_true e) ⟨_, rfl, .inl ⟨rfl, _, SqL.of hl⟩, l, _, _, rfl, rfl, hl, small1000 (by omega), .inl ⟨e, l, rfl, hl, rfl⟩, rfl⟩
        · exact if_neg_of (decide_eq_false e) ⟨.inr ⟨e, rfl⟩, rfl⟩
      rintro σ H10 ⟨alt, rfl⟩
      have keep : ∀ (b : Addr) (o : HO), H9 b = some o → (∀ ys, o ≠ .lst ys) → H10 b = some o := fun b o hb no => by
        rcases alt with ⟨_, l, _, hl, rfl⟩ | ⟨_, rfl⟩
        · rw [upd_ne (fun z => by rw [z, hl] at hb; exact no _ (Option.some.inj hb).symm)]
          exact hb
        · exact hb
      have hd10 : DictAt H10 d (Fl u (.int n2) k) := by
        rcases hd with h | ⟨dd, h1, h2⟩
        · exact .inl h
        · exact .inr ⟨dd, h1, keep _ _ h2 fun ys z => by cases z⟩
      -- seen
      refine ⟨_, rfl, k, _, rfl, hk, rfl, hd10, fun fl H11 s11 hfl => ?_⟩
      refine ⟨_, rfl, _, rfl, k, u, .int n2, rfl, hk, rfl, hd10.same s11, fun fi H12 s12 hfi => ⟨(by show 2 ≤ sizeLine; decide), fun sn nsn' => ?_⟩⟩
      have s13 := (s11.trans s12).trans (same_upd (o := .lst [.ref fl, .ref fi]) nsn')
      -- pop
      have f10 : FirstAt k v1 (if k = 11 then xs ++ [.int 9] else xs) H10 := by
        rcases alt with ⟨e, l, hv, hl, rfl⟩ | ⟨e, rfl⟩
        · rcases f9 with ⟨c, _⟩ | ⟨_, l', ns, h1, h0, h2⟩ | ⟨c, _⟩ | ⟨_, c, _⟩
          · omega
          · rw [if_pos e]
            exact .inr (.inl ⟨e, l, ns ++ [9], hv, by rw [h0, List.map_append]; rfl, upd_same⟩)
          · omega
          · exact absurd e c
        · rw [if_neg e]
          exact f9
      obtain ⟨tv, hty, hkit⟩ := isi_first (K := K) (f10.same s13)
      refine ⟨_, rfl, _, _, _, _, _, rfl, .ty "list", hty, hkit, _, rfl, ?_⟩
      have hsn : (upd H12 sn (.lst [.ref fl, .ref fi])) sn = some (.lst [.ref fl, .ref fi]) := upd_same
      have hfl13 := ((s12.trans (same_upd (o := .lst [.ref fl, .ref fi]) nsn')) _ _ hfl)
      have hfi13 := (same_upd (o := .lst [.ref fl, .ref fi]) nsn') _ _ hfi
      have f5' : Same H5 H9 := s6.trans (s8.trans s9)
      by_cases e : k = 11
      · obtain ⟨l, q1, rfl, hl7, hl9, hu, hql, hq9⟩ := l_at e
        rcases alt with ⟨_, l', hv', _, rfl⟩ | ⟨c, _⟩
        · have el : l = l' := V.ref.inj hv'
          subst el
          have hl13 : (upd H12 sn (.lst [.ref fl, .ref fi])) l = some (.lst (xs ++ [.int 9])) := s13 _ _ upd_same
          have hl6 : H6 l = some (.lst xs) := by
            rcases f6 with ⟨c, _⟩ | ⟨_, l', ns, h1, _, h2⟩ | ⟨c, _⟩ | ⟨_, c, _⟩
            · omega
            · rw [V.ref.inj h1]
              exact h2
            · omega
            · exact absurd e c
          have snl : sn ≠ l := fun z => by
            rw [z] at nsn'
            have := (s11.trans s12) _ _ (upd_same (H := H9) (a := l) (o := .lst (xs ++ [.int 9])))
            rw [nsn'] at this
            cases this
          have fll : fl ≠ l := fun z => by
            have z1 := hl13
            rw [← z] at z1
            rw [z1] at hfl13
            have z2 := HO.lst.inj (Option.some.inj hfl13)
            have m9 : V.int 9 ∈ xs ++ [V.int 9] := List.mem_append_right _ List.mem_cons_self
            rw [z2] at m9
            obtain ⟨j, _, hj⟩ := List.mem_map.mp m9
            cases hj
          have fil : fi ≠ l := fun z => by
            have z1 := hl13
            rw [← z] at z1
            rw [z1] at hfi13
            have z2 := HO.lst.inj (Option.some.inj hfi13)
            have m9 : V.int 9 ∈ xs ++ [V.int 9] := List.mem_append_right _ List.mem_cons_self
            rw [z2, e] at m9
            have m9 : V.int 9 ∈ [u] := m9
            rw [hu] at m9
            cases List.mem_singleton.mp m9
          have back : Same H6 (upd (upd H12 sn (.lst [.ref fl, .ref fi])) l (.lst xs)) := fun b o hb => by
            by_cases c : b = l
            · rw [c, hl6] at hb
              rw [c, ← hb]
              exact upd_same
            · rw [upd_ne c]
              refine s13 _ _ ?_
              rw [upd_ne c]
              exact (s8.trans s9) _ _ hb
          refine if_pos_of (decide_eq_true e) ⟨_, rfl, .inl ⟨rfl, _, SqL.of hl13⟩, ?_⟩
          refine ⟨l, _, .int 9, rfl, rfl, hl13, by simp, ?_⟩
          rw [List.dropLast_concat]
          refine ⟨back, sn, fl, fi, u, by rw [upd_ne snl]; exact hsn, by rw [upd_ne fll]; exact hfl13, by rw [upd_ne fil]; exact hfi13, ?_, rfl⟩
          refine dp1 K (fun _ => none) _ u (s6.trans back) (.inr ⟨e, q1, hu, rfl, ?_⟩)
          rw [upd_ne hql]
          refine s13 _ _ ?_
          rw [upd_ne hql]
          exact hq9
        · exact absurd e c
      · rcases alt with ⟨c, _⟩ | ⟨_, rfl⟩
        · exact absurd c e
        · refine if_neg_of (decide_eq_false e) ⟨(s8.trans s9).trans s13, sn, fl, fi, u, hsn, hfl13, hfi13, ?_, rfl⟩
          exact dp1 K (fun _ => none) _ u ((f5'.trans s13)) (.inl ⟨e, by rcases cp with ⟨_, h⟩ | ⟨c, _⟩; exact h; exact absurd c e⟩)
    rintro σ H8 ⟨t8, sn, fl, fi, u, hsn, hfl, hfi, cp, rfl⟩
    have dpu : Dp K H6 u1 d1 := dp1 K H5 H6 u1 s6 cp1
    refine ⟨_, rfl, 13, rfl, by decide, by decide, fun D hD => lc_range (lo := 0) (n := 13) (fun i H' => Same H8 H' ∧ H' D = some (.lst ((List.range i).map fun j => V.bl (decide (k = j)))))
      ⟨same_upd hD, upd_same⟩ ?_ ?_⟩
    · rintro i H9 hi ⟨s9, hD9⟩
      refine ⟨rfl, _, rfl, _, rfl, rfl, _, hD9, by rw [List.length_map, List.length_range]; exact small1000 (by omega), fun b o eb => ?_, ?_⟩
      · rw [upd_ne (ne_of_none eb hD)]
        exact s9 b o eb
      · rw [List.range_succ, List.map_append]
        have e1 : decide (V.int (0 + (i : Int)) = V.int (k : Int)) = decide (k = i) := by
          rw [Int.zero_add]
          by_cases e : k = i
          · rw [e, decide_eq_true rfl, decide_eq_true rfl]
          · rw [decide_eq_false e, decide_eq_false fun z => e (by have := V.int.inj z; omega)]
        rw [e1]
        exact upd_same
    · rintro H9 ⟨s9, hD9⟩
      refine ⟨_, rfl, (by show 2 ≤ sizeLine; decide), fun q1 nq => ?_⟩
      have g10 := same_upd (o := .lst [.ref D, .ref du]) nq
      have t10 := s9.trans g10
      obtain ⟨ly, dy⟩ := lay_vals (d2 := .int n2) a1 b1 (by rw [PyData.canLay0]) (by rw [PyData.depth]; decide) hk
      obtain ⟨lb, db⟩ := lay_bools (fun j => decide (k = j)) (List.range 13)
      have sh : SeqAt.shaped (.list [.list ((List.range 13).map fun j => PyData.bool (decide (k = j))), .list (vals01 d1 (.int n2) k)]) = true := by
        unfold SeqAt.shaped
        simp only [PyData.canLay0, PyData.canLayAll0, PyData.depth, PyData.depthAll, ly, lb, db, Bool.and_self, Bool.true_and]
        exact decide_eq_true (by omega)
      have dpu' : Dp K (upd H9 q1 (.lst [.ref D, .ref du])) u d1 := dp_same t10 cp
      have dpv' : Dp K (upd H9 q1 (.lst [.ref D, .ref du])) u1 d1 := dp_same (t8.trans t10) dpu
      refine ⟨_, _, .lst (SqL.of (t10 _ _ hsn)) (.cons (.lst (SqL.of (t10 _ _ hfl)) (dp_bools _ _)) (.cons (.lst (SqL.of (t10 _ _ hfi)) (dp_vals dpu' (.int n2) hk)) .nil)), .lst (SqL.of upd_same) (.cons (.lst (SqL.of (g10 _ _ hD9)) (dp_bools _ _)) (.cons (.lst (SqL.of ((t8.trans t10) _ _ hdu)) (dp_vals dpv' (.int n2) hk)) .nil)), sh, sh, _, rfl, if_neg_of (by rw [SeqAt.eqv_refl _ (Bool.and_eq_true_iff.mp sh).1]; rfl) ?_⟩
      exact ⟨t8.trans t10, _, _, rfl⟩
/-! what is told of an own error class that stands directly below FieldError -/
structure ExcT (K : PySem.W.Frag) (CF C : Addr) : Prop where
  xC : ∃ nm q N bs sn sb ab co dd x0 x1 x2 x3 x5, K.lookup C = some (excClassObj nm q C N bs [.ref CF, .type "ValueError", .type "Exception", .type "BaseException", .type "object"] true sn sb ab co dd x0 x1 x2 x3 x5 "ValueError.__new__")
  sa : PySem.W.findIn K (.ref C) "__setattr__" = some (some (.builtin "object.__setattr__"))
  ga : PySem.W.findIn K (.ref C) "__getattribute__" = some (some (.builtin "BaseException.__getattribute__"))
  gg : PySem.W.findIn K (.ref C) "__getattr__" = some none
  kc : PySem.W.keepIn K (.ref C) = true
  tc : PySem.W.typeIn K (.ref C) = some (.type "type")
  ha : PySem.W.findIn K (.ref C) "__class__" = some (some (.builtin "object.__class__"))
  hn : PySem.W.specialIn K (.builtin "object.__class__") "__get__" = some (some (.builtin "getset_descriptor.__get__"))
  ht : PySem.W.takesIn K (.builtin "object.__class__") = some true
namespace ExcT
variable {K : PySem.W.Frag} {CF C D : Addr}
theorem cls (T : ExcT K CF C) : ∃ cd, PySem.W.clsIn K C = some cd ∧ cd.hasDict = true ∧ cd.mro = [.ref C, .ref CF, .type "ValueError", .type "Exception", .type "BaseException", .type "object"] := by
  obtain ⟨nm, q, N, bs, sn, sb, ab, co, dd, x0, x1, x2, x3, x5, h⟩ := T.xC
  refine ⟨{ name := nm, bases := bs, mro := .ref C :: [.ref CF, .type "ValueError", .type "Exception", .type "BaseException", .type "object"], ns := N, qualname := q, hasDict := true, slotNames := sn, subclasses := sb, abstract := ab, collection := co, hasDel := false }, ?_, rfl, rfl⟩
  unfold PySem.W.clsIn
  rw [h] <;> rfl
theorem sub (T : ExcT K CF C) (v : Value) : PySem.W.subIn K (.ref C) v = some (([.ref C, .ref CF, .type "ValueError", .type "Exception", .type "BaseException", .type "object"] : List Value).contains v) := by
  obtain ⟨cd, h1, _, h3⟩ := T.cls
  show PySem.W.mroIn K C v = _
  unfold PySem.W.mroIn
  rw [h1, Option.bind_some, h3]
  rfl
theorem ec (T : ExcT K CF C) : PySem.W.subIn K (.ref C) (.type "BaseException") = some true := by
  rw [T.sub]
  simp
theorem hd (T : ExcT K CF C) : PySem.W.hasDictIn K C = true := by
  obtain ⟨cd, h1, h2, _⟩ := T.cls
  unfold PySem.W.hasDictIn
  rw [h1]
  exact h2
theorem is (T : ExcT K CF C) : PySem.W.isClsIn K C = true := by
  obtain ⟨cd, h1, _⟩ := T.cls
  show (PySem.W.clsIn K C).isSome = true
  rw [h1] <;> rfl
theorem oex (T : ExcT K CF C) : OexC K C := by
  obtain ⟨nm, q, N, bs, sn, sb, ab, co, dd, x0, x1, x2, x3, x5, h⟩ := T.xC
  exact ⟨⟨_, _, _, _, _, _, _, _, _, _, _, _, _, _, _, h, rfl⟩, T.sa, T.ec, T.tc, T.kc⟩
theorem xf (T : ExcT K CF C) : XfC K C := ⟨T.ga, T.gg, T.ec, T.hd⟩
theorem exc (T : ExcT K CF C) : ExcC K C := ⟨T.ga, T.gg, T.ec, T.hd, T.ha, T.hn, T.ht, by
  have := T.sub (.type "object")
  rw [show PySem.W.subIn K (.ref C) (.type "object") = PySem.W.mroIn K C (.type "object") from rfl] at this
  rw [this]
  simp⟩
theorem kit_self (T : ExcT K CF C) : PySem.W.kitOne K (.ref C) (.ref C) = some true := by
  unfold PySem.W.kitOne
  exact if_pos (beq_self_eq_true _)
theorem kit_no (T : ExcT K CF C) (U : ExcT K CF D) (h1 : C ≠ D) (h2 : CF ≠ D) : PySem.W.kitOne K (.ref C) (.ref D) = some false := by
  have e2 : ((PySem.W.clsIn K D).isSome && PySem.W.typeIn K (.ref D) == some (.type "type")) = true := by
    rw [show (PySem.W.clsIn K D).isSome = true from U.is, U.tc] <;> rfl
  unfold PySem.W.kitOne
  rw [if_neg (by simp [h1])]
  show (if ((PySem.W.clsIn K D).isSome && PySem.W.typeIn K (.ref D) == some (.type "type")) = true then PySem.W.subIn K (.ref C) (.ref D) else none) = some false
  rw [if_pos e2, T.sub]
  have a : D ≠ C := h1.symm
  have b : D ≠ CF := h2.symm
  simp [a, b]
theorem kit_ve (T : ExcT K CF C) : PySem.W.kitOne K (.ref C) (.type "ValueError") = some true := by
  unfold PySem.W.kitOne
  rw [if_neg (by simp)]
  show (if PySem.W.kitMeta "ValueError" = true then PySem.W.subIn K (.ref C) (.type "ValueError") else none) = some true
  rw [if_pos (by decide +kernel), T.sub]
  simp
theorem exm_fe (T : ExcT K CF C) (h1 : PySem.W.subIn K (.ref CF) (.type "BaseException") = some true) (h2 : PySem.W.isClsIn K CF = true) (h3 : PySem.W.typeIn K (.ref CF) = some (.type "type")) : PySem.W.exmOne K (.ref C) (.ref CF) = some true := by
  have e2 : ((PySem.W.clsIn K CF).isSome && PySem.W.typeIn K (.ref CF) == some (.type "type")) = true := by
    rw [show (PySem.W.clsIn K CF).isSome = true from h2, h3] <;> rfl
  unfold PySem.W.exmOne
  rw [if_pos (by rw [h1]; rfl)]
  show (if ((PySem.W.clsIn K CF).isSome && PySem.W.typeIn K (.ref CF) == some (.type "type")) = true then PySem.W.subIn K (.ref C) (.ref CF) else none) = some true
  rw [if_pos e2, T.sub]
  simp
end ExcT
def C13.list (c : C13) : List Addr := [c.bn, c.bc, c.bt, c.br, c.us, c.sq, c.ns, c.ni, c.bs, c.un, c.nt, c.co, c.nu]
theorem C13.get (c : C13) : ∀ i, i < 13 → c.list[i]? = some (c.at i)
  | 0, _ => rfl
  | 1, _ => rfl
  | 2, _ => rfl
  | 3, _ => rfl
  | 4, _ => rfl
  | 5, _ => rfl
  | 6, _ => rfl
  | 7, _ => rfl
  | 8, _ => rfl
  | 9, _ => rfl
  | 10, _ => rfl
  | 11, _ => rfl
  | 12, _ => rfl
  | n + 13, h => absurd h (by omega)
theorem C13.ne (c : C13) {CF : Addr} (nd : (CF :: c.list).Nodup) {i j : Nat} (hi : i < 13) (hj : j < 13) (h : i ≠ j) : c.at i ≠ c.at j := by
  have nd2 := (List.nodup_cons.mp nd).2
  intro e
  have a := c.get i hi
  have b := c.get j hj
  rw [← e] at b
  obtain ⟨l1, e1⟩ := List.getElem?_eq_some_iff.mp a
  obtain ⟨l2, e2⟩ := List.getElem?_eq_some_iff.mp b
  have pw := List.pairwise_iff_getElem.mp nd2
  rcases Nat.lt_or_gt_of_ne h with q | q
  · exact pw i j l1 l2 q (e1.trans e2.symm)
  · exact pw j i l2 l1 q (e2.trans e1.symm)
theorem C13.neF (c : C13) {CF : Addr} (nd : (CF :: c.list).Nodup) {j : Nat} (hj : j < 13) : CF ≠ c.at j := fun e =>
  (List.nodup_cons.mp nd).1 (by rw [e]; exact List.mem_of_getElem? (c.get j hj))
theorem kit13 {K : PySem.W.Frag} {CF : Addr} {c : C13} (nd : (CF :: c.list).Nodup) (T : ∀ i, i < 13 → ExcT K CF (c.at i)) (i j : Nat) (hi : i < 13) (hj : j < 13) : PySem.W.kitOne K (.ref (c.at i)) (.ref (c.at j)) = some (decide (i = j)) := by
  by_cases h : i = j
  · rw [h, decide_eq_true rfl]
    exact (T j hj).kit_self
  · rw [decide_eq_false h]
    exact (T i hi).kit_no (T j hj) (c.ne nd hi hj h) (c.neF nd hj)
end
theorem all_mk {P : Program} {w : World} {K : PySem.W.Frag} {h : Heap} {mg : Str → Option Value} {fa : Addr} (X : K.In h) (G : h.Ns mainGlobals mg) (hfa : mg "law" = some (.ref fa))
    {f_pool : Addr} {od_pool an_pool : Option Addr} {sl_pool : Array (Option Value)} {oc_pool kV_pool dc_pool pm_pool cd_pool ct_pool : Value}
    {f_take : Addr} {od_take an_take : Option Addr} {sl_take : Array (Option Value)} {oc_take kV_take dc_take pm_take cd_take ct_take : Value}
    {f_cell : Addr} {od_cell an_cell : Option Addr} {sl_cell : Array (Option Value)} {oc_cell kV_cell dc_cell pm_cell cd_cell ct_cell : Value}
    {f_lraise : Addr} {od_lraise an_lraise : Option Addr} {sl_lraise : Array (Option Value)} {oc_lraise kV_lraise dc_lraise pm_lraise cd_lraise ct_lraise : Value}
    {f_lflags : Addr} {od_lflags an_lflags : Option Addr} {sl_lflags : Array (Option Value)} {oc_lflags kV_lflags dc_lflags pm_lflags cd_lflags ct_lflags : Value}
    {f_lfields : Addr} {od_lfields an_lfields : Option Addr} {sl_lfields : Array (Option Value)} {oc_lfields kV_lfields dc_lfields pm_lfields cd_lfields ct_lfields : Value}
    {f_ldue : Addr} {od_ldue an_ldue : Option Addr} {sl_ldue : Array (Option Value)} {oc_ldue kV_ldue dc_ldue pm_ldue cd_ldue ct_ldue : Value}
    {f_law : Addr} {od_law an_law : Option Addr} {sl_law : Array (Option Value)} {oc_law kV_law dc_law pm_law cd_law ct_law : Value}
    {CF : Addr}
    {C_bn f_bn : Addr} {nm_bn q_bn : Str} {N_bn : Addr} {bs_bn sb_bn : List Value} {sn_bn : List Str} {ab_bn : Bool} {co_bn : Option Bool} {dd_bn : Option Addr} {x0_bn x1_bn x2_bn x3_bn x5_bn : Option Value} {od_bn an_bn : Option Addr} {sl_bn : Array (Option Value)} {oc_bn kV_bn dc_bn pm_bn cd_bn ct_bn : Value}
    {C_bc f_bc : Addr} {nm_bc q_bc : Str} {N_bc : Addr} {bs_bc sb_bc : List Value} {sn_bc : List Str} {ab_bc : Bool} {co_bc : Option Bool} {dd_bc : Option Addr} {x0_bc x1_bc x2_bc x3_bc x5_bc : Option Value} {od_bc an_bc : Option Addr} {sl_bc : Array (Option Value)} {oc_bc kV_bc dc_bc pm_bc cd_bc ct_bc : Value}
    {C_bt f_bt : Addr} {nm_bt q_bt : Str} {N_bt : Addr} {bs_bt sb_bt : List Value} {sn_bt : List Str} {ab_bt : Bool} {co_bt : Option Bool} {dd_bt : Option Addr} {x0_bt x1_bt x2_bt x3_bt x5_bt : Option Value} {od_bt an_bt : Option Addr} {sl_bt : Array (Option Value)} {oc_bt kV_bt dc_bt pm_bt cd_bt ct_bt : Value}
    {C_br f_br : Addr} {nm_br q_br : Str} {N_br : Addr} {bs_br sb_br : List Value} {sn_br : List Str} {ab_br : Bool} {co_br : Option Bool} {dd_br : Option Addr} {x0_br x1_br x2_br x3_br x5_br : Option Value} {od_br an_br : Option Addr} {sl_br : Array (Option Value)} {oc_br kV_br dc_br pm_br cd_br ct_br : Value}
    {C_us f_us : Addr} {nm_us q_us : Str} {N_us : Addr} {bs_us sb_us : List Value} {sn_us : List Str} {ab_us : Bool} {co_us : Option Bool} {dd_us : Option Addr} {x0_us x1_us x2_us x3_us x5_us : Option Value} {od_us an_us : Option Addr} {sl_us : Array (Option Value)} {oc_us kV_us dc_us pm_us cd_us ct_us : Value}
    {C_sq f_sq : Addr} {nm_sq q_sq : Str} {N_sq : Addr} {bs_sq sb_sq : List Value} {sn_sq : List Str} {ab_sq : Bool} {co_sq : Option Bool} {dd_sq : Option Addr} {x0_sq x1_sq x2_sq x3_sq x5_sq : Option Value} {od_sq an_sq : Option Addr} {sl_sq : Array (Option Value)} {oc_sq kV_sq dc_sq pm_sq cd_sq ct_sq : Value}
    {C_ns f_ns : Addr} {nm_ns q_ns : Str} {N_ns : Addr} {bs_ns sb_ns : List Value} {sn_ns : List Str} {ab_ns : Bool} {co_ns : Option Bool} {dd_ns : Option Addr} {x0_ns x1_ns x2_ns x3_ns x5_ns : Option Value} {od_ns an_ns : Option Addr} {sl_ns : Array (Option Value)} {oc_ns kV_ns dc_ns pm_ns cd_ns ct_ns : Value}
    {C_ni f_ni : Addr} {nm_ni q_ni : Str} {N_ni : Addr} {bs_ni sb_ni : List Value} {sn_ni : List Str} {ab_ni : Bool} {co_ni : Option Bool} {dd_ni : Option Addr} {x0_ni x1_ni x2_ni x3_ni x5_ni : Option Value} {od_ni an_ni : Option Addr} {sl_ni : Array (Option Value)} {oc_ni kV_ni dc_ni pm_ni cd_ni ct_ni : Value}
    {C_bs f_bs : Addr} {nm_bs q_bs : Str} {N_bs : Addr} {bs_bs sb_bs : List Value} {sn_bs : List Str} {ab_bs : Bool} {co_bs : Option Bool} {dd_bs : Option Addr} {x0_bs x1_bs x2_bs x3_bs x5_bs : Option Value} {od_bs an_bs : Option Addr} {sl_bs : Array (Option Value)} {oc_bs kV_bs dc_bs pm_bs cd_bs ct_bs : Value}
    {C_un f_un : Addr} {nm_un q_un : Str} {N_un : Addr} {bs_un sb_un : List Value} {sn_un : List Str} {ab_un : Bool} {co_un : Option Bool} {dd_un : Option Addr} {x0_un x1_un x2_un x3_un x5_un : Option Value} {od_un an_un : Option Addr} {sl_un : Array (Option Value)} {oc_un kV_un dc_un pm_un cd_un ct_un : Value}
    {C_nt f_nt : Addr} {nm_nt q_nt : Str} {N_nt : Addr} {bs_nt sb_nt : List Value} {sn_nt : List Str} {ab_nt : Bool} {co_nt : Option Bool} {dd_nt : Option Addr} {x0_nt x1_nt x2_nt x3_nt x5_nt : Option Value} {od_nt an_nt : Option Addr} {sl_nt : Array (Option Value)} {oc_nt kV_nt dc_nt pm_nt cd_nt ct_nt : Value}
    {C_co f_co : Addr} {nm_co q_co : Str} {N_co : Addr} {bs_co sb_co : List Value} {sn_co : List Str} {ab_co : Bool} {co_co : Option Bool} {dd_co : Option Addr} {x0_co x1_co x2_co x3_co x5_co : Option Value} {od_co an_co : Option Addr} {sl_co : Array (Option Value)} {oc_co kV_co dc_co pm_co cd_co ct_co : Value}
    {C_nu f_nu : Addr} {nm_nu q_nu : Str} {N_nu : Addr} {bs_nu sb_nu : List Value} {sn_nu : List Str} {ab_nu : Bool} {co_nu : Option Bool} {dd_nu : Option Addr} {x0_nu x1_nu x2_nu x3_nu x5_nu : Option Value} {od_nu an_nu : Option Addr} {sl_nu : Array (Option Value)} {oc_nu kV_nu dc_nu pm_nu cd_nu ct_nu : Value}
    (a_pool : PySem.W.nsIn K mainGlobals "_law_pool" = some (some (.ref f_pool))) (l_pool : K.lookup f_pool = some ⟨oc_pool, od_pool, .func (PySem.W.fnOf "_law_pool" "_law_pool" (defArgs s_pool) (defBody s_pool) (defScope s_pool) .none kV_pool dc_pool pm_pool an_pool cd_pool ct_pool), sl_pool⟩) (c_pool : PySem.W.codeIn K cd_pool "_law_pool" = true) (k_pool : PySem.W.keepIn K (.ref f_pool) = true)
    (a_take : PySem.W.nsIn K mainGlobals "_law_take" = some (some (.ref f_take))) (l_take : K.lookup f_take = some ⟨oc_take, od_take, .func (PySem.W.fnOf "_law_take" "_law_take" (defArgs s_take) (defBody s_take) (defScope s_take) .none kV_take dc_take pm_take an_take cd_take ct_take), sl_take⟩) (c_take : PySem.W.codeIn K cd_take "_law_take" = true) (k_take : PySem.W.keepIn K (.ref f_take) = true)
    (a_cell : PySem.W.nsIn K mainGlobals "_law_cell" = some (some (.ref f_cell))) (l_cell : K.lookup f_cell = some ⟨oc_cell, od_cell, .func (PySem.W.fnOf "_law_cell" "_law_cell" (defArgs s_cell) (defBody s_cell) (defScope s_cell) .none kV_cell dc_cell pm_cell an_cell cd_cell ct_cell), sl_cell⟩) (c_cell : PySem.W.codeIn K cd_cell "_law_cell" = true) (k_cell : PySem.W.keepIn K (.ref f_cell) = true)
    (a_lraise : PySem.W.nsIn K mainGlobals "_law_raise" = some (some (.ref f_lraise))) (l_lraise : K.lookup f_lraise = some ⟨oc_lraise, od_lraise, .func (PySem.W.fnOf "_law_raise" "_law_raise" (defArgs s_lraise) (defBody s_lraise) (defScope s_lraise) .none kV_lraise dc_lraise pm_lraise an_lraise cd_lraise ct_lraise), sl_lraise⟩) (c_lraise : PySem.W.codeIn K cd_lraise "_law_raise" = true) (k_lraise : PySem.W.keepIn K (.ref f_lraise) = true)
    (a_lflags : PySem.W.nsIn K mainGlobals "_law_flags" = some (some (.ref f_lflags))) (l_lflags : K.lookup f_lflags = some ⟨oc_lflags, od_lflags, .func (PySem.W.fnOf "_law_flags" "_law_flags" (defArgs s_lflags) (defBody s_lflags) (defScope s_lflags) .none kV_lflags dc_lflags pm_lflags an_lflags cd_lflags ct_lflags), sl_lflags⟩) (c_lflags : PySem.W.codeIn K cd_lflags "_law_flags" = true) (k_lflags : PySem.W.keepIn K (.ref f_lflags) = true)
    (a_lfields : PySem.W.nsIn K mainGlobals "_law_fields" = some (some (.ref f_lfields))) (l_lfields : K.lookup f_lfields = some ⟨oc_lfields, od_lfields, .func (PySem.W.fnOf "_law_fields" "_law_fields" (defArgs s_lfields) (defBody s_lfields) (defScope s_lfields) .none kV_lfields dc_lfields pm_lfields an_lfields cd_lfields ct_lfields), sl_lfields⟩) (c_lfields : PySem.W.codeIn K cd_lfields "_law_fields" = true) (k_lfields : PySem.W.keepIn K (.ref f_lfields) = true)
    (a_ldue : PySem.W.nsIn K mainGlobals "_law_due" = some (some (.ref f_ldue))) (l_ldue : K.lookup f_ldue = some ⟨oc_ldue, od_ldue, .func (PySem.W.fnOf "_law_due" "_law_due" (defArgs s_ldue) (defBody s_ldue) (defScope s_ldue) .none kV_ldue dc_ldue pm_ldue an_ldue cd_ldue ct_ldue), sl_ldue⟩) (c_ldue : PySem.W.codeIn K cd_ldue "_law_due" = true) (k_ldue : PySem.W.keepIn K (.ref f_ldue) = true)
    (a_law : PySem.W.nsIn K mainGlobals "law" = some (some (.ref f_law))) (l_law : K.lookup f_law = some ⟨oc_law, od_law, .func (PySem.W.fnOf "law" "law" (defArgs s_law) (defBody s_law) (defScope s_law) .none kV_law dc_law pm_law an_law cd_law ct_law), sl_law⟩) (c_law : PySem.W.codeIn K cd_law "law" = true) (k_law : PySem.W.keepIn K (.ref f_law) = true)
    (aF : PySem.W.nsIn K mainGlobals "FieldError" = some (some (.ref CF))) (rF : PySem.W.readsIn K CF (.type "type") = true) (gF : PySem.W.specialIn K (.ref CF) "__getattribute__" = some (some (.builtin "type.__getattribute__"))) (iF : PySem.W.findCls K (.ref CF) (.type "type") "__init__" = some (.val (.builtin "ValueError.__init__")))
    (ecF : PySem.W.subIn K (.ref CF) (.type "BaseException") = some true) (isF : PySem.W.isClsIn K CF = true) (tcF : PySem.W.typeIn K (.ref CF) = some (.type "type")) (hnE : PySem.W.specialIn K (.builtin "object.__class__") "__get__" = some (some (.builtin "getset_descriptor.__get__"))) (htE : PySem.W.takesIn K (.builtin "object.__class__") = some true)
    (aC_bn : PySem.W.nsIn K mainGlobals "BadNumber" = some (some (.ref C_bn))) (xC_bn : K.lookup C_bn = some (excClassObj nm_bn q_bn C_bn N_bn bs_bn [.ref CF, .type "ValueError", .type "Exception", .type "BaseException", .type "object"] true sn_bn sb_bn ab_bn co_bn dd_bn x0_bn x1_bn x2_bn x3_bn x5_bn "ValueError.__new__")) (sa_bn : PySem.W.findIn K (.ref C_bn) "__setattr__" = some (some (.builtin "object.__setattr__"))) (ga_bn : PySem.W.findIn K (.ref C_bn) "__getattribute__" = some (some (.builtin "BaseException.__getattribute__"))) (gg_bn : PySem.W.findIn K (.ref C_bn) "__getattr__" = some none) (ha_bn : PySem.W.findIn K (.ref C_bn) "__class__" = some (some (.builtin "object.__class__"))) (ic_bn : PySem.W.findIn K (.ref C_bn) "__init__" = some (some (.ref f_bn))) (ti_bn : PySem.W.typeIn K (.ref f_bn) = some (.type "function")) (kc_bn : PySem.W.keepIn K (.ref C_bn) = true) (tc_bn : PySem.W.typeIn K (.ref C_bn) = some (.type "type")) (l_bn : K.lookup f_bn = some ⟨oc_bn, od_bn, .func (PySem.W.fnOf "__init__" "BadNumber.__init__" (defArgs s_ibn) (defBody s_ibn) (defScope s_ibn) .none kV_bn dc_bn pm_bn an_bn cd_bn ct_bn), sl_bn⟩) (c_bn : PySem.W.codeIn K cd_bn "BadNumber.__init__" = true) (k_bn : PySem.W.keepIn K (.ref f_bn) = true) (no_n_bn : PySem.W.findIn K (.ref C_bn) "n" = some none)
    (aC_bc : PySem.W.nsIn K mainGlobals "BadCharacteristic" = some (some (.ref C_bc))) (xC_bc : K.lookup C_bc = some (excClassObj nm_bc q_bc C_bc N_bc bs_bc [.ref CF, .type "ValueError", .type "Exception", .type "BaseException", .type "object"] true sn_bc sb_bc ab_bc co_bc dd_bc x0_bc x1_bc x2_bc x3_bc x5_bc "ValueError.__new__")) (sa_bc : PySem.W.findIn K (.ref C_bc) "__setattr__" = some (some (.builtin "object.__setattr__"))) (ga_bc : PySem.W.findIn K (.ref C_bc) "__getattribute__" = some (some (.builtin "BaseException.__getattribute__"))) (gg_bc : PySem.W.findIn K (.ref C_bc) "__getattr__" = some none) (ha_bc : PySem.W.findIn K (.ref C_bc) "__class__" = some (some (.builtin "object.__class__"))) (ic_bc : PySem.W.findIn K (.ref C_bc) "__init__" = some (some (.ref f_bc))) (ti_bc : PySem.W.typeIn K (.ref f_bc) = some (.type "function")) (kc_bc : PySem.W.keepIn K (.ref C_bc) = true) (tc_bc : PySem.W.typeIn K (.ref C_bc) = some (.type "type")) (l_bc : K.lookup f_bc = some ⟨oc_bc, od_bc, .func (PySem.W.fnOf "__init__" "BadCharacteristic.__init__" (defArgs s_ibc) (defBody s_ibc) (defScope s_ibc) .none kV_bc dc_bc pm_bc an_bc cd_bc ct_bc), sl_bc⟩) (c_bc : PySem.W.codeIn K cd_bc "BadCharacteristic.__init__" = true) (k_bc : PySem.W.keepIn K (.ref f_bc) = true) (no_p_bc : PySem.W.findIn K (.ref C_bc) "p" = some none)
    (aC_bt : PySem.W.nsIn K mainGlobals "BadText" = some (some (.ref C_bt))) (xC_bt : K.lookup C_bt = some (excClassObj nm_bt q_bt C_bt N_bt bs_bt [.ref CF, .type "ValueError", .type "Exception", .type "BaseException", .type "object"] true sn_bt sb_bt ab_bt co_bt dd_bt x0_bt x1_bt x2_bt x3_bt x5_bt "ValueError.__new__")) (sa_bt : PySem.W.findIn K (.ref C_bt) "__setattr__" = some (some (.builtin "object.__setattr__"))) (ga_bt : PySem.W.findIn K (.ref C_bt) "__getattribute__" = some (some (.builtin "BaseException.__getattribute__"))) (gg_bt : PySem.W.findIn K (.ref C_bt) "__getattr__" = some none) (ha_bt : PySem.W.findIn K (.ref C_bt) "__class__" = some (some (.builtin "object.__class__"))) (ic_bt : PySem.W.findIn K (.ref C_bt) "__init__" = some (some (.ref f_bt))) (ti_bt : PySem.W.typeIn K (.ref f_bt) = some (.type "function")) (kc_bt : PySem.W.keepIn K (.ref C_bt) = true) (tc_bt : PySem.W.typeIn K (.ref C_bt) = some (.type "type")) (l_bt : K.lookup f_bt = some ⟨oc_bt, od_bt, .func (PySem.W.fnOf "__init__" "BadText.__init__" (defArgs s_ibt) (defBody s_ibt) (defScope s_ibt) .none kV_bt dc_bt pm_bt an_bt cd_bt ct_bt), sl_bt⟩) (c_bt : PySem.W.codeIn K cd_bt "BadText.__init__" = true) (k_bt : PySem.W.keepIn K (.ref f_bt) = true) (no_at_bt : PySem.W.findIn K (.ref C_bt) "at" = some none)
    (aC_br : PySem.W.nsIn K mainGlobals "BadRow" = some (some (.ref C_br))) (xC_br : K.lookup C_br = some (excClassObj nm_br q_br C_br N_br bs_br [.ref CF, .type "ValueError", .type "Exception", .type "BaseException", .type "object"] true sn_br sb_br ab_br co_br dd_br x0_br x1_br x2_br x3_br x5_br "ValueError.__new__")) (sa_br : PySem.W.findIn K (.ref C_br) "__setattr__" = some (some (.builtin "object.__setattr__"))) (ga_br : PySem.W.findIn K (.ref C_br) "__getattribute__" = some (some (.builtin "BaseException.__getattribute__"))) (gg_br : PySem.W.findIn K (.ref C_br) "__getattr__" = some none) (ha_br : PySem.W.findIn K (.ref C_br) "__class__" = some (some (.builtin "object.__class__"))) (ic_br : PySem.W.findIn K (.ref C_br) "__init__" = some (some (.ref f_br))) (ti_br : PySem.W.typeIn K (.ref f_br) = some (.type "function")) (kc_br : PySem.W.keepIn K (.ref C_br) = true) (tc_br : PySem.W.typeIn K (.ref C_br) = some (.type "type")) (l_br : K.lookup f_br = some ⟨oc_br, od_br, .func (PySem.W.fnOf "__init__" "BadRow.__init__" (defArgs s_ibr) (defBody s_ibr) (defScope s_ibr) .none kV_br dc_br pm_br an_br cd_br ct_br), sl_br⟩) (c_br : PySem.W.codeIn K cd_br "BadRow.__init__" = true) (k_br : PySem.W.keepIn K (.ref f_br) = true) (no_at_br : PySem.W.findIn K (.ref C_br) "at" = some none)
    (aC_us : PySem.W.nsIn K mainGlobals "UnlikeShapes" = some (some (.ref C_us))) (xC_us : K.lookup C_us = some (excClassObj nm_us q_us C_us N_us bs_us [.ref CF, .type "ValueError", .type "Exception", .type "BaseException", .type "object"] true sn_us sb_us ab_us co_us dd_us x0_us x1_us x2_us x3_us x5_us "ValueError.__new__")) (sa_us : PySem.W.findIn K (.ref C_us) "__setattr__" = some (some (.builtin "object.__setattr__"))) (ga_us : PySem.W.findIn K (.ref C_us) "__getattribute__" = some (some (.builtin "BaseException.__getattribute__"))) (gg_us : PySem.W.findIn K (.ref C_us) "__getattr__" = some none) (ha_us : PySem.W.findIn K (.ref C_us) "__class__" = some (some (.builtin "object.__class__"))) (ic_us : PySem.W.findIn K (.ref C_us) "__init__" = some (some (.ref f_us))) (ti_us : PySem.W.typeIn K (.ref f_us) = some (.type "function")) (kc_us : PySem.W.keepIn K (.ref C_us) = true) (tc_us : PySem.W.typeIn K (.ref C_us) = some (.type "type")) (l_us : K.lookup f_us = some ⟨oc_us, od_us, .func (PySem.W.fnOf "__init__" "UnlikeShapes.__init__" (defArgs s_ius) (defBody s_ius) (defScope s_ius) .none kV_us dc_us pm_us an_us cd_us ct_us), sl_us⟩) (c_us : PySem.W.codeIn K cd_us "UnlikeShapes.__init__" = true) (k_us : PySem.W.keepIn K (.ref f_us) = true) (no_first_us : PySem.W.findIn K (.ref C_us) "first" = some none) (no_second_us : PySem.W.findIn K (.ref C_us) "second" = some none)
    (aC_sq : PySem.W.nsIn K mainGlobals "NotSquare" = some (some (.ref C_sq))) (xC_sq : K.lookup C_sq = some (excClassObj nm_sq q_sq C_sq N_sq bs_sq [.ref CF, .type "ValueError", .type "Exception", .type "BaseException", .type "object"] true sn_sq sb_sq ab_sq co_sq dd_sq x0_sq x1_sq x2_sq x3_sq x5_sq "ValueError.__new__")) (sa_sq : PySem.W.findIn K (.ref C_sq) "__setattr__" = some (some (.builtin "object.__setattr__"))) (ga_sq : PySem.W.findIn K (.ref C_sq) "__getattribute__" = some (some (.builtin "BaseException.__getattribute__"))) (gg_sq : PySem.W.findIn K (.ref C_sq) "__getattr__" = some none) (ha_sq : PySem.W.findIn K (.ref C_sq) "__class__" = some (some (.builtin "object.__class__"))) (ic_sq : PySem.W.findIn K (.ref C_sq) "__init__" = some (some (.ref f_sq))) (ti_sq : PySem.W.typeIn K (.ref f_sq) = some (.type "function")) (kc_sq : PySem.W.keepIn K (.ref C_sq) = true) (tc_sq : PySem.W.typeIn K (.ref C_sq) = some (.type "type")) (l_sq : K.lookup f_sq = some ⟨oc_sq, od_sq, .func (PySem.W.fnOf "__init__" "NotSquare.__init__" (defArgs s_isq) (defBody s_isq) (defScope s_isq) .none kV_sq dc_sq pm_sq an_sq cd_sq ct_sq), sl_sq⟩) (c_sq : PySem.W.codeIn K cd_sq "NotSquare.__init__" = true) (k_sq : PySem.W.keepIn K (.ref f_sq) = true) (no_height_sq : PySem.W.findIn K (.ref C_sq) "height" = some none) (no_width_sq : PySem.W.findIn K (.ref C_sq) "width" = some none)
    (aC_ns : PySem.W.nsIn K mainGlobals "NoSolution" = some (some (.ref C_ns))) (xC_ns : K.lookup C_ns = some (excClassObj nm_ns q_ns C_ns N_ns bs_ns [.ref CF, .type "ValueError", .type "Exception", .type "BaseException", .type "object"] true sn_ns sb_ns ab_ns co_ns dd_ns x0_ns x1_ns x2_ns x3_ns x5_ns "ValueError.__new__")) (sa_ns : PySem.W.findIn K (.ref C_ns) "__setattr__" = some (some (.builtin "object.__setattr__"))) (ga_ns : PySem.W.findIn K (.ref C_ns) "__getattribute__" = some (some (.builtin "BaseException.__getattribute__"))) (gg_ns : PySem.W.findIn K (.ref C_ns) "__getattr__" = some none) (ha_ns : PySem.W.findIn K (.ref C_ns) "__class__" = some (some (.builtin "object.__class__"))) (ic_ns : PySem.W.findIn K (.ref C_ns) "__init__" = some (some (.ref f_ns))) (ti_ns : PySem.W.typeIn K (.ref f_ns) = some (.type "function")) (kc_ns : PySem.W.keepIn K (.ref C_ns) = true) (tc_ns : PySem.W.typeIn K (.ref C_ns) = some (.type "type")) (l_ns : K.lookup f_ns = some ⟨oc_ns, od_ns, .func (PySem.W.fnOf "__init__" "NoSolution.__init__" (defArgs s_ins) (defBody s_ins) (defScope s_ins) .none kV_ns dc_ns pm_ns an_ns cd_ns ct_ns), sl_ns⟩) (c_ns : PySem.W.codeIn K cd_ns "NoSolution.__init__" = true) (k_ns : PySem.W.keepIn K (.ref f_ns) = true)
    (aC_ni : PySem.W.nsIn K mainGlobals "NoInverse" = some (some (.ref C_ni))) (xC_ni : K.lookup C_ni = some (excClassObj nm_ni q_ni C_ni N_ni bs_ni [.ref CF, .type "ValueError", .type "Exception", .type "BaseException", .type "object"] true sn_ni sb_ni ab_ni co_ni dd_ni x0_ni x1_ni x2_ni x3_ni x5_ni "ValueError.__new__")) (sa_ni : PySem.W.findIn K (.ref C_ni) "__setattr__" = some (some (.builtin "object.__setattr__"))) (ga_ni : PySem.W.findIn K (.ref C_ni) "__getattribute__" = some (some (.builtin "BaseException.__getattribute__"))) (gg_ni : PySem.W.findIn K (.ref C_ni) "__getattr__" = some none) (ha_ni : PySem.W.findIn K (.ref C_ni) "__class__" = some (some (.builtin "object.__class__"))) (ic_ni : PySem.W.findIn K (.ref C_ni) "__init__" = some (some (.ref f_ni))) (ti_ni : PySem.W.typeIn K (.ref f_ni) = some (.type "function")) (kc_ni : PySem.W.keepIn K (.ref C_ni) = true) (tc_ni : PySem.W.typeIn K (.ref C_ni) = some (.type "type")) (l_ni : K.lookup f_ni = some ⟨oc_ni, od_ni, .func (PySem.W.fnOf "__init__" "NoInverse.__init__" (defArgs s_ini) (defBody s_ini) (defScope s_ini) .none kV_ni dc_ni pm_ni an_ni cd_ni ct_ni), sl_ni⟩) (c_ni : PySem.W.codeIn K cd_ni "NoInverse.__init__" = true) (k_ni : PySem.W.keepIn K (.ref f_ni) = true)
    (aC_bs : PySem.W.nsIn K mainGlobals "BadStep" = some (some (.ref C_bs))) (xC_bs : K.lookup C_bs = some (excClassObj nm_bs q_bs C_bs N_bs bs_bs [.ref CF, .type "ValueError", .type "Exception", .type "BaseException", .type "object"] true sn_bs sb_bs ab_bs co_bs dd_bs x0_bs x1_bs x2_bs x3_bs x5_bs "ValueError.__new__")) (sa_bs : PySem.W.findIn K (.ref C_bs) "__setattr__" = some (some (.builtin "object.__setattr__"))) (ga_bs : PySem.W.findIn K (.ref C_bs) "__getattribute__" = some (some (.builtin "BaseException.__getattribute__"))) (gg_bs : PySem.W.findIn K (.ref C_bs) "__getattr__" = some none) (ha_bs : PySem.W.findIn K (.ref C_bs) "__class__" = some (some (.builtin "object.__class__"))) (ic_bs : PySem.W.findIn K (.ref C_bs) "__init__" = some (some (.ref f_bs))) (ti_bs : PySem.W.typeIn K (.ref f_bs) = some (.type "function")) (kc_bs : PySem.W.keepIn K (.ref C_bs) = true) (tc_bs : PySem.W.typeIn K (.ref C_bs) = some (.type "type")) (l_bs : K.lookup f_bs = some ⟨oc_bs, od_bs, .func (PySem.W.fnOf "__init__" "BadStep.__init__" (defArgs s_ibs) (defBody s_ibs) (defScope s_ibs) .none kV_bs dc_bs pm_bs an_bs cd_bs ct_bs), sl_bs⟩) (c_bs : PySem.W.codeIn K cd_bs "BadStep.__init__" = true) (k_bs : PySem.W.keepIn K (.ref f_bs) = true) (no_at_bs : PySem.W.findIn K (.ref C_bs) "at" = some none)
    (aC_un : PySem.W.nsIn K mainGlobals "UnknownName" = some (some (.ref C_un))) (xC_un : K.lookup C_un = some (excClassObj nm_un q_un C_un N_un bs_un [.ref CF, .type "ValueError", .type "Exception", .type "BaseException", .type "object"] true sn_un sb_un ab_un co_un dd_un x0_un x1_un x2_un x3_un x5_un "ValueError.__new__")) (sa_un : PySem.W.findIn K (.ref C_un) "__setattr__" = some (some (.builtin "object.__setattr__"))) (ga_un : PySem.W.findIn K (.ref C_un) "__getattribute__" = some (some (.builtin "BaseException.__getattribute__"))) (gg_un : PySem.W.findIn K (.ref C_un) "__getattr__" = some none) (ha_un : PySem.W.findIn K (.ref C_un) "__class__" = some (some (.builtin "object.__class__"))) (ic_un : PySem.W.findIn K (.ref C_un) "__init__" = some (some (.ref f_un))) (ti_un : PySem.W.typeIn K (.ref f_un) = some (.type "function")) (kc_un : PySem.W.keepIn K (.ref C_un) = true) (tc_un : PySem.W.typeIn K (.ref C_un) = some (.type "type")) (l_un : K.lookup f_un = some ⟨oc_un, od_un, .func (PySem.W.fnOf "__init__" "UnknownName.__init__" (defArgs s_iun) (defBody s_iun) (defScope s_iun) .none kV_un dc_un pm_un an_un cd_un ct_un), sl_un⟩) (c_un : PySem.W.codeIn K cd_un "UnknownName.__init__" = true) (k_un : PySem.W.keepIn K (.ref f_un) = true) (no_name_un : PySem.W.findIn K (.ref C_un) "name" = some none)
    (aC_nt : PySem.W.nsIn K mainGlobals "NameTaken" = some (some (.ref C_nt))) (xC_nt : K.lookup C_nt = some (excClassObj nm_nt q_nt C_nt N_nt bs_nt [.ref CF, .type "ValueError", .type "Exception", .type "BaseException", .type "object"] true sn_nt sb_nt ab_nt co_nt dd_nt x0_nt x1_nt x2_nt x3_nt x5_nt "ValueError.__new__")) (sa_nt : PySem.W.findIn K (.ref C_nt) "__setattr__" = some (some (.builtin "object.__setattr__"))) (ga_nt : PySem.W.findIn K (.ref C_nt) "__getattribute__" = some (some (.builtin "BaseException.__getattribute__"))) (gg_nt : PySem.W.findIn K (.ref C_nt) "__getattr__" = some none) (ha_nt : PySem.W.findIn K (.ref C_nt) "__class__" = some (some (.builtin "object.__class__"))) (ic_nt : PySem.W.findIn K (.ref C_nt) "__init__" = some (some (.ref f_nt))) (ti_nt : PySem.W.typeIn K (.ref f_nt) = some (.type "function")) (kc_nt : PySem.W.keepIn K (.ref C_nt) = true) (tc_nt : PySem.W.typeIn K (.ref C_nt) = some (.type "type")) (l_nt : K.lookup f_nt = some ⟨oc_nt, od_nt, .func (PySem.W.fnOf "__init__" "NameTaken.__init__" (defArgs s_int) (defBody s_int) (defScope s_int) .none kV_nt dc_nt pm_nt an_nt cd_nt ct_nt), sl_nt⟩) (c_nt : PySem.W.codeIn K cd_nt "NameTaken.__init__" = true) (k_nt : PySem.W.keepIn K (.ref f_nt) = true) (no_name_nt : PySem.W.findIn K (.ref C_nt) "name" = some none)
    (aC_co : PySem.W.nsIn K mainGlobals "Contradiction" = some (some (.ref C_co))) (xC_co : K.lookup C_co = some (excClassObj nm_co q_co C_co N_co bs_co [.ref CF, .type "ValueError", .type "Exception", .type "BaseException", .type "object"] true sn_co sb_co ab_co co_co dd_co x0_co x1_co x2_co x3_co x5_co "ValueError.__new__")) (sa_co : PySem.W.findIn K (.ref C_co) "__setattr__" = some (some (.builtin "object.__setattr__"))) (ga_co : PySem.W.findIn K (.ref C_co) "__getattribute__" = some (some (.builtin "BaseException.__getattribute__"))) (gg_co : PySem.W.findIn K (.ref C_co) "__getattr__" = some none) (ha_co : PySem.W.findIn K (.ref C_co) "__class__" = some (some (.builtin "object.__class__"))) (ic_co : PySem.W.findIn K (.ref C_co) "__init__" = some (some (.ref f_co))) (ti_co : PySem.W.typeIn K (.ref f_co) = some (.type "function")) (kc_co : PySem.W.keepIn K (.ref C_co) = true) (tc_co : PySem.W.typeIn K (.ref C_co) = some (.type "type")) (l_co : K.lookup f_co = some ⟨oc_co, od_co, .func (PySem.W.fnOf "__init__" "Contradiction.__init__" (defArgs s_ico) (defBody s_ico) (defScope s_ico) .none kV_co dc_co pm_co an_co cd_co ct_co), sl_co⟩) (c_co : PySem.W.codeIn K cd_co "Contradiction.__init__" = true) (k_co : PySem.W.keepIn K (.ref f_co) = true) (no_clash_co : PySem.W.findIn K (.ref C_co) "clash" = some none)
    (aC_nu : PySem.W.nsIn K mainGlobals "NothingToUndo" = some (some (.ref C_nu))) (xC_nu : K.lookup C_nu = some (excClassObj nm_nu q_nu C_nu N_nu bs_nu [.ref CF, .type "ValueError", .type "Exception", .type "BaseException", .type "object"] true sn_nu sb_nu ab_nu co_nu dd_nu x0_nu x1_nu x2_nu x3_nu x5_nu "ValueError.__new__")) (sa_nu : PySem.W.findIn K (.ref C_nu) "__setattr__" = some (some (.builtin "object.__setattr__"))) (ga_nu : PySem.W.findIn K (.ref C_nu) "__getattribute__" = some (some (.builtin "BaseException.__getattribute__"))) (gg_nu : PySem.W.findIn K (.ref C_nu) "__getattr__" = some none) (ha_nu : PySem.W.findIn K (.ref C_nu) "__class__" = some (some (.builtin "object.__class__"))) (ic_nu : PySem.W.findIn K (.ref C_nu) "__init__" = some (some (.ref f_nu))) (ti_nu : PySem.W.typeIn K (.ref f_nu) = some (.type "function")) (kc_nu : PySem.W.keepIn K (.ref C_nu) = true) (tc_nu : PySem.W.typeIn K (.ref C_nu) = some (.type "type")) (l_nu : K.lookup f_nu = some ⟨oc_nu, od_nu, .func (PySem.W.fnOf "__init__" "NothingToUndo.__init__" (defArgs s_inu) (defBody s_inu) (defScope s_inu) .none kV_nu dc_nu pm_nu an_nu cd_nu ct_nu), sl_nu⟩) (c_nu : PySem.W.codeIn K cd_nu "NothingToUndo.__init__" = true) (k_nu : PySem.W.keepIn K (.ref f_nu) = true)
    (nd : (CF :: C13.list ⟨C_bn, C_bc, C_bt, C_br, C_us, C_sq, C_ns, C_ni, C_bs, C_un, C_nt, C_co, C_nu⟩).Nodup)
    (z_int : PySem.W.nsIn K mainGlobals "int" = some none)
    (z_len : PySem.W.nsIn K mainGlobals "len" = some none)
    (z_abs : PySem.W.nsIn K mainGlobals "abs" = some none)
    (z_isinstance : PySem.W.nsIn K mainGlobals "isinstance" = some none)
    (z_bool : PySem.W.nsIn K mainGlobals "bool" = some none)
    (z_tuple : PySem.W.nsIn K mainGlobals "tuple" = some none)
    (z_list : PySem.W.nsIn K mainGlobals "list" = some none)
    (z_str : PySem.W.nsIn K mainGlobals "str" = some none)
    (z_range : PySem.W.nsIn K mainGlobals "range" = some none)
    (z_max : PySem.W.nsIn K mainGlobals "max" = some none)
    (z_min : PySem.W.nsIn K mainGlobals "min" = some none)
    (z_sorted : PySem.W.nsIn K mainGlobals "sorted" = some none)
    (z_set : PySem.W.nsIn K mainGlobals "set" = some none)
    (z_ValueError : PySem.W.nsIn K mainGlobals "ValueError" = some none) :
    ∃ fd : FuncData, (∀ (s : Shared) (v : Value), BindsTo s fd ⟨[v], []⟩ [("_law_script", v)]) ∧ ∀ base : Heap, K.In base → base.Ns mainGlobals mg → FnOk P w K mg base CX0 4 fa fd ["_law_script"] (spLaw K) := by
  have e := hfa.symm.trans (PySem.W.mg_of X G a_law)
  cases e
  have T : Txt mg := ⟨PySem.W.mg_none_of X G z_int, PySem.W.mg_none_of X G z_len, PySem.W.mg_none_of X G z_abs, PySem.W.mg_none_of X G z_isinstance, PySem.W.mg_none_of X G z_bool, PySem.W.mg_none_of X G z_tuple, PySem.W.mg_none_of X G z_list, PySem.W.mg_none_of X G z_str, PySem.W.mg_none_of X G z_range, PySem.W.mg_none_of X G z_max, PySem.W.mg_none_of X G z_min, PySem.W.mg_none_of X G z_sorted, PySem.W.mg_none_of X G z_set⟩
  have n_ValueError := PySem.W.mg_none_of X G z_ValueError
  have TF : FErr K mg CF := ⟨PySem.W.mg_of X G aF, rF, gF, iF⟩
  have F_bn := fun_mk (st := s_ibn) l_bn c_bn k_bn
  have b_bn := F_bn.binds (ps := ["self", "n"]) fun _ _ _ _ _ _ us hl => match us, hl with | [_, _], _ => rfl
  have X_bn : ExcT K CF C_bn := ⟨⟨_, _, _, _, _, _, _, _, _, _, _, _, _, _, xC_bn⟩, sa_bn, ga_bn, gg_bn, kc_bn, tc_bn, ha_bn, hnE, htE⟩
  have F_bc := fun_mk (st := s_ibc) l_bc c_bc k_bc
  have b_bc := F_bc.binds (ps := ["self", "p"]) fun _ _ _ _ _ _ us hl => match us, hl with | [_, _], _ => rfl
  have X_bc : ExcT K CF C_bc := ⟨⟨_, _, _, _, _, _, _, _, _, _, _, _, _, _, xC_bc⟩, sa_bc, ga_bc, gg_bc, kc_bc, tc_bc, ha_bc, hnE, htE⟩
  have F_bt := fun_mk (st := s_ibt) l_bt c_bt k_bt
  have b_bt := F_bt.binds (ps := ["self", "at"]) fun _ _ _ _ _ _ us hl => match us, hl with | [_, _], _ => rfl
  have X_bt : ExcT K CF C_bt := ⟨⟨_, _, _, _, _, _, _, _, _, _, _, _, _, _, xC_bt⟩, sa_bt, ga_bt, gg_bt, kc_bt, tc_bt, ha_bt, hnE, htE⟩
  have F_br := fun_mk (st := s_ibr) l_br c_br k_br
  have b_br := F_br.binds (ps := ["self", "at"]) fun _ _ _ _ _ _ us hl => match us, hl with | [_, _], _ => rfl
  have X_br : ExcT K CF C_br := ⟨⟨_, _, _, _, _, _, _, _, _, _, _, _, _, _, xC_br⟩, sa_br, ga_br, gg_br, kc_br, tc_br, ha_br, hnE, htE⟩
  have F_us := fun_mk (st := s_ius) l_us c_us k_us
  have b_us := F_us.binds (ps := ["self", "first", "second"]) fun _ _ _ _ _ _ us hl => match us, hl with | [_, _, _], _ => rfl
  have X_us : ExcT K CF C_us := ⟨⟨_, _, _, _, _, _, _, _, _, _, _, _, _, _, xC_us⟩, sa_us, ga_us, gg_us, kc_us, tc_us, ha_us, hnE, htE⟩
  have F_sq := fun_mk (st := s_isq) l_sq c_sq k_sq
  have b_sq := F_sq.binds (ps := ["self", "height", "width"]) fun _ _ _ _ _ _ us hl => match us, hl with | [_, _, _], _ => rfl
  have X_sq : ExcT K CF C_sq := ⟨⟨_, _, _, _, _, _, _, _, _, _, _, _, _, _, xC_sq⟩, sa_sq, ga_sq, gg_sq, kc_sq, tc_sq, ha_sq, hnE, htE⟩
  have F_ns := fun_mk (st := s_ins) l_ns c_ns k_ns
  have b_ns := F_ns.binds (ps := ["self"]) fun _ _ _ _ _ _ us hl => match us, hl with | [_], _ => rfl
  have X_ns : ExcT K CF C_ns := ⟨⟨_, _, _, _, _, _, _, _, _, _, _, _, _, _, xC_ns⟩, sa_ns, ga_ns, gg_ns, kc_ns, tc_ns, ha_ns, hnE, htE⟩
  have F_ni := fun_mk (st := s_ini) l_ni c_ni k_ni
  have b_ni := F_ni.binds (ps := ["self"]) fun _ _ _ _ _ _ us hl => match us, hl with | [_], _ => rfl
  have X_ni : ExcT K CF C_ni := ⟨⟨_, _, _, _, _, _, _, _, _, _, _, _, _, _, xC_ni⟩, sa_ni, ga_ni, gg_ni, kc_ni, tc_ni, ha_ni, hnE, htE⟩
  have F_bs := fun_mk (st := s_ibs) l_bs c_bs k_bs
  have b_bs := F_bs.binds (ps := ["self", "at"]) fun _ _ _ _ _ _ us hl => match us, hl with | [_, _], _ => rfl
  have X_bs : ExcT K CF C_bs := ⟨⟨_, _, _, _, _, _, _, _, _, _, _, _, _, _, xC_bs⟩, sa_bs, ga_bs, gg_bs, kc_bs, tc_bs, ha_bs, hnE, htE⟩
  have F_un := fun_mk (st := s_iun) l_un c_un k_un
  have b_un := F_un.binds (ps := ["self", "name"]) fun _ _ _ _ _ _ us hl => match us, hl with | [_, _], _ => rfl
  have X_un : ExcT K CF C_un := ⟨⟨_, _, _, _, _, _, _, _, _, _, _, _, _, _, xC_un⟩, sa_un, ga_un, gg_un, kc_un, tc_un, ha_un, hnE, htE⟩
  have F_nt := fun_mk (st := s_int) l_nt c_nt k_nt
  have b_nt := F_nt.binds (ps := ["self", "name"]) fun _ _ _ _ _ _ us hl => match us, hl with | [_, _], _ => rfl
  have X_nt : ExcT K CF C_nt := ⟨⟨_, _, _, _, _, _, _, _, _, _, _, _, _, _, xC_nt⟩, sa_nt, ga_nt, gg_nt, kc_nt, tc_nt, ha_nt, hnE, htE⟩
  have F_co := fun_mk (st := s_ico) l_co c_co k_co
  have b_co := F_co.binds (ps := ["self", "clash"]) fun _ _ _ _ _ _ us hl => match us, hl with | [_, _], _ => rfl
  have X_co : ExcT K CF C_co := ⟨⟨_, _, _, _, _, _, _, _, _, _, _, _, _, _, xC_co⟩, sa_co, ga_co, gg_co, kc_co, tc_co, ha_co, hnE, htE⟩
  have F_nu := fun_mk (st := s_inu) l_nu c_nu k_nu
  have b_nu := F_nu.binds (ps := ["self"]) fun _ _ _ _ _ _ us hl => match us, hl with | [_], _ => rfl
  have X_nu : ExcT K CF C_nu := ⟨⟨_, _, _, _, _, _, _, _, _, _, _, _, _, _, xC_nu⟩, sa_nu, ga_nu, gg_nu, kc_nu, tc_nu, ha_nu, hnE, htE⟩
  have F_pool := fun_mk (st := s_pool) l_pool c_pool k_pool
  have b_pool := F_pool.binds (ps := ["_law_cell_here"]) fun _ _ _ _ _ _ us hl => match us, hl with | [_], _ => rfl
  have F_take := fun_mk (st := s_take) l_take c_take k_take
  have b_take := F_take.binds (ps := ["_law_pool_here", "_law_limit"]) fun _ _ _ _ _ _ us hl => match us, hl with | [_, _], _ => rfl
  have F_cell := fun_mk (st := s_cell) l_cell c_cell k_cell
  have b_cell := F_cell.binds (ps := ["_law_script", "_law_k"]) fun _ _ _ _ _ _ us hl => match us, hl with | [_, _], _ => rfl
  have F_lraise := fun_mk (st := s_lraise) l_lraise c_lraise k_lraise
  have b_lraise := F_lraise.binds (ps := ["_law_which", "_law_first", "_law_second"]) fun _ _ _ _ _ _ us hl => match us, hl with | [_, _, _], _ => rfl
  have F_lflags := fun_mk (st := s_lflags) l_lflags c_lflags k_lflags
  have b_lflags := F_lflags.binds (ps := ["_law_e"]) fun _ _ _ _ _ _ us hl => match us, hl with | [_], _ => rfl
  have F_lfields := fun_mk (st := s_lfields) l_lfields c_lfields k_lfields
  have b_lfields := F_lfields.binds (ps := ["_law_which", "_law_e"]) fun _ _ _ _ _ _ us hl => match us, hl with | [_, _], _ => rfl
  have F_ldue := fun_mk (st := s_ldue) l_ldue c_ldue k_ldue
  have b_ldue := F_ldue.binds (ps := ["_law_which", "_law_first", "_law_second"]) fun _ _ _ _ _ _ us hl => match us, hl with | [_, _, _], _ => rfl
  have F_law := fun_mk (st := s_law) l_law c_law k_law
  refine ⟨PySem.W.fnOf "law" "law" (defArgs s_law) (defBody s_law) (defScope s_law) .none kV_law dc_law pm_law an_law cd_law ct_law, fun s v => .of_eq rfl, fun base _ _ => ?_⟩
  have d_pool : Cl P w K mg base CX0 1 "_law_pool" spPool := ⟨_, _, _, ok_pool F_pool, PySem.W.mg_of X G a_pool, k_pool, b_pool⟩
  have d_take : Cl P w K mg base CX0 1 "_law_take" spTake := ⟨_, _, _, ok_take T F_take, PySem.W.mg_of X G a_take, k_take, b_take⟩
  have d_cell : Cl P w K mg base CX0 1 "_law_cell" (spCellL K) := ⟨_, _, _, ok_cell T F_cell, PySem.W.mg_of X G a_cell, k_cell, b_cell⟩
  have d_ldue : Cl P w K mg base CX0 1 "_law_due" (spDue01 K) := ⟨_, _, _, ok_ldue T F_ldue, PySem.W.mg_of X G a_ldue, k_ldue, b_ldue⟩
  let cc : C13 := (⟨C_bn, C_bc, C_bt, C_br, C_us, C_sq, C_ns, C_ni, C_bs, C_un, C_nt, C_co, C_nu⟩ : C13)
  have x_bn : ErG P w K mg base "BadNumber" cc.bn _ := ⟨_, _, _, PySem.W.mg_of X G aC_bn, X_bn.oex, ic_bn, ti_bn, ok_ibn TF X_bn.oex no_n_bn F_bn, b_bn⟩
  have x_bc : ErG P w K mg base "BadCharacteristic" cc.bc _ := ⟨_, _, _, PySem.W.mg_of X G aC_bc, X_bc.oex, ic_bc, ti_bc, ok_ibc TF X_bc.oex no_p_bc F_bc, b_bc⟩
  have x_bt : ErG P w K mg base "BadText" cc.bt _ := ⟨_, _, _, PySem.W.mg_of X G aC_bt, X_bt.oex, ic_bt, ti_bt, ok_ibt TF X_bt.oex no_at_bt F_bt, b_bt⟩
  have x_br : ErG P w K mg base "BadRow" cc.br _ := ⟨_, _, _, PySem.W.mg_of X G aC_br, X_br.oex, ic_br, ti_br, ok_ibr TF X_br.oex no_at_br F_br, b_br⟩
  have x_us : ErG P w K mg base "UnlikeShapes" cc.us _ := ⟨_, _, _, PySem.W.mg_of X G aC_us, X_us.oex, ic_us, ti_us, ok_ius TF X_us.oex no_first_us no_second_us F_us, b_us⟩
  have x_sq : ErG P w K mg base "NotSquare" cc.sq _ := ⟨_, _, _, PySem.W.mg_of X G aC_sq, X_sq.oex, ic_sq, ti_sq, ok_isq TF X_sq.oex no_height_sq no_width_sq F_sq, b_sq⟩
  have x_ns : ErG P w K mg base "NoSolution" cc.ns _ := ⟨_, _, _, PySem.W.mg_of X G aC_ns, X_ns.oex, ic_ns, ti_ns, ok_ins TF X_ns.oex  F_ns, b_ns⟩
  have x_ni : ErG P w K mg base "NoInverse" cc.ni _ := ⟨_, _, _, PySem.W.mg_of X G aC_ni, X_ni.oex, ic_ni, ti_ni, ok_ini TF X_ni.oex  F_ni, b_ni⟩
  have x_bs : ErG P w K mg base "BadStep" cc.bs _ := ⟨_, _, _, PySem.W.mg_of X G aC_bs, X_bs.oex, ic_bs, ti_bs, ok_ibs TF X_bs.oex no_at_bs F_bs, b_bs⟩
  have x_un : ErG P w K mg base "UnknownName" cc.un _ := ⟨_, _, _, PySem.W.mg_of X G aC_un, X_un.oex, ic_un, ti_un, ok_iun TF X_un.oex no_name_un F_un, b_un⟩
  have x_nt : ErG P w K mg base "NameTaken" cc.nt _ := ⟨_, _, _, PySem.W.mg_of X G aC_nt, X_nt.oex, ic_nt, ti_nt, ok_int TF X_nt.oex no_name_nt F_nt, b_nt⟩
  have x_co : ErG P w K mg base "Contradiction" cc.co _ := ⟨_, _, _, PySem.W.mg_of X G aC_co, X_co.oex, ic_co, ti_co, ok_ico T TF X_co.oex no_clash_co F_co, b_co⟩
  have x_nu : ErG P w K mg base "NothingToUndo" cc.nu _ := ⟨_, _, _, PySem.W.mg_of X G aC_nu, X_nu.oex, ic_nu, ti_nu, ok_inu TF X_nu.oex  F_nu, b_nu⟩
  have TT : ∀ i, i < 13 → ExcT K CF (cc.at i) := fun i hi => match i, hi with
    | 0, _ => X_bn
    | 1, _ => X_bc
    | 2, _ => X_bt
    | 3, _ => X_br
    | 4, _ => X_us
    | 5, _ => X_sq
    | 6, _ => X_ns
    | 7, _ => X_ni
    | 8, _ => X_bs
    | 9, _ => X_un
    | 10, _ => X_nt
    | 11, _ => X_co
    | 12, _ => X_nu
    | n + 13, h => absurd h (by omega)
  have d_lraise : Cl P w K mg base (L2N.CX P w) 3 "_law_raise" (spRaise cc K) := ⟨_, _, _, ok_lraise F_lraise x_bn x_bc x_bt x_br x_us x_sq x_ns x_ni x_bs x_un x_nt x_co x_nu, PySem.W.mg_of X G a_lraise, k_lraise, b_lraise⟩
  have d_lflags : ClP P w K mg base 1 "_law_flags" (spFlags cc K) := ⟨_, _, _, ok_lflags (c := cc) T F_lflags (fun k hk => (TT k hk).exc) (fun i j hi hj => kit13 (c := cc) nd TT i j hi hj) (PySem.W.mg_of X G aC_bn) (PySem.W.mg_of X G aC_bc) (PySem.W.mg_of X G aC_bt) (PySem.W.mg_of X G aC_br) (PySem.W.mg_of X G aC_us) (PySem.W.mg_of X G aC_sq) (PySem.W.mg_of X G aC_ns) (PySem.W.mg_of X G aC_ni) (PySem.W.mg_of X G aC_bs) (PySem.W.mg_of X G aC_un) (PySem.W.mg_of X G aC_nt) (PySem.W.mg_of X G aC_co) (PySem.W.mg_of X G aC_nu), PySem.W.mg_of X G a_lflags, k_lflags, b_lflags⟩
  have d_lfields : ClP P w K mg base 1 "_law_fields" (spFields cc) := ⟨_, _, _, ok_lfields (c := cc) F_lfields (fun k hk => (TT k hk).xf) no_n_bn no_p_bc no_at_bt no_at_br no_first_us no_second_us no_height_sq no_width_sq no_at_bs no_name_un no_name_nt no_clash_co, PySem.W.mg_of X G a_lfields, k_lfields, b_lfields⟩
  exact ok_law (c := cc) T n_ValueError TF F_law d_pool d_take d_cell d_lraise d_lflags d_lfields d_ldue (fun k hk => (TT k hk).exc) (fun k hk => (TT k hk).kit_ve) (fun k hk => (TT k hk).exm_fe ecF isF tcF)
theorem walk {l : PySem.W.OpenLaw} {q : Program} {loose : List Str} {XP : (Str → Option Value) → Heap → Prop} {YP : World → Heap → Prop} {d : DefRec} {K : Params → PySem.W.Frag} (hn : l.most = some 63) (hdf : d.params.defaults = [])
    (hY : ∀ (w : World) (h : Heap), YP w h → (K w.params).In h)
    (F : ∀ (w : World) (mg : Str → Option Value) (fa : Addr) (h : Heap), (K w.params).In h → h.Ns mainGlobals mg → mg d.name = some (.ref fa) →
      ∃ fd : FuncData, (∀ (s : Shared) (u : Value), BindsTo s fd ⟨[u], []⟩ [("_law_script", u)]) ∧ ∀ base : Heap, (K w.params).In base → base.Ns mainGlobals mg → FnOk l.prog w (K w.params) mg base CX0 4 fa fd ["_law_script"] (spLaw (K w.params))) :
    PySem.W.WalkO q loose XP YP l.row.toRowW d [] (fun f vs => PySem.call f vs) :=
  L2.walk_of (n := 63) (k := 4) (x := "_law_script") (CX := fun _ => CX0) (sp := fun w => spLaw (K w.params)) hn (by decide) hdf ⟨rfl, by decide, by decide⟩ hY F (fun _ _ a ns hl _ hS => ⟨a, ns, rfl, hS, hl, fun _ => rfl⟩) fun _ _ _ _ _ z => z
end My
open PySem PySem.W PyProof.Rows
set_option maxRecDepth 100000 in
set_option maxHeartbeats 0 in
theorem PySem.Challenge.cw_everyfield_k01_errors_by_class_holds : PySem.Challenge.rw_everyfield_k01_errors_by_class.Holds := by
  w_on; o_law; k_head; (case hw => w_witness2)
  k_fill
  refine My.walk (l := PySem.Challenge.rw_everyfield_k01_errors_by_class) rfl rfl (fun w h Y => PySem.W.kIn_of Y) ?F
  case F =>
    intro w mg fa h KX G hmg
    refine' My.all_mk KX G hmg ?a_pool ?l_pool ?c_pool ?k_pool ?a_take ?l_take ?c_take ?k_take ?a_cell ?l_cell ?c_cell ?k_cell ?a_lraise ?l_lraise ?c_lraise ?k_lraise ?a_lflags ?l_lflags ?c_lflags ?k_lflags ?a_lfields ?l_lfields ?c_lfields ?k_lfields ?a_ldue ?l_ldue ?c_ldue ?k_ldue ?a_law ?l_law ?c_law ?k_law ?aF ?rF ?gF ?iF ?ecF ?isF ?tcF ?hnE ?htE ?aC_bn ?xC_bn ?sa_bn ?ga_bn ?gg_bn ?ha_bn ?ic_bn ?ti_bn ?kc_bn ?tc_bn ?l_bn ?c_bn ?k_bn ?no_n_bn ?aC_bc ?xC_bc ?sa_bc ?ga_bc ?gg_bc ?ha_bc ?ic_bc ?ti_bc ?kc_bc ?tc_bc ?l_bc ?c_bc ?k_bc ?no_p_bc ?aC_bt ?xC_bt ?sa_bt ?ga_bt ?gg_bt ?ha_bt ?ic_bt ?ti_bt ?kc_bt ?tc_bt ?l_bt ?c_bt ?k_bt ?no_at_bt ?aC_br ?xC_br ?sa_br ?ga_br ?gg_br ?ha_br ?ic_br ?ti_br ?kc_br ?tc_br ?l_br ?c_br ?k_br ?no_at_br ?aC_us ?xC_us ?sa_us ?ga_us ?gg_us ?ha_us ?ic_us ?ti_us ?kc_us ?tc_us ?l_us ?c_us ?k_us ?no_first_us ?no_second_us ?aC_sq ?xC_sq ?sa_sq ?ga_sq ?gg_sq ?ha_sq ?ic_sq ?ti_sq ?kc_sq ?tc_sq ?l_sq ?c_sq ?k_sq ?no_height_sq ?no_width_sq ?aC_ns ?xC_ns ?sa_ns ?ga_ns ?gg_ns ?ha_ns ?ic_ns ?ti_ns ?kc_ns ?tc_ns ?l_ns ?c_ns ?k_ns ?aC_ni ?xC_ni ?sa_ni ?ga_ni ?gg_ni ?ha_ni ?ic_ni ?ti_ni ?kc_ni ?tc_ni ?l_ni ?c_ni ?k_ni ?aC_bs ?xC_bs ?sa_bs ?ga_bs ?gg_bs ?ha_bs ?ic_bs ?ti_bs ?kc_bs ?tc_bs ?l_bs ?c_bs ?k_bs ?no_at_bs ?aC_un ?xC_un ?sa_un ?ga_un ?gg_un ?ha_un ?ic_un ?ti_un ?kc_un ?tc_un ?l_un ?c_un ?k_un ?no_name_un ?aC_nt ?xC_nt ?sa_nt ?ga_nt ?gg_nt ?ha_nt ?ic_nt ?ti_nt ?kc_nt ?tc_nt ?l_nt ?c_nt ?k_nt ?no_name_nt ?aC_co ?xC_co ?sa_co ?ga_co ?gg_co ?ha_co ?ic_co ?ti_co ?kc_co ?tc_co ?l_co ?c_co ?k_co ?no_clash_co ?aC_nu ?xC_nu ?sa_nu ?ga_nu ?gg_nu ?ha_nu ?ic_nu ?ti_nu ?kc_nu ?tc_nu ?l_nu ?c_nu ?k_nu ?nd ?z_int ?z_len ?z_abs ?z_isinstance ?z_bool ?z_tuple ?z_list ?z_str ?z_range ?z_max ?z_min ?z_sorted ?z_set ?z_ValueError
    (case a_pool => k_is)
    (case l_pool => k_is)
    (case c_pool => k_is)
    (case k_pool => k_is)
    (case a_take => k_is)
    (case l_take => k_is)
    (case c_take => k_is)
    (case k_take => k_is)
    (case a_cell => k_is)
    (case l_cell => k_is)
    (case c_cell => k_is)
    (case k_cell => k_is)
    (case a_lraise => k_is)
    (case l_lraise => k_is)
    (case c_lraise => k_is)
    (case k_lraise => k_is)
    (case a_lflags => k_is)
    (case l_lflags => k_is)
    (case c_lflags => k_is)
    (case k_lflags => k_is)
    (case a_lfields => k_is)
    (case l_lfields => k_is)
    (case c_lfields => k_is)
    (case k_lfields => k_is)
    (case a_ldue => k_is)
    (case l_ldue => k_is)
    (case c_ldue => k_is)
    (case k_ldue => k_is)
    (case a_law => k_is)
    (case l_law => k_is)
    (case c_law => k_is)
    (case k_law => k_is)
    (case aF => k_is)
    (case rF => k_is)
    (case gF => k_is)
    (case iF => k_is)
    (case ecF => k_is)
    (case isF => k_is)
    (case tcF => k_is)
    (case hnE => k_is)
    (case htE => k_is)
    (case aC_bn => k_is)
    (case xC_bn => k_is)
    (case sa_bn => k_is)
    (case ga_bn => k_is)
    (case gg_bn => k_is)
    (case ha_bn => k_is)
    (case ic_bn => k_is)
    (case ti_bn => k_is)
    (case kc_bn => k_is)
    (case tc_bn => k_is)
    (case l_bn => k_is)
    (case c_bn => k_is)
    (case k_bn => k_is)
    (case no_n_bn => k_is)
    (case aC_bc => k_is)
    (case xC_bc => k_is)
    (case sa_bc => k_is)
    (case ga_bc => k_is)
    (case gg_bc => k_is)
    (case ha_bc => k_is)
    (case ic_bc => k_is)
    (case ti_bc => k_is)
    (case kc_bc => k_is)
    (case tc_bc => k_is)
    (case l_bc => k_is)
    (case c_bc => k_is)
    (case k_bc => k_is)
    (case no_p_bc => k_is)
    (case aC_bt => k_is)
    (case xC_bt => k_is)
    (case sa_bt => k_is)
    (case ga_bt => k_is)
    (case gg_bt => k_is)
    (case ha_bt => k_is)
    (case ic_bt => k_is)
    (case ti_bt => k_is)
    (case kc_bt => k_is)
    (case tc_bt => k_is)
    (case l_bt => k_is)
    (case c_bt => k_is)
    (case k_bt => k_is)
    (case no_at_bt => k_is)
    (case aC_br => k_is)
    (case xC_br => k_is)
    (case sa_br => k_is)
    (case ga_br => k_is)
    (case gg_br => k_is)
    (case ha_br => k_is)
    (case ic_br => k_is)
    (case ti_br => k_is)
    (case kc_br => k_is)
    (case tc_br => k_is)
    (case l_br => k_is)
    (case c_br => k_is)
    (case k_br => k_is)
    (case no_at_br => k_is)
    (case aC_us => k_is)
    (case xC_us => k_is)
    (case sa_us => k_is)
    (case ga_us => k_is)
    (case gg_us => k_is)
    (case ha_us => k_is)
    (case ic_us => k_is)
    (case ti_us => k_is)
    (case kc_us => k_is)
    (case tc_us => k_is)
    (case l_us => k_is)
    (case c_us => k_is)
    (case k_us => k_is)
    (case no_first_us => k_is)
    (case no_second_us => k_is)
    (case aC_sq => k_is)
    (case xC_sq => k_is)
    (case sa_sq => k_is)
    (case ga_sq => k_is)
    (case gg_sq => k_is)
    (case ha_sq => k_is)
    (case ic_sq => k_is)
    (case ti_sq => k_is)
    (case kc_sq => k_is)
    (case tc_sq => k_is)
    (case l_sq => k_is)
    (case c_sq => k_is)
    (case k_sq => k_is)
    (case no_height_sq => k_is)
    (case no_width_sq => k_is)
    (case aC_ns => k_is)
    (case xC_ns => k_is)
    (case sa_ns => k_is)
    (case ga_ns => k_is)
    (case gg_ns => k_is)
    (case ha_ns => k_is)
    (case ic_ns => k_is)
    (case ti_ns => k_is)
    (case kc_ns => k_is)
    (case tc_ns => k_is)
    (case l_ns => k_is)
    (case c_ns => k_is)
    (case k_ns => k_is)
    (case aC_ni => k_is)
    (case xC_ni => k_is)
    (case sa_ni => k_is)
    (case ga_ni => k_is)
    (case gg_ni => k_is)
    (case ha_ni => k_is)
    (case ic_ni => k_is)
    (case ti_ni => k_is)
    (case kc_ni => k_is)
    (case tc_ni => k_is)
    (case l_ni => k_is)
    (case c_ni => k_is)
    (case k_ni => k_is)
    (case aC_bs => k_is)
    (case xC_bs => k_is)
    (case sa_bs => k_is)
    (case ga_bs => k_is)
    (case gg_bs => k_is)
    (case ha_bs => k_is)
    (case ic_bs => k_is)
    (case ti_bs => k_is)
    (case kc_bs => k_is)
    (case tc_bs => k_is)
    (case l_bs => k_is)
    (case c_bs => k_is)
    (case k_bs => k_is)
    (case no_at_bs => k_is)
    (case aC_un => k_is)
    (case xC_un => k_is)
    (case sa_un => k_is)
    (case ga_un => k_is)
    (case gg_un => k_is)
    (case ha_un => k_is)
    (case ic_un => k_is)
    (case ti_un => k_is)
    (case kc_un => k_is)
    (case tc_un => k_is)
    (case l_un => k_is)
    (case c_un => k_is)
    (case k_un => k_is)
    (case no_name_un => k_is)
    (case aC_nt => k_is)
    (case xC_nt => k_is)
    (case sa_nt => k_is)
    (case ga_nt => k_is)
    (case gg_nt => k_is)
    (case ha_nt => k_is)
    (case ic_nt => k_is)
    (case ti_nt => k_is)
    (case kc_nt => k_is)
    (case tc_nt => k_is)
    (case l_nt => k_is)
    (case c_nt => k_is)
    (case k_nt => k_is)
    (case no_name_nt => k_is)
    (case aC_co => k_is)
    (case xC_co => k_is)
    (case sa_co => k_is)
    (case ga_co => k_is)
    (case gg_co => k_is)
    (case ha_co => k_is)
    (case ic_co => k_is)
    (case ti_co => k_is)
    (case kc_co => k_is)
    (case tc_co => k_is)
    (case l_co => k_is)
    (case c_co => k_is)
    (case k_co => k_is)
    (case no_clash_co => k_is)
    (case aC_nu => k_is)
    (case xC_nu => k_is)
    (case sa_nu => k_is)
    (case ga_nu => k_is)
    (case gg_nu => k_is)
    (case ha_nu => k_is)
    (case ic_nu => k_is)
    (case ti_nu => k_is)
    (case kc_nu => k_is)
    (case tc_nu => k_is)
    (case l_nu => k_is)
    (case c_nu => k_is)
    (case k_nu => k_is)
    (case nd => decide)
    (case z_int => k_is)
    (case z_len => k_is)
    (case z_abs => k_is)
    (case z_isinstance => k_is)
    (case z_bool => k_is)
    (case z_tuple => k_is)
    (case z_list => k_is)
    (case z_str => k_is)
    (case z_range => k_is)
    (case z_max => k_is)
    (case z_min => k_is)
    (case z_sorted => k_is)
    (case z_set => k_is)
    (case z_ValueError => k_is)
