import PyProof.Rows.All
import Wide.All
import OpenK.AllK
import Wide.FinOn
import HandS.ForMost
import HandS.Star
import HandS.OwnEq
import HandS.Property
import HandS.Gcd
import HandS.Wide
import HandS.IsInst
import HandS.Defaults
import KE.KOpsOwn
import HandS.Ends
import PyProof.Rows.ReprR
import HandS.Lambda
import HandS.EndBits
import KE.KNestM
import PyProof.InstNe
import HandS.List
import PyProof.ReprBulk
import PyProof.FitsInt
import PyProof.ReprRoads
import PyProof.Conv_bool
import PyProof.Rows.Range3
import HandS.Exc
import HandS.ExcOwn
import HandS.ExcInit
import HandS.WordsExc
import HandS.ExcIs
import KE.KExcIs
import HandS.MakeKwOnly
import HandS.More
import HandS.DeepEq
import PySem.Str
import HandS.Deep
import HandS.DictComp
import HandS.SetKeys
import HandS.HeadHook3
import HandS.HeadHook1
import HandS.HeadHook2
import HandS.Head0
import HandS.Head1
import HandS.Head2
import HandS.Text
import PyProof.StrLawsAffix
import KE.KStateDown
import HandS.Head3
import HandS.FStr
import HandS.StrMore
import HandS.TryOnly
import HandS.Dict
import PyProof.CallFns
import PyProof.StrBlock2
import PySem.Challenge.RW_whatspeed_k94_texts_that_are_none
set_option Elab.async false
set_option linter.all false
set_option maxRecDepth 100000
set_option maxHeartbeats 0
namespace Ws
open PySem PySem.Spec PyProof.Rows L2
/-! ### promises of defs, methods, makers, operators: by show (0 : Int) < _; decide +kernelitional values -/
noncomputable abbrev Fr1 := FnR
section
variable (P : Program) (w : World) (K : PySem.W.Frag) (mg : Str → Option Value) (base : Heap)
/-- a def of the module, called by its name -/
noncomputable def CalF (k : Nat) (x : Str) (sp : Sp) : Prop := ∃ f : Addr, FnR P w K mg base CX0 k f sp ∧ mg x = some (.ref f) ∧ PySem.W.keepIn K (.ref f) = true
/-- a class that makes instances, called by its name -/
noncomputable def MakF (k : Nat) (x : Str) (C : Addr) (sp : Sp) : Prop := ∃ f : Addr, Mk K C f ∧ FnR P w K mg base CX0 k f sp ∧ mg x = some (.ref C)
/-- a method -/
noncomputable def MetF (k : Nat) (C : Addr) (m : Str) (sp : Sp) : Prop := ∃ f : Addr, Cls K C ∧ Meth K C m f ∧ FnR P w K mg base CX0 k f sp
/-- a special method that an operator calls -/
noncomputable def OpnF (k : Nat) (C : Addr) (m : Str) (sp : Sp) : Prop := ∃ f : Addr, PySem.W.findIn K (.ref C) m = some (some (.ref f)) ∧ PySem.W.isFn K (.ref f) = true ∧ FnR P w K mg base CX0 k f sp
/-- a property -/
noncomputable def PrpF (k : Nat) (C : Addr) (m : Str) (sp : Sp) : Prop := ∃ p g : Addr, Cls K C ∧ PropOf K C m p g ∧ FnR P w K mg base CX0 k g sp
/-- instances are called -/
noncomputable def CloF (k : Nat) (C : Addr) (sp : Sp) : Prop := ∃ g : Addr, StX.CallO K C g ∧ FnR P w K mg base CX0 k g sp
end
section
variable {X : Cx} {k j : Nat} {C f : Addr} {sp : Sp} {x m : Str} {p pos apos : Pos} {e o : Expr} {es : List Expr} {ta : TE} {t : TA}
noncomputable abbrev CalX (X : Cx) := CalF X.prog X.w X.K X.mg X.base
theorem run_R {pins : List (Addr × Obj)} {σ : L2.St} {H : Hp} {s : Shared} {Q : VK} {us : List Value} {vs : List V} {E : XK} {CX : CXT} (F : FnR X.prog X.w X.K X.mg X.base CX k f sp) (hr : Room k X.A) (hx : Passes CX X E)
    (I : Inv X pins σ H s) (r : Vals vs us) (h : sp vs H Q E) : wpAny (model X.prog X.w) X.A (call (.ref f) us) (EP X pins σ Q) X.xe s := by
  refine wpAny_call (codeAny_mono (run_fnR F hr hx I r h) fun r s' q => ?_)
  cases r with
  | error e => exact q
  | ok fl => cases fl with
    | ret u => exact q
    | next => exact q.elim
    | brk => exact q.elim
    | cont => exact q.elim
/-- f(e, ..) -/
noncomputable def tF (sp : Sp) (t : TA) : TE := fun σ H Q => t σ H fun vs H1 => sp vs H1 Q E0
theorem pe_f (c : CalF X.prog X.w X.K X.mg X.base k x sp) (hr : Room j X.A) (hk : k ≤ j) (hg : Gl X x) (ha : PA X (e :: es) t) (hdb : (x == ("__debug__" : Str)) = false := by decide)
    (he : starEach (e :: es) X.env = (false, eval e X.env) :: starEach es X.env := by rfl) (hpl : (backTo pos (starEach es X.env)).any (·.1) = false := by rfl) : PE X (.Call (.Name x p) (e :: es) [] pos) (tF sp t) := by
  obtain ⟨f, F, hm, hkp⟩ := c
  refine ⟨fun pins s σ H Q I h => ?_⟩
  refine wpAny_Call_Name_kw (ld_glob I hg hm ?_ hdb)
  refine PySem.W.callWith_K (h₀ := X.base) I.ok.mod.kin hkp (thn (ha.run pos pins s σ H _ I h) fun us s1 ⟨vs, H1, I1, r, q⟩ => ⟨I1.kIn, ?_⟩) he hpl
  exact run_R F (hr.mono hk) pass0 I1 r q
/-- C(e, ..) -/
noncomputable def tMk (C : Addr) (sp : Sp) (t : TA) : TE := fun σ H Q => t σ H fun vs H1 => ∀ x dx, H1 x = Option.none → H1 dx = Option.none → dx ≠ x → sp (V.ref x :: vs) (upd (upd H1 dx (.own x)) x (.ins C dx [])) (fun v H2 => v = .non ∧ Q (.ref x) H2) E0
theorem pe_mk (c : MakF X.prog X.w X.K X.mg X.base k x C sp) (hr : Room j X.A) (hk : k + 1 ≤ j) (hg : Gl X x) (ha : PA X (e :: es) t) (hdb : (x == ("__debug__" : Str)) = false := by decide)
    (he : starEach (e :: es) X.env = (false, eval e X.env) :: starEach es X.env := by rfl) (hpl : (backTo pos (starEach es X.env)).any (·.1) = false := by rfl) : PE X (.Call (.Name x p) (e :: es) [] pos) (tMk C sp t) := by
  obtain ⟨f, M, F, hm⟩ := c
  exact StX.pe_makeR M F (hr.mono hk) hg hm pass0 ha hdb he hpl
/-- o.m(e, ..) -/
noncomputable def tMt (C : Addr) (m : Str) (sp : Sp) (ta : TE) (t : TA) : TE := fun σ H Q => ta σ H fun x H1 => ∃ a dx fs, x = .ref a ∧ H1 a = some (.ins C dx fs) ∧ fs.lookup m = none ∧ t σ H1 fun vs H2 => sp (x :: vs) H2 Q E0
theorem pe_mt {pl : Sem Bool} (c : MetF X.prog X.w X.K X.mg X.base k C m sp) (hr : Room j X.A) (hk : k ≤ j) (he : PE X o ta) (ha : PA X (e :: es) t)
    (hst : starEach (e :: es) X.env = (false, eval e X.env) :: starEach es X.env := by rfl) (hpl : (backTo pos (starEach es X.env)).any (·.1) = false := by rfl)
    (ht : eval (.Call (.Attribute o m apos) (e :: es) [] pos) X.env = (do
      let ov ← eval o X.env
      standAt apos.atName
      let (f, first) ← holding [ov] (getMethod ov m pl)
      callWith pos f first (backTo pos (starEach (e :: es) X.env)) (backToKw pos (keywordEach [] X.env))) := by rfl) :
    PE X (.Call (.Attribute o m apos) (e :: es) [] pos) (tMt C m sp ta t) := by
  obtain ⟨f, hc, hm, F⟩ := c
  refine ⟨fun pins s σ H Q I h => ?_⟩
  refine PySem.W.methodCall_KW (pl := pl) (thn (he.run pins s σ H _ I h) fun u s1 ⟨x, H1, I1, rx, a, dx, fs, ex, ea, l, q⟩ => ?_) ht
  subst ex
  obtain rfl : u = Value.ref a := rx
  refine getmeth_ok I1 ea hc hm l ?_
  refine PySem.W.callWith_K (first := [.ref a]) (h₀ := X.base) I.ok.mod.kin hm.kp (thn (ha.run pos pins s1 σ H1 _ I1 q) fun us s2 ⟨vs, H2, I2, r, q2⟩ => ⟨I2.kIn, ?_⟩) hst hpl
  exact run_R (us := .ref a :: us) (vs := .ref a :: vs) F (hr.mono hk) pass0 I2 (.cons rfl r) q2
/-- e.f, a property -/
noncomputable def tPr (C : Addr) (sp : Sp) (ta : TE) : TE := fun σ H Q => ta σ H fun x H1 => ∃ a dx fs, x = .ref a ∧ H1 a = some (.ins C dx fs) ∧ sp [.ref a] H1 Q E0
theorem pe_pr (c : PrpF X.prog X.w X.K X.mg X.base k C m sp) (hr : Room j X.A) (hk : k + 1 ≤ j) (he : PE X e ta) (hab : attributeBase e m X.env (eval e X.env) = eval e X.env := by rfl) : PE X (.Attribute e m pos) (tPr C sp ta) := by
  obtain ⟨p, g, hc, hp, F⟩ := c
  refine ⟨fun pins s σ H Q I h => ?_⟩
  refine attr_of hab (thn (he.run pins s σ H _ I h) fun u s1 ⟨x, H1, I1, rx, a, dx, fs, ex, ea, q⟩ => ?_)
  subst ex
  obtain rfl : u = Value.ref a := rx
  obtain ⟨mA, O, _, _, _, _⟩ := ins_get I1.hok ea
  obtain ⟨od, J, _⟩ := O.look
  obtain ⟨rest, hrec⟩ := hp.rec_
  have hcs : (PySem.W.clsIn X.K C).isSome = true := by
    obtain ⟨cd, hcd, _⟩ := PySem.W.any_some hc.hd
    rw [hcd]
    rfl
  have I2 := I1.tok (s1.toks + 1)
  have hr1 : Room (k + 1) X.A := hr.mono hk
  refine PySem.W.get_bind I1.kIn J (PySem.W.plainGet_of (hc.get m)).1 (PySem.W.findObj_data hcs hp.at_ hp.get hp.tak) (PySem.W.plainGet_of (hc.get m)).2 (wpAny_call (PySem.W.prop_get (s := { s1 with toks := s1.toks + 1 }) I1.kIn hrec ?_))
  refine codeAny_mono (F X.A.in1 X.stack { s1 with toks := s1.toks + 1 } H1 [.ref a] [.ref a] Q E0 hr1.in1 I2.env0.in1 (.cons rfl .nil) q) fun r s' hq => ?_
  cases r with
  | error er => exact hq.elim
  | ok fl =>
    cases fl with
    | ret u =>
      obtain ⟨v, H', I3, rv, q3⟩ := I2.after hq
      show wpAny _ _ (handedOut u) _ _ _
      rw [PySem.W.handedOut_of (handed_of rv)]
      exact wpAny_pure ⟨v, H', I3, rv, q3⟩
    | next => exact False.elim hq
    | brk => exact False.elim hq
    | cont => exact False.elim hq
/-- an instance called -/
noncomputable def tClo (C : Addr) (sp : Sp) (tf : TE) (t : TA) : TE := fun σ H Q => tf σ H fun y H1 => ∃ a, y = V.ref a ∧ t σ H1 fun vs H2 => (∃ dx fs, H2 a = some (.ins C dx fs)) ∧ sp (V.ref a :: vs) H2 Q E0
theorem pe_clo {tf : TE} {fe : Expr} (c : CloF X.prog X.w X.K X.mg X.base k C sp) (hr : Room j X.A) (hk : k ≤ j) (hf : PE X fe tf) (ha : PA X (e :: es) t)
    (ht : eval (.Call fe (e :: es) [] pos) X.env = (do callWith pos (← eval fe X.env) [] (backTo pos (starEach (e :: es) X.env)) (backToKw pos (keywordEach [] X.env))) := by rfl)
    (he : starEach (e :: es) X.env = (false, eval e X.env) :: starEach es X.env := by rfl) (hpl : (backTo pos (starEach es X.env)).any (·.1) = false := by rfl) : PE X (.Call fe (e :: es) [] pos) (tClo C sp tf t) := by
  obtain ⟨g, c, F⟩ := c
  refine ⟨fun pins s σ H Q I h => ?_⟩
  refine Call_ (thn (hf.run pins s σ H _ I h) fun u s1 ⟨y, H1, I1, ry, a, ey, q⟩ => ?_) ht
  subst ey
  obtain rfl : u = Value.ref a := ry
  refine StX.callO_with (thn (ha.run pos pins s1 σ H1 _ I1 q) fun us s2 ⟨vs, H2, I2, r, ⟨dx, fs, hi⟩, q2⟩ => ?_) he hpl
  have hi' : StX.InsC X H2 a C := .inr ⟨dx, fs, hi⟩
  obtain ⟨ox, od, J, hd⟩ := StX.insC_at I2 hi'
  exact ⟨⟨C, ox, od, J, hd⟩, StX.run_callO c F (hr.mono hk) pass0 I2 hi' r q2⟩
/-! ### operators -/
/-- the value handed back by an operator's method is never NotImplemented -/
theorem cmpBack {pins : List (Addr × Obj)} {σ : L2.St} {Q : VK} {v : Value} {s : Shared} (h : EP X pins σ Q v s) : PySem.W.CmpBack (EP X pins σ Q) v s := by
  obtain ⟨y, H, I, r, q⟩ := h
  have fin : EP X pins σ Q v s := ⟨y, H, I, r, q⟩
  cases y with
  | non => cases (show v = Value.none from r); exact fin
  | bl b => cases (show v = Value.bool b from r); exact fin
  | int i => obtain ⟨t, e⟩ := (show ∃ t, v = Value.int i t from r); subst e; exact fin
  | str i => obtain ⟨t, e⟩ := (show ∃ t, v = Value.str i t from r); subst e; exact fin
  | byt i => obtain ⟨t, e⟩ := (show ∃ t, v = Value.bytes i t from r); subst e; exact fin
  | flt i => obtain ⟨t, e⟩ := (show ∃ t, v = Value.float i t from r); subst e; exact fin
  | ref a => cases (show v = Value.ref a from r); exact fin
  | ty n => cases (show v = Value.type n from r); exact fin
theorem inst_of {pins : List (Addr × Obj)} {σ : L2.St} {H : Hp} {s : Shared} {a dx : Addr} {fs : List (Str × V)} (I : Inv X pins σ H s) (h : H a = some (.ins C dx fs)) : ∃ ox od, PySem.W.InstAt s.heap a ox C od := by
  obtain ⟨mA, O, _⟩ := ins_get I.hok h
  obtain ⟨od, J, _⟩ := O.look
  exact ⟨_, _, J⟩
/-- a op b, both of the class at C, by its own method -/
noncomputable def rOwn (C : Addr) (sp : Sp) : R2 := fun x y H Q => ∃ a dx fs b dy gs, x = .ref a ∧ H a = some (.ins C dx fs) ∧ y = .ref b ∧ H b = some (.ins C dy gs) ∧ sp [.ref a, .ref b] H Q E0
theorem op_own {op : Operator} (c : OpnF X.prog X.w X.K X.mg X.base k C (PySem.dunder op.info.2) sp) (hs : PySem.W.selfFirst X.K C = true) (hr : Room j X.A) (hk : k ≤ j) : OpR X (binaryOp op) (rOwn C sp) := by
  obtain ⟨f, h1, h2, F⟩ := c
  intro pins s σ H x y v u Q I rx ry h
  obtain ⟨a, dx, fs, b, dy, gs, rfl, ea, rfl, eb, q⟩ := h
  cases (show v = Value.ref a from rx)
  cases (show u = Value.ref b from ry)
  obtain ⟨ox, od, J⟩ := inst_of I ea
  obtain ⟨oy, oe, J2⟩ := inst_of I eb
  obtain ⟨m, hF⟩ := I.fr
  refine PySem.W.binop_K hF I.ok.mod.kin J J2.type hs h1 h2 ?_
  exact wpAny_mono (run_R (us := [.ref a, .ref b]) (vs := [.ref a, .ref b]) F (hr.mono hk) pass0 I (.cons rfl (.cons rfl .nil)) q) (fun v s' hv => cmpBack hv) fun _ _ z => z
/-- what a value's type is to ==: its typeOf -/
inductive TyL (H : Hp) : V → Value → Prop where
  | non : TyL H .non (.type "NoneType")
  | bl (b : Bool) : TyL H (.bl b) (.type "bool")
  | int (i : Int) : TyL H (.int i) (.type "int")
  | str (x : Str) : TyL H (.str x) (.type "str")
  | lst {a : Addr} {xs : List V} (e : H a = some (.lst xs)) : TyL H (.ref a) (.type "list")
  | tup {a : Addr} {xs : List V} (e : H a = some (.tup xs)) : TyL H (.ref a) (.type "tuple")
  | dK {a : Addr} {xs : List (Key × V)} (e : H a = some (.dK xs)) : TyL H (.ref a) (.type "dict")
  | ins {a C dx : Addr} {fs : List (Str × V)} (e : H a = some (.ins C dx fs)) : TyL H (.ref a) (.ref C)
theorem looks_ref {M : Model} {h : Heap} {a : Addr} {o : Obj} {t : Value} (e : h.get? a = some o) (c : o.cls = t) : PySem.W.Looks M h (typeOf (.ref a)) t := by
  intro A Q E s k q
  subst c
  exact wpAny_typeOf_ref (k _ _ e) q
theorem TyL.looks {pins : List (Addr × Obj)} {σ : L2.St} {H : Hp} {s : Shared} {M : Model} {x : V} {u t : Value} (I : Inv X pins σ H s) (rx : RelV x u) (ty : TyL H x t) : PySem.W.Looks M s.heap (typeOf u) t := by
  cases ty with
  | non => cases (show u = Value.none from rx); exact .of_pure rfl
  | bl b => cases (show u = Value.bool b from rx); exact .of_pure rfl
  | int i => obtain ⟨t, q⟩ := (show ∃ t, u = Value.int i t from rx); subst q; exact .of_pure rfl
  | str i => obtain ⟨t, q⟩ := (show ∃ t, u = Value.str i t from rx); subst q; exact .of_pure rfl
  | @lst a xs e =>
    cases (show u = Value.ref a from rx)
    obtain ⟨_, its, n, _, h1⟩ := (show ObjOk X.prog X.w H s.heap a (.lst xs) from I.hok a _ e)
    exact looks_ref h1 rfl
  | @tup a xs e =>
    cases (show u = Value.ref a from rx)
    obtain ⟨_, its, _, ob, h1, c, _⟩ := (show ObjOk X.prog X.w H s.heap a (.tup xs) from I.hok a _ e)
    exact looks_ref h1 c
  | @dK a xs e =>
    cases (show u = Value.ref a from rx)
    obtain ⟨_, _, vs, _, o, es, ep, h1, h2, _⟩ := (show ObjOk X.prog X.w H s.heap a (.dK xs) from I.hok a _ e)
    exact looks_ref h1 h2.1
  | @ins a C dx fs e =>
    cases (show u = Value.ref a from rx)
    obtain ⟨ox, od, J⟩ := inst_of I e
    exact J.type
/-- a == b by a's own __eq__ -/
noncomputable def rEqO (K : PySem.W.Frag) (C : Addr) (sp : Sp) : R2 := fun x y H Q => ∃ a dx fs t, x = .ref a ∧ H a = some (.ins C dx fs) ∧ TyL H y t ∧ PySem.W.notFirst K C t = true ∧ sp [.ref a, y] H Q E0
theorem op_eqO (c : OpnF X.prog X.w X.K X.mg X.base k C "__eq__" sp) (hr : Room j X.A) (hk : k ≤ j) : OpR X (compareOp .Eq) (rEqO X.K C sp) := by
  obtain ⟨f, h1, h2, F⟩ := c
  intro pins s σ H x y v u Q I rx ry h
  obtain ⟨a, dx, fs, t, rfl, ea, ty, nf, q⟩ := h
  cases (show v = Value.ref a from rx)
  obtain ⟨ox, od, J⟩ := inst_of I ea
  obtain ⟨m, hF⟩ := I.fr
  refine PySem.W.cmp_ofEq (PySem.W.cmp_K (op := .Eq) hr.units0 hF I.ok.mod.kin J (ty.looks I ry) nf h1 h2 ?_)
  exact wpAny_mono (run_R (us := [.ref a, u]) (vs := [.ref a, y]) F (hr.mono hk) pass0 I (.cons rfl (.cons ry .nil)) q) (fun v s' hv => cmpBack hv) fun _ _ z => z
/-- -a by its own __neg__ -/
noncomputable def rUnO (C : Addr) (sp : Sp) : V → Hp → VK → Prop := fun x H Q => ∃ a dx fs, x = .ref a ∧ H a = some (.ins C dx fs) ∧ sp [.ref a] H Q E0
theorem un_negO (c : OpnF X.prog X.w X.K X.mg X.base k C "__neg__" sp) (hr : Room j X.A) (hk : k ≤ j) : UnR X (unaryOp .USub) (rUnO C sp) := by
  obtain ⟨f, h1, h2, F⟩ := c
  intro pins s σ H x v Q I rx h
  obtain ⟨a, dx, fs, rfl, ea, q⟩ := h
  cases (show v = Value.ref a from rx)
  obtain ⟨ox, od, J⟩ := inst_of I ea
  obtain ⟨m, hF⟩ := I.fr
  exact PySem.W.ksp_neg hF I.ok.mod.kin J h1 h2 (run_R (us := [.ref a]) (vs := [.ref a]) F (hr.mono hk) pass0 I (.cons rfl .nil) q)
/-- a's truth by its own __bool__ -/
noncomputable def rTruO (C : Addr) (sp : Sp) : V → Hp → (Bool → Hp → Prop) → Prop := fun x H Q => ∃ a dx fs, x = .ref a ∧ H a = some (.ins C dx fs) ∧ sp [.ref a] H (fun v H' => ∃ b, v = .bl b ∧ Q b H') E0
theorem tru_own (c : OpnF X.prog X.w X.K X.mg X.base k C "__bool__" sp) (hr : Room j X.A) (hk : k ≤ j) : TruR X (rTruO C sp) := by
  obtain ⟨f, h1, h2, F⟩ := c
  intro pins s σ H x v Q I rx h
  obtain ⟨a, dx, fs, rfl, ea, q⟩ := h
  cases (show v = Value.ref a from rx)
  obtain ⟨ox, od, J⟩ := inst_of I ea
  obtain ⟨m, hF⟩ := I.fr
  refine PySem.W.truthy_K hF I.ok.mod.kin J h1 h2 (wpAny_mono (run_R (us := [.ref a]) (vs := [.ref a]) F (hr.mono hk) pass0 I (.cons rfl .nil) q) (fun r s' hv => ?_) fun _ _ z => z)
  obtain ⟨y, H', I', ry, b, rfl, qb⟩ := hv
  cases (show r = Value.bool b from ry)
  exact ⟨H', I', qb⟩
/-- a test by a value's truth -/
noncomputable def tTru (r : V → Hp → (Bool → Hp → Prop) → Prop) (ta : TE) : TT := fun σ H Q => ta σ H fun x H1 => r x H1 Q
theorem pt_tru {r : V → Hp → (Bool → Hp → Prop) → Prop} {a : Expr} (hT : TruR X r) (ha : PE X a ta) (he : ∀ whole, isTrue a X.env whole = (do let v ← whole; standAt a.pos; holding [v] (truthy v)) := by intro _; rfl) : PT X a (tTru r ta) := by
  refine ⟨fun pins s σ H Q I h => ?_⟩
  exact isTrue_plain (thn (ha.run pins s σ H _ I h) fun v s1 ⟨x, H1, I1, r1, q1⟩ => hT pins s1 σ H1 x v Q I1 r1 q1) (he _)
/-! ### great ints -/
theorem op_powW : OpR X (binaryOp .Pow) (rI (fun i j => 0 ≤ j ∧ (Builtin.Int.intBits i : Int) * j ≤ 2 ^ 27) fun i j => .int (i ^ j.toNat)) := opI fun _ _ _ _ _ _ _ hc q => pow_int hc.1 hc.2 q
theorem op_fdivZ : OpR X (binaryOp .FloorDiv) (rI (fun _ j => j ≠ 0 ∧ j.natAbs.log2 < 9000) fun i j => .int (i.fdiv j)) := opI fun _ _ _ _ _ _ _ hc q => floordiv_int hc.1 q (.inl (PyProof.noPylong_of_log2 hc.2))
end
end Ws
namespace Ws
open PySem PySem.Spec PyProof.Rows L2
/-! ### from a def of the text to its promise -/
section
variable {P : Program} {w : World} {K : PySem.W.Frag} {mg : Str → Option Value} {base : Heap}
theorem fnR_of {x qual : Str} {st : Stmt} {f : Addr} {fd : FuncData} {N ps : List Str} {k : Nat} {sp : Sp} (F : L2.Fun K x qual st f fd) (b : Binds K fd ps []) (S : FnScope N ps (defScope st)) (len : ∀ vs H Q E, sp vs H Q E → vs.length = ps.length)
    (hbody : ∀ (cdv : Value) (A : Around) (outer : List Env) (s : Shared) (H : Hp) (vs : List V) (Q : VK) (E : XK), Room k (A.deeper (envOfC qual (defScope st) s.heap.objs.size f cdv)) → sp vs H Q E →
      ∃ t, PSs (cxOf CX0 P w K mg base N qual (defScope st) f cdv A outer s H E).nox (defBody st) t ∧ t { nx := fun _ H' => Q .non H', rt := Q } (start N vs) H) : FnR P w K mg base CX0 (k + 1) f sp :=
  ((F.ok S len hbody).raw b .nil).imp fun vs H Q E h => by rw [List.append_nil]; exact h
/-- a def with defaults: all of them are handed in, or the last ones are filled up -/
theorem fnD_of {x qual : Str} {st : Stmt} {f : Addr} {fd : FuncData} {N ps : List Str} {k : Nat} {sp sp' : Sp} {dvs dvs' : List V} {ds : List Value} (F : FunD K x qual (defArgs st) (defBody st) (defScope st) dvs [] f fd) (b : Binds K fd ps ds) (d : Vals dvs' ds) (S : FnScope N ps (defScope st)) (len : ∀ vs H Q E, sp vs H Q E → vs.length = ps.length)
    (imp : ∀ vs H Q E, sp' vs H Q E → sp (vs ++ dvs') H Q E)
    (hbody : ∀ (cdv : Value) (A : Around) (outer : List Env) (s : Shared) (H : Hp) (vs : List V) (Q : VK) (E : XK), Room k (A.deeper (envOfC qual (defScope st) s.heap.objs.size f cdv)) → sp vs H Q E →
      ∃ t, PSs (cxOf CX0 P w K mg base N qual (defScope st) f cdv A outer s H E).nox (defBody st) t ∧ t { nx := fun _ H' => Q .non H', rt := Q } (start N vs) H) : FnR P w K mg base CX0 (k + 1) f sp' :=
  ((F.ok (CX := CX0) S len fun cdv A outer s H vs Q E hr h => let ⟨t, h1, h2⟩ := hbody cdv A outer s H vs Q E hr h; ⟨t, h1.nox, h2⟩).raw b d).imp imp
end
/-- names of built-ins that the module doesn't bind -/
structure Bi (mg : Str → Option Value) : Prop where
  len : mg "len" = none
  abs : mg "abs" = none
  int : mg "int" = none
  bool : mg "bool" = none
  max : mg "max" = none
  min : mg "min" = none
  range : mg "range" = none
  all : mg "all" = none
  any : mg "any" = none
  isinstance : mg "isinstance" = none
/-! ### heaps -/
/-- all but what stands at p is as it was -/
noncomputable def Ch (p : Addr) (H H' : Hp) : Prop := ∀ b o, b ≠ p → H b = some o → H' b = some o
theorem Ch.refl {p : Addr} {H : Hp} : Ch p H H := fun _ _ _ h => h
theorem Ch.trans {p : Addr} {H H1 H2 : Hp} (a : Ch p H H1) (b : Ch p H1 H2) : Ch p H H2 := fun c o n h => b c o n (a c o n h)
theorem Ch.of {p : Addr} {H H' : Hp} (h : Same H H') : Ch p H H' := fun b o _ e => h b o e
theorem Ch.upd {p : Addr} {H : Hp} {o : HO} : Ch p H (L2.upd H p o) := fun b u n e => by rw [upd_ne n]; exact e
theorem Same.new {H : Hp} {p : Addr} {o : HO} (h : H p = none) : Same H (upd H p o) := fun b u e => by rw [upd_ne (ne_of_none e h)]; exact e
theorem Ch.new {q p : Addr} {H : Hp} {o : HO} (h : H p = none) : Ch q H (L2.upd H p o) := Ch.of (Same.new h)
theorem Ch.free {p q : Addr} {H H' : Hp} (c : Ch p H H') (n : q ≠ p) (h : H' q = none) : H q = none := by
  cases e : H q with
  | none => rfl
  | some o => rw [c q o n e] at h; cases h
/-- a fresh instance is laid, then filled by its __init__ -/
theorem Same.mk {H H1 : Hp} {x dx C : Addr} (nx : H x = none) (nd : H dx = none) (k : ∀ b o, (upd (upd H dx (.own x)) x (.ins C dx [])) b = some o → b ≠ x → H1 b = some o) : Same H H1 := fun b o e =>
  k b o (by rw [upd_ne (ne_of_none e nx), upd_ne (ne_of_none e nd)]; exact e) (ne_of_none e nx)
/-! ### fields -/
theorem lk_here {k : Str} {v : V} {r : List (Str × V)} : List.lookup k ((k, v) :: r) = some v := by
  have e : (k == k) = true := beq_self_eq_true k
  simp only [List.lookup, e]
theorem lk_past {k g : Str} {v : V} {r : List (Str × V)} (h : (k == g) = false) : List.lookup k ((g, v) :: r) = List.lookup k r := by
  simp only [List.lookup, h]
theorem put_here {f : Str} {v x : V} {r : List (Str × V)} : putF f v ((f, x) :: r) = (f, v) :: r := if_pos rfl
theorem put_past {f g : Str} {v x : V} {r : List (Str × V)} (h : ¬ g = f) : putF f v ((g, x) :: r) = (g, x) :: putF f v r := if_neg h
end Ws
namespace Ws
theorem ifT {c : Bool} {A B : Prop} (hc : c = true) (h : A) : if c = true then A else B := by rw [if_pos hc]; exact h
theorem ifF {c : Bool} {A B : Prop} (hc : c = false) (h : B) : if c = true then A else B := by rw [hc, if_neg Bool.false_ne_true]; exact h
theorem if2 {c : Bool} {A B : Prop} (h1 : c = true → A) (h2 : c = false → B) : if c = true then A else B := by
  cases c with
  | true => exact ifT rfl (h1 rfl)
  | false => exact ifF rfl (h2 rfl)
end Ws
namespace Ws
open PySem PySem.Spec PyProof.Rows L2
section
variable {X : Cx} {CX : CXT} {k n : Nat} {f C : Addr} {fd : FuncData} {ps ks : List Str} {sp : Sp} {E : XK} {m : Str} {pos apos : Pos} {e o : Expr} {kws : List Keyword} {ta : TE} {tk : TA} {g : List Value → List Value → List Value} {gV : List V → List V → List V}
/-- o.m(k = v, ..) -/
noncomputable def tMtK (C : Addr) (m : Str) (n : Nat) (sp : Sp) (gV : List V → List V → List V) (E : XK) (ta : TE) (tk : TA) : TE := fun σ H Q => ta σ H fun x H1 => ∃ a dx fs, x = .ref a ∧ H1 a = some (.ins C dx fs) ∧ fs.lookup m = none ∧ tk σ H1 fun zs H2 => zs.length = n ∧ sp (gV [x] zs) H2 Q E
theorem pe_mtK0 {pl : Sem Bool} (c : Cls X.K C) (hm : Meth X.K C m f) (F : FnOk X.prog X.w X.K X.mg X.base CX k f fd ps sp) (hr : Room k X.A) (hb : KBn X.K fd ps 1 ks g gV) (hx : Passes CX X E) (he : PE X o ta) (hkw : PK X kws tk)
    (hall : (backToKw pos (keywordEach kws X.env)).all (·.1.isSome) = true := by rfl) (hks : (backToKw pos (keywordEach kws X.env)).filterMap (·.1) = ks := by rfl)
    (hpl : ((backTo pos (starEach [] X.env)).any (·.1) || (backToKw pos (keywordEach kws X.env)).any (·.1.isNone)) = false := by rfl)
    (ht : eval (.Call (.Attribute o m apos) [] kws pos) X.env = (do
      let ov ← eval o X.env
      standAt apos.atName
      let (f, first) ← holding [ov] (getMethod ov m pl)
      callWith pos f first (backTo pos (starEach [] X.env)) (backToKw pos (keywordEach kws X.env))) := by rfl) :
    PE X (.Call (.Attribute o m apos) [] kws pos) (tMtK C m ks.length sp gV E ta tk) := by
  refine ⟨fun pins s σ H Q I h => ?_⟩
  refine PySem.W.methodCall_KW (pl := pl) (thn (he.run pins s σ H _ I h) fun u s1 ⟨x, H1, I1, rx, a, dx, fs, ex, ea, l, q⟩ => ?_) ht
  subst ex
  obtain rfl : u = Value.ref a := rx
  refine getmeth_ok I1 ea c hm l ?_
  refine PySem.W.callWith_KW0 (first := [.ref a]) (h₀ := X.base) I.ok.mod.kin hm.kp hall ?_ hpl
  refine thn (hkw.run pos pins s1 σ H1 _ I1 q) fun ws s2 ⟨zs, H2, I2, rz, l2, q2⟩ => ⟨I2.kIn, ?_⟩
  rw [hks]
  exact run_fnN (us := [.ref a]) (vs := [.ref a]) F hr hb hx I2 (.cons rfl .nil) rz rfl l2 q2
end
end Ws
namespace Ws
theorem bit_lo (c : Bool) : -(2 ^ 64) < (if c = true then (1 : Int) else 0) ∧ (if c = true then (1 : Int) else 0) < 2 ^ 64 := by cases c <;> decide
theorem bit_nn (c : Bool) : 0 ≤ (if c = true then (1 : Int) else 0) := by cases c <;> decide
end Ws
namespace Ws
open PySem
theorem kit_self {K : PySem.W.Frag} (t : Value) : PySem.W.kitOne K t t = some true := by
  unfold PySem.W.kitOne
  rw [if_pos (by simp)]
end Ws

namespace Ws
open PySem PySem.Spec PyProof.Rows L2
/-! ### defs that are called where nothing is being shown: repr may be asked within them -/
/-- FnR for such calls alone -/
noncomputable def FnG (P : Program) (w : World) (K : PySem.W.Frag) (mg : Str → Option Value) (base : Heap) (CX : CXT) (k : Nat) (f : Addr) (sp : Sp) : Prop :=
  ∀ (A : Around) (outer : List Env) (s : Shared) (H : Hp) (us : List Value) (vs : List V) (Q : VK) (E : XK), A.guards = some [] → Room k A → Env0 P w K mg base A outer s H → Vals vs us → sp vs H Q E →
    codeAny (model P w) A (.call (.ref f) ⟨us, []⟩) (CR CX outer P w H s Q E) s
theorem FnG.of {P : Program} {w : World} {K : PySem.W.Frag} {mg : Str → Option Value} {base : Heap} {CX : CXT} {k : Nat} {f : Addr} {sp : Sp} (F : FnR P w K mg base CX k f sp) : FnG P w K mg base CX k f sp :=
  fun A outer s H us vs Q E _ hr e0 r h => F A outer s H us vs Q E hr e0 r h
/-- such a def of the module, by its name -/
noncomputable def CalG (P : Program) (w : World) (K : PySem.W.Frag) (mg : Str → Option Value) (base : Heap) (CX : CXT) (k : Nat) (x : Str) (sp : Sp) : Prop := ∃ f : Addr, FnG P w K mg base CX k f sp ∧ mg x = some (.ref f) ∧ PySem.W.keepIn K (.ref f) = true
section
variable {X : Cx} {k j : Nat} {f : Addr} {sp : Sp} {x : Str} {p pos : Pos} {e : Expr} {es : List Expr} {t : TA} {CX : CXT} {E : XK}
theorem run_G {pins : List (Addr × Obj)} {σ : L2.St} {H : Hp} {s : Shared} {Q : VK} {us : List Value} {vs : List V} (F : FnG X.prog X.w X.K X.mg X.base CX k f sp) (cl : X.A.guards = some []) (hr : Room k X.A) (hx : Passes CX X E)
    (I : Inv X pins σ H s) (r : Vals vs us) (h : sp vs H Q E) : wpAny (model X.prog X.w) X.A (call (.ref f) us) (EP X pins σ Q) X.xe s := by
  refine wpAny_call (codeAny_mono (F X.A X.stack s H us vs Q E cl hr I.env0 r h) fun out s' q => ?_)
  cases out with
  | error e => exact hx pins σ H s e s' I q
  | ok fl => cases fl with
    | ret u => exact I.after q
    | next => exact q.elim
    | brk => exact q.elim
    | cont => exact q.elim
noncomputable def tFE (sp : Sp) (E : XK) (t : TA) : TE := fun σ H Q => t σ H fun vs H1 => sp vs H1 Q E
/-- f(e, ..) -/
theorem pe_gE (c : CalG X.prog X.w X.K X.mg X.base CX k x sp) (cl : X.A.guards = some []) (hr : Room j X.A) (hk : k ≤ j) (hx : Passes CX X E) (hg : Gl X x) (ha : PA X (e :: es) t) (hdb : (x == ("__debug__" : Str)) = false := by decide)
    (he : starEach (e :: es) X.env = (false, eval e X.env) :: starEach es X.env := by rfl) (hpl : (backTo pos (starEach es X.env)).any (·.1) = false := by rfl) : PE X (.Call (.Name x p) (e :: es) [] pos) (tFE sp E t) := by
  obtain ⟨f, F, hm, hkp⟩ := c
  refine ⟨fun pins s σ H Q I h => ?_⟩
  refine wpAny_Call_Name_kw (ld_glob I hg hm ?_ hdb)
  refine PySem.W.callWith_K (h₀ := X.base) I.ok.mod.kin hkp (thn (ha.run pos pins s σ H _ I h) fun us s1 ⟨vs, H1, I1, r, q⟩ => ⟨I1.kIn, ?_⟩) he hpl
  exact run_G F cl (hr.mono hk) hx I1 r q
theorem pe_g (c : CalG X.prog X.w X.K X.mg X.base CX0 k x sp) (cl : X.A.guards = some []) (hr : Room j X.A) (hk : k ≤ j) (hg : Gl X x) (ha : PA X (e :: es) t) (hdb : (x == ("__debug__" : Str)) = false := by decide)
    (he : starEach (e :: es) X.env = (false, eval e X.env) :: starEach es X.env := by rfl) (hpl : (backTo pos (starEach es X.env)).any (·.1) = false := by rfl) : PE X (.Call (.Name x p) (e :: es) [] pos) (tF sp t) :=
  pe_gE c cl hr hk pass0 hg ha hdb he hpl
end
section
variable {P : Program} {w : World} {K : PySem.W.Frag} {mg : Str → Option Value} {base : Heap}
/-- a def of the text: its body is read where nothing is being shown -/
theorem fnG_ofX {CX : CXT} {x qual : Str} {st : Stmt} {f : Addr} {fd : FuncData} {N ps : List Str} {k : Nat} {sp : Sp} (F : L2.Fun K x qual st f fd) (b : Binds K fd ps []) (S : FnScope N ps (defScope st)) (len : ∀ vs H Q E, sp vs H Q E → vs.length = ps.length)
    (hbody : ∀ (cdv : Value) (A : Around) (outer : List Env) (s : Shared) (H : Hp) (vs : List V) (Q : VK) (E : XK), A.guards = some [] → Room k (A.deeper (envOfC qual (defScope st) s.heap.objs.size f cdv)) → sp vs H Q E →
      ∃ t, PSs (cxOf CX P w K mg base N qual (defScope st) f cdv A outer s H E) (defBody st) t ∧ t { nx := fun _ H' => Q .non H', rt := Q } (start N vs) H) : FnG P w K mg base CX (k + 1) f sp := by
  obtain ⟨oc, od, kV, doc, pm, an, cdv, ct, osl, rfl, lk, hcd⟩ := F.ex
  intro A outer s H us vs Q E cl hr e0 r hsp
  have hn := len _ _ _ _ hsp
  have inS : K.In s.heap := e0.mod.kin.keeps fun b o e => (e0.bs b o e).1
  have free : s.heap.NoLimit := e0.mod.nolimit.keeps fun b o e => (e0.bs b o e).1
  have hl : us.length = ps.length := r.length ▸ hn
  have bd := b s us inS (by rw [List.append_nil]; exact hl)
  rw [List.append_nil] at bd
  have kinds : ∀ y ∈ ps.zip us, (defScope st).names.lookup y.1 = some .local ∨ ((defScope st).names.lookup y.1 = some .cell ∧ ((cellsFrom (s.heap.objs.size + 1) (defScope st).names []).lookup y.1).isSome = true) := by
    rintro ⟨n, v⟩ hy
    exact (S.par n (List.of_mem_zip hy).1).imp id fun q => ⟨q, PySem.W.cellsFrom_some _ _ _ (.inl q)⟩
  refine codeAny_call_function hr.depth (inS _ _ lk) rfl S.co S.gen rfl (PySem.W.codeRec_of inS hcd) (bd _ _ _ _ ?_)
  refine wpAny_newFunctionEnv_cells S.kind kinds fun env hE s1 z => ?_
  cases hE
  refine ⟨free.keeps z.toInCall.keep, codeAny_func ?_⟩
  obtain ⟨t, ht, q⟩ := hbody cdv A outer s H vs Q E cl (hr.deeper _) hsp
  have I : Inv (cxOf CX P w K mg base N qual (defScope st) f cdv A outer s H E) [] (start N vs) H s1 := inv_start S hr.hd e0 hn r z
  refine wpAny_mono (ht.run [] s1 (start N vs) H _ I q) (fun fl s2 out => ?_) fun _ _ out => out
  cases fl with
  | ret u => obtain ⟨v, _, H2, J, rv, q2⟩ := out; exact ⟨v, H2, J.os, J.bare, J.base, J.hok, rv, q2⟩
  | next => obtain ⟨_, H2, J, q2⟩ := out; exact ⟨.non, H2, J.os, J.bare, J.base, J.hok, rfl, q2⟩
  | brk => exact out.elim fun _ z => z.elim fun _ z => z.2.elim
  | cont => exact out.elim fun _ z => z.elim fun _ z => z.2.elim
theorem fnG_of {x qual : Str} {st : Stmt} {f : Addr} {fd : FuncData} {N ps : List Str} {k : Nat} {sp : Sp} (F : L2.Fun K x qual st f fd) (b : Binds K fd ps []) (S : FnScope N ps (defScope st)) (len : ∀ vs H Q E, sp vs H Q E → vs.length = ps.length)
    (hbody : ∀ (cdv : Value) (A : Around) (outer : List Env) (s : Shared) (H : Hp) (vs : List V) (Q : VK) (E : XK), A.guards = some [] → Room k (A.deeper (envOfC qual (defScope st) s.heap.objs.size f cdv)) → sp vs H Q E →
      ∃ t, PSs (cxOf CX0 P w K mg base N qual (defScope st) f cdv A outer s H E).nox (defBody st) t ∧ t { nx := fun _ H' => Q .non H', rt := Q } (start N vs) H) : FnG P w K mg base CX0 (k + 1) f sp :=
  fnG_ofX F b S len fun cdv A outer s H vs Q E cl hr h => let ⟨t, h1, h2⟩ := hbody cdv A outer s H vs Q E cl hr h; ⟨t, h1.nox, h2⟩
end
/-! ### the law's own call -/
/-- what is tracked when the law begins: its script, if the module doesn't have it -/
noncomputable def only1 (K : PySem.W.Frag) (a : Addr) (o : Obj) (xs : List V) : Hp := fun b => if b = a then (match K.lookup a with | some _ => none | none => some (.frz o (.lst xs))) else none
theorem law_G {P : Program} {w : World} {K : PySem.W.Frag} {mg mb : Str → Option Value} {k : Nat} {fa a : Addr} {sp : Sp} {s : Shared} {vs : List Value} {ns : List Int}
    (inS : K.In s.heap) (hm : s.heap.Ns mainGlobals mg) (hb : s.heap.Ns builtinsNs mb) (bb : ∀ x : Str, x ≠ "__name__" → mb x = bootBuiltins x) (free : s.heap.NoLimit) (hg : s.gens = #[])
    (ha : s.heap.get? a = some { cls := .type "list", data := .seq vs.toArray }) (hi : IntsAre vs ns) (hl : ns.length ≤ sizeLine) (hr : Room k callerA)
    (F : ∀ base : Heap, K.In base → base.Ns mainGlobals mg → FnG P w K mg base CX0 k fa sp)
    (hsp : ∀ H : Hp, Only H → SqL K H a (ns.map V.int) → sp [.ref a] H (fun v _ => v = .bl true) fun _ _ _ => False) :
    codeAny (model P w) callerA (.call (.ref fa) ⟨[.ref a], []⟩) (fun r s' => r = .ok (.ret (.bool true)) ∧ OldK s.heap s'.heap ∧ s'.os = s.os ∧ AllBare s'.gens) s := by
  let ob : Obj := { cls := .type "list", data := .seq vs.toArray }
  let H : Hp := only1 K a ob (ns.map V.int)
  have hH : ∀ b u, H b = some u → b = a ∧ K.lookup a = none ∧ u = .frz ob (.lst (ns.map V.int)) := by
    intro b u e
    have e1 : (if b = a then (match K.lookup a with | some _ => none | none => some (HO.frz ob (.lst (ns.map V.int)))) else none) = some u := e
    by_cases hba : b = a
    · rw [if_pos hba] at e1
      cases hk : K.lookup a with
      | some _ => rw [hk] at e1; cases e1
      | none => rw [hk] at e1; exact ⟨hba, rfl, (Option.some.inj e1).symm⟩
    · rw [if_neg hba] at e1; cases e1
  have only : Only H := fun b => by
    cases e : H b with
    | none => exact .inl rfl
    | some u => obtain ⟨_, _, rfl⟩ := hH b u e; exact .inr ⟨_, _, rfl⟩
  have rv := vals_ints hi
  have here : SqL K H a (ns.map V.int) := by
    cases hk : K.lookup a with
    | none =>
      refine .inl (.inr ⟨ob, ?_⟩)
      show (if a = a then (match K.lookup a with | some _ => none | none => some (HO.frz ob (.lst (ns.map V.int)))) else none) = _
      rw [if_pos rfl, hk]
    | some o =>
      have e := inS a o hk
      rw [ha] at e
      cases e
      exact .inr ⟨_, vs.toArray, _, hk, rfl, rfl, rfl, by rw [List.size_toArray, hi.length]; exact hl, by simpa using rv⟩
  have ok : HOk P w H s.heap := fun b u e => by
    obtain ⟨rfl, _, rfl⟩ := hH b u e
    exact ⟨ha, by rw [List.length_map]; exact hl, vs, _, rv, ha⟩
  have low : ∀ {b : Addr} {o : Obj}, s.heap.get? b = some o → H b = none → (hidT s.heap H).get? b = some o := fun e n => hidT_get e n
  have lowD : ∀ {b : Addr} {m : Str → Option Value}, s.heap.Ns b m → (hidT s.heap H).Ns b m := fun {b m} ⟨o, es, ep, e, d, r⟩ => ⟨o, es, ep, low e (by
    cases q : H b with
    | none => rfl
    | some u =>
      obtain ⟨rfl, _, _⟩ := hH b u q
      rw [ha] at e
      cases e
      cases (show Data.seq vs.toArray _ = Data.dict es ep from d)), d, r⟩
  have inB : K.In (hidT s.heap H) := fun b o e => low (inS b o e) (by
    cases q : H b with
    | none => rfl
    | some u =>
      obtain ⟨rfl, n, _⟩ := hH b u q
      rw [n] at e
      cases e)
  have M : Mod K mg (hidT s.heap H) := ⟨inB, lowD hm, ⟨mb, lowD hb, bb⟩, let ⟨mc, h1, h2⟩ := free; ⟨mc, lowD h1, h2⟩⟩
  have e0 : Env0 P w K mg (hidT s.heap H) callerA [] s H := ⟨rfl, M, fun b o e => of_hidT e, Nat.le_of_eq (hidT_size _ _), trivial, fun b z => absurd (show b ∈ ([] : List Addr) from z) (by simp), ok, .of_eq hg⟩
  refine codeAny_mono (F _ inB (lowD hm) callerA [] s H [.ref a] [.ref a] _ _ rfl hr e0 (.cons rfl .nil) (hsp H only here)) fun r s' h => ?_
  cases r with
  | error e => exact h.elim
  | ok fl =>
    cases fl with
    | ret u =>
      obtain ⟨v, H', os, bare, un, ok', r', q⟩ := h
      cases (show v = V.bl true from q)
      cases (show u = Value.bool true from r')
      refine ⟨rfl, OldK.of_keep fun b o e => ?_, os, bare⟩
      cases z : H b with
      | none => exact un.keep b o e z (fun y => absurd (show b ∈ ([] : List Addr) from y) (by simp)) (by simp)
      | some u =>
        obtain ⟨rfl, _, rfl⟩ := hH b u z
        rw [ha] at e
        cases e
        exact (ok' b _ (un.frzs b _ _ z)).1
    | next => exact h.elim
    | brk => exact h.elim
    | cont => exact h.elim
/-- the goal behind the top, from the law's promise -/
theorem walk_G {l : PySem.W.OpenLaw} {n k : Nat} {q : Program} {loose : List Str} {XP : (Str → Option Value) → Heap → Prop} {YP : World → Heap → Prop} {d : DefRec} {K : Params → PySem.W.Frag} {sp : World → Sp}
    (hn : l.most = some n) (hn2 : n ≤ sizeLine) (hdf : d.params.defaults = []) (hr : Room k callerA) (hY : ∀ (w : World) (h : Heap), YP w h → (K w.params).In h)
    (F : ∀ (w : World) (mg : Str → Option Value) (fa : Addr) (h : Heap), (K w.params).In h → h.Ns mainGlobals mg → mg d.name = some (.ref fa) → ∀ base : Heap, (K w.params).In base → base.Ns mainGlobals mg → FnG l.prog w (K w.params) mg base CX0 k fa (sp w))
    (hsp : ∀ (w : World) (H : Hp) (a : Addr) (ns : List Int), ns.length ≤ n → Only H → SqL (K w.params) H a (ns.map V.int) → sp w [.ref a] H (fun v _ => v = .bl true) fun _ _ _ => False) :
    PySem.W.WalkO q loose XP YP l.row.toRowW d [] (fun f vs => PySem.call f vs) :=
  Att.attach_call hn hdf fun w s₀ s mg mb fa o pm cd doc a vs ns G Y ho hd hcd hmg hobj hints hlen hg =>
    law_G (hY w _ Y) G.T.g G.T.b G.T.builtins G.T.nolimit hg hobj hints (Nat.le_trans hlen hn2) hr (F w mg fa _ (hY w _ Y) G.T.g hmg) fun H hO hS => hsp w H a ns hlen hO hS
end Ws

namespace Ws
open PySem PySem.Spec PyProof.Rows L2
/-! ### the law's own call, where defs of the text make lambdas: their tables are tracked from the beginning -/
noncomputable def onlyT (K : PySem.W.Frag) (a : Addr) (o : Obj) (xs : List V) (ts : List Addr) : Hp := fun b => if b ∈ ts then some (.tbl #[]) else only1 K a o xs b
/-- what is known of the code object at c and its table at T -/
structure TabF (K : PySem.W.Frag) (h : Heap) (p : Addr × Addr) : Prop where
  at_ : h.get? p.2 = some (PySem.W.tabObj #[])
  out : K.lookup p.2 = none
  code : PySem.W.CodeHd h p.1 p.2
theorem law_GT {P : Program} {w : World} {K : PySem.W.Frag} {mg mb : Str → Option Value} {k : Nat} {fa a : Addr} {sp : Sp} {s : Shared} {vs : List Value} {ns : List Int} {tb : List (Addr × Addr)}
    (inS : K.In s.heap) (hm : s.heap.Ns mainGlobals mg) (hb : s.heap.Ns builtinsNs mb) (bb : ∀ x : Str, x ≠ "__name__" → mb x = bootBuiltins x) (free : s.heap.NoLimit) (hg : s.gens = #[])
    (tf : ∀ p ∈ tb, TabF K s.heap p) (own : ∃ (m : Addr) (o : Obj), mg "__builtins__" = some (.ref m) ∧ m ≠ builtinsNs ∧ s.heap.get? m = some o ∧ o.cls = .type "module" ∧ o.dict = some builtinsNs ∧ o.data = .plain)
    (ha : s.heap.get? a = some { cls := .type "list", data := .seq vs.toArray }) (hi : IntsAre vs ns) (hl : ns.length ≤ sizeLine) (hr : Room k callerA)
    (F : ∀ base : Heap, K.In base → base.Ns mainGlobals mg → (∀ p ∈ tb, LamX.TabB base mg p.1 p.2) → FnG P w K mg base CX0 k fa sp)
    (hsp : ∀ H : Hp, (∀ p ∈ tb, H p.2 = some (.tbl #[])) → SqL K H a (ns.map V.int) → sp [.ref a] H (fun v _ => v = .bl true) fun _ _ _ => False) :
    codeAny (model P w) callerA (.call (.ref fa) ⟨[.ref a], []⟩) (fun r s' => r = .ok (.ret (.bool true)) ∧ OldK s.heap s'.heap ∧ s'.os = s.os ∧ AllBare s'.gens) s := by
  let ob : Obj := { cls := .type "list", data := .seq vs.toArray }
  let ts : List Addr := tb.map Prod.snd
  let H : Hp := onlyT K a ob (ns.map V.int) ts
  have isT : ∀ t, t ∈ ts → s.heap.get? t = some (PySem.W.tabObj #[]) := fun t ht => let ⟨p, hp, e⟩ := List.mem_map.mp ht; e ▸ (tf p hp).at_
  have na : a ∉ ts := fun z => by
    have q := (isT a z).symm.trans ha
    cases (show Data.fields #[] = Data.seq vs.toArray _ from congrArg Obj.data (Option.some.inj q))
  have inT : ∀ p ∈ tb, p.2 ∈ ts := fun p hp => List.mem_map.mpr ⟨p, hp, rfl⟩
  have hH : ∀ b u, H b = some u → (b ∈ ts ∧ u = .tbl #[]) ∨ (b ∉ ts ∧ b = a ∧ K.lookup a = none ∧ u = .frz ob (.lst (ns.map V.int))) := by
    intro b u e
    by_cases ht : b ∈ ts
    · have e1 : some (HO.tbl #[]) = some u := (if_pos ht).symm.trans e
      exact .inl ⟨ht, (Option.some.inj e1).symm⟩
    · have e1 : only1 K a ob (ns.map V.int) b = some u := (if_neg ht).symm.trans e
      unfold only1 at e1
      by_cases hba : b = a
      · rw [if_pos hba] at e1
        cases hk : K.lookup a with
        | some _ => rw [hk] at e1; cases e1
        | none => rw [hk] at e1; exact .inr ⟨ht, hba, rfl, (Option.some.inj e1).symm⟩
      · rw [if_neg hba] at e1; cases e1
  have rv := vals_ints hi
  have here : SqL K H a (ns.map V.int) := by
    cases hk : K.lookup a with
    | none =>
      refine .inl (.inr ⟨ob, ?_⟩)
      show (if a ∈ ts then _ else only1 K a ob (ns.map V.int) a) = _
      rw [if_neg na]
      unfold only1
      rw [if_pos rfl, hk]
    | some o =>
      have e := inS a o hk
      rw [ha] at e
      cases e
      exact .inr ⟨_, vs.toArray, _, hk, rfl, rfl, rfl, by rw [List.size_toArray, hi.length]; exact hl, by simpa using rv⟩
  have ok : HOk P w H s.heap := fun b u e => by
    rcases hH b u e with ⟨ht, rfl⟩ | ⟨_, rfl, _, rfl⟩
    · exact isT b ht
    · exact ⟨ha, by rw [List.length_map]; exact hl, vs, _, rv, ha⟩
  -- what is no list and no table is not tracked
  have off : ∀ {b : Addr} {o : Obj}, s.heap.get? b = some o → (∀ x n, o.data = .seq x n → False) → (o.data = .fields #[] → False) → H b = none := fun {b o} e h1 h2 => by
    cases q : H b with
    | none => rfl
    | some u =>
      rcases hH b u q with ⟨ht, _⟩ | ⟨_, rfl, _, _⟩
      · exact (h2 (congrArg Obj.data (Option.some.inj (e.symm.trans (isT b ht))))).elim
      · exact (h1 _ _ (congrArg Obj.data (Option.some.inj (e.symm.trans ha)))).elim
  have low : ∀ {b : Addr} {o : Obj}, s.heap.get? b = some o → H b = none → (hidT s.heap H).get? b = some o := fun e n => hidT_get e n
  have lowD : ∀ {b : Addr} {m : Str → Option Value}, s.heap.Ns b m → (hidT s.heap H).Ns b m := fun {b m} ⟨o, es, ep, e, d, r⟩ =>
    ⟨o, es, ep, low e (off e (fun x n z => nomatch d.symm.trans z) fun z => nomatch d.symm.trans z), d, r⟩
  have inB : K.In (hidT s.heap H) := fun b o e => low (inS b o e) (by
    cases q : H b with
    | none => rfl
    | some u =>
      rcases hH b u q with ⟨ht, _⟩ | ⟨_, rfl, n, _⟩
      · obtain ⟨p, hp, ep⟩ := List.mem_map.mp ht
        have n := (tf p hp).out
        rw [show p.2 = b from ep, e] at n
        cases n
      · rw [n] at e
        cases e)
  have TB : ∀ p ∈ tb, LamX.TabB (hidT s.heap H) mg p.1 p.2 := fun p hp => by
    have tp := (tf p hp).at_
    refine ⟨?_, ?_, fun z => ?_⟩
    · obtain ⟨o, us, f1, f2, f3, f4, f5, f6, f7, e, c, d, c11, rest⟩ := (tf p hp).code
      exact ⟨o, us, f1, f2, f3, f4, f5, f6, f7, low e (off e (fun x n z => nomatch d.symm.trans z) fun z => by
        cases d.symm.trans z
        simp at c11), c, d, c11, rest⟩
    · obtain ⟨m, o, b1, b2, b3, b4, b5, b6⟩ := own
      refine ⟨m, o, b1, b2, fun q => ?_, fun q => ?_, low b3 (off b3 (fun x n z => nomatch b6.symm.trans z) fun z => nomatch b6.symm.trans z), b4, b5, b6⟩
      · obtain ⟨o', es, ep, e, d, _⟩ := hm
        rw [← q, b3] at e
        cases e
        exact nomatch b6.symm.trans d
      · rw [q, tp] at b3
        cases b3
        cases b6
    · obtain ⟨o', es, ep, e, d, _⟩ := hm
      rw [z, tp] at e
      cases e
      cases d
  have M : Mod K mg (hidT s.heap H) := ⟨inB, lowD hm, ⟨mb, lowD hb, bb⟩, let ⟨mc, h1, h2⟩ := free; ⟨mc, lowD h1, h2⟩⟩
  have e0 : Env0 P w K mg (hidT s.heap H) callerA [] s H := ⟨rfl, M, fun b o e => of_hidT e, Nat.le_of_eq (hidT_size _ _), trivial, fun b z => absurd (show b ∈ ([] : List Addr) from z) (by simp), ok, .of_eq hg⟩
  refine codeAny_mono (F _ inB (lowD hm) TB callerA [] s H [.ref a] [.ref a] _ _ rfl hr e0 (.cons rfl .nil) (hsp H (fun p hp => if_pos (inT p hp)) here)) fun r s' h => ?_
  cases r with
  | error e => exact h.elim
  | ok fl =>
    cases fl with
    | next => exact h.elim
    | brk => exact h.elim
    | cont => exact h.elim
    | ret u =>
      obtain ⟨v, H', os, bare, un, ok', r', q⟩ := h
      cases (show v = V.bl true from q)
      cases (show u = Value.bool true from r')
      have grown : ∀ t, t ∈ ts → ∃ more : Array Value, s'.heap.get? t = some (PySem.W.tabObj more) := fun t ht => by
        obtain ⟨more, z⟩ := un.tbls t #[] (if_pos ht)
        exact ⟨_, ok' t _ z⟩
      have same : ∀ b o, b ∉ ts → s.heap.get? b = some o → s'.heap.get? b = some o := fun b o nt e => by
        cases z : H b with
        | none => exact un.keep b o e z (fun y => absurd (show b ∈ ([] : List Addr) from y) (by simp)) (by simp)
        | some u =>
          rcases hH b u z with ⟨ht, _⟩ | ⟨_, rfl, _, rfl⟩
          · exact (nt ht).elim
          · exact e ▸ (show s'.heap.get? b = s.heap.get? b from ((ok' b _ (un.frzs b _ _ z)).1).trans ha.symm)
      refine ⟨rfl, ⟨fun b o e => ?_, fun b o e => ?_⟩, os, bare⟩
      · by_cases ht : b ∈ ts
        · obtain ⟨p, hp, ep⟩ := List.mem_map.mp ht
          obtain ⟨more, z⟩ := grown b ht
          cases (show p.2 = b from ep)
          have q := (tf p hp).at_
          cases e.symm.trans q
          exact .inr (.inl ⟨((tf p hp).code.tab q).isCodeTable, rfl, #[], more, rfl, by rw [Array.empty_append]; exact z⟩)
        · exact .inl (same b o ht e)
      · by_cases ht : b ∈ ts
        · obtain ⟨more, z⟩ := grown b ht
          exact ⟨_, z⟩
        · exact ⟨o, same b o ht e⟩
/-- the goal behind the top, from the law's promise, with tables -/
theorem walk_GT {l : PySem.W.OpenLaw} {n k : Nat} {q : Program} {loose : List Str} {XP : (Str → Option Value) → Heap → Prop} {YP : World → Heap → Prop} {d : DefRec} {K : Params → PySem.W.Frag} {sp : World → Sp} {tb : List (Addr × Addr)}
    (hn : l.most = some n) (hn2 : n ≤ sizeLine) (hdf : d.params.defaults = []) (hr : Room k callerA) (hY : ∀ (w : World) (h : Heap), YP w h → (K w.params).In h) (hT : ∀ (w : World) (h : Heap), YP w h → ∀ p ∈ tb, TabF (K w.params) h p)
    (F : ∀ (w : World) (mg : Str → Option Value) (fa : Addr) (h : Heap), (K w.params).In h → h.Ns mainGlobals mg → mg d.name = some (.ref fa) → ∀ base : Heap, (K w.params).In base → base.Ns mainGlobals mg → (∀ p ∈ tb, LamX.TabB base mg p.1 p.2) → FnG l.prog w (K w.params) mg base CX0 k fa (sp w))
    (hsp : ∀ (w : World) (H : Hp) (a : Addr) (ns : List Int), ns.length ≤ n → (∀ p ∈ tb, H p.2 = some (.tbl #[])) → SqL (K w.params) H a (ns.map V.int) → sp w [.ref a] H (fun v _ => v = .bl true) fun _ _ _ => False) :
    PySem.W.WalkO q loose XP YP l.row.toRowW d [] (fun f vs => PySem.call f vs) :=
  Att.attach_call hn hdf fun w s₀ s mg mb fa o pm cd doc a vs ns G Y ho hd hcd hmg hobj hints hlen hg =>
    law_GT (hY w _ Y) G.T.g G.T.b G.T.builtins G.T.nolimit hg (hT w _ Y) G.T.bmain hobj hints (Nat.le_trans hlen hn2) hr (F w mg fa _ (hY w _ Y) G.T.g hmg) fun H hO hS => hsp w H a ns hlen hO hS
end Ws

namespace Ws
open PySem PySem.W PySem.Calls PyProof.Rows
/-- what a class with an own __eq__ and no __ne__ must be -/
structure NeC (K : Frag) (C : Addr) : Prop where
  ne : findIn K (.ref C) "__ne__" = some (some (.builtin "object.__ne__"))
  obj : ∃ (nm q : Str) (N : Addr) (bs bm : List Value) (hd : Bool) (sn : List Str) (sub : List Value) (ab : Bool) (col : Option Bool) (dd : Option Addr) (k0 k1 k2 k3 k5 : Option Value) (nid : String),
    K.lookup C = some (excClassObj nm q C N bs bm hd sn sub ab col dd k0 k1 k2 k3 k5 nid) ∧ bm.contains (.type "object") = true
section
variable {prog : Program} {w : World} {A : Around} {E : Value → Shared → Prop} {s : Shared} {K : Frag} {x C L f : Addr} {h₀ : Heap} {m : Str → Option Value} {ox : Obj} {od : Option Obj} {b tb : Value}
theorem ifBound_B {M : Model} {args : List Value} {Q : Option Value → Shared → Prop} (X : K.In s.heap) (I : InstAt s.heap x ox C od) (hs : findIn K (.ref C) "__ne__" = some (some (.builtin "object.__ne__")))
    (h : wpAny M A (call (.builtin "object.__ne__") (.ref x :: args)) (fun v => Q (some v)) E s) : wpAny M A (callSpecialIfBound? (.ref x) "__ne__" args) Q E s := by
  simp only [callSpecialIfBound?, bindSpecialIfBound?]
  refine wpAny_holding (wpAny_bind (wpAny_bind (wpAny_bind (I.type.here ((looks_findIn X hs).here ?_)))))
  dsimp only
  simp only [PySem.F.cmp_object.ne.bind]
  have fin : wpAny M A (call (.builtin "object.__ne__") ([.ref x] ++ args) >>= fun v => pure (some v)) Q E s := wpAny_bind (wpAny_mono h (fun v s' h' => wpAny_pure h') fun _ _ h' => h')
  refine wpAny_bind (wpAny_askSetting (wpAny_ite ?_))
  split
  · exact wpAny_bind (wpAny_pure (wpAny_pure (by exact fin)))
  · exact wpAny_tryCatch (wpAny_bind (wpAny_pure (wpAny_pure (by exact fin))))
theorem objNe_K (hu : A.units < cLine) (X : K.In s.heap) (I : InstAt s.heap x ox C od) (hs : findIn K (.ref C) "__eq__" = some (some (.ref f))) (hf : isFn K (.ref f) = true) {Q : Fin → Shared → Prop}
    (hcall : wpAny (model prog w) A (call (.ref f) [.ref x, b]) (fun v s' => ∃ r, v = .bool r ∧ Q (.done (.ret (.bool (!r)))) s') E s) : wpAny (model prog w) A (Builtin.«object.__ne__» ⟨[.ref x, b], []⟩) Q E s := by
  obtain ⟨h, g, d, t, os⟩ := s
  unfold Builtin.«object.__ne__»
  repeat (first
    | with_reducible refine wpAny_cRoomFor hu ?_
    | (refine wpAny_bind (m := callSpecialIfBound? (.ref x) (Str.ofString "__eq__") [b])
        (ifBound_K X I hs hf (wpAny_mono hcall (fun r s' hr => by
          obtain ⟨r, rfl, hq⟩ := hr
          repeat (first | exact hq | exact wpAny_pure hq | exact wpAny_truthy_bool hq | (refine wpAny_bind (m := truthy (.bool _)) (wpAny_truthy_bool ?_)) | wp_step)) fun _ _ e => e)))
    | wp_step)
theorem ne_K (N : NeC K C) (hu : A.units + 1 < cLine) (F : Fr h₀ L s.heap m) (X₀ : K.In h₀) (I : InstAt s.heap x ox C od) (hb : Looks (model prog w) s.heap (typeOf b) tb) (hn : notFirst K C tb = true)
    (hs : findIn K (.ref C) "__eq__" = some (some (.ref f))) (hf : isFn K (.ref f) = true) {Q : Value → Shared → Prop}
    (h : wpAny (model prog w) A.in1 (call (.ref f) [.ref x, b]) (fun v s' => ∃ r, v = .bool r ∧ Q (.bool (!r)) s') E s) : wpAny (model prog w) A (compareOp .NotEq (.ref x) b) Q E s := by
  have X := X₀.keeps F.keep
  obtain ⟨hne, nm, q, N, bs, bm, hd, sn, sub, ab, col, dd, k0, k1, k2, k3, k5, nid, hC, hbm⟩ := N
  have one : wpAny (model prog w) A (tryCompare (.ref x) "__ne__" b) (fun r s' => ∃ v, r = some v ∧ Q v s') E s := by
    unfold tryCompare
    refine wpAny_bind (ifBound_B X I hne (wpAny_call (codeAny_call_builtin PySem.F.cmp_object.ne.plain PySem.F.cmpEntry_ne ?_)))
    obtain ⟨hh, g, d, t, os⟩ := s
    refine wpAny_check_slot_inst PySem.F.cmpKind_ne PySem.F.cmpSplit_ne (PySem.F.cmpArgs_ne _ _) hbm I.at_ I.cls (X _ _ hC) ?_
    refine objNe_K (A := A.in1) (Nat.lt_of_succ_lt_succ (Nat.succ_lt_succ hu)) X I hs hf (wpAny_mono h (fun v s' hv => ?_) fun _ _ e => e)
    obtain ⟨r, rfl, hq⟩ := hv
    first
      | exact ⟨r, rfl, wpAny_pure ⟨_, rfl, hq⟩⟩
      | exact ⟨r, rfl, wpAny_pure (wpAny_pure ⟨_, rfl, hq⟩)⟩
  show wpAny (model prog w) A (richCompare .NotEq (.ref x) b) Q E s
  unfold richCompare
  simp only [oneThing_ref]
  refine wpAny_holding (wpAny_bind (wpAny_cRoomFor (Nat.lt_of_succ_lt hu) ?_))
  rw [cmpInfo_NotEq]
  dsimp only
  refine wpAny_bind (I.type.here (wpAny_bind (hb.here ?_)))
  split
  · rename_i q
    have e : subIn K tb (.ref C) = some false := by
      rcases Bool.or_eq_true_iff.mp hn with e | e
      · rw [beq_iff_eq.mp e] at q; simp at q
      · exact beq_iff_eq.mp e
    refine wpAny_bind ((looks_subIn X e).here ?_)
    simp only [Bool.false_eq_true, if_false]
    refine wpAny_bind (wpAny_mono one (fun r s' z => ?_) fun _ _ e => e)
    obtain ⟨v, rfl, hq⟩ := z
    exact wpAny_pure hq
  · refine wpAny_bind (wpAny_pure ?_)
    simp only [Bool.false_eq_true, if_false]
    refine wpAny_bind (wpAny_mono one (fun r s' z => ?_) fun _ _ e => e)
    obtain ⟨v, rfl, hq⟩ := z
    exact wpAny_pure hq
end
end Ws
namespace Ws
open PySem PySem.Spec PyProof.Rows L2
section
variable {X : Cx} {k j : Nat} {C : Addr} {sp : Sp}
/-- the callee runs one call further in -/
theorem run_in1 {f : Addr} {pins : List (Addr × Obj)} {σ : L2.St} {H : Hp} {s : Shared} {Q : VK} {us : List Value} {vs : List V} {Ex : Value → Shared → Prop} (F : FnR X.prog X.w X.K X.mg X.base CX0 k f sp) (hr : Room (k + 1) X.A) (I : Inv X pins σ H s) (r : Vals vs us) (h : sp vs H Q E0) :
    wpAny (model X.prog X.w) X.A.in1 (call (.ref f) us) (EP X pins σ Q) Ex s := by
  refine wpAny_call (codeAny_mono (F X.A.in1 X.stack s H us vs Q E0 hr.in1 I.env0.in1 r h) fun r s' hq => ?_)
  cases r with
  | error er => exact hq.elim
  | ok fl =>
    cases fl with
    | ret u => exact I.after hq
    | next => exact False.elim hq
    | brk => exact False.elim hq
    | cont => exact False.elim hq
/-- a != b by a's own __eq__ -/
noncomputable def rNeO (K : PySem.W.Frag) (C : Addr) (sp : Sp) : R2 := fun x y H Q => ∃ a dx fs t, x = .ref a ∧ H a = some (.ins C dx fs) ∧ TyL H y t ∧ PySem.W.notFirst K C t = true ∧ sp [.ref a, y] H (fun v H' => ∃ r, v = .bl r ∧ Q (.bl (!r)) H') E0
theorem op_neO (N : NeC X.K C) (c : OpnF X.prog X.w X.K X.mg X.base k C "__eq__" sp) (hr : Room j X.A) (hk : k + 1 ≤ j) : OpR X (compareOp .NotEq) (rNeO X.K C sp) := by
  obtain ⟨f, h1, h2, F⟩ := c
  intro pins s σ H x y v u Q I rx ry h
  obtain ⟨a, dx, fs, t, rfl, ea, ty, nf, q⟩ := h
  cases (show v = Value.ref a from rx)
  obtain ⟨ox, od, J⟩ := inst_of I ea
  obtain ⟨m, hF⟩ := I.fr
  refine ne_K N (hu_of hr) hF I.ok.mod.kin J (ty.looks I ry) nf h1 h2 ?_
  refine wpAny_mono (run_in1 (us := [.ref a, u]) (vs := [.ref a, y]) F (hr.mono hk) I (.cons rfl (.cons ry .nil)) q) (fun v s' hv => ?_) fun _ _ z => z
  obtain ⟨z, H', I', rz, r, rfl, q'⟩ := hv
  cases (show v = Value.bool r from rz)
  exact ⟨r, rfl, .bl _, H', I', rfl, q'⟩
end
/-- isinstance with a class of one's own, answered no -/
theorem kit_no {K : PySem.W.Frag} {t : Value} {D : Addr} (h1 : PySem.W.isClsIn K D = true) (h2 : PySem.W.typeIn K (.ref D) = some (.type "type")) (h3 : PySem.W.subIn K t (.ref D) = some false) (h4 : t ≠ .ref D) : PySem.W.kitOne K t (.ref D) = some false := by
  have e : (t == Value.ref D) = false := by
    cases h : (t == Value.ref D) with
    | false => rfl
    | true => exact absurd (eq_of_beq h) h4
  have e2 : ((PySem.W.clsIn K D).isSome && PySem.W.typeIn K (.ref D) == some (.type "type")) = true := by
    have h1' : (PySem.W.clsIn K D).isSome = true := h1
    rw [h1', h2] <;> rfl
  unfold PySem.W.kitOne
  rw [e, if_neg Bool.false_ne_true]
  show (if ((PySem.W.clsIn K D).isSome && PySem.W.typeIn K (.ref D) == some (.type "type")) = true then PySem.W.subIn K t (.ref D) else none) = some false
  rw [if_pos e2, h3]
end Ws

namespace Ws
open PySem PySem.Spec PyProof.Rows L2
/-! ### repr of plain data -/
mutual
/-- data of short numbers and texts of real signs -/
noncomputable def Tdy : PyData → Prop
  | .none => True
  | .bool _ => True
  | .int i => i.natAbs.log2 < 1900
  | .str x => ∀ c ∈ x.cps.toList, c < 16 ^ 8
  | .list xs => TdyA xs
  | .tuple xs => TdyA xs
  | .dict _ => False
noncomputable def TdyA : List PyData → Prop
  | [] => True
  | x :: xs => Tdy x ∧ TdyA xs
end
mutual
theorem Tdy.get : ∀ {d : PyData}, Tdy d → d.showable = true ∧ d.hasDict = false ∧ d.leavesShort 1901 = true
  | .none, _ => ⟨rfl, rfl, rfl⟩
  | .bool _, _ => ⟨rfl, rfl, rfl⟩
  | .int i, h => by
    have h' : i.natAbs.log2 < 1900 := h
    refine ⟨?_, rfl, ?_⟩
    · simp only [PyData.showable, decide_eq_true_eq]; omega
    · show decide ((Str.ofString (toString i)).length ≤ 1901) = true
      rw [decide_eq_true_eq, PySem.ofString_length]
      exact int_text_length_le (by decide) h'
  | .str x, h => ⟨rfl, rfl, by simp only [PyData.leavesShort, List.all_eq_true, decide_eq_true_eq]; exact h⟩
  | .list xs, h => by
    obtain ⟨a, b, c⟩ := TdyA.get (xs := xs) h
    exact ⟨by simpa only [PyData.showable] using a, by simpa only [PyData.hasDict] using b, by simpa only [PyData.leavesShort] using c⟩
  | .tuple xs, h => by
    obtain ⟨a, b, c⟩ := TdyA.get (xs := xs) h
    exact ⟨by simpa only [PyData.showable] using a, by simpa only [PyData.hasDict] using b, by simpa only [PyData.leavesShort] using c⟩
  | .dict _, h => False.elim h
theorem TdyA.get : ∀ {xs : List PyData}, TdyA xs → PyData.showableAll xs = true ∧ PyData.hasDictAll xs = false ∧ PyData.leavesShortAll 1901 xs = true
  | [], _ => ⟨rfl, rfl, rfl⟩
  | x :: xs, h => by
    obtain ⟨h1, h2⟩ := (show Tdy x ∧ TdyA xs from h)
    obtain ⟨a, b, c⟩ := Tdy.get h1
    obtain ⟨d, e, f⟩ := TdyA.get h2
    exact ⟨by simp only [PyData.showableAll, a, d, Bool.and_self], by simp only [PyData.hasDictAll, b, e, Bool.or_self], by simp only [PyData.leavesShortAll, c, f, Bool.and_self]⟩
end
/-- a value that is shown -/
noncomputable def Shw (K : PySem.W.Frag) (H : Hp) (x : V) (d : PyData) : Prop := Dp K H x d ∧ Tdy d ∧ d.bulk ≤ 8000 ∧ d.depth ≤ 60
section
variable {X : Cx}
noncomputable def rRep (K : PySem.W.Frag) : List V → Hp → VK → Prop := fun xs H Q => ∃ a d, xs = [V.ref a] ∧ Shw K H (.ref a) d ∧ Q (.str d.shown) H
theorem call_rep {j : Nat} (cl : X.A.guards = some []) (hr : Room j X.A) : CallR X (.builtin "repr") (rRep X.K) := by
  intro pins s σ H xs us Q I r h
  obtain ⟨a, d, rfl, ⟨dp, ty, bk, de⟩, q⟩ := h
  obtain ⟨u, rfl, ru⟩ := vals1 r
  cases (show u = Value.ref a from ru)
  obtain ⟨as, rd⟩ := Dp.reads I d _ _ dp rfl
  obtain ⟨sh, nd, sl⟩ := ty.get
  have sz := PyData.shown_le_bulk 1901 (by decide) d sl
  have sz2 : d.shown.length ≤ sizeLine := by
    have : sizeLine = 16777216 := by decide
    have : (1901 + 2) * d.bulk ≤ 1903 * 8000 := Nat.mul_le_mul (by decide) bk
    omega
  refine repr_of_reads' rd sh (PyData.noDict_hsm nd) cl ?_ (fun _ _ e => e) (fun h' u tk hk => ⟨.str d.shown, H, I.kept hk, ⟨u, rfl⟩, q⟩) sz2
  have := hr.un
  omega
end
end Ws
namespace Ws
open PySem PySem.Spec PyProof.Rows L2
section
variable {X : Cx} {j k : Nat} {C : Addr} {sp : Sp}
/-- abs(a) by a's own __abs__ -/
theorem call_absO (c : OpnF X.prog X.w X.K X.mg X.base k C "__abs__" sp) (hr : Room j X.A) (hk : k + 1 ≤ j) : CallR X (.builtin "abs") (fun xs H Q => ∃ a dx fs, xs = [V.ref a] ∧ H a = some (.ins C dx fs) ∧ sp [.ref a] H Q E0) := by
  obtain ⟨f, h1, h2, F⟩ := c
  intro pins s σ H xs us Q I r h
  obtain ⟨a, dx, fs, rfl, ea, q⟩ := h
  obtain ⟨u, rfl, ru⟩ := vals1 r
  cases (show u = Value.ref a from ru)
  obtain ⟨ox, od, J⟩ := inst_of I ea
  refine Calls.call_function_entry kind_abs plain_abs entry_abs (args_abs _) ?_
  unfold Builtin.«abs»
  refine wpAny_bind (m := oneArg "abs" _) (wpAny_pure ?_)
  refine wpAny_bind (PySem.W.special_fn I.kIn J h1 (beq_iff_eq.mp h2) (wpAny_mono (run_in1 (us := [.ref a]) (vs := [.ref a]) F (hr.mono hk) I (.cons rfl .nil) q) (fun v s' hv => ?_) fun _ _ z => z))
  exact wpAny_pure ⟨_, rfl, hv⟩
end
end Ws
namespace Ws
open PySem PySem.Spec PyProof.Rows L2
section
variable {prog : Program} {w : World}
theorem bool_new_own {x : Addr} : MeetsIn prog w (Builtin.«bool.__new__» ⟨[.type "bool", .ref x], []⟩) (fun A R s => wpAny (model prog w) A.in1 (truthy (.ref x)) (fun b s' => R (.ok (.ret (.bool b))) s') (fun e s' => R (.error e) s') s) :=
  .of_wp fun A R s h => by
    have f1 := F.conv_sub_bool
    unfold Builtin.«bool.__new__»
    repeat (first
      | assumption
      | (refine wpAny_bind (m := truthy (.ref x)) (wpAny_mono h (fun b s' q => ?_) fun _ _ z => z))
      | wp_step)
    all_goals first | exact q | exact ⟨_, rfl, q⟩ | skip
theorem run_in2 {X : Cx} {k : Nat} {sp : Sp} {f : Addr} {pins : List (Addr × Obj)} {σ : L2.St} {H : Hp} {s : Shared} {Q : VK} {us : List Value} {vs : List V} {Ex : Value → Shared → Prop} (F : FnR X.prog X.w X.K X.mg X.base CX0 k f sp) (hr : Room (k + 2) X.A) (I : Inv X pins σ H s) (r : Vals vs us) (h : sp vs H Q E0) :
    wpAny (model X.prog X.w) X.A.in1.in1 (call (.ref f) us) (EP X pins σ Q) Ex s := by
  refine wpAny_call (codeAny_mono (F X.A.in1.in1 X.stack s H us vs Q E0 (Room.in1 (Room.in1 hr)) I.env0.in1.in1 r h) fun r s' hq => ?_)
  cases r with
  | error er => exact hq.elim
  | ok fl =>
    cases fl with
    | ret u => exact I.after hq
    | next => exact False.elim hq
    | brk => exact False.elim hq
    | cont => exact False.elim hq
section
variable {X : Cx} {j k : Nat} {C : Addr} {sp : Sp}
/-- bool(a) by a's own __bool__ -/
theorem call_boolO (c : OpnF X.prog X.w X.K X.mg X.base k C "__bool__" sp) (hr : Room j X.A) (hk : k + 2 ≤ j) : CallR X (.type "bool") (fun xs H Q => ∃ a dx fs, xs = [V.ref a] ∧ H a = some (.ins C dx fs) ∧ sp [.ref a] H (fun v H' => ∃ b, v = .bl b ∧ Q (.bl b) H') E0) := by
  obtain ⟨f, h1, h2, G⟩ := c
  intro pins s σ H xs us Q I r h
  obtain ⟨a, dx, fs, rfl, ea, q⟩ := h
  obtain ⟨u, rfl, ru⟩ := vals1 r
  cases (show u = Value.ref a from ru)
  obtain ⟨ox, od, J⟩ := inst_of I ea
  obtain ⟨m, hF⟩ := I.fr
  refine callType_newIn PySem.F.called_bool PySem.F.newNe_bool (PySem.F.typeCall_bool_1 _) (PySem.F.newCall_bool_1 _) (fun obj => PySem.F.args_object_init_2 obj _) PySem.F.entry_bool_new bool_new_own ?_
  refine PySem.W.truthy_K hF I.ok.mod.kin J h1 h2 (wpAny_mono (run_in2 (us := [.ref a]) (vs := [.ref a]) G (hr.mono hk) I (.cons rfl .nil) q) (fun r s' hv => ?_) fun _ _ z => z)
  obtain ⟨y, H', I', ry, b, rfl, qb⟩ := hv
  cases (show r = Value.bool b from ry)
  exact ⟨rfl, .bl b, H', I', rfl, qb⟩
end
end
end Ws

namespace Ws
open PySem PySem.Spec PyProof.Rows L2
/-! ### an own error, caught and kept in a variable behind the suite -/
/-- at a: an error of the class cls, its dict at d -/
noncomputable def Kx (cls : Value) (d : Option Addr) (a : Addr) : HO := .ext fun h => ∃ (oe : Obj) (vs : Array Value), h.get? a = some oe ∧ Zc cls d oe ∧ oe.data = .fields vs
theorem kx_ok {P : Program} {w : World} {H : Hp} {h : Heap} {a : Addr} {cls : Value} {d : Option Addr} {oe : Obj} {vs : Array Value} (e : h.get? a = some oe) (z : Zc cls d oe) (hd : oe.data = .fields vs) : ObjOk P w H h a (Kx cls d a) :=
  ⟨⟨oe, vs, e, z, hd⟩, ⟨oe, e⟩, fun _ _ ⟨o, v, q, r⟩ k => ⟨o, v, k o q, r⟩⟩
theorem kx_at {P : Program} {w : World} {H : Hp} {h : Heap} {a : Addr} {cls : Value} {d : Option Addr} (ok : HOk P w H h) (e : H a = some (Kx cls d a)) : ∃ (oe : Obj) (vs : Array Value), h.get? a = some oe ∧ Zc cls d oe ∧ oe.data = .fields vs := by
  have x : ObjOk P w H h a (.ext fun h => ∃ (oe : Obj) (vs : Array Value), h.get? a = some oe ∧ Zc cls d oe ∧ oe.data = .fields vs) := ok a _ e
  exact x.1
section
variable {X : Cx} {pins : List (Addr × Obj)} {σ : L2.St} {H : Hp} {s : Shared}
/-- an object that is pinned, and new since the entry, is tracked from here on -/
theorem track {a : Addr} {oe : Obj} {vs : Array Value} {o : HO} (I : Inv X ((a, oe) :: pins) σ H s) (new : X.s_0.heap.get? a = none) (off : ∀ p ∈ X.pn ++ pins, p.1 ≠ a) (hd : oe.data = .fields vs) (ob : ObjOk X.prog X.w (upd H a o) s.heap a o) : Inv X pins σ (upd H a o) s := by
  obtain ⟨ha, na, nL, nF, _⟩ := I.pin (a, oe) (List.mem_append_right _ List.mem_cons_self)
  have was : ∀ {b : Addr} {u : HO}, H b = some u → b ≠ a := fun {b u} e z => by rw [z, na] at e; cases e
  have old : ∀ {b : Addr} {u : Obj}, X.s_0.heap.get? b = some u → b ≠ a := fun {b u} e z => by rw [z, new] at e; cases e
  refine ⟨I.ok, I.os, I.bare, ⟨I.base.keep, I.base.slot, fun b u e n x => (upd_ne (old e)).trans (I.base.free b u e n x), I.base.there, fun b xs e => ?_, fun b u v e => ?_, fun b ps e => ?_⟩, I.loc, I.cell, (upd_ne (Ne.symm nL)).trans I.free, fun x c e => ?_, fun p hp => ?_, fun b u e => ?_, I.len⟩
  · have q := I.base.tups b xs e
    exact (upd_ne (was q)).trans q
  · have q := I.base.frzs b u v e
    exact (upd_ne (was q)).trans q
  · obtain ⟨m, q⟩ := I.base.tbls b ps e
    exact ⟨m, (upd_ne (was q)).trans q⟩
  · refine (upd_ne fun z => ?_).trans (I.freeC x c e)
    obtain ⟨v, oc, e1, e2⟩ := I.cell x c e
    rw [z, ha] at e1
    cases e1
    rw [hd] at e2
    cases e2
  · have hp' : p ∈ X.pn ++ ((a, oe) :: pins) := by
      rcases List.mem_append.mp hp with h | h
      · exact List.mem_append_left _ h
      · exact List.mem_append_right _ (List.mem_cons_of_mem _ h)
    obtain ⟨q1, q2, q3⟩ := I.pin p hp'
    exact ⟨q1, (upd_ne (off p hp)).trans q2, q3⟩
  · by_cases hb : b = a
    · subst hb
      rw [upd_same] at e
      cases e
      exact ob
    · rw [upd_ne hb] at e
      exact (I.hok b u e).stay (fun c v _ q => q) (fun c q => (upd_ne (was q)).trans q) fun c xs q => (upd_ne (was q)).trans q
end
/-- the wish of a try whose clause keeps what it catches: slot i is the clause's name -/
noncomputable def wKeep (K : PySem.W.Frag) (c : Value) (i : Nat) (ts : Addr → Value → Option Addr → TS) (D : Ends) : WX := fun cls d σ H =>
  PySem.W.exmOne K cls c = some true ∧ ∀ a, H a = none → ts a cls d { nx := fun σ' H' => D.nx (σ'.set i none) (upd H' a (Kx cls d a)), rt := fun _ _ => False } (σ.set i (some (.ref a))) H
section
variable {X : Cx} {x n : Str} {c : Value} {i : Nat} {body suite : List Stmt} {b0 : Stmt} {np pos pos' : Pos} {tb : WX → TS} {ts : Addr → Value → Option Addr → TS}
theorem ps_keep (hs : X.stack = X.env :: X.outer) (hf : X.env.frame = some X.env.locals) (hex : X.ex = []) (hN : X.N.Nodup) (hi : X.N[i]? = some n) (hln : X.env.kindOf n = some .local) (hc : Names X x c)
    (hb : ∀ (W : WX) (pn : List (Addr × Obj)) (xe : Value → Shared → Prop), Takes (X.tr pn xe) W → PassesOwn (model X.prog X.w) X.A X.env xe → PSs (X.tr pn xe) body (tb W))
    (hsu : ∀ (a : Addr) (oe : Obj) (cls : Value) (d : Option Addr) (pn : List (Addr × Obj)), Zc cls d oe → (∃ vs, oe.data = .fields vs) → PSs (X.suite a ((a, oe) :: pn)) (b0 :: suite) (ts a cls d)) :
    PS X (.Try body [.ExceptHandler (some (.Name x np)) (some n) (b0 :: suite) pos'] [] [] pos) (fun D σ H => tb (wKeep X.K c i ts D) D σ H) := by
  refine ⟨fun pins s σ H D I h => wpAny_Try_except ?_⟩
  have ok := I.ok
  have frames : X.A.frames = some (X.env :: X.outer) := ok.frames.trans (congrArg some hs)
  let Ex : Value → Shared → Prop := fun e s₁ => wpAny (model X.prog X.w) X.A (noteFrame e X.env) (fun _ s₂ => wpAny (model X.prog X.w) X.A (setFlight e none) (fun _ s₃ =>
    wpAny (model X.prog X.w) X.A (handleBy e X.env [.ExceptHandler (some (.Name x np)) (some n) (b0 :: suite) pos']) (SP X pins D) X.xe s₃) X.xe s₂) X.xe s₁
  have takes : Takes (X.tr (X.pn ++ pins) Ex) (wKeep X.K c i ts D) := by
    rintro u s' ⟨a, B, sI, pins1, σ1, H1, cls, d, rfl, J0, nb, up, sky, na, os, ag, hex1, suiteOk⟩
    have J : Inv X pins σ1 H1 sI := J0.ofTry ok
    have sky1 : Sky B (X.env :: X.outer) a (Zc cls d) X.env.locals s'.heap := hs ▸ sky
    show wpAny (model X.prog X.w) X.A (noteFrame (.ref a) X.env) _ _ _
    refine Sky.land Zc.steady frames hf sky1 fun hA flA upA => ?_
    have JA : Inv X pins σ1 H1 { s' with heap := hA } := J.landed nb flA.1 (up.trans upA) os ag
    obtain ⟨oA, vA, eA, zA, dA⟩ := flA.there
    have notFrame : a ∉ frs (X.env :: X.outer) := fun hm => by
      obtain ⟨_, o2, e2, hn⟩ := flA.2.2.1.mem hm
      rw [eA] at e2
      cases e2
      exact hn _ dA
    have nL : a ≠ X.env.locals := fun z => notFrame (List.mem_filterMap.mpr ⟨X.env, List.mem_cons_self, by rw [hf, z]⟩)
    have nF : a ∉ X.fs := fun hm => by
      obtain ⟨e, he, q⟩ := List.mem_filterMap.mp hm
      exact notFrame (List.mem_filterMap.mpr ⟨e, List.mem_cons_of_mem _ he, q⟩)
    have freshB : B.get? a = none := flA.2.1
    have freshI : sI.heap.get? a = none := by
      cases q : sI.heap.get? a with
      | none => rfl
      | some o =>
        have z := nb a o q (by rw [hs]; exact notFrame)
        rw [freshB] at z
        cases z
    have fresh0 : X.s_0.heap.get? a = none := by
      cases q : X.s_0.heap.get? a with
      | none => rfl
      | some o =>
        obtain ⟨o2, z⟩ := J.base.there a o q (by rw [hex]; exact fun y => nomatch y)
        rw [freshI] at z
        cases z
    have off : ∀ p ∈ X.pn ++ pins, p.1 ≠ a := fun p hp z => by
      have q := (J.pin p hp).1
      rw [z, freshI] at q
      cases q
    have SA := JA.suite eA dA na nL nF
    refine wpAny_handleBy_cons (codeAny_handlers_test ?_) (by intro q; cases q)
    have LT : PySem.W.Looks (model X.prog X.w) hA (typeOf (.ref a)) cls := fun A Q E s k q => wpAny_typeOf_ref (k _ _ eA) (by rw [zA.1]; exact q)
    have LM := PySem.W.exm_one (M := model X.prog X.w) JA.kIn LT hex1
    have named : ∀ {Q : Value → Shared → Prop} {E : Value → Shared → Prop}, Q c { s' with heap := hA } → wpAny (model X.prog X.w) (X.A.mark (some (.ref a))) (eval (.Name x np) X.env) Q E { s' with heap := hA } := fun {Q E} q => by
      obtain ⟨g1, g2, g3 | ⟨g3, g4, g5⟩⟩ := hc
      · exact ld_glob (X := X.suite a ((a, oA) :: (X.pn ++ pins))) SA g1 g3 q g2
      · exact ld_blt (X := X.suite a ((a, oA) :: (X.pn ++ pins))) SA g1 g3 g4 q g5 g2
    refine named (LM.here (codeAny_handlers_suite_as ?_))
    refine HandSPX.lands_againZ flA fun hB flB upB => ?_
    have JB : Inv X pins σ1 H1 { s' with heap := hB } := J.landed nb flB.1 ((up.trans upA).trans upB) os ag
    obtain ⟨oB, vB, eB, zB, dB⟩ := flB.there
    refine store_ok (X := X.suite a ((a, oB) :: (X.pn ++ pins))) (v := .ref a) (JB.suite eB dB na nL nF) hN hi (.inl hln) rfl (fun s5 S5 => ?_) (.inr hln)
    refine wpAny_mono ((hsu a oB cls d (X.pn ++ pins) zB ⟨_, dB⟩).run [] s5 _ H1 _ S5 (suiteOk a na)) (fun f s6 out => ?_) (fun _ _ z => z.elim)
    cases f with
    | next =>
      obtain ⟨σ6, H6, S6, q6⟩ := out
      have T6 : Inv X ((a, oB) :: pins) σ6 H6 s6 := ⟨ok, S6.os, S6.bare, S6.base, S6.loc, S6.cell, S6.free, S6.freeC, fun p hp => S6.pin p (by
        rw [List.append_nil]
        rcases List.mem_append.mp hp with z | z
        · exact List.mem_cons_of_mem _ (List.mem_append_left _ z)
        · rcases List.mem_cons.mp z with z | z
          · rw [z]; exact List.mem_cons_self
          · exact List.mem_cons_of_mem _ (List.mem_append_right _ z)), S6.hok, S6.len⟩
      refine gone_ok T6 hN hi hln fun s7 J7 => ?_
      have e7 := (J7.pin (a, oB) (List.mem_append_right _ List.mem_cons_self)).1
      exact ⟨_, _, track J7 fresh0 off dB (kx_ok e7 zB dB), q6⟩
    | ret u => obtain ⟨_, _, _, _, _, q6⟩ := out; exact q6.elim
    | brk => obtain ⟨_, _, _, q6⟩ := out; exact False.elim q6
    | cont => obtain ⟨_, _, _, q6⟩ := out; exact False.elim q6
  refine wpAny_mono ((hb (wKeep X.K c i ts D) (X.pn ++ pins) Ex takes PassesOwn.looking).run [] s σ H D (I.toTry _) h) (fun f s1 out => ?_) fun e s1 z => z
  cases f with
  | next => obtain ⟨σ1, H1, J1, q⟩ := out; exact wpAny_execs_nil ⟨σ1, H1, J1.ofTry ok, q⟩
  | ret u => obtain ⟨v, σ1, H1, J1, r, q⟩ := out; exact ⟨v, σ1, H1, J1.ofTry ok, r, q⟩
  | brk => obtain ⟨σ1, H1, J1, q⟩ := out; exact ⟨σ1, H1, J1.ofTry ok, q⟩
  | cont => obtain ⟨σ1, H1, J1, q⟩ := out; exact ⟨σ1, H1, J1.ofTry ok, q⟩
end
end Ws
namespace Ws
open PySem PySem.Spec PyProof.Rows L2
/-! ### calls that may raise, within a try or in a def that lets it out -/
/-- a method whose error is told -/
noncomputable def MetE (P : Program) (w : World) (K : PySem.W.Frag) (mg : Str → Option Value) (base : Heap) (CX : CXT) (k : Nat) (C : Addr) (m : Str) (sp : Sp) : Prop := ∃ f : Addr, Cls K C ∧ Meth K C m f ∧ FnR P w K mg base CX k f sp
/-- a def whose error is told -/
noncomputable def CalE (P : Program) (w : World) (K : PySem.W.Frag) (mg : Str → Option Value) (base : Heap) (CX : CXT) (k : Nat) (x : Str) (sp : Sp) : Prop := ∃ f : Addr, FnR P w K mg base CX k f sp ∧ mg x = some (.ref f) ∧ PySem.W.keepIn K (.ref f) = true
section
variable {X : Cx} {CX : CXT} {k j : Nat} {C f : Addr} {sp : Sp} {E : L2.St → XK} {x m : Str} {p pos apos : Pos} {e o : Expr} {es : List Expr} {ta : TE} {t : TA}
theorem run_S {pins : List (Addr × Obj)} {σ : L2.St} {H : Hp} {s : Shared} {Q : VK} {us : List Value} {vs : List V} (F : FnR X.prog X.w X.K X.mg X.base CX k f sp) (hr : Room k X.A) (hx : PassesAt CX X σ (E σ))
    (I : Inv X pins σ H s) (r : Vals vs us) (h : sp vs H Q (E σ)) : wpAny (model X.prog X.w) X.A (call (.ref f) us) (EP X pins σ Q) X.xe s := by
  refine wpAny_call (codeAny_mono (F X.A X.stack s H us vs Q (E σ) hr I.env0 r h) fun out s' q => ?_)
  cases out with
  | error e => exact hx pins H s e s' I q
  | ok fl => cases fl with
    | ret u => exact I.after q
    | next => exact q.elim
    | brk => exact q.elim
    | cont => exact q.elim
/-- f(e, ..) -/
noncomputable def tFS (sp : Sp) (E : L2.St → XK) (t : TA) : TE := fun σ H Q => t σ H fun vs H1 => sp vs H1 Q (E σ)
theorem pe_fS (c : CalE X.prog X.w X.K X.mg X.base CX k x sp) (hr : Room j X.A) (hk : k ≤ j) (hx : ∀ σ, PassesAt CX X σ (E σ)) (hg : Gl X x) (ha : PA X (e :: es) t) (hdb : (x == ("__debug__" : Str)) = false := by decide)
    (he : starEach (e :: es) X.env = (false, eval e X.env) :: starEach es X.env := by rfl) (hpl : (backTo pos (starEach es X.env)).any (·.1) = false := by rfl) : PE X (.Call (.Name x p) (e :: es) [] pos) (tFS sp E t) := by
  obtain ⟨f, F, hm, hkp⟩ := c
  refine ⟨fun pins s σ H Q I h => ?_⟩
  refine wpAny_Call_Name_kw (ld_glob I hg hm ?_ hdb)
  refine PySem.W.callWith_K (h₀ := X.base) I.ok.mod.kin hkp (thn (ha.run pos pins s σ H _ I h) fun us s1 ⟨vs, H1, I1, r, q⟩ => ⟨I1.kIn, ?_⟩) he hpl
  exact run_S F (hr.mono hk) (hx σ) I1 r q
/-- o.m(e, ..) -/
noncomputable def tMtS (C : Addr) (m : Str) (sp : Sp) (E : L2.St → XK) (ta : TE) (t : TA) : TE := fun σ H Q => ta σ H fun x H1 => ∃ a dx fs, x = .ref a ∧ H1 a = some (.ins C dx fs) ∧ fs.lookup m = none ∧ t σ H1 fun vs H2 => sp (x :: vs) H2 Q (E σ)
theorem pe_mtS {pl : Sem Bool} (c : MetE X.prog X.w X.K X.mg X.base CX k C m sp) (hr : Room j X.A) (hk : k ≤ j) (hx : ∀ σ, PassesAt CX X σ (E σ)) (he : PE X o ta) (ha : PA X (e :: es) t)
    (hst : starEach (e :: es) X.env = (false, eval e X.env) :: starEach es X.env := by rfl) (hpl : (backTo pos (starEach es X.env)).any (·.1) = false := by rfl)
    (ht : eval (.Call (.Attribute o m apos) (e :: es) [] pos) X.env = (do
      let ov ← eval o X.env
      standAt apos.atName
      let (f, first) ← holding [ov] (getMethod ov m pl)
      callWith pos f first (backTo pos (starEach (e :: es) X.env)) (backToKw pos (keywordEach [] X.env))) := by rfl) :
    PE X (.Call (.Attribute o m apos) (e :: es) [] pos) (tMtS C m sp E ta t) := by
  obtain ⟨f, hc, hm, F⟩ := c
  refine ⟨fun pins s σ H Q I h => ?_⟩
  refine PySem.W.methodCall_KW (pl := pl) (thn (he.run pins s σ H _ I h) fun u s1 ⟨x, H1, I1, rx, a, dx, fs, ex, ea, l, q⟩ => ?_) ht
  subst ex
  obtain rfl : u = Value.ref a := rx
  refine getmeth_ok I1 ea hc hm l ?_
  refine PySem.W.callWith_K (first := [.ref a]) (h₀ := X.base) I.ok.mod.kin hm.kp (thn (ha.run pos pins s1 σ H1 _ I1 q) fun us s2 ⟨vs, H2, I2, r, q2⟩ => ⟨I2.kIn, ?_⟩) hst hpl
  exact run_S (us := .ref a :: us) (vs := .ref a :: vs) F (hr.mono hk) (hx σ) I2 (.cons rfl r) q2
/-- C(e, ..), its __init__ may raise -/
noncomputable def tMkS (C : Addr) (sp : Sp) (E : L2.St → XK) (t : TA) : TE := fun σ H Q => t σ H fun vs H1 => ∀ x dx, H1 x = Option.none → H1 dx = Option.none → dx ≠ x → sp (V.ref x :: vs) (upd (upd H1 dx (.own x)) x (.ins C dx [])) (fun v H2 => v = .non ∧ Q (.ref x) H2) (E σ)
end
/-! ### what a kept error is asked -/
/-- an own error class with its own __init__ -/
structure ErrC (K : PySem.W.Frag) (C : Addr) : Prop where
  ga : PySem.W.findIn K (.ref C) "__getattribute__" = some (some (.builtin "BaseException.__getattribute__"))
  gg : PySem.W.findIn K (.ref C) "__getattr__" = some none
  exC : PySem.W.subIn K (.ref C) (.type "BaseException") = some true
  hdC : PySem.W.hasDictIn K C = true
  ca : PySem.W.findIn K (.ref C) "__class__" = some (some (.builtin "object.__class__"))
  hn : PySem.W.specialIn K (.builtin "object.__class__") "__get__" = some (some (.builtin "getset_descriptor.__get__"))
  ht : PySem.W.takesIn K (.builtin "object.__class__") = some true
  hm : PySem.W.mroIn K C (.type "object") = some true
theorem ErrC.isc {K : PySem.W.Frag} {C : Addr} (T : ErrC K C) : (PySem.W.clsIn K C).isSome = true := by
  obtain ⟨cd, hc, _⟩ := PySem.W.any_some T.hdC
  rw [hc]
  rfl
section
variable {X : Cx} {C D : Addr}
theorem kx_inst {pins : List (Addr × Obj)} {σ : L2.St} {H : Hp} {s : Shared} {a d : Addr} {fs : List (Str × V)} (I : Inv X pins σ H s) (e : H a = some (Kx (.ref C) (some d) a)) (ed : H d = some (.xd fs)) :
    ∃ ox od, PySem.W.InstAt s.heap a ox C (some od) ∧ ∀ (f : Str) (v : V), fs.lookup f = some v → ∃ u, PySem.W.lookIn f od = some (some u) ∧ L2.RelV v u := by
  obtain ⟨oe, vs, e1, z, hd⟩ := kx_at I.hok e
  have hx : ObjOk X.prog X.w H s.heap d (.xd fs) := I.hok d _ ed
  obtain ⟨mA, hns, hr⟩ := hx
  obtain ⟨od, ho, hl⟩ := lookIn_ns hns
  refine ⟨oe, od, ⟨e1, z.1, by unfold PySem.W.notCls; rw [hd] <;> rfl, by rw [z.2]; exact ho⟩, fun f v l => ?_⟩
  obtain ⟨u, hu, ru⟩ := RelO.some_of (v := v) (o := mA f) (by rw [← l]; exact hr f)
  exact ⟨u, (hl f).trans (congrArg some hu), ru⟩
/-- caught.f -/
noncomputable def tKx (C : Addr) (f : Str) (te : TE) : TE := fun σ H Q => te σ H fun x H1 => ∃ (a d : Addr) (fs : List (Str × V)) (v : V), x = .ref a ∧ H1 a = some (Kx (.ref C) (some d) a) ∧ H1 d = some (.xd fs) ∧ fs.lookup f = some v ∧ Q v H1
theorem pe_kx {e : Expr} {te : TE} {pos : Pos} {n : Str} (T : ErrC X.K C) (hno : PySem.W.findIn X.K (.ref C) n = some none) (he : PE X e te) (hb : attributeBase e n X.env (eval e X.env) = eval e X.env := by rfl) : PE X (.Attribute e n pos) (tKx C n te) := by
  refine ⟨fun pins s σ H Q I h => attr_of hb (thn (he.run pins s σ H _ I h) fun u s1 out => ?_)⟩
  obtain ⟨y, H1, I1, ry, a, d, fs, v, rfl, ea, ed, l, q⟩ := out
  obtain rfl : u = Value.ref a := ry
  obtain ⟨ox, od, J, look⟩ := kx_inst I1 ea ed
  obtain ⟨v', hv, rv⟩ := look n v l
  exact HandSPX.exc_get I1.kIn J T.ga T.gg T.exC (PySem.W.findObj_own T.hdC hno rfl hv) (handed_of rv) ⟨v, H1, I1.tok _, rv, q⟩
/-- isinstance(caught, D) -/
noncomputable def rKis (K : PySem.W.Frag) : List V → Hp → VK → Prop := fun xs H Q => ∃ (a d C D : Addr) (fs : List (Str × V)) (b : Bool), xs = [.ref a, .ref D] ∧ H a = some (Kx (.ref C) (some d) a) ∧ H d = some (.xd fs) ∧ ErrC K C ∧ PySem.W.kitOne K (.ref C) (.ref D) = some b ∧ Q (.bl b) H
theorem call_kis : CallR X (.builtin "isinstance") (rKis X.K) := by
  intro pins s σ H xs us Q I r h
  obtain ⟨a, d, C, D, fs, b, rfl, ea, ed, T, kk, q⟩ := h
  cases r with
  | cons r1 r2 =>
    cases r2 with
    | cons r2 r3 =>
      cases r3
      cases r1
      cases r2
      obtain ⟨ox, od, J, _⟩ := kx_inst I ea ed
      exact PySem.W.kia_one (PySem.W.kitx_exc T.isc T.ga T.gg T.exC T.ca T.hn T.ht T.hm) I.kIn J kk (fun z => nomatch z) fun tk => ⟨.bl b, H, I.kept (t' := tk) fun _ _ z => z, rfl, q⟩
end
end Ws
namespace Ws
open PySem PySem.Spec PyProof.Rows L2
section
variable {X : Cx} {CX : CXT} {k j : Nat} {C f : Addr} {sp : Sp} {E : L2.St → XK} {x : Str} {p pos : Pos} {e : Expr} {es : List Expr} {t : TA} {fd : FuncData} {ps ks : List Str} {g : List Value → List Value → List Value} {gV : List V → List V → List V}
theorem run_mkS {pins : List (Addr × Obj)} {σ : L2.St} {H : Hp} {s : Shared} {Q : VK} {us : List Value} {vs : List V} (M : Mk X.K C f) (F : FnR X.prog X.w X.K X.mg X.base CX k f sp) (hr : Room (k + 1) X.A) (hx : PassesAt CX X σ (E σ)) (I : Inv X pins σ H s) (r : Vals vs us)
    (h : ∀ x dx, H x = Option.none → H dx = Option.none → dx ≠ x → sp (V.ref x :: vs) (upd (upd H dx (.own x)) x (.ins C dx [])) (fun v H2 => v = .non ∧ Q (.ref x) H2) (E σ)) : wpAny (model X.prog X.w) X.A (call (.ref C) us) (EP X pins σ Q) X.xe s := by
  have now := h (s.heap.objs.size + 1) s.heap.objs.size (I.hok.fresh (Nat.le_succ _)) (I.hok.fresh (Nat.le_refl _)) (Nat.ne_of_lt (Nat.lt_succ_self _))
  have I2 := Inv.made (C := C) I
  refine wpAny_call (make_map (f := f) I.kIn M.makes M.init (beq_iff_eq.mp M.fn) (codeAny_mono (F _ X.stack _ _ (Value.ref (s.heap.objs.size + 1) :: us) (V.ref (s.heap.objs.size + 1) :: vs) _ (E σ) (hr.make C us []) (I2.env0.make C us []) (.cons rfl r) now) fun out s' q => ?_))
  cases out with
  | error e => exact hx pins _ _ e s' I2 q
  | ok fl => cases fl with
    | ret u =>
      obtain ⟨v, H3, I3, rv, ev, q3⟩ := I2.after q
      cases ev
      exact ⟨rv, V.ref (s.heap.objs.size + 1), H3, I3, rfl, q3⟩
    | next => exact q.elim
    | brk => exact q.elim
    | cont => exact q.elim
/-- a class whose __init__ may raise -/
noncomputable def MakE (P : Program) (w : World) (K : PySem.W.Frag) (mg : Str → Option Value) (base : Heap) (CX : CXT) (k : Nat) (x : Str) (C : Addr) (sp : Sp) : Prop := ∃ f : Addr, Mk K C f ∧ FnR P w K mg base CX k f sp ∧ mg x = some (.ref C)
theorem pe_mkS (c : MakE X.prog X.w X.K X.mg X.base CX k x C sp) (hr : Room j X.A) (hk : k + 1 ≤ j) (hx : ∀ σ, PassesAt CX X σ (E σ)) (hg : Gl X x) (ha : PA X (e :: es) t) (hdb : (x == ("__debug__" : Str)) = false := by decide)
    (he : starEach (e :: es) X.env = (false, eval e X.env) :: starEach es X.env := by rfl) (hpl : (backTo pos (starEach es X.env)).any (·.1) = false := by rfl) : PE X (.Call (.Name x p) (e :: es) [] pos) (tMkS C sp E t) := by
  obtain ⟨f, M, F, hm⟩ := c
  refine ⟨fun pins s σ H Q I h => wpAny_Call_Name_kw (ld_glob I hg hm ?_ hdb)⟩
  refine PySem.W.callWith_K (h₀ := X.base) I.ok.mod.kin M.kp (thn (ha.run pos pins s σ H _ I h) fun us s1 ⟨vs, H1, I1, r, q⟩ => ⟨I1.kIn, ?_⟩) he hpl
  exact run_mkS M F (hr.mono hk) (hx σ) I1 r q
/-- no error at all is let out -/
theorem passN {X : Cx} {E : XK} (h : ∀ c d H, ¬ E c d H) : Passes (L2.CX X.prog X.w) X E := fun _ _ _ _ _ _ _ c => by
  obtain ⟨_, _, _, _, _, _, _, _, _, _, _, _, z⟩ := c
  exact (h _ _ _ z).elim
theorem passNS {X : Cx} : ∀ σ, PassesAt (L2.CX X.prog X.w) X σ E0 := fun σ _ _ _ _ _ _ c => by
  obtain ⟨_, _, _, _, _, _, _, _, _, _, _, _, z⟩ := c
  exact z.elim
end
end Ws
namespace Ws
open PySem PySem.Spec PyProof.Rows L2
section
variable {X : Cx} {CX : CXT} {k n : Nat} {C f : Addr} {sp : Sp} {E : L2.St → XK} {x : Str} {p pos : Pos} {e : Expr} {es : List Expr} {kws : List Keyword} {t tk : TA} {fd : FuncData} {ps ks : List Str} {g : List Value → List Value → List Value} {gV : List V → List V → List V}
theorem run_mkKS {pins : List (Addr × Obj)} {σ : L2.St} {H : Hp} {s : Shared} {Q : VK} {us ws : List Value} {vs zs : List V} (M : Mk X.K C f) (F : FnOk X.prog X.w X.K X.mg X.base CX k f fd ps sp) (hr : Room (k + 1) X.A) (hb : KBn X.K fd ps (n + 1) ks g gV) (hx : PassesAt CX X σ (E σ))
    (I : Inv X pins σ H s) (r : Vals vs us) (rz : Vals zs ws) (l1 : vs.length = n) (l2 : zs.length = ks.length)
    (h : ∀ x dx, H x = Option.none → H dx = Option.none → dx ≠ x → sp (gV (.ref x :: vs) zs) (upd (upd H dx (.own x)) x (.ins C dx [])) (fun v H2 => v = .non ∧ Q (.ref x) H2) (E σ)) :
    wpAny (model X.prog X.w) X.A (call (.ref C) us (ks.zip ws)) (EP X pins σ Q) X.xe s := by
  have now := h (s.heap.objs.size + 1) s.heap.objs.size (I.hok.fresh (Nat.le_succ _)) (I.hok.fresh (Nat.le_refl _)) (Nat.ne_of_lt (Nat.lt_succ_self _))
  have I2 := Inv.made (C := C) I
  have all := hb.rel (Paired.cons (show L2.RelV (V.ref (s.heap.objs.size + 1)) (Value.ref (s.heap.objs.size + 1)) from rfl) r) rz
  have len : (Value.ref (s.heap.objs.size + 1) :: us).length = n + 1 := congrArg (· + 1) (r.length.symm.trans l1)
  refine wpAny_call (make_map (f := f) I.kIn M.makes M.init (beq_iff_eq.mp M.fn) (codeAny_mono (F.run _ X.stack _ _ ⟨Value.ref (s.heap.objs.size + 1) :: us, ks.zip ws⟩ (g (Value.ref (s.heap.objs.size + 1) :: us) ws) _ _ (E σ) (hr.make C us (ks.zip ws))
    (I2.env0.make C us (ks.zip ws)) (hb.to _ _ ws I2.kIn len (rz.length.symm.trans l2)) all now) fun out s' q => ?_))
  cases out with
  | error e => exact hx pins _ _ e s' I2 q
  | ok fl => cases fl with
    | ret u =>
      obtain ⟨v, H3, I3, rv, ev, q3⟩ := I2.after q
      cases ev
      exact ⟨rv, V.ref (s.heap.objs.size + 1), H3, I3, rfl, q3⟩
    | next => exact q.elim
    | brk => exact q.elim
    | cont => exact q.elim
/-- C(e, .., k = v, ..), its __init__ may raise -/
noncomputable def tMkKS (C : Addr) (n m : Nat) (sp : Sp) (gV : List V → List V → List V) (E : L2.St → XK) (t tk : TA) : TE := fun σ H Q => t σ H fun vs H1 => tk σ H1 fun zs H2 => vs.length = n ∧ zs.length = m ∧ ∀ x dx, H2 x = Option.none → H2 dx = Option.none → dx ≠ x →
  sp (gV (.ref x :: vs) zs) (upd (upd H2 dx (.own x)) x (.ins C dx [])) (fun v H3 => v = .non ∧ Q (.ref x) H3) (E σ)
theorem pe_mkKS (M : Mk X.K C f) (F : FnOk X.prog X.w X.K X.mg X.base CX k f fd ps sp) (hr : Room (k + 1) X.A) (hg : Gl X x) (hm : X.mg x = some (.ref C)) (hb : KBn X.K fd ps (n + 1) ks g gV) (hx : ∀ σ, PassesAt CX X σ (E σ)) (ha : PA X (e :: es) t) (hkw : PK X kws tk)
    (hall : (backToKw pos (keywordEach kws X.env)).all (·.1.isSome) = true := by rfl) (hks : (backToKw pos (keywordEach kws X.env)).filterMap (·.1) = ks := by rfl) (hdb : (x == ("__debug__" : Str)) = false := by decide)
    (he : starEach (e :: es) X.env = (false, eval e X.env) :: starEach es X.env := by rfl) (hpl : ((backTo pos (starEach (e :: es) X.env)).any (·.1) || (backToKw pos (keywordEach kws X.env)).any (·.1.isNone)) = false := by rfl) :
    PE X (.Call (.Name x p) (e :: es) kws pos) (tMkKS C n ks.length sp gV E t tk) := by
  refine ⟨fun pins s σ H Q I h => wpAny_Call_Name_kw (ld_glob I hg hm ?_ hdb)⟩
  refine PySem.W.callWith_KW (h₀ := X.base) I.ok.mod.kin M.kp hall (thn (ha.run pos pins s σ H _ I h) fun us s1 ⟨vs, H1, I1, r, q⟩ => ?_) hpl he
  refine thn (hkw.run pos pins s1 σ H1 _ I1 q) fun ws s2 ⟨zs, H2, I2, rz, l1, l2, q2⟩ => ⟨I2.kIn, ?_⟩
  rw [hks]
  exact run_mkKS M F hr hb (hx σ) I2 r rz l1 l2 q2
end
/-! ### == of two tuples of the very same items -/
section
variable {X : Cx}
noncomputable def rEqTI (K : PySem.W.Frag) : R2 := fun x y H Q => ∃ (a b : Addr) (xs : List V), x = .ref a ∧ y = .ref b ∧ SqT K H a xs ∧ SqT K H b xs ∧ (∀ v ∈ xs, flatB v = true ∨ ∃ c, v = .ref c) ∧ Q (.bl true) H
theorem eq_item {A : Around} {s : Shared} {v : V} {u u' : Value} (r : L2.RelV v u) (r' : L2.RelV v u') (f : flatB v = true ∨ ∃ c, v = .ref c) : SeqAt.EqAt A s u u' true := by
  rcases f with f | ⟨c, rfl⟩
  · exact eqAt_same r r' f
  · cases (show u = Value.ref c from r)
    cases (show u' = Value.ref c from r')
    exact SeqAt.EqAt.same _
theorem op_eqTI {j : Nat} (hr : Room j X.A) : OpR X (compareOp .Eq) (rEqTI X.K) := by
  intro pins s σ H x y v u Q I rx ry h
  obtain ⟨a, b, xs, rfl, rfl, ha, hb, hf, q⟩ := h
  cases (show v = Value.ref a from rx)
  cases (show u = Value.ref b from ry)
  obtain ⟨us, r1, ⟨o1, e1, c1, n1, d1⟩, _⟩ := I.tuple ha
  obtain ⟨ws, r2, ⟨o2, e2, c2, n2, d2⟩, _⟩ := I.tuple hb
  refine SeqAt.eq_tupleAt (items := us.toArray) (items2 := ws.toArray) (e := fun _ => true) ⟨o1, e1, c1, n1, d1⟩ ⟨o2, e2, c2, n2, d2⟩ hr.units0 (fun j h1 h2 => ?_) ?_
  · have g1 : j < us.length := by simpa using h1
    have g2 : j < ws.length := by simpa using h2
    have g0 : j < xs.length := by rw [r1.length]; exact g1
    obtain ⟨z1, y1, w1⟩ := r1.get (List.getElem?_eq_getElem g0)
    obtain ⟨z2, y2, w2⟩ := r2.get (List.getElem?_eq_getElem g0)
    rw [List.getElem?_eq_getElem g1] at y1
    rw [List.getElem?_eq_getElem g2] at y2
    have k : SeqAt.EqAt X.A.in1 s us[j] ws[j] true := by
      cases y1
      cases y2
      exact eq_item w1 w2 (hf _ (List.getElem_mem g0))
    simpa using k
  · have l : us.toArray.size = ws.toArray.size := by
      rw [List.size_toArray, List.size_toArray, ← r1.length, ← r2.length]
    have e : ((List.range (min us.toArray.size ws.toArray.size)).all (fun _ => true) && us.toArray.size == ws.toArray.size) = true := by
      rw [l, List.all_eq_true.mpr (fun _ _ => rfl)]
      simp
    rw [e]
    exact ⟨.bl true, H, I, rfl, q⟩
/-- isinstance with a built-in class, of an instance of one's own -/
theorem kit_tyb {K : PySem.W.Frag} {t : Value} {T : String} {b : Bool} (h0 : (t == Value.type T) = false) (h1 : PySem.W.kitMeta T = true) (h2 : PySem.W.subIn K t (.type T) = some b) : PySem.W.kitOne K t (.type T) = some b := by
  unfold PySem.W.kitOne
  rw [h0, if_neg Bool.false_ne_true]
  show (if PySem.W.kitMeta T = true then PySem.W.subIn K t (.type T) else none) = some b
  rw [if_pos h1, h2]
end
end Ws
namespace Ws
open PySem PySem.Spec PyProof.Rows L2
section
variable {X : Cx} {k j : Nat} {sp : Sp} {x : Str} {p pos : Pos}
/-- f() -/
theorem pe_f0 (c : CalF X.prog X.w X.K X.mg X.base k x sp) (hr : Room j X.A) (hk : k ≤ j) (hg : Gl X x) (hdb : (x == ("__debug__" : Str)) = false := by decide) : PE X (.Call (.Name x p) [] [] pos) (tF sp tNil) := by
  obtain ⟨f, F, hm, hkp⟩ := c
  refine ⟨fun pins s σ H Q I h => wpAny_Call_Name_kw (ld_glob I hg hm ?_ hdb)⟩
  exact PySem.W.callWith_K0 I.kIn hkp (run_R (us := []) F (hr.mono hk) pass0 I .nil h)
end
end Ws

namespace Ws
open PySem PySem.Spec PyProof.Rows L2
section
variable {X : Cx} {pins : List (Addr × Obj)} {σ : L2.St} {H : Hp} {s : Shared}
/-- the def that got the lambda calls it: what is raised is wished for at that def's slots -/
theorem pe_ask {Nd : List Str} {qd : Str} {sd : Scope} {g f cc : Addr} {cdd pm ctv : Value} {ps : Arguments} {el : Expr} {sl : Scope} {k i : Nat} {a : Str} {pn : List (Addr × Obj)} {xe : Value → Shared → Prop} {W : WX} {tb : XK → TE} {p1 p2 : Pos}
    (I : Inv X pins σ H s) (L : LamX.LamS X.env.scope sl) (hf : s.heap.get? f = some (PySem.W.kla_obj "<lambda>" (X.env.qual ++ "<lambda>") ps el sl (cloFrom X.env.cells sl.names []) pm cc ctv)) (nf : H f = none) (ff : f ∉ frs X.stack)
    (bd : bindArgs (PySem.W.kla_fn "<lambda>" (X.env.qual ++ "<lambda>") ps el sl (cloFrom X.env.cells sl.names []) pm (.ref cc) ctv) ⟨[], []⟩ = pure [])
    (tk : Takes ((cxOf CX0 X.prog X.w X.K X.mg X.base Nd qd sd g cdd X.A X.stack s H E0).tr pn xe) W) (hr : Room (k + 1) (X.A.deeper (envOfC qd sd s.heap.objs.size g cdd)))
    (hb : ∀ (A : Around) (outer : List Env) (s : Shared) (H : Hp) (E : XK), Room k (A.deeper (LamX.lamEnv X sl s.heap.objs.size f cc)) → PE (LamX.lamCx X A outer s H E sl f cc) el (tb E))
    (hN : Nd[i]? = some a) (hv : Vis sd a) (hd : (a == ("__debug__" : Str)) = false := by decide) (hcd : (a == ("__classdict__" : Str)) = false := by decide) :
    PE ((cxOf CX0 X.prog X.w X.K X.mg X.base Nd qd sd g cdd X.A X.stack s H E0).tr pn xe) (.Call (.Name a p1) [] [] p2)
      (fun σ1 H1 Q => σ1[i]? = some (some (.ref f)) ∧ H1 cc = some (LamX.CodeO cc (X.env.qual ++ "<lambda>")) ∧ tb (fun cls d H' => W cls d σ1 H') σ H1 Q) := ⟨fun pins1 sZ σ1 H1 Q J ⟨h1, h2, h3⟩ => by
  refine wpAny_Call_Name_kw (thn ((pe_var (pos := p1) (i := i) hN hv hd hcd).run pins1 sZ σ1 H1 (fun v G => v = .ref f ∧ G = H1) J ⟨.ref f, h1, rfl, rfl⟩) fun u s1 ⟨v, G, I1, r1, ev, eG⟩ => ?_)
  subst ev
  subst eG
  cases (show u = Value.ref f from r1)
  have hf1 := I1.base.keep f _ hf nf ff (fun z => nomatch (show f ∈ ([] : List Addr) from z))
  refine PySem.W.callWith_F0 ⟨_, _, _, _, hf1⟩ ?_
  obtain ⟨⟨oc, fs, t, e1, e2, e3⟩, _, _⟩ := I1.hok cc _ h2
  have px : PassesAt (L2.CX X.prog X.w) ((cxOf CX0 X.prog X.w X.K X.mg X.base Nd qd sd g cdd X.A X.stack s H E0).tr pn xe) σ1 (fun cls d H' => W cls d σ1 H') := passAt tk σ1
  have go : codeAny (model X.prog X.w) (X.A.deeper (envOfC qd sd s.heap.objs.size g cdd)) (.call (.ref f) ⟨[], []⟩) (CR (L2.CX X.prog X.w) (envOfC qd sd s.heap.objs.size g cdd :: X.stack) X.prog X.w G s1 Q fun cls d H' => W cls d σ1 H') s1 := by
    refine PySem.W.kla_callFunE hr.depth hf1 rfl L.co L.gen rfl ⟨cc, oc, fs, t, rfl, e1, e2, e3⟩ ?_
    rw [bd]
    refine wpAny_pure (wpAny_newFunctionEnv (fun y hy => (L.own y hy).2) (fun y hy => absurd hy (by simp)) (fun h₁ hns hsb => ⟨I1.nolimit.fresh _ hsb, ?_⟩) L.kind)
    have J2 := LamX.lam_start2 (E := fun cls d H' => W cls d σ1 H') (f := f) (c' := cc) (tk := s1.toks + ([] : List (Str × Value)).length) I L I1.env0 hr.hd I1.base hns fun b o e => hsb.extBut b o (Nat.ne_of_lt (Heap.lt_size e)) (Heap.get?_push_of_some _ e)
    refine PySem.W.kla_codeExpr (wpAny_mono ((hb _ _ s1 G (fun cls d H' => W cls d σ1 H') (hr.deeper _)).run [] _ _ G Q J2 h3) (fun v s' ⟨y, H2, K2, rv, q⟩ => ⟨y, H2, K2.os, K2.bare, K2.base, K2.hok, rv, q⟩) fun e s' q => q)
  refine wpAny_call (codeAny_mono go fun out s' hq => ?_)
  cases out with
  | error e => exact px pins1 G s1 e s' I1 hq
  | ok fl =>
    cases fl with
    | ret u => exact I1.after hq
    | next => exact False.elim hq
    | brk => exact False.elim hq
    | cont => exact False.elim hq⟩
end
/-- the def at g calls what it got, by its name a; TT: what it makes of the lambda's reading -/
noncomputable def GivesS (X : Cx) (k : Nat) (Nd : List Str) (x : Str) (sd : Scope) (g : Addr) (cdd : Value) (bg : List Stmt) (a q : Str) (TT : (XK → Hp → VK → Prop) → Hp → VK → Prop) : Prop :=
  ∀ (f cc : Addr) (s : Shared) (H : Hp) (Q : VK) (tl : XK → Hp → VK → Prop), Room k (X.A.deeper (envOfC x sd s.heap.objs.size g cdd)) →
    (∀ (W : WX) (pn : List (Addr × Obj)) (xe : Value → Shared → Prop) (p1 p2 : Pos), Takes ((cxOf CX0 X.prog X.w X.K X.mg X.base Nd x sd g cdd X.A X.stack s H E0).tr pn xe) W →
      PE ((cxOf CX0 X.prog X.w X.K X.mg X.base Nd x sd g cdd X.A X.stack s H E0).tr pn xe) (.Call (.Name a p1) [] [] p2) (fun σ1 H1 Q => σ1[0]? = some (some (.ref f)) ∧ H1 cc = some (LamX.CodeO cc q) ∧ tl (fun cls d H' => W cls d σ1 H') H1 Q)) →
    H cc = some (LamX.CodeO cc q) → TT tl H Q →
    ∃ t, PSs (cxOf CX0 X.prog X.w X.K X.mg X.base Nd x sd g cdd X.A X.stack s H E0).nox bg t ∧ t { nx := fun _ H' => Q .non H', rt := Q } (L2.start Nd [.ref f]) H
section
variable {X : Cx}
/-- x(lambda: el) -/
theorem pe_lamS {T : List (Addr × Str)} {TT : (XK → Hp → VK → Prop) → Hp → VK → Prop} {x a : Str} {g c P : Addr} {k : Nat} {pg : Arguments} {bg : List Stmt} {sd : Scope} {dV kV doc pm cdv ct oc : Value} {an od : Option Addr} {osl : Array (Option Value)} {Nd : List Str}
    {ps : Arguments} {el : Expr} {sl : Scope} {t : XK → TE} {p lp pos : Pos} (hg : Gl X x) (hm : X.mg x = some (.ref g)) (hk : PySem.W.keepIn X.K (.ref g) = true)
    (lk : X.K.lookup g = some ⟨oc, od, .func (PySem.W.fnOf x x pg bg sd dV kV doc pm an cdv ct), osl⟩) (cd : PySem.W.codeIn X.K cdv x = true) (hb : L2.Binds X.K (PySem.W.fnOf x x pg bg sd dV kV doc pm an cdv ct) [a] []) (S : FnScope Nd [a] sd) (hN : Nd[0]? = some a) (hv : Vis sd a)
    (hG : GivesS X (k + 1) Nd x sd g cdv bg a (X.env.qual ++ "<lambda>") TT)
    (TB : LamX.TabB X.base X.mg c P) (hc : X.env.code = .ref c) (hT : (P, X.env.qual ++ "<lambda>") ∈ T) (one : ∀ q ∈ T, q.1 = P → q.2 = X.env.qual ++ "<lambda>") (hr : Room (k + 2) X.A) (L : LamX.LamS X.env.scope sl) (df : defaultsOf ps X.env = ([], []))
    (bd : ∀ (q : Str) (cl : List (Str × Addr)) (pm cv ctv : Value), bindArgs (PySem.W.kla_fn "<lambda>" q ps el sl cl pm cv ctv) ⟨[], []⟩ = pure [])
    (hl : ∀ (A : Around) (outer : List Env) (s : Shared) (H : Hp) (E : XK) (f cc : Addr), Room k (A.deeper (LamX.lamEnv X sl s.heap.objs.size f cc)) → PE (LamX.lamCx X A outer s H E sl f cc) el (t E))
    (hdb : (x == ("__debug__" : Str)) = false := by decide) (hd : (a == ("__debug__" : Str)) = false := by decide) (hcd : (a == ("__classdict__" : Str)) = false := by decide) :
    PE X (.Call (.Name x p) [.Lambda ps el sl lp] [] pos) (LamX.tLam T TT t) := ⟨fun pins s σ H Q I ⟨tabs, h⟩ => by
  refine wpAny_Call_Name_kw (ld_glob I hg hm ?_ hdb)
  refine PySem.W.callWith_K (h₀ := X.base) I.ok.mod.kin hk ?_ (by rfl) (by rfl)
  show wpAny _ _ (spliced ((false, eval (.Lambda ps el sl lp) X.env) :: backTo pos (starEach [] X.env))) _ _ s
  refine Calls.spliced_cons (LamX.lam_make2 I TB hc hT one tabs df (L.has I.ok) fun f cc pm' ctv H1 s' J eN T1 hf nf ff hco => Calls.spliced_nil ⟨J.kIn, ?_⟩)
  have go : codeAny (model X.prog X.w) X.A (.call (.ref g) ⟨[.ref f], []⟩) (CR CX0 X.stack X.prog X.w H1 s' Q E0) s' := by
    refine LamX.run_ofS (N := Nd) (ps := [a]) (us := [.ref f]) (vs := [.ref f]) lk cd S hr J.env0 (hb s' [.ref f] J.kIn rfl) (.cons rfl .nil) rfl fun hr' => ?_
    obtain ⟨t', ht, hq⟩ := hG f cc s' H1 Q (fun E H' Q' => t E σ H' Q') hr' (fun W pn xe p1 p2 tk => pe_ask (i := 0) J L hf nf ff (bd _ _ _ _ _) tk hr' (fun A outer s H E hr2 => hl A outer s H E f cc hr2) hN hv hd hcd) hco (h H1 eN T1)
    exact ⟨t', ht.nox, hq⟩
  refine wpAny_call (codeAny_mono go fun out s2 hq => ?_)
  cases out with
  | error e => exact (show False from hq).elim
  | ok fl =>
    cases fl with
    | ret u => exact J.after hq
    | next => exact False.elim hq
    | brk => exact False.elim hq
    | cont => exact False.elim hq⟩
/-- isinstance(caught, c), c an own class or a built-in one -/
noncomputable def rKisV (K : PySem.W.Frag) : List V → Hp → VK → Prop := fun xs H Q => ∃ (a d C : Addr) (c : V) (u : Value) (fs : List (Str × V)) (b : Bool), xs = [.ref a, c] ∧ ClsV c u ∧ H a = some (Kx (.ref C) (some d) a) ∧ H d = some (.xd fs) ∧ ErrC K C ∧ PySem.W.kitOne K (.ref C) u = some b ∧ Q (.bl b) H
theorem call_kisV : CallR X (.builtin "isinstance") (rKisV X.K) := by
  intro pins s σ H xs us Q I r h
  obtain ⟨a, d, C, c, u, fs, b, rfl, cv, ea, ed, T, kk, q⟩ := h
  obtain ⟨u1, u2, rfl, r1, r2⟩ := vals2 r
  cases (show u1 = Value.ref a from r1)
  cases cv.eq r2
  obtain ⟨ox, od, J, _⟩ := kx_inst I ea ed
  exact PySem.W.kia_one (PySem.W.kitx_exc T.isc T.ga T.gg T.exC T.ca T.hn T.ht T.hm) I.kIn J kk (fun z => nomatch z) fun tk => ⟨.bl b, H, I.kept (t' := tk) fun _ _ z => z, rfl, q⟩
/-- isinstance(caught, (C, D, ..)) -/
noncomputable def rKisT (K : PySem.W.Frag) : List V → Hp → VK → Prop := fun xs H Q => ∃ (a d C tp : Addr) (cs : List V) (us : List Value) (fs : List (Str × V)) (b : Bool), xs = [.ref a, .ref tp] ∧ H tp = some (.tup cs) ∧ Paired ClsV cs us ∧ H a = some (Kx (.ref C) (some d) a) ∧ H d = some (.xd fs) ∧ ErrC K C ∧ PySem.W.kitAny K (.ref C) us = some b ∧ Q (.bl b) H
theorem call_kisT : CallR X (.builtin "isinstance") (rKisT X.K) := by
  intro pins s σ H xs us Q I r h
  obtain ⟨a, d, C, tp, cs, ws, fs, b, rfl, ht, cv, ea, ed, T, kk, q⟩ := h
  obtain ⟨u1, u2, rfl, r1, r2⟩ := vals2 r
  cases (show u1 = Value.ref a from r1)
  cases (show u2 = Value.ref tp from r2)
  obtain ⟨_, its, rv, ob, ho, hc, n, hd⟩ := (show ObjOk X.prog X.w H s.heap tp (.tup cs) from I.hok tp _ ht)
  cases ClsV.all cv rv
  obtain ⟨ox, od, J, _⟩ := kx_inst I ea ed
  obtain ⟨ocls, odict, odata, oslots⟩ := ob
  dsimp only at hc hd
  subst hc hd
  exact PySem.W.kia_tup (PySem.W.kitx_exc T.isc T.ga T.gg T.exC T.ca T.hn T.ht T.hm) I.kIn J ho kk (fun z => nomatch z) fun tk => ⟨.bl b, H, I.kept (t' := tk) fun _ _ z => z, rfl, q⟩
end
section
variable {P : Program} {w : World} {K : PySem.W.Frag} {mg : Str → Option Value} {base : Heap}
/-- fnG_ofX, the code object told -/
theorem fnG_ofC {CX : CXT} {x qual : Str} {st : Stmt} {f : Addr} {fd : FuncData} {N ps : List Str} {k : Nat} {sp : Sp} (F : L2.Fun K x qual st f fd) (b : Binds K fd ps []) (S : FnScope N ps (defScope st)) (len : ∀ vs H Q E, sp vs H Q E → vs.length = ps.length)
    (hbody : ∀ (cdv : Value) (A : Around) (outer : List Env) (s : Shared) (H : Hp) (vs : List V) (Q : VK) (E : XK), A.guards = some [] → fd.code = cdv → Room k (A.deeper (envOfC qual (defScope st) s.heap.objs.size f cdv)) → sp vs H Q E →
      ∃ t, PSs (cxOf CX P w K mg base N qual (defScope st) f cdv A outer s H E) (defBody st) t ∧ t { nx := fun _ H' => Q .non H', rt := Q } (start N vs) H) : FnG P w K mg base CX (k + 1) f sp := by
  obtain ⟨oc, od, kV, doc, pm, an, cdv, ct, osl, rfl, lk, hcd⟩ := F.ex
  intro A outer s H us vs Q E cl hr e0 r hsp
  have hn := len _ _ _ _ hsp
  have inS : K.In s.heap := e0.mod.kin.keeps fun b o e => (e0.bs b o e).1
  have free : s.heap.NoLimit := e0.mod.nolimit.keeps fun b o e => (e0.bs b o e).1
  have hl : us.length = ps.length := r.length ▸ hn
  have bd := b s us inS (by rw [List.append_nil]; exact hl)
  rw [List.append_nil] at bd
  have kinds : ∀ y ∈ ps.zip us, (defScope st).names.lookup y.1 = some .local ∨ ((defScope st).names.lookup y.1 = some .cell ∧ ((cellsFrom (s.heap.objs.size + 1) (defScope st).names []).lookup y.1).isSome = true) := by
    rintro ⟨n, v⟩ hy
    exact (S.par n (List.of_mem_zip hy).1).imp id fun q => ⟨q, PySem.W.cellsFrom_some _ _ _ (.inl q)⟩
  refine codeAny_call_function hr.depth (inS _ _ lk) rfl S.co S.gen rfl (PySem.W.codeRec_of inS hcd) (bd _ _ _ _ ?_)
  refine wpAny_newFunctionEnv_cells S.kind kinds fun env hE s1 z => ?_
  cases hE
  refine ⟨free.keeps z.toInCall.keep, codeAny_func ?_⟩
  obtain ⟨t, ht, q⟩ := hbody cdv A outer s H vs Q E cl rfl (hr.deeper _) hsp
  have I : Inv (cxOf CX P w K mg base N qual (defScope st) f cdv A outer s H E) [] (start N vs) H s1 := inv_start S hr.hd e0 hn r z
  refine wpAny_mono (ht.run [] s1 (start N vs) H _ I q) (fun fl s2 out => ?_) fun _ _ out => out
  cases fl with
  | ret u => obtain ⟨v, _, H2, J, rv, q2⟩ := out; exact ⟨v, H2, J.os, J.bare, J.base, J.hok, rv, q2⟩
  | next => obtain ⟨_, H2, J, q2⟩ := out; exact ⟨.non, H2, J.os, J.bare, J.base, J.hok, rfl, q2⟩
  | brk => exact out.elim fun _ z => z.elim fun _ z => z.2.elim
  | cont => exact out.elim fun _ z => z.elim fun _ z => z.2.elim
end
end Ws

/-! expressions: two readers and one grammar, over kinds of words -/
namespace Gr
inductive T where
  | opn | cls | star | add | cmp | atom | junk
  deriving DecidableEq
open T
/-! ### the grammar; the number: parentheses that are open around it -/
mutual
inductive F : Nat → List T → Prop
  | atom (d : Nat) : F d [T.atom]
  | par {d : Nat} {ws : List T} : d < 6 → V (d + 1) ws → F d (opn :: (ws ++ [cls]))
inductive P : Nat → List T → Prop
  | one {d : Nat} {ws : List T} : F d ws → P d ws
  | more {d : Nat} {a b : List T} : P d a → F d b → P d (a ++ star :: b)
inductive S : Nat → List T → Prop
  | one {d : Nat} {ws : List T} : P d ws → S d ws
  | more {d : Nat} {a b : List T} : S d a → P d b → S d (a ++ T.add :: b)
inductive V : Nat → List T → Prop
  | one {d : Nat} {ws : List T} : S d ws → V d ws
  | two {d : Nat} {a b : List T} : S d a → S d b → V d (a ++ cmp :: b)
end
/-! ### the reader that splits at the last sign outside -/
/-- how many words from the end on (of the words turned round) the first sign outside stands -/
noncomputable def scan (p : T → Bool) : Int → List T → Option Nat
  | _, [] => none
  | d, w :: r =>
    if w = cls then (scan p (d + 1) r).map (· + 1)
    else if w = opn then (scan p (d - 1) r).map (· + 1)
    else if d = 0 ∧ p w = true then some 0
    else (scan p d r).map (· + 1)
/-- the place of the last sign outside -/
noncomputable def lastOut (p : T → Bool) (ws : List T) : Option Nat := (scan p 0 ws.reverse).map fun k => ws.length - 1 - k
noncomputable def isCmp : T → Bool | cmp => true | _ => false
noncomputable def isAdd : T → Bool | T.add => true | _ => false
noncomputable def isStar : T → Bool | star => true | _ => false
theorem scan_lt {p : T → Bool} : ∀ {ws : List T} {d : Int} {k : Nat}, scan p d ws = some k → k < ws.length ∧ ∃ w, ws[k]? = some w ∧ p w = true
  | [], d, k, h => by cases h
  | w :: r, d, k, h => by
    unfold scan at h
    have step : ∀ {e : Int}, (scan p e r).map (· + 1) = some k → k < (w :: r).length ∧ ∃ x, (w :: r)[k]? = some x ∧ p x = true := by
      intro e h
      obtain ⟨j, h1, h2⟩ := Option.map_eq_some_iff.mp h
      obtain ⟨l, x, h3, h4⟩ := scan_lt h1
      subst h2
      exact ⟨by simpa using l, x, by simpa using h3, h4⟩
    split at h
    · exact step h
    · split at h
      · exact step h
      · split at h
        · rename_i h3
          cases h
          exact ⟨by simp, w, rfl, h3.2⟩
        · exact step h
theorem lastOut_split {p : T → Bool} {ws : List T} {k : Nat} (h : lastOut p ws = some k) : k < ws.length ∧ ∃ w, p w = true ∧ ws = ws.take k ++ w :: ws.drop (k + 1) := by
  unfold lastOut at h
  obtain ⟨j, h1, h2⟩ := Option.map_eq_some_iff.mp h
  obtain ⟨l, w, h3, h4⟩ := scan_lt h1
  rw [List.length_reverse] at l
  have hk : k < ws.length := by omega
  refine ⟨hk, w, h4, ?_⟩
  rw [List.getElem?_reverse (by omega), h2] at h3
  have e : ws[k] = w := by
    rw [List.getElem?_eq_getElem hk] at h3
    exact Option.some.inj h3
  conv => lhs; rw [← List.take_append_drop k ws]
  rw [List.drop_eq_getElem_cons hk, e]
mutual
noncomputable def rV : Nat → List T → Bool
  | 0, _ => false
  | n + 1, ws => match lastOut isCmp ws with
    | none => rS n ws
    | some k => rS n (ws.take k) && rS n (ws.drop (k + 1))
noncomputable def rS : Nat → List T → Bool
  | 0, _ => false
  | n + 1, ws => match lastOut isAdd ws with
    | none => rP n ws
    | some k => rS n (ws.take k) && rP n (ws.drop (k + 1))
noncomputable def rP : Nat → List T → Bool
  | 0, _ => false
  | n + 1, ws => match lastOut isStar ws with
    | none => rF n ws
    | some k => rP n (ws.take k) && rF n (ws.drop (k + 1))
noncomputable def rF : Nat → List T → Bool
  | 0, _ => false
  | n + 1, ws => match ws with
    | [w] => w == T.atom
    | ws => decide (ws.length > 2) && ws.head? == some opn && ws.getLast? == some cls && rV n (ws.drop 1).dropLast
end
/-- the most parentheses that are open at a time, from d on -/
noncomputable def most : Int → List T → Int
  | d, [] => d
  | d, w :: r => max d (most (if w = opn then d + 1 else if w = cls then d - 1 else d) r)
noncomputable def readV (n : Nat) (ws : List T) : Bool := decide (ws.length ≤ 40) && decide (most 0 ws ≤ 6) && rV n ws
/-! ### the law's reader, from the left -/
noncomputable def loop (f : List T → Option (List T)) (p : T → Bool) : Nat → List T → Option (List T)
  | 0, r => some r
  | _ + 1, [] => some []
  | m + 1, w :: r => if p w = true then (match f r with | none => none | some r' => loop f p m r') else some (w :: r)
mutual
noncomputable def lF : Nat → Nat → List T → Option (List T)
  | 0, _, _ => none
  | _ + 1, _, [] => none
  | n + 1, d, w :: r => if w = opn then (if d < 6 then (match lV n (d + 1) r with | some (w' :: r') => if w' = cls then some r' else none | _ => none) else none) else if w = T.atom then some r else none
noncomputable def lP : Nat → Nat → List T → Option (List T)
  | 0, _, _ => none
  | n + 1, d, ws => match lF n d ws with | none => none | some r => loop (lF n d) isStar r.length r
noncomputable def lS : Nat → Nat → List T → Option (List T)
  | 0, _, _ => none
  | n + 1, d, ws => match lP n d ws with | none => none | some r => loop (lP n d) isAdd r.length r
noncomputable def lV : Nat → Nat → List T → Option (List T)
  | 0, _, _ => none
  | n + 1, d, ws => match lS n d ws with
    | none => none
    | some [] => some []
    | some (w :: r) => if isCmp w = true then lS n d r else some (w :: r)
end
theorem lF_nil (n d : Nat) : lF (n + 1) d [] = none := by unfold lF; rfl
theorem lF_cons (n d : Nat) (w : T) (r : List T) : lF (n + 1) d (w :: r) = (if w = opn then (if d < 6 then (match lV n (d + 1) r with | some (w' :: r') => if w' = cls then some r' else none | _ => none) else none) else if w = T.atom then some r else none) := by rw [lF]
theorem lP_eq (n d : Nat) (ws : List T) : lP (n + 1) d ws = (match lF n d ws with | none => none | some r => loop (lF n d) isStar r.length r) := by rw [lP]
theorem lS_eq (n d : Nat) (ws : List T) : lS (n + 1) d ws = (match lP n d ws with | none => none | some r => loop (lP n d) isAdd r.length r) := by rw [lS]
theorem lV_eq (n d : Nat) (ws : List T) : lV (n + 1) d ws = (match lS n d ws with | none => none | some [] => some [] | some (w :: r) => if isCmp w = true then lS n d r else some (w :: r)) := by rw [lV]
/-! ### depths -/
noncomputable def stp (d : Int) (w : T) : Int := if w = opn then d + 1 else if w = cls then d - 1 else d
noncomputable def net : Int → List T → Int
  | d, [] => d
  | d, w :: r => net (stp d w) r
theorem most_cons (d : Int) (w : T) (r : List T) : most d (w :: r) = max d (most (stp d w) r) := rfl
theorem net_app : ∀ (a b : List T) (d : Int), net d (a ++ b) = net (net d a) b
  | [], _, _ => rfl
  | w :: a, b, d => net_app a b (stp d w)
theorem most_ge : ∀ (a : List T) (d : Int), d ≤ most d a
  | [], _ => Int.le_refl _
  | w :: a, d => by rw [most_cons]; omega
theorem most_app : ∀ (a b : List T) (d : Int), most d (a ++ b) = max (most d a) (most (net d a) b)
  | [], b, d => by
    have := most_ge b d
    show most d b = max d (most d b)
    omega
  | w :: a, b, d => by
    show most d (w :: (a ++ b)) = max (most d (w :: a)) (most (net (stp d w) a) b)
    rw [most_cons, most_cons, most_app a b]
    omega
theorem stp_sign {d : Int} {w : T} (h : w ≠ opn) (h2 : w ≠ cls) : stp d w = d := by unfold stp; rw [if_neg h, if_neg h2]
mutual
theorem F.net : ∀ {d : Nat} {ws : List T}, F d ws → ∀ e : Int, Gr.net e ws = e
  | _, _, .atom _, e => rfl
  | _, _, .par (ws := ws) _ h, e => by
    show Gr.net (stp e opn) (ws ++ [cls]) = e
    rw [net_app, V.net h]
    show stp (stp e opn) cls = e
    simp [stp]
theorem P.net : ∀ {d : Nat} {ws : List T}, P d ws → ∀ e : Int, Gr.net e ws = e
  | _, _, .one h, e => F.net h e
  | _, _, .more h k, e => by rw [net_app, P.net h]; exact F.net k e
theorem S.net : ∀ {d : Nat} {ws : List T}, S d ws → ∀ e : Int, Gr.net e ws = e
  | _, _, .one h, e => P.net h e
  | _, _, .more h k, e => by rw [net_app, S.net h]; exact P.net k e
theorem V.net : ∀ {d : Nat} {ws : List T}, V d ws → ∀ e : Int, Gr.net e ws = e
  | _, _, .one h, e => S.net h e
  | _, _, .two h k, e => by rw [net_app, S.net h]; exact S.net k e
end
theorem most_mid {d : Int} {a b : List T} {w : T} (h : w ≠ opn) (h2 : w ≠ cls) (n : Gr.net d a = d) : most d (a ++ w :: b) = max (most d a) (most d b) := by
  rw [most_app, n, most_cons, stp_sign h h2]
  have := most_ge a d
  omega
mutual
theorem F.most : ∀ {d : Nat} {ws : List T}, F d ws → d ≤ 6 → Gr.most d ws ≤ 6
  | _, _, .atom d, h => by
    show max (d : Int) (d : Int) ≤ 6
    omega
  | _, _, .par (d := d) (ws := ws) l h, hd => by
    have e := V.most h (by omega)
    have n := V.net h ((d + 1 : Nat) : Int)
    rw [most_cons]
    have e0 : stp (d : Int) opn = ((d + 1 : Nat) : Int) := by simp [stp]
    rw [e0, most_app, n]
    show max (d : Int) (max (Gr.most ((d + 1 : Nat) : Int) ws) (max ((d + 1 : Nat) : Int) (stp ((d + 1 : Nat) : Int) cls))) ≤ 6
    have e1 : stp ((d + 1 : Nat) : Int) cls = d := by simp [stp]
    omega
theorem P.most : ∀ {d : Nat} {ws : List T}, P d ws → d ≤ 6 → Gr.most d ws ≤ 6
  | _, _, .one h, hd => F.most h hd
  | _, _, .more h k, hd => by
    rw [most_mid (by decide) (by decide) (P.net h _)]
    have := P.most h hd
    have := F.most k hd
    omega
theorem S.most : ∀ {d : Nat} {ws : List T}, S d ws → d ≤ 6 → Gr.most d ws ≤ 6
  | _, _, .one h, hd => P.most h hd
  | _, _, .more h k, hd => by
    rw [most_mid (by decide) (by decide) (S.net h _)]
    have := S.most h hd
    have := P.most k hd
    omega
theorem V.most : ∀ {d : Nat} {ws : List T}, V d ws → d ≤ 6 → Gr.most d ws ≤ 6
  | _, _, .one h, hd => S.most h hd
  | _, _, .two h k, hd => by
    rw [most_mid (by decide) (by decide) (S.net h _)]
    have := S.most h hd
    have := S.most k hd
    omega
end
/-! ### what the splitting reader takes is in the grammar -/
theorem isCmp_eq {w : T} (h : isCmp w = true) : w = cmp := by cases w <;> first | rfl | (exact absurd h (by simp [isCmp]))
theorem isAdd_eq {w : T} (h : isAdd w = true) : w = T.add := by cases w <;> first | rfl | (exact absurd h (by simp [isAdd]))
theorem isStar_eq {w : T} (h : isStar w = true) : w = star := by cases w <;> first | rfl | (exact absurd h (by simp [isStar]))
theorem par_form {ws : List T} (l : ws.length > 2) (h : ws.head? = some opn) (k : ws.getLast? = some cls) : ws = opn :: ((ws.drop 1).dropLast ++ [cls]) := by
  match ws, l, h, k with
  | w :: r, l, h, k =>
    have hr : r ≠ [] := by intro z; rw [z] at l; simp at l
    cases (show w = opn from Option.some.inj h)
    have k2 : r.getLast? = some cls := by
      rw [List.getLast?_cons] at k
      rw [List.getLast?_eq_some_getLast hr] at k ⊢
      simpa using k
    have e := List.dropLast_concat_getLast hr
    rw [List.getLast?_eq_some_getLast hr] at k2
    rw [Option.some.inj k2] at e
    show opn :: r = opn :: (r.dropLast ++ [cls])
    rw [e]
theorem sound : ∀ (n : Nat), (∀ (d : Nat) (ws : List T), rV n ws = true → most d ws ≤ 6 → V d ws) ∧ (∀ (d : Nat) (ws : List T), rS n ws = true → most d ws ≤ 6 → S d ws) ∧ (∀ (d : Nat) (ws : List T), rP n ws = true → most d ws ≤ 6 → P d ws) ∧ (∀ (d : Nat) (ws : List T), rF n ws = true → most d ws ≤ 6 → F d ws)
  | 0 => ⟨fun _ _ h _ => absurd h (by simp [rV]), fun _ _ h _ => absurd h (by simp [rS]), fun _ _ h _ => absurd h (by simp [rP]), fun _ _ h _ => absurd h (by simp [rF])⟩
  | n + 1 => by
    obtain ⟨iV, iS, iP, iF⟩ := sound n
    refine ⟨fun d ws h m => ?_, fun d ws h m => ?_, fun d ws h m => ?_, fun d ws h m => ?_⟩
    · unfold rV at h
      split at h
      · exact .one (iS d ws h m)
      · rename_i k hk
        obtain ⟨_, w, hw, e⟩ := lastOut_split hk
        cases isCmp_eq hw
        rw [Bool.and_eq_true] at h
        rw [e, most_app] at m
        have a := iS d _ h.1 (by omega)
        rw [S.net a, most_cons, stp_sign (by decide) (by decide)] at m
        have b := iS d _ h.2 (by omega)
        rw [e]
        exact .two a b
    · unfold rS at h
      split at h
      · exact .one (iP d ws h m)
      · rename_i k hk
        obtain ⟨_, w, hw, e⟩ := lastOut_split hk
        cases isAdd_eq hw
        rw [Bool.and_eq_true] at h
        rw [e, most_app] at m
        have a := iS d _ h.1 (by omega)
        rw [S.net a, most_cons, stp_sign (by decide) (by decide)] at m
        have b := iP d _ h.2 (by omega)
        rw [e]
        exact .more a b
    · unfold rP at h
      split at h
      · exact .one (iF d ws h m)
      · rename_i k hk
        obtain ⟨_, w, hw, e⟩ := lastOut_split hk
        cases isStar_eq hw
        rw [Bool.and_eq_true] at h
        rw [e, most_app] at m
        have a := iP d _ h.1 (by omega)
        rw [P.net a, most_cons, stp_sign (by decide) (by decide)] at m
        have b := iF d _ h.2 (by omega)
        rw [e]
        exact .more a b
    · unfold rF at h
      split at h
      · rename_i w
        cases (show w = T.atom from eq_of_beq h)
        exact .atom d
      · simp only [Bool.and_eq_true, decide_eq_true_eq, beq_iff_eq] at h
        obtain ⟨⟨⟨h1, h2⟩, h3⟩, h4⟩ := h
        have e := par_form h1 h2 h3
        rw [e, most_cons] at m
        have e0 : stp (d : Int) opn = ((d + 1 : Nat) : Int) := by simp [stp]
        rw [e0, most_app] at m
        have g := most_ge ((ws.drop 1).dropLast) ((d + 1 : Nat) : Int)
        have b := iV (d + 1) _ h4 (by omega)
        rw [e]
        exact .par (by omega) b
/-! ### what is in the grammar is taken by the splitting reader -/
/-- scanning passes over these words -/
noncomputable def Clean (p : T → Bool) (e : Int) (ws : List T) : Prop := ∀ r, scan p e (ws.reverse ++ r) = (scan p e r).map (· + ws.length)
theorem map_add (o : Option Nat) (a b : Nat) : (o.map (· + a)).map (· + b) = o.map (· + (a + b)) := by cases o <;> simp [Nat.add_assoc]
theorem Clean.app {p : T → Bool} {e : Int} {a b : List T} (h : Clean p e a) (k : Clean p e b) : Clean p e (a ++ b) := fun r => by
  rw [List.reverse_append, List.append_assoc, k, h, map_add, List.length_append]
theorem Clean.one {p : T → Bool} {e : Int} {w : T} (h : w ≠ opn) (h2 : w ≠ cls) (h3 : ¬ (e = 0 ∧ p w = true)) : Clean p e [w] := fun r => by
  show (if w = cls then (scan p (e + 1) r).map (· + 1) else if w = opn then (scan p (e - 1) r).map (· + 1) else if e = 0 ∧ p w = true then some 0 else (scan p e r).map (· + 1)) = (scan p e r).map (· + 1)
  rw [if_neg h2, if_neg h, if_neg h3]
theorem Clean.cons {p : T → Bool} {e : Int} {w : T} {b : List T} (h : w ≠ opn) (h2 : w ≠ cls) (h3 : ¬ (e = 0 ∧ p w = true)) (k : Clean p e b) : Clean p e (w :: b) := (Clean.one h h2 h3).app k
theorem Clean.par {p : T → Bool} {e : Int} {ws : List T} (h : Clean p (e + 1) ws) : Clean p e (opn :: (ws ++ [cls])) := fun r => by
  have e1 : (opn :: (ws ++ [cls])).reverse ++ r = cls :: (ws.reverse ++ (opn :: r)) := by simp
  have e2 : scan p (e + 1) (opn :: r) = (scan p e r).map (· + 1) := by
    show (if opn = cls then _ else _) = _
    rw [if_neg (by decide), if_pos rfl, Int.add_sub_cancel]
  rw [e1]
  show (if cls = cls then _ else _) = _
  rw [if_pos rfl, h, e2, map_add, map_add]
  congr 1
  funext k
  simp only [List.length_cons, List.length_append, List.length_nil]
  omega
mutual
theorem F.clean {p : T → Bool} (hp : p T.atom = false) : ∀ {d : Nat} {ws : List T}, F d ws → ∀ e : Int, 0 ≤ e → Clean p e ws
  | _, _, .atom _, e, _ => Clean.one (by decide) (by decide) (by rw [hp]; simp)
  | _, _, .par _ h, e, he => Clean.par (V.clean hp h (e + 1) (by omega))
theorem P.clean {p : T → Bool} (hp : p T.atom = false) : ∀ {d : Nat} {ws : List T}, P d ws → ∀ e : Int, 0 ≤ e → (e = 0 → p star = false) → Clean p e ws
  | _, _, .one h, e, he, _ => F.clean hp h e he
  | _, _, .more h k, e, he, hs => (P.clean hp h e he hs).app (Clean.cons (by decide) (by decide) (fun z => by rw [hs z.1] at z; simp at z) (F.clean hp k e he))
theorem S.clean {p : T → Bool} (hp : p T.atom = false) : ∀ {d : Nat} {ws : List T}, S d ws → ∀ e : Int, 0 ≤ e → (e = 0 → p star = false ∧ p T.add = false) → Clean p e ws
  | _, _, .one h, e, he, hs => P.clean hp h e he fun z => (hs z).1
  | _, _, .more h k, e, he, hs => (S.clean hp h e he hs).app (Clean.cons (by decide) (by decide) (fun z => by rw [(hs z.1).2] at z; simp at z) (P.clean hp k e he fun z => (hs z).1))
theorem V.clean {p : T → Bool} (hp : p T.atom = false) : ∀ {d : Nat} {ws : List T}, V d ws → ∀ e : Int, 1 ≤ e → Clean p e ws
  | _, _, .one h, e, he => S.clean hp h e (by omega) fun z => by omega
  | _, _, .two h k, e, he => (S.clean hp h e (by omega) fun z => by omega).app (Clean.cons (by decide) (by decide) (fun z => by omega) (S.clean hp k e (by omega) fun z => by omega))
end
theorem lastOut_none {p : T → Bool} {ws : List T} (h : Clean p 0 ws) : lastOut p ws = none := by
  have := h []
  rw [List.append_nil] at this
  unfold lastOut
  rw [this]
  rfl
theorem lastOut_at {p : T → Bool} {a b : List T} {w : T} (h : w ≠ opn) (h2 : w ≠ cls) (hw : p w = true) (k : Clean p 0 b) : lastOut p (a ++ w :: b) = some a.length := by
  unfold lastOut
  have e : (a ++ w :: b).reverse = b.reverse ++ (w :: a.reverse) := by simp
  have e2 : scan p 0 (w :: a.reverse) = some 0 := by
    unfold scan
    rw [if_neg h2, if_neg h, if_pos ⟨rfl, hw⟩]
  rw [e, k, e2]
  simp
mutual
theorem F.ne : ∀ {d : Nat} {ws : List T}, F d ws → 1 ≤ ws.length
  | _, _, .atom _ => by simp
  | _, _, .par _ _ => by simp
theorem P.ne : ∀ {d : Nat} {ws : List T}, P d ws → 1 ≤ ws.length
  | _, _, .one h => F.ne h
  | _, _, .more _ _ => by simp; omega
theorem S.ne : ∀ {d : Nat} {ws : List T}, S d ws → 1 ≤ ws.length
  | _, _, .one h => P.ne h
  | _, _, .more _ _ => by simp; omega
theorem V.ne : ∀ {d : Nat} {ws : List T}, V d ws → 1 ≤ ws.length
  | _, _, .one h => S.ne h
  | _, _, .two _ _ => by simp; omega
end
theorem take_mid (a b : List T) (w : T) : (a ++ w :: b).take a.length = a := by simp
theorem drop_mid (a b : List T) (w : T) : (a ++ w :: b).drop (a.length + 1) = b := by simp
mutual
theorem F.rF : ∀ {d : Nat} {ws : List T}, F d ws → ∀ n, 4 * ws.length + 1 ≤ n → rF n ws = true
  | _, _, .atom _, n + 1, _ => by unfold Gr.rF; rfl
  | _, _, .par (ws := ws) _ h, n + 1, hn => by
    have l := V.ne h
    have iv := V.rV h n (by simp only [List.length_cons, List.length_append, List.length_nil] at hn; omega)
    match ws, l with
    | x :: r, _ =>
      have e : ((opn :: (x :: r ++ [cls])).drop 1).dropLast = x :: r := by
        show (x :: r ++ [cls]).dropLast = x :: r
        exact List.dropLast_concat
      have l3 : (opn :: (x :: r ++ [cls])).getLast? = some cls := by
        rw [show opn :: (x :: r ++ [cls]) = (opn :: x :: r) ++ [cls] from rfl]
        exact List.getLast?_concat
      show (decide ((opn :: (x :: r ++ [cls])).length > 2) && (opn :: (x :: r ++ [cls])).head? == some opn && (opn :: (x :: r ++ [cls])).getLast? == some cls && Gr.rV n ((opn :: (x :: r ++ [cls])).drop 1).dropLast) = true
      rw [e, iv, l3]
      simp
theorem P.rP : ∀ {d : Nat} {ws : List T}, P d ws → ∀ n, 4 * ws.length + 2 ≤ n → rP n ws = true
  | _, _, .one h, n + 1, hn => by
    unfold Gr.rP
    rw [lastOut_none (F.clean rfl h 0 (by omega))]
    exact F.rF h n (by omega)
  | _, _, .more (a := a) (b := b) h k, n + 1, hn => by
    unfold Gr.rP
    rw [lastOut_at (by decide) (by decide) rfl (F.clean rfl k 0 (by omega))]
    simp only [List.length_append, List.length_cons] at hn
    have x := P.rP h n (by have := F.ne k; omega)
    have y := F.rF k n (by have := P.ne h; omega)
    show (Gr.rP n ((a ++ star :: b).take a.length) && Gr.rF n ((a ++ star :: b).drop (a.length + 1))) = true
    rw [take_mid, drop_mid, x, y]
    rfl
theorem S.rS : ∀ {d : Nat} {ws : List T}, S d ws → ∀ n, 4 * ws.length + 3 ≤ n → rS n ws = true
  | _, _, .one h, n + 1, hn => by
    unfold Gr.rS
    rw [lastOut_none (P.clean rfl h 0 (by omega) fun _ => rfl)]
    exact P.rP h n (by omega)
  | _, _, .more (a := a) (b := b) h k, n + 1, hn => by
    unfold Gr.rS
    rw [lastOut_at (by decide) (by decide) rfl (P.clean rfl k 0 (by omega) fun _ => rfl)]
    simp only [List.length_append, List.length_cons] at hn
    have x := S.rS h n (by have := P.ne k; omega)
    have y := P.rP k n (by have := S.ne h; omega)
    show (Gr.rS n ((a ++ T.add :: b).take a.length) && Gr.rP n ((a ++ T.add :: b).drop (a.length + 1))) = true
    rw [take_mid, drop_mid, x, y]
    rfl
theorem V.rV : ∀ {d : Nat} {ws : List T}, V d ws → ∀ n, 4 * ws.length + 4 ≤ n → rV n ws = true
  | _, _, .one h, n + 1, hn => by
    unfold Gr.rV
    rw [lastOut_none (S.clean rfl h 0 (by omega) fun _ => ⟨rfl, rfl⟩)]
    exact S.rS h n (by omega)
  | _, _, .two (a := a) (b := b) h k, n + 1, hn => by
    unfold Gr.rV
    rw [lastOut_at (by decide) (by decide) rfl (S.clean rfl k 0 (by omega) fun _ => ⟨rfl, rfl⟩)]
    simp only [List.length_append, List.length_cons] at hn
    have x := S.rS h n (by have := S.ne k; omega)
    have y := S.rS k n (by have := S.ne h; omega)
    show (Gr.rS n ((a ++ cmp :: b).take a.length) && Gr.rS n ((a ++ cmp :: b).drop (a.length + 1))) = true
    rw [take_mid, drop_mid, x, y]
    rfl
end
/-- the program's reader takes just the grammar's values of at most 40 words -/
theorem readV_iff {ws : List T} {n : Nat} (hn : 4 * ws.length + 4 ≤ n) : readV n ws = true ↔ (ws.length ≤ 40 ∧ V 0 ws) := by
  unfold readV
  simp only [Bool.and_eq_true, decide_eq_true_eq]
  constructor
  · rintro ⟨⟨h1, h2⟩, h3⟩
    exact ⟨h1, (sound n).1 0 ws h3 h2⟩
  · rintro ⟨h1, h2⟩
    exact ⟨⟨h1, V.most h2 (by decide)⟩, V.rV h2 n hn⟩
/-! ### the law's reader takes just the grammar's values -/
theorem loop_step {f : List T → Option (List T)} {p : T → Bool} {m : Nat} {w : T} {r r' : List T} (hp : p w = true) (hf : f r = some r') : loop f p (m + 1) (w :: r) = loop f p m r' := by
  show (if p w = true then _ else _) = _
  rw [if_pos hp, hf]
/-- more turns than words make no difference -/
theorem loop_fuel {f : List T → Option (List T)} {p : T → Bool} (hf : ∀ a b, f a = some b → b.length ≤ a.length) : ∀ (m k : Nat) (r : List T), r.length ≤ m → r.length ≤ k → loop f p m r = loop f p k r
  | 0, 0, _, _, _ => rfl
  | 0, k + 1, [], _, _ => rfl
  | m + 1, 0, [], _, _ => rfl
  | m + 1, k + 1, [], _, _ => rfl
  | 0, _ + 1, _ :: _, h, _ => by simp at h
  | _ + 1, 0, _ :: _, _, h => by simp at h
  | m + 1, k + 1, w :: r, h1, h2 => by
    simp only [List.length_cons] at h1 h2
    show (if p w = true then (match f r with | none => none | some r' => loop f p m r') else some (w :: r)) = (if p w = true then (match f r with | none => none | some r' => loop f p k r') else some (w :: r))
    split
    · cases e : f r with
      | none => rfl
      | some r' =>
        have := hf _ _ e
        exact loop_fuel hf m k r' (by omega) (by omega)
    · rfl
theorem loop_le {f : List T → Option (List T)} {p : T → Bool} (hf : ∀ a b, f a = some b → b.length ≤ a.length) : ∀ (m : Nat) (a b : List T), loop f p m a = some b → b.length ≤ a.length
  | 0, a, b, h => by cases h; exact Nat.le_refl _
  | m + 1, [], b, h => by cases h; exact Nat.le_refl _
  | m + 1, w :: r, b, h => by
    have h' : (if p w = true then (match f r with | none => none | some r' => loop f p m r') else some (w :: r)) = some b := h
    split at h'
    · cases e : f r with
      | none => rw [e] at h'; cases h'
      | some r' =>
        rw [e] at h'
        have a1 := hf _ _ e
        have a2 := loop_le hf m r' b h'
        simp only [List.length_cons]
        omega
    · cases h'
      exact Nat.le_refl _
/-- what stands behind a value: nothing that goes on with it -/
noncomputable def Ends (p : T → Bool) (r : List T) : Prop := ∀ w r', r = w :: r' → p w = false
theorem loop_end {f : List T → Option (List T)} {p : T → Bool} : ∀ {m : Nat} {r : List T}, Ends p r → loop f p m r = some r
  | 0, _, _ => rfl
  | _ + 1, [], _ => rfl
  | _ + 1, w :: r, h => by
    show (if p w = true then _ else _) = _
    rw [if_neg (by rw [h w r rfl]; simp)]
theorem shrink : ∀ (n : Nat), (∀ d a b, lF n d a = some b → b.length < a.length) ∧ (∀ d a b, lP n d a = some b → b.length < a.length) ∧ (∀ d a b, lS n d a = some b → b.length < a.length) ∧ (∀ d a b, lV n d a = some b → b.length < a.length)
  | 0 => ⟨fun _ _ _ h => by simp [lF] at h, fun _ _ _ h => by simp [lP] at h, fun _ _ _ h => by simp [lS] at h, fun _ _ _ h => by simp [lV] at h⟩
  | n + 1 => by
    obtain ⟨iF, iP, iS, iV⟩ := shrink n
    refine ⟨fun d a b h => ?_, fun d a b h => ?_, fun d a b h => ?_, fun d a b h => ?_⟩
    · match a, h with
      | [], h => rw [lF_nil] at h; cases h
      | w :: r, h =>
        have h' := h
        rw [lF_cons] at h'
        split at h'
        · split at h'
          · cases e : lV n (d + 1) r with
            | none => rw [e] at h'; cases h'
            | some x =>
              rw [e] at h'
              have l := iV _ _ _ e
              match x, l, h' with
              | w' :: r', l, h' =>
                have h2 : (if w' = cls then some r' else none) = some b := h'
                split at h2
                · cases h2
                  simp only [List.length_cons] at l ⊢
                  omega
                · cases h2
          · cases h'
        · split at h'
          · cases h'
            simp
          · cases h'
    · rw [lP_eq] at h
      cases e : lF n d a with
      | none => rw [e] at h; cases h
      | some r =>
        rw [e] at h
        have a1 := iF _ _ _ e
        have a2 := loop_le (fun x y z => Nat.le_of_lt (iF _ _ _ z)) _ _ _ h
        omega
    · rw [lS_eq] at h
      cases e : lP n d a with
      | none => rw [e] at h; cases h
      | some r =>
        rw [e] at h
        have a1 := iP _ _ _ e
        have a2 := loop_le (fun x y z => Nat.le_of_lt (iP _ _ _ z)) _ _ _ h
        omega
    · rw [lV_eq] at h
      cases e : lS n d a with
      | none => rw [e] at h; cases h
      | some x =>
        rw [e] at h
        have a1 := iS _ _ _ e
        match x, a1, h with
        | [], a1, h => cases h; exact a1
        | w :: r, a1, h =>
          have h' : (if isCmp w = true then lS n d r else some (w :: r)) = some b := h
          split at h'
          · have a2 := iS _ _ _ h'
            simp only [List.length_cons] at a1
            omega
          · cases h'
            exact a1
theorem lF_le (n d : Nat) (a b : List T) (h : lF n d a = some b) : b.length ≤ a.length := Nat.le_of_lt ((shrink n).1 d a b h)
theorem lP_le (n d : Nat) (a b : List T) (h : lP n d a = some b) : b.length ≤ a.length := Nat.le_of_lt ((shrink n).2.1 d a b h)
mutual
theorem F.lF : ∀ {d : Nat} {ws : List T}, F d ws → ∀ n, 4 * ws.length + 1 ≤ n → ∀ rest, lF n d (ws ++ rest) = some rest
  | _, _, .atom d, n + 1, _, rest => by
    show Gr.lF (n + 1) d (T.atom :: rest) = _
    rw [lF_cons, if_neg (by decide), if_pos rfl]
  | _, _, .par (d := d) (ws := ws) hd h, n + 1, hn, rest => by
    have l := V.ne h
    have e := V.lV h n (by simp only [List.length_cons, List.length_append, List.length_nil] at hn; omega) (cls :: rest) (fun w r' z => by cases z; exact ⟨rfl, rfl, rfl⟩)
    have e2 : opn :: (ws ++ [cls]) ++ rest = opn :: (ws ++ cls :: rest) := by simp
    rw [e2]
    rw [lF_cons, if_pos rfl, if_pos hd, e]
    rfl
theorem P.lP : ∀ {d : Nat} {ws : List T}, P d ws → ∀ n, 4 * ws.length + 1 ≤ n → ∀ rest, lP (n + 1) d (ws ++ rest) = loop (Gr.lF n d) isStar rest.length rest
  | _, _, .one h, n, hn, rest => by
    rw [lP_eq, F.lF h n hn]
  | _, _, .more (d := d) (a := a) (b := b) h k, n, hn, rest => by
    simp only [List.length_append, List.length_cons] at hn
    have l := P.ne h
    rw [List.append_assoc, P.lP h n (by omega), List.cons_append]
    rw [show (star :: (b ++ rest)).length = (b ++ rest).length + 1 from rfl, loop_step (r' := rest) rfl (F.lF k n (by omega) rest)]
    exact loop_fuel (lF_le n d) _ _ _ (by simp) (Nat.le_refl _)
theorem S.lS : ∀ {d : Nat} {ws : List T}, S d ws → ∀ n, 4 * ws.length + 2 ≤ n → ∀ rest, Ends isStar rest → lS (n + 1) d (ws ++ rest) = loop (Gr.lP n d) isAdd rest.length rest
  | _, _, .one h, n + 1, hn, rest, hs => by
    rw [lS_eq, P.lP h n (by omega), loop_end hs]
  | _, _, .more (d := d) (a := a) (b := b) h k, n + 1, hn, rest, hs => by
    simp only [List.length_append, List.length_cons] at hn
    have l := S.ne h
    rw [List.append_assoc, S.lS h (n + 1) (by omega) _ (fun w r' z => by cases z; rfl), List.cons_append]
    have e : Gr.lP (n + 1) d (b ++ rest) = some rest := by rw [P.lP k n (by omega), loop_end hs]
    rw [show (T.add :: (b ++ rest)).length = (b ++ rest).length + 1 from rfl, loop_step (r' := rest) rfl e]
    exact loop_fuel (lP_le (n + 1) d) _ _ _ (by simp) (Nat.le_refl _)
theorem V.lV : ∀ {d : Nat} {ws : List T}, V d ws → ∀ n, 4 * ws.length + 4 ≤ n → ∀ rest, (∀ w r', rest = w :: r' → isStar w = false ∧ isAdd w = false ∧ isCmp w = false) → lV n d (ws ++ rest) = some rest
  | _, _, .one h, n + 2, hn, rest, hr => by
    have e : Gr.lS (n + 1) _ (_ ++ rest) = some rest := (S.lS h n (by omega) rest fun w r' z => (hr w r' z).1).trans (loop_end fun w r' z => (hr w r' z).2.1)
    rw [lV_eq, e]
    match rest, hr with
    | [], _ => rfl
    | w :: r, hr =>
      show (if isCmp w = true then _ else _) = _
      rw [if_neg (by rw [(hr w r rfl).2.2]; simp)]
  | _, _, .two (d := d) (a := a) (b := b) h k, n + 2, hn, rest, hr => by
    simp only [List.length_append, List.length_cons] at hn
    have e : Gr.lS (n + 1) d (a ++ cmp :: (b ++ rest)) = some (cmp :: (b ++ rest)) := (S.lS h n (by omega) _ fun w r' z => by cases z; rfl).trans (loop_end fun w r' z => by cases z; rfl)
    have e2 : Gr.lS (n + 1) d (b ++ rest) = some rest := (S.lS k n (by omega) rest fun w r' z => (hr w r' z).1).trans (loop_end fun w r' z => (hr w r' z).2.1)
    rw [List.append_assoc, List.cons_append]
    rw [lV_eq, e]
    show (if isCmp cmp = true then Gr.lS (n + 1) d (b ++ rest) else _) = _
    rw [if_pos (show isCmp cmp = true from rfl), e2]
end
theorem loopP {n d : Nat} (iF : ∀ a b, lF n d a = some b → ∃ pre, a = pre ++ b ∧ F d pre) : ∀ (m : Nat) (r b pre0 : List T), loop (lF n d) isStar m r = some b → P d pre0 → ∃ pre, r = pre ++ b ∧ P d (pre0 ++ pre)
  | 0, r, b, pre0, h, g => by cases h; exact ⟨[], rfl, by rw [List.append_nil]; exact g⟩
  | m + 1, [], b, pre0, h, g => by cases h; exact ⟨[], rfl, by rw [List.append_nil]; exact g⟩
  | m + 1, w :: r, b, pre0, h, g => by
    have h' : (if isStar w = true then (match lF n d r with | none => none | some r' => loop (lF n d) isStar m r') else some (w :: r)) = some b := h
    split at h'
    · rename_i hw
      cases isStar_eq hw
      cases e : lF n d r with
      | none => rw [e] at h'; cases h'
      | some r' =>
        rw [e] at h'
        obtain ⟨p1, rfl, f1⟩ := iF _ _ e
        obtain ⟨p2, e2, f2⟩ := loopP iF m r' b (pre0 ++ star :: p1) h' (.more g f1)
        refine ⟨star :: p1 ++ p2, by rw [e2]; simp, ?_⟩
        rw [List.append_assoc] at f2
        exact f2
    · cases h'
      exact ⟨[], rfl, by rw [List.append_nil]; exact g⟩
theorem loopS {n d : Nat} (iP : ∀ a b, lP n d a = some b → ∃ pre, a = pre ++ b ∧ P d pre) : ∀ (m : Nat) (r b pre0 : List T), loop (lP n d) isAdd m r = some b → S d pre0 → ∃ pre, r = pre ++ b ∧ S d (pre0 ++ pre)
  | 0, r, b, pre0, h, g => by cases h; exact ⟨[], rfl, by rw [List.append_nil]; exact g⟩
  | m + 1, [], b, pre0, h, g => by cases h; exact ⟨[], rfl, by rw [List.append_nil]; exact g⟩
  | m + 1, w :: r, b, pre0, h, g => by
    have h' : (if isAdd w = true then (match lP n d r with | none => none | some r' => loop (lP n d) isAdd m r') else some (w :: r)) = some b := h
    split at h'
    · rename_i hw
      cases isAdd_eq hw
      cases e : lP n d r with
      | none => rw [e] at h'; cases h'
      | some r' =>
        rw [e] at h'
        obtain ⟨p1, rfl, f1⟩ := iP _ _ e
        obtain ⟨p2, e2, f2⟩ := loopS iP m r' b (pre0 ++ T.add :: p1) h' (.more g f1)
        refine ⟨T.add :: p1 ++ p2, by rw [e2]; simp, ?_⟩
        rw [List.append_assoc] at f2
        exact f2
    · cases h'
      exact ⟨[], rfl, by rw [List.append_nil]; exact g⟩
theorem lsound : ∀ (n : Nat), (∀ d a b, lF n d a = some b → ∃ pre, a = pre ++ b ∧ F d pre) ∧ (∀ d a b, lP n d a = some b → ∃ pre, a = pre ++ b ∧ P d pre) ∧ (∀ d a b, lS n d a = some b → ∃ pre, a = pre ++ b ∧ S d pre) ∧ (∀ d a b, lV n d a = some b → ∃ pre, a = pre ++ b ∧ V d pre)
  | 0 => ⟨fun _ _ _ h => by simp [lF] at h, fun _ _ _ h => by simp [lP] at h, fun _ _ _ h => by simp [lS] at h, fun _ _ _ h => by simp [lV] at h⟩
  | n + 1 => by
    obtain ⟨iF, iP, iS, iV⟩ := lsound n
    refine ⟨fun d a b h => ?_, fun d a b h => ?_, fun d a b h => ?_, fun d a b h => ?_⟩
    · match a, h with
      | [], h => rw [lF_nil] at h; cases h
      | w :: r, h =>
        have h' := h
        rw [lF_cons] at h'
        split at h'
        · rename_i hw
          cases hw
          split at h'
          · rename_i hd
            cases e : lV n (d + 1) r with
            | none => rw [e] at h'; cases h'
            | some x =>
              rw [e] at h'
              obtain ⟨pre, e1, g⟩ := iV _ _ _ e
              match x, e1, h' with
              | [], _, h' => cases h'
              | w' :: r', e1, h' =>
                have h2 : (if w' = cls then some r' else none) = some b := h'
                split at h2
                · rename_i hc
                  cases hc
                  cases h2
                  exact ⟨opn :: (pre ++ [cls]), by rw [e1]; simp, .par hd g⟩
                · cases h2
          · cases h'
        · split at h'
          · rename_i hw
            cases hw
            cases h'
            exact ⟨[T.atom], rfl, .atom d⟩
          · cases h'
    · rw [lP_eq] at h
      cases e : lF n d a with
      | none => rw [e] at h; cases h
      | some r =>
        rw [e] at h
        obtain ⟨p1, rfl, f1⟩ := iF _ _ _ e
        obtain ⟨p2, e2, f2⟩ := loopP (iF d) _ _ _ p1 h (.one f1)
        exact ⟨p1 ++ p2, by rw [e2]; simp, f2⟩
    · rw [lS_eq] at h
      cases e : lP n d a with
      | none => rw [e] at h; cases h
      | some r =>
        rw [e] at h
        obtain ⟨p1, rfl, f1⟩ := iP _ _ _ e
        obtain ⟨p2, e2, f2⟩ := loopS (iP d) _ _ _ p1 h (.one f1)
        exact ⟨p1 ++ p2, by rw [e2]; simp, f2⟩
    · rw [lV_eq] at h
      cases e : lS n d a with
      | none => rw [e] at h; cases h
      | some x =>
        rw [e] at h
        obtain ⟨p1, e1, f1⟩ := iS _ _ _ e
        match x, e1, h with
        | [], e1, h => cases h; exact ⟨p1, e1, .one f1⟩
        | w :: r, e1, h =>
          have h' : (if isCmp w = true then lS n d r else some (w :: r)) = some b := h
          split at h'
          · rename_i hw
            cases isCmp_eq hw
            obtain ⟨p2, e2, f2⟩ := iS _ _ _ h'
            exact ⟨p1 ++ cmp :: p2, by rw [e1, e2]; simp, .two f1 f2⟩
          · cases h'
            exact ⟨p1, e1, .one f1⟩
theorem law_iff {ws : List T} {n : Nat} (hn : 4 * ws.length + 4 ≤ n) : lV n 0 ws = some [] ↔ V 0 ws := by
  constructor
  · intro h
    obtain ⟨pre, e, g⟩ := (lsound n).2.2.2 0 ws [] h
    rw [List.append_nil] at e
    rw [e]
    exact g
  · intro h
    have := V.lV h n hn [] (fun w r' z => by cases z)
    rwa [List.append_nil] at this
/-- both readers take the same words -/
theorem same {ws : List T} {n m : Nat} (hn : 4 * ws.length + 4 ≤ n) (hm : 4 * ws.length + 4 ≤ m) : readV n ws = true ↔ (1 ≤ ws.length ∧ ws.length ≤ 40 ∧ lV m 0 ws = some []) := by
  rw [readV_iff hn, law_iff hm]
  exact ⟨fun ⟨a, b⟩ => ⟨V.ne b, a, b⟩, fun ⟨_, a, b⟩ => ⟨a, b⟩⟩
end Gr

/-! programs: what the package's reading does, and what the law's own reader does, as functions of words and lines -/
namespace Mi
open PySem
/-! ### words -/
inductive Kw where
  | cores | slice | lock | lent | queue | cell | part | task | later | work | ifk | elsek | endk | whilek | repeatk | unlock | put | take | sleep | start | wait | say | eq | other
  deriving DecidableEq
noncomputable def Kw.txt : Kw → Str
  | .cores => "cores" | .slice => "slice" | .lock => "lock" | .lent => "lent" | .queue => "queue" | .cell => "cell" | .part => "part" | .task => "task" | .later => "later" | .work => "work" | .ifk => "if" | .elsek => "else" | .endk => "end" | .whilek => "while"
  | .repeatk => "repeat" | .unlock => "unlock" | .put => "put" | .take => "take" | .sleep => "sleep" | .start => "start" | .wait => "wait" | .say => "say" | .eq => "=" | .other => ""
noncomputable def Kw.all : List Kw := [.cores, .slice, .lock, .lent, .queue, .cell, .part, .task, .later, .work, .ifk, .elsek, .endk, .whilek, .repeatk, .unlock, .put, .take, .sleep, .start, .wait, .say, .eq]
noncomputable def kwIn : List Kw → Str → Kw
  | [], _ => .other
  | k :: r, a => if a = k.txt then k else kwIn r a
noncomputable def kw (a : Str) : Kw := kwIn Kw.all a
theorem kwIn_txt : ∀ {l : List Kw} {a : Str} {k : Kw}, kwIn l a = k → k ≠ .other → a = k.txt
  | [], _, _, h, n => absurd h.symm n
  | k' :: r, a, k, h, n => by
    unfold kwIn at h
    split at h
    · rename_i e
      rw [← h]
      exact e
    · exact kwIn_txt h n
theorem kw_txt (k : Kw) (h : k ≠ .other) : kw k.txt = k := by
  cases k <;> first | (exact absurd rfl h) | (decide +kernel)
theorem kw_iff {a : Str} {k : Kw} (h : k ≠ .other) : kw a = k ↔ a = k.txt := ⟨fun e => kwIn_txt e h, fun e => by rw [e]; exact kw_txt k h⟩
noncomputable def KEPT : List Str := ["cores", "slice", "lock", "lent", "queue", "cell", "part", "task", "later", "work", "if", "else", "end", "while", "repeat", "unlock", "put", "take", "sleep", "start", "wait", "say"]
noncomputable def LETTERS : Str := "abcdefghijklmnopqrstuvwxyz"
noncomputable def DIGITS : Str := "0123456789"
noncomputable def allIn (w s : Str) : Bool := w.cps.toList.all fun c => decide (c ∈ s.cps.toList)
noncomputable def isName (w : Str) : Bool := (decide (1 ≤ w.cps.size) && decide (w.cps.size ≤ 8)) && (decide (w ∉ KEPT) && allIn w LETTERS)
theorem name_other {w : Str} (h : isName w = true) : kw w = .other := by
  cases e : kw w with
  | other => rfl
  | _ =>
    have e2 := kwIn_txt e (by decide)
    rw [e2] at h
    exact absurd h (by decide +kernel)
/-- the integer that digits write -/
noncomputable def dig (w : Str) : Int := w.cps.toList.foldl (fun (n : Int) (c : Nat) => 10 * n + ((c : Int) - 48)) 0
noncomputable def digits (hi : Int) : Nat := if hi < 10 then 1 else if hi < 100 then 2 else 3
noncomputable def wholeP (w : Str) (lo hi : Int) : Option Int :=
  if (decide (1 ≤ w.cps.size) && decide (w.cps.size ≤ digits hi)) && allIn w DIGITS then
    (if w.cps.toList.head? = some 48 ∧ w.cps.size > 1 then none else if lo ≤ dig w ∧ dig w ≤ hi then some (dig w) else none)
  else none
noncomputable def wholeL (w : Str) (lo hi : Int) : Bool :=
  if w.cps.size = 0 ∨ w.cps.size > 3 ∨ allIn w DIGITS = false then false
  else (decide (w.cps.toList = [48]) || decide (w.cps.toList.head? ≠ some 48)) && (decide (lo ≤ dig w) && decide (dig w ≤ hi))
theorem digit_range {c : Nat} (h : c ∈ DIGITS.cps.toList) : 48 ≤ c ∧ c ≤ 57 := by
  have e : DIGITS.cps.toList = [48, 49, 50, 51, 52, 53, 54, 55, 56, 57] := by decide +kernel
  rw [e] at h
  simp only [List.mem_cons, List.not_mem_nil, or_false] at h
  omega
theorem whole_eq {w : Str} {lo hi : Int} (h0 : 0 ≤ lo) (h1 : hi < 1000) : (wholeP w lo hi).isSome = wholeL w lo hi := by
  unfold wholeP wholeL
  obtain ⟨a⟩ := w
  obtain ⟨l⟩ := a
  show (if (decide (1 ≤ l.length) && decide (l.length ≤ digits hi)) && allIn ⟨⟨l⟩⟩ DIGITS then (if l.head? = some 48 ∧ l.length > 1 then none else if lo ≤ dig ⟨⟨l⟩⟩ ∧ dig ⟨⟨l⟩⟩ ≤ hi then some (dig ⟨⟨l⟩⟩) else none) else none).isSome = (if l.length = 0 ∨ l.length > 3 ∨ allIn ⟨⟨l⟩⟩ DIGITS = false then false else (decide (l = [48]) || decide (l.head? ≠ some 48)) && (decide (lo ≤ dig ⟨⟨l⟩⟩) && decide (dig ⟨⟨l⟩⟩ ≤ hi)))
  have dl : digits hi ≤ 3 ∧ 1 ≤ digits hi := by unfold digits; split <;> (try split) <;> omega
  cases ha : allIn ⟨⟨l⟩⟩ DIGITS with
  | false => simp
  | true =>
    have hd : ∀ c ∈ l, 48 ≤ c ∧ c ≤ 57 := fun c hc => by
      unfold allIn at ha
      have := List.all_eq_true.mp ha c hc
      exact digit_range (of_decide_eq_true this)
    match l, hd with
    | [], _ => simp
    | [a], hd =>
      have ea := hd a (by simp)
      have e : dig ⟨⟨[a]⟩⟩ = (a : Int) - 48 := by show 10 * 0 + ((a : Int) - 48) = _; omega
      rw [e]
      have : ([a] = [48]) ↔ a = 48 := by simp
      by_cases h : lo ≤ (a : Int) - 48 ∧ (a : Int) - 48 ≤ hi
      · simp [h, dl.2]
      · by_cases z1 : lo ≤ (a : Int) - 48
        · have z2 : ¬ (a : Int) - 48 ≤ hi := fun z => h ⟨z1, z⟩
          simp [z2, dl.2]
        · simp [z1, dl.2]
    | [a, b], hd =>
      have ea := hd a (by simp)
      have eb := hd b (by simp)
      have e : dig ⟨⟨[a, b]⟩⟩ = 10 * ((a : Int) - 48) + ((b : Int) - 48) := by show 10 * (10 * 0 + ((a : Int) - 48)) + ((b : Int) - 48) = _; omega
      rw [e]
      by_cases a48 : a = 48
      · simp [a48]
      · simp only [List.length_cons, List.length_nil, List.head?_cons, Option.some.injEq, a48, false_and, if_false]
        have g : ¬ ([a, b] = [48]) := by simp
        unfold digits
        by_cases h : lo ≤ 10 * ((a : Int) - 48) + ((b : Int) - 48) ∧ 10 * ((a : Int) - 48) + ((b : Int) - 48) ≤ hi
        · have h10 : ¬ hi < 10 := by omega
          simp [h, h10, a48]
          split <;> simp
        · by_cases z1 : lo ≤ 10 * ((a : Int) - 48) + ((b : Int) - 48)
          · have z2 : ¬ 10 * ((a : Int) - 48) + ((b : Int) - 48) ≤ hi := fun z => h ⟨z1, z⟩
            simp [z2]
          · simp [z1]
    | [a, b, c], hd =>
      have ea := hd a (by simp)
      have eb := hd b (by simp)
      have ec := hd c (by simp)
      have e : dig ⟨⟨[a, b, c]⟩⟩ = 100 * ((a : Int) - 48) + 10 * ((b : Int) - 48) + ((c : Int) - 48) := by show 10 * (10 * (10 * 0 + ((a : Int) - 48)) + ((b : Int) - 48)) + ((c : Int) - 48) = _; omega
      rw [e]
      by_cases a48 : a = 48
      · simp [a48]
      · simp only [List.length_cons, List.length_nil, List.head?_cons, Option.some.injEq, a48, false_and, if_false]
        unfold digits
        by_cases h : lo ≤ 100 * ((a : Int) - 48) + 10 * ((b : Int) - 48) + ((c : Int) - 48) ∧ 100 * ((a : Int) - 48) + 10 * ((b : Int) - 48) + ((c : Int) - 48) ≤ hi
        · have h10 : ¬ hi < 10 := by omega
          have h100 : ¬ hi < 100 := by omega
          simp [h, h10, h100, a48]
        · by_cases z1 : lo ≤ 100 * ((a : Int) - 48) + 10 * ((b : Int) - 48) + ((c : Int) - 48)
          · have z2 : ¬ 100 * ((a : Int) - 48) + 10 * ((b : Int) - 48) + ((c : Int) - 48) ≤ hi := fun z => h ⟨z1, z⟩
            simp [z2]
          · simp [z1]
    | a :: b :: c :: d :: r, hd =>
      have : ¬ (r.length + 1 + 1 + 1 + 1 ≤ digits hi) := by omega
      simp [this]
/-! ### expressions -/
noncomputable def tok (w : Str) : Gr.T :=
  if w = "(" then .opn else if w = ")" then .cls else if w = "*" then .star else if w = "+" ∨ w = "-" then .add else if w = "=" ∨ w = "<" ∨ w = ">" then .cmp
  else if isName w || (wholeP w 0 999).isSome then .atom else .junk
inductive Tr where
  | num (i : Int)
  | var (x : Str)
  | bin (s : Str) (l r : Tr)
noncomputable def join (s : Option Str) (l r : Option Tr) : Option Tr := match s, l, r with
  | some s, some a, some b => some (.bin s a b)
  | _, _, _ => none
noncomputable def atomT (w : Str) : Option Tr := if isName w then some (.var w) else (wholeP w 0 999).map .num
noncomputable def outP (p : Gr.T → Bool) (ws : List Str) : Option Nat := Gr.lastOut p (ws.map tok)
mutual
noncomputable def tV : Nat → List Str → Option Tr
  | 0, _ => none
  | n + 1, ws => match outP Gr.isCmp ws with
    | none => tS n ws
    | some k => join ws[k]? (tS n (ws.take k)) (tS n (ws.drop (k + 1)))
noncomputable def tS : Nat → List Str → Option Tr
  | 0, _ => none
  | n + 1, ws => match outP Gr.isAdd ws with
    | none => tP n ws
    | some k => join ws[k]? (tS n (ws.take k)) (tP n (ws.drop (k + 1)))
noncomputable def tP : Nat → List Str → Option Tr
  | 0, _ => none
  | n + 1, ws => match outP Gr.isStar ws with
    | none => tF n ws
    | some k => join ws[k]? (tP n (ws.take k)) (tF n (ws.drop (k + 1)))
noncomputable def tF : Nat → List Str → Option Tr
  | 0, _ => none
  | n + 1, ws => match ws with
    | [w] => atomT w
    | ws => if decide (ws.length > 2) && ws.head? == some "(" && ws.getLast? == some ")" then tV n (ws.drop 1).dropLast else none
end
noncomputable def readExpr (ws : List Str) : Option Tr := if ws.length ≤ 40 ∧ Gr.most 0 (ws.map tok) ≤ 6 then tV (4 * ws.length + 4) ws else none
theorem tok_atom (w : Str) : (tok w == Gr.T.atom) = (isName w || (wholeP w 0 999).isSome) := by
  unfold tok
  have g : ∀ x : Str, x ∈ (["(", ")", "*", "+", "-", "=", "<", ">"] : List Str) → (isName x || (wholeP x 0 999).isSome) = false := by decide +kernel
  split
  · rename_i h; rw [h, g _ (by decide)]; rfl
  · split
    · rename_i h; rw [h, g _ (by decide)]; rfl
    · split
      · rename_i h; rw [h, g _ (by decide)]; rfl
      · split
        · rename_i h; rw [g w (by rcases h with h | h <;> rw [h] <;> decide)]; rfl
        · split
          · rename_i h; rw [g w (by rcases h with h | h | h <;> rw [h] <;> decide)]; rfl
          · split
            · rename_i h; rw [h]; rfl
            · rename_i h; rw [Bool.not_eq_true] at h; rw [h]; rfl
theorem name_atom {w : Str} (h : isName w = true) : tok w = .atom := by
  have := tok_atom w
  rw [h, Bool.true_or] at this
  exact eq_of_beq this
theorem atomT_some (w : Str) : (atomT w).isSome = (tok w == Gr.T.atom) := by
  rw [tok_atom]
  unfold atomT
  cases isName w with
  | true => rfl
  | false => simp
theorem join_some {s : Option Str} {l r : Option Tr} (h : s.isSome = true) : (join s l r).isSome = (l.isSome && r.isSome) := by
  cases s with
  | none => cases h
  | some s => cases l <;> cases r <;> rfl
theorem at_some {p : Gr.T → Bool} {ws : List Str} {k : Nat} (h : outP p ws = some k) : ws[k]?.isSome = true := by
  obtain ⟨l, _⟩ := Gr.lastOut_split h
  rw [List.length_map] at l
  rw [List.getElem?_eq_getElem l]
  rfl
theorem head_tok (ws : List Str) : ((ws.map tok).head? == some Gr.T.opn) = (ws.head? == some "(") := by
  cases ws with
  | nil => rfl
  | cons w r =>
    show (some (tok w) == some Gr.T.opn) = (some w == some "(")
    by_cases h : w = "("
    · rw [h]; rfl
    · have e : tok w ≠ Gr.T.opn := by
        unfold tok
        rw [if_neg h]
        repeat' split
        all_goals decide
      show (tok w == Gr.T.opn) = (w == "(")
      rw [beq_eq_false_iff_ne.mpr e, beq_eq_false_iff_ne.mpr h]
theorem tok_cls (w : Str) : (tok w = Gr.T.cls) ↔ w = ")" := by
  constructor
  · intro h
    unfold tok at h
    split at h
    · cases h
    · split at h
      · assumption
      · repeat' split at h
        all_goals cases h
  · intro h
    rw [h]
    rfl
theorem last_tok (ws : List Str) : ((ws.map tok).getLast? == some Gr.T.cls) = (ws.getLast? == some ")") := by
  rw [List.getLast?_map]
  cases e : ws.getLast? with
  | none => rfl
  | some w =>
    show (some (tok w) == some Gr.T.cls) = (some w == some ")")
    by_cases h : w = ")"
    · rw [h]; rfl
    · have e : tok w ≠ Gr.T.cls := fun z => h ((tok_cls w).mp z)
      show (tok w == Gr.T.cls) = (w == ")")
      rw [beq_eq_false_iff_ne.mpr e, beq_eq_false_iff_ne.mpr h]
theorem t_some : ∀ (n : Nat), (∀ ws, (tV n ws).isSome = Gr.rV n (ws.map tok)) ∧ (∀ ws, (tS n ws).isSome = Gr.rS n (ws.map tok)) ∧ (∀ ws, (tP n ws).isSome = Gr.rP n (ws.map tok)) ∧ (∀ ws, (tF n ws).isSome = Gr.rF n (ws.map tok))
  | 0 => ⟨fun _ => rfl, fun _ => rfl, fun _ => rfl, fun _ => rfl⟩
  | n + 1 => by
    obtain ⟨iV, iS, iP, iF⟩ := t_some n
    refine ⟨fun ws => ?_, fun ws => ?_, fun ws => ?_, fun ws => ?_⟩
    · show Option.isSome (match outP Gr.isCmp ws with | none => tS n ws | some k => join ws[k]? (tS n (ws.take k)) (tS n (ws.drop (k + 1)))) = (match Gr.lastOut Gr.isCmp (ws.map tok) with | none => Gr.rS n (ws.map tok) | some k => Gr.rS n ((ws.map tok).take k) && Gr.rS n ((ws.map tok).drop (k + 1)))
      unfold outP
      cases e : Gr.lastOut Gr.isCmp (ws.map tok) with
      | none => exact iS ws
      | some k =>
        show (join ws[k]? (tS n (ws.take k)) (tS n (ws.drop (k + 1)))).isSome = (Gr.rS n ((ws.map tok).take k) && Gr.rS n ((ws.map tok).drop (k + 1)))
        rw [join_some (at_some e), iS, iS, List.map_take, List.map_drop]
    · show Option.isSome (match outP Gr.isAdd ws with | none => tP n ws | some k => join ws[k]? (tS n (ws.take k)) (tP n (ws.drop (k + 1)))) = (match Gr.lastOut Gr.isAdd (ws.map tok) with | none => Gr.rP n (ws.map tok) | some k => Gr.rS n ((ws.map tok).take k) && Gr.rP n ((ws.map tok).drop (k + 1)))
      unfold outP
      cases e : Gr.lastOut Gr.isAdd (ws.map tok) with
      | none => exact iP ws
      | some k =>
        show (join ws[k]? (tS n (ws.take k)) (tP n (ws.drop (k + 1)))).isSome = (Gr.rS n ((ws.map tok).take k) && Gr.rP n ((ws.map tok).drop (k + 1)))
        rw [join_some (at_some e), iS, iP, List.map_take, List.map_drop]
    · show Option.isSome (match outP Gr.isStar ws with | none => tF n ws | some k => join ws[k]? (tP n (ws.take k)) (tF n (ws.drop (k + 1)))) = (match Gr.lastOut Gr.isStar (ws.map tok) with | none => Gr.rF n (ws.map tok) | some k => Gr.rP n ((ws.map tok).take k) && Gr.rF n ((ws.map tok).drop (k + 1)))
      unfold outP
      cases e : Gr.lastOut Gr.isStar (ws.map tok) with
      | none => exact iF ws
      | some k =>
        show (join ws[k]? (tP n (ws.take k)) (tF n (ws.drop (k + 1)))).isSome = (Gr.rP n ((ws.map tok).take k) && Gr.rF n ((ws.map tok).drop (k + 1)))
        rw [join_some (at_some e), iP, iF, List.map_take, List.map_drop]
    · match ws with
      | [] => rfl
      | [w] => exact atomT_some w
      | a :: b :: r =>
        have e1 : tF (n + 1) (a :: b :: r) = if decide ((a :: b :: r).length > 2) && (a :: b :: r).head? == some "(" && (a :: b :: r).getLast? == some ")" then tV n ((a :: b :: r).drop 1).dropLast else none := rfl
        have e2 : Gr.rF (n + 1) ((a :: b :: r).map tok) = (decide (((a :: b :: r).map tok).length > 2) && ((a :: b :: r).map tok).head? == some Gr.T.opn && ((a :: b :: r).map tok).getLast? == some Gr.T.cls && Gr.rV n (((a :: b :: r).map tok).drop 1).dropLast) := rfl
        rw [e1, e2, head_tok, last_tok, List.length_map, ← List.map_drop, ← List.map_dropLast, ← iV]
        cases (decide ((a :: b :: r).length > 2) && (a :: b :: r).head? == some "(" && (a :: b :: r).getLast? == some ")") <;> rfl
theorem readExpr_some (ws : List Str) : (readExpr ws).isSome = Gr.readV (4 * ws.length + 4) (ws.map tok) := by
  unfold readExpr Gr.readV
  rw [List.length_map, ← (t_some _).1]
  by_cases h1 : ws.length ≤ 40
  · by_cases h2 : Gr.most 0 (ws.map tok) ≤ 6
    · simp [h1, h2]
    · simp [h1, h2]
  · simp [h1]
noncomputable def Tr.vars : Tr → List Str
  | .num _ => []
  | .var x => [x]
  | .bin _ l r => l.vars ++ r.vars
theorem split_mem {ws : List Str} {k : Nat} {s : Str} (h : ws[k]? = some s) (x : Str) : x ∈ ws ↔ (x ∈ ws.take k ∨ x = s ∨ x ∈ ws.drop (k + 1)) := by
  obtain ⟨hk, e⟩ := List.getElem?_eq_some_iff.mp h
  have e2 : ws = ws.take k ++ s :: ws.drop (k + 1) := by
    conv => lhs; rw [← List.take_append_drop k ws]
    rw [List.drop_eq_getElem_cons hk, e]
  conv => lhs; rw [e2]
  simp
theorem join_eq {s : Option Str} {l r : Option Tr} {t : Tr} (h : join s l r = some t) : ∃ s' a b, s = some s' ∧ l = some a ∧ r = some b ∧ t = .bin s' a b := by
  cases s <;> cases l <;> cases r <;> first | (cases h; done) | skip
  exact ⟨_, _, _, rfl, rfl, rfl, (Option.some.inj h).symm⟩
theorem at_split {α : Type} {l : List α} {k : Nat} {w : α} (hk : k < l.length) (e : l = l.take k ++ w :: l.drop (k + 1)) : l[k]? = some w := by
  have e2 := (List.take_append_drop k l).trans e
  have e3 := List.append_cancel_left e2
  rw [List.drop_eq_getElem_cons hk] at e3
  injection e3 with e4 _
  rw [List.getElem?_eq_getElem hk, e4]
/-- the names in an expression are the variables of its tree -/
theorem t_vars : ∀ (n : Nat), (∀ ws t, tV n ws = some t → ∀ x, x ∈ t.vars ↔ (x ∈ ws ∧ isName x = true)) ∧ (∀ ws t, tS n ws = some t → ∀ x, x ∈ t.vars ↔ (x ∈ ws ∧ isName x = true)) ∧ (∀ ws t, tP n ws = some t → ∀ x, x ∈ t.vars ↔ (x ∈ ws ∧ isName x = true)) ∧ (∀ ws t, tF n ws = some t → ∀ x, x ∈ t.vars ↔ (x ∈ ws ∧ isName x = true))
  | 0 => ⟨(by intro _ _ h; cases h), (by intro _ _ h; cases h), (by intro _ _ h; cases h), (by intro _ _ h; cases h)⟩
  | n + 1 => by
    obtain ⟨iV, iS, iP, iF⟩ := t_vars n
    have mid : ∀ {p : Gr.T → Bool} {ws : List Str} {k : Nat} {s : Str}, outP p ws = some k → ws[k]? = some s → p Gr.T.atom = false → isName s = false := by
      intro p ws k s h1 h2 hp
      obtain ⟨l, w, hw, e⟩ := Gr.lastOut_split h1
      have e3 : (ws.map tok)[k]? = some w := at_split l e
      rw [List.getElem?_map, h2] at e3
      cases hn : isName s with
      | false => rfl
      | true =>
        rw [← Option.some.inj e3, name_atom hn, hp] at hw
        cases hw
    have both : ∀ {ws : List Str} {k : Nat} {s : Str} {a b : Tr}, ws[k]? = some s → isName s = false → (∀ x, x ∈ a.vars ↔ (x ∈ ws.take k ∧ isName x = true)) → (∀ x, x ∈ b.vars ↔ (x ∈ ws.drop (k + 1) ∧ isName x = true)) → ∀ x, x ∈ (Tr.bin s a b).vars ↔ (x ∈ ws ∧ isName x = true) := by
      intro ws k s a b h1 h2 h3 h4 x
      show x ∈ a.vars ++ b.vars ↔ _
      rw [List.mem_append, h3, h4, split_mem h1]
      constructor
      · rintro (⟨h, hn⟩ | ⟨h, hn⟩)
        · exact ⟨.inl h, hn⟩
        · exact ⟨.inr (.inr h), hn⟩
      · rintro ⟨h | h | h, hn⟩
        · exact .inl ⟨h, hn⟩
        · rw [h, h2] at hn; cases hn
        · exact .inr ⟨h, hn⟩
    refine ⟨fun ws t h => ?_, fun ws t h => ?_, fun ws t h => ?_, fun ws t h => ?_⟩
    · have h' : (match outP Gr.isCmp ws with | none => tS n ws | some k => join ws[k]? (tS n (ws.take k)) (tS n (ws.drop (k + 1)))) = some t := h
      cases e : outP Gr.isCmp ws with
      | none => rw [e] at h'; exact iS ws t h'
      | some k =>
        rw [e] at h'
        obtain ⟨s, a, b, h1, h2, h3, rfl⟩ := join_eq h'
        exact both h1 (mid e h1 rfl) (iS _ _ h2) (iS _ _ h3)
    · have h' : (match outP Gr.isAdd ws with | none => tP n ws | some k => join ws[k]? (tS n (ws.take k)) (tP n (ws.drop (k + 1)))) = some t := h
      cases e : outP Gr.isAdd ws with
      | none => rw [e] at h'; exact iP ws t h'
      | some k =>
        rw [e] at h'
        obtain ⟨s, a, b, h1, h2, h3, rfl⟩ := join_eq h'
        exact both h1 (mid e h1 rfl) (iS _ _ h2) (iP _ _ h3)
    · have h' : (match outP Gr.isStar ws with | none => tF n ws | some k => join ws[k]? (tP n (ws.take k)) (tF n (ws.drop (k + 1)))) = some t := h
      cases e : outP Gr.isStar ws with
      | none => rw [e] at h'; exact iF ws t h'
      | some k =>
        rw [e] at h'
        obtain ⟨s, a, b, h1, h2, h3, rfl⟩ := join_eq h'
        exact both h1 (mid e h1 rfl) (iP _ _ h2) (iF _ _ h3)
    · match ws, h with
      | [], h => cases h
      | [w], h =>
        have h' : atomT w = some t := h
        unfold atomT at h'
        intro x
        split at h'
        · rename_i hn
          cases h'
          show x ∈ [w] ↔ _
          simp only [List.mem_singleton]
          exact ⟨fun e => ⟨e, by rw [e]; exact hn⟩, fun e => e.1⟩
        · rename_i hn
          obtain ⟨i, _, rfl⟩ := Option.map_eq_some_iff.mp h'
          show x ∈ [] ↔ _
          simp only [List.mem_singleton, List.not_mem_nil, false_iff, not_and]
          rintro rfl
          exact hn
      | a :: b :: r, h =>
        have h' : (if decide ((a :: b :: r).length > 2) && (a :: b :: r).head? == some "(" && (a :: b :: r).getLast? == some ")" then tV n ((a :: b :: r).drop 1).dropLast else none) = some t := h
        split at h'
        · rename_i c
          simp only [Bool.and_eq_true, decide_eq_true_eq, beq_iff_eq] at c
          obtain ⟨⟨c1, c2⟩, c3⟩ := c
          intro x
          rw [iV _ _ h' x]
          have e : (a :: b :: r) = ("(" : Str) :: (((a :: b :: r).drop 1).dropLast ++ [(")" : Str)]) := by
            cases Option.some.inj c2
            have hr : b :: r ≠ [] := by simp
            have e1 := List.dropLast_concat_getLast hr
            rw [List.getLast?_cons, List.getLast?_eq_some_getLast hr] at c3
            have e2 : (b :: r).getLast hr = ")" := by simpa using c3
            rw [e2] at e1
            show ("(" : Str) :: b :: r = ("(" : Str) :: ((b :: r).dropLast ++ [(")" : Str)])
            rw [e1]
          have n1 : isName "(" = false := by decide +kernel
          have n2 : isName ")" = false := by decide +kernel
          conv => rhs; rw [e]
          simp only [List.mem_cons, List.mem_append, List.not_mem_nil, or_false]
          constructor
          · rintro ⟨h1, h2⟩
            exact ⟨.inr (.inl h1), h2⟩
          · rintro ⟨h1 | h1 | h1, h2⟩
            · rw [h1, n1] at h2; cases h2
            · exact ⟨h1, h2⟩
            · rw [h1, n2] at h2; cases h2
        · cases h'
theorem readExpr_vars {ws : List Str} {t : Tr} (h : readExpr ws = some t) (x : Str) : x ∈ t.vars ↔ (x ∈ ws ∧ isName x = true) := by
  unfold readExpr at h
  split at h
  · exact (t_vars _).1 ws t h x
  · cases h
end Mi

/-! words as texts: a sign in a text, the integer that digits write -/
namespace Ws
open PySem L2
theorem occ_go (s sub : Str) (hi : Nat) : ∀ (l : List Nat) (free : Nat), (∀ i ∈ l, free ≤ i) →
    (List.foldl (fun (b : Array Nat × Nat) i => if (decide (b.1.size < 1) && decide (b.2 ≤ i) && decide (i + sub.length ≤ hi) && Builtin.Str.subAt s sub i) = true then (b.1.push i, i + sub.length) else (b.1, b.2)) (#[], free) l).1.toList.isEmpty = !(l.any fun i => decide (i + sub.length ≤ hi) && Builtin.Str.subAt s sub i)
  | [], _, _ => rfl
  | i :: l, free, h => by
    rw [List.foldl_cons, List.any_cons]
    have hf : free ≤ i := h i (List.mem_cons_self ..)
    by_cases c : (decide (i + sub.length ≤ hi) && Builtin.Str.subAt s sub i) = true
    · have keep : ∀ (m : List Nat) (f : Nat), (List.foldl (fun (b : Array Nat × Nat) i => if (decide (b.1.size < 1) && decide (b.2 ≤ i) && decide (i + sub.length ≤ hi) && Builtin.Str.subAt s sub i) = true then (b.1.push i, i + sub.length) else (b.1, b.2)) (#[i], f) m).1.toList.isEmpty = false := by
        intro m
        induction m with
        | nil => intro f; rfl
        | cons x m ih =>
          intro f
          rw [List.foldl_cons, if_neg (by simp)]
          exact ih f
      rw [c, Bool.true_or, if_pos (by rw [Bool.and_assoc, c, Bool.and_true]; simp [hf])]
      exact keep l _
    · have c2 : (decide (i + sub.length ≤ hi) && Builtin.Str.subAt s sub i) = false := by simpa using c
      rw [if_neg (by rw [Bool.and_assoc, c2, Bool.and_false]; simp), c2, Bool.false_or]
      exact occ_go s sub hi l free fun j hj => h j (List.mem_cons_of_mem _ hj)
theorem occ_any (s sub : Str) : (Builtin.Str.occurrences s sub 0 s.length 1).isEmpty = !((List.range' 0 (s.length + 1)).any fun i => decide (i + sub.length ≤ s.length) && Builtin.Str.subAt s sub i) := by
  rw [← occ_go s sub s.length (List.range' 0 (s.length + 1)) 0 (fun _ _ => Nat.zero_le _)]
  unfold Builtin.Str.occurrences
  have e : ∀ (l : List Nat) (b : Array Nat × Nat), (forIn l b fun i (__s : Array Nat × Nat) => (if (decide (__s.1.size < 1) && decide (__s.2 ≤ i) && decide (i + sub.length ≤ s.length) && Builtin.Str.subAt s sub i) = true then pure (ForInStep.yield (__s.1.push i, i + sub.length)) else pure (ForInStep.yield (__s.1, __s.2)) : Id (ForInStep (Array Nat × Nat)))) = (List.foldl (fun (b : Array Nat × Nat) i => if (decide (b.1.size < 1) && decide (b.2 ≤ i) && decide (i + sub.length ≤ s.length) && Builtin.Str.subAt s sub i) = true then (b.1.push i, i + sub.length) else (b.1, b.2)) b l) := by
    intro l
    induction l with
    | nil => intro b; rfl
    | cons i l ih =>
      intro b
      rw [List.forIn_cons, List.foldl_cons]
      by_cases c : (decide (b.1.size < 1) && decide (b.2 ≤ i) && decide (i + sub.length ≤ s.length) && Builtin.Str.subAt s sub i) = true
      · rw [if_pos c, if_pos c]
        exact ih _
      · rw [if_neg c, if_neg c]
        exact ih _
  have sz : ({ start := 0, stop := s.length + 1, step := 1, step_pos := by decide } : Std.Legacy.Range).size = s.length + 1 := by
    simp [Std.Legacy.Range.size]
  have e2 := e (List.range' 0 ({ start := 0, stop := s.length + 1, step := 1, step_pos := by decide } : Std.Legacy.Range).size) (#[], 0)
  rw [sz] at e2
  simp only [Std.Legacy.Range.forIn_eq_forIn_range', sz]
  exact congrArg (fun z : Array Nat × Nat => z.1.toList.isEmpty) e2
theorem occ1 (s : Str) (c : Nat) : (!(Builtin.Str.occurrences s ⟨#[c]⟩ 0 s.length 1).isEmpty) = decide (c ∈ s.cps.toList) := by
  rw [occ_any, Bool.not_not, Bool.eq_iff_iff, List.any_eq_true, decide_eq_true_iff]
  constructor
  · rintro ⟨i, hi, h⟩
    rw [Bool.and_eq_true, decide_eq_true_iff] at h
    obtain ⟨h1, h2⟩ := h
    have h1' : i + 1 ≤ s.cps.size := h1
    have h2' : (s.cps.extract i (i + 1) == #[c]) = true := h2
    have h3 := eq_of_beq h2'
    have h4 : (s.cps.extract i (i + 1))[0]? = some c := by rw [h3]; rfl
    rw [Array.getElem?_extract] at h4
    simp at h4
    obtain ⟨_, h4⟩ := h4
    exact Array.mem_toList_iff.mpr (Array.mem_of_getElem? h4)
  · intro h
    obtain ⟨i, hi, e⟩ := List.mem_iff_getElem.mp h
    have hi' : i < s.cps.size := hi
    refine ⟨i, by rw [List.mem_range'_1]; show 0 ≤ i ∧ i < 0 + (s.cps.size + 1); omega, ?_⟩
    rw [Bool.and_eq_true, decide_eq_true_iff]
    refine ⟨hi', ?_⟩
    show (s.cps.extract i (i + 1) == #[c]) = true
    have e' : s.cps[i] = c := e
    rw [beq_iff_eq]
    apply Array.ext
    · simp; omega
    · intro j h1 h2
      simp at h1 h2
      have : j = 0 := by omega
      subst this
      simp [e']
open Mi (dig DIGITS allIn) in
theorem digits_text {w : Str} (h1 : w.cps.toList ≠ []) (h2 : allIn w DIGITS = true) (h3 : w.length ≤ 640) : intText? w = some (dig w) := by
  have hd : ∀ c ∈ w.cps.toList, 48 ≤ c ∧ c ≤ 57 := fun c hc => by
    unfold Mi.allIn at h2
    exact Mi.digit_range (of_decide_eq_true (List.all_eq_true.mp h2 c hc))
  have n0 : numTextOf w = w.cps.toList := by
    unfold numTextOf
    refine if_pos ?_
    rw [← Array.all_toList, List.all_eq_true]
    intro c hc
    have := hd c hc
    exact decide_eq_true (by omega)
  have n1 : numSeenOf w = w.cps.toList := by
    unfold numSeenOf
    rw [n0]
    have tw : ∀ l : List Nat, (∀ c ∈ l, 48 ≤ c ∧ c ≤ 57) → List.takeWhile (fun x => x != 0) l = l := by
      intro l
      induction l with
      | nil => intro _; rfl
      | cons c r ih =>
        intro hl
        have := hl c (List.mem_cons_self ..)
        rw [List.takeWhile_cons, if_pos (by simp; omega), ih fun x hx => hl x (List.mem_cons_of_mem _ hx)]
    exact tw _ hd
  have nb : ∀ l : List Nat, (∀ c ∈ l, 48 ≤ c ∧ c ≤ 57) → List.dropWhile NumText.blank l = l := by
    intro l hl
    cases l with
    | nil => rfl
    | cons c r =>
      have := hl c (List.mem_cons_self ..)
      refine List.dropWhile_cons_of_neg ?_
      unfold NumText.blank
      simp; omega
  have ns : ∀ l : List Nat, (∀ c ∈ l, 48 ≤ c ∧ c ≤ 57) → NumText.sign l = (false, l) := by
    intro l hl
    unfold NumText.sign
    split
    · have := hl 45 (List.mem_cons_self ..); omega
    · have := hl 43 (List.mem_cons_self ..); omega
    · rfl
  have nc : NumText.core w.cps.toList = w.cps.toList := by
    unfold NumText.core
    rw [nb _ hd, ns _ hd, nb _ (fun c hc => hd c (List.mem_reverse.mp hc)), List.reverse_reverse]
  unfold intText?
  rw [n0, n1, nc, if_pos (by simp)]
  have st : ∀ (l : List Nat) (a : Array Nat) (b : Bool), (∀ c ∈ l, 48 ≤ c ∧ c ≤ 57) → List.foldlM (NumText.step 10) (a, b) l = some (a ++ (l.map fun c => c - 48).toArray, b || !l.isEmpty) := by
    intro l
    induction l with
    | nil => intro a b _; simp
    | cons c r ih =>
      intro a b hl
      have h := hl c (List.mem_cons_self ..)
      have e : NumText.step 10 (a, b) c = some (a.push (c - 48), true) := by
        unfold NumText.step NumText.digit?
        rw [if_neg (by simp; omega), if_pos (by simp; omega)]
        exact if_pos (by omega)
      rw [List.foldlM_cons, e]
      show List.foldlM (NumText.step 10) (a.push (c - 48), true) r = _
      rw [ih _ _ fun x hx => hl x (List.mem_cons_of_mem _ hx)]
      simp
  have dg : NumText.digits? 10 w.cps.toList = some ((w.cps.toList.map fun c => c - 48).toArray) := by
    unfold NumText.digits?
    rw [st _ _ _ hd]
    cases hw : w.cps.toList with
    | nil => exact absurd hw h1
    | cons c r => simp
  have wo : ∀ (l : List Nat) (n : Nat), (∀ c ∈ l, 48 ≤ c ∧ c ≤ 57) → ((List.foldl (fun acc d => acc * 10 + d) n (l.map fun c => c - 48) : Nat) : Int) = l.foldl (fun (n : Int) (c : Nat) => 10 * n + ((c : Int) - 48)) (n : Int) := by
    intro l
    induction l with
    | nil => intro n _; rfl
    | cons c r ih =>
      intro n hl
      have h := hl c (List.mem_cons_self ..)
      rw [List.map_cons, List.foldl_cons, List.foldl_cons, ih _ fun x hx => hl x (List.mem_cons_of_mem _ hx)]
      congr 1
      omega
  rw [dg]
  have hl : w.cps.toList.length ≤ 640 := h3
  show (if (w.cps.toList.map fun c => c - 48).toArray.size ≤ 4300 then _ else _) = _
  rw [if_pos (by simp; exact Nat.le_trans h3 (by decide)), nb _ hd, ns _ hd]
  unfold NumText.worth
  rw [if_neg (by simp), ← Array.foldl_toList]
  show some _ = some _
  rw [wo _ 0 hd]
  rfl
end Ws
namespace Ws
open PySem L2
theorem lc_str {x : Str} {g : TG} {tt : TT} {te : TE} {vs : List Nat} {σ : St} {H1 : Hp} {D : Addr} {Qd : Hp → Prop} (Pv : Nat → Hp → Prop) (h0 : Pv 0 (upd H1 D (HO.lst [])))
    (st : ∀ (i c : Nat) (H : Hp), x.cps[i]? = some c → Pv i H → g (V.str ⟨#[c]⟩) (wipe σ vs) H fun σ2 H2 => wipe σ2 vs = wipe σ vs ∧ tt σ2 H2 fun b H3 => if b = true then te σ2 H3 fun y H4 => ∃ acc, H4 D = some (HO.lst acc) ∧ acc.length < sizeLine ∧ Pv (i + 1) (upd H4 D (HO.lst (acc ++ [y]))) else Pv (i + 1) H3)
    (hd : ∀ H, Pv x.cps.size H → Qd H) :
    ∃ W : Nat → Nat → Hp → Prop, (∃ m, W 0 m (upd H1 D (HO.lst []))) ∧ ∀ (i m : Nat) (H : Hp), W i m H → (Its x).stop i H ∧ Qd H ∨ (Its x).go i H ∧ ∃ Nx : Hp → Prop, (∀ H', Nx H' → ∃ m', m' < m ∧ W (i + 1) m' H') ∧
      ∀ (y : V) (H' : Hp), (Its x).yld i H y H' → g y (wipe σ vs) H' fun σ2 H2 => wipe σ2 vs = wipe σ vs ∧ tt σ2 H2 fun b H3 => if b = true then te σ2 H3 fun y H4 => ∃ acc, H4 D = some (HO.lst acc) ∧ acc.length < sizeLine ∧ Nx (upd H4 D (HO.lst (acc ++ [y]))) else Nx H3 := by
  refine ⟨fun i m H => i ≤ x.cps.size ∧ m = x.cps.size - i ∧ Pv i H, ⟨_, Nat.zero_le _, rfl, h0⟩, ?_⟩
  rintro i m H ⟨hi, hm, hp⟩
  by_cases e : i = x.cps.size
  · subst e
    exact .inl ⟨Nat.le_refl _, hd H hp⟩
  · have hl : i < x.cps.size := by omega
    refine .inr ⟨hl, fun H' => Pv (i + 1) H', fun H' h => ⟨x.cps.size - (i + 1), by omega, by omega, rfl, h⟩, ?_⟩
    rintro y H' ⟨rfl, c, hc, rfl⟩
    exact st i c H' hc hp
end Ws

namespace Ws
open PySem PySem.Spec PyProof.Rows L2
/-! ### more rules: data in a tuple; dicts of the module's text -/
section
variable {X : Cx}
noncomputable def rInDT (K : PySem.W.Frag) : R2 := fun x y H Q => ∃ d ds, Dp K H x d ∧ Dp K H y (.tuple ds) ∧ SeqAt.shaped d = true ∧ SeqAt.shaped (.tuple ds) = true ∧ Q (.bl (ds.any fun z => PyData.eqv z d)) H
theorem op_inDT (hu : X.A.units + 65 < cLine) : OpR X (compareOp .In) (rInDT X.K) := by
  intro pins s σ H x y v u Q I rx ry h
  obtain ⟨d, ds, hd, he, sd, se, q⟩ := h
  obtain ⟨as, r1⟩ := Dp.reads I d x v hd rx
  obtain ⟨bs, r2⟩ := Dp.reads I (.tuple ds) y u he ry
  exact SeqAt.in_tuple_reads r2 r1 (SeqAt.canLay_of_shaped se) (SeqAt.canLay_of_shaped sd) (room_in_shaped sd hu) ⟨.bl _, H, I, rfl, q⟩
/-! a dict of the module's text, keys texts -/
/-- at a: such a dict, that holds o at x -/
noncomputable def KHas (K : PySem.W.Frag) (w : World) (a : Addr) (x : Str) (o : Option V) : Prop :=
  ∃ es n r, KDict K w a es n ∧ PySem.W.nsIn K a x = some r ∧ RelO o r
theorem op_in_k : OpR X (compareOp .In) (fun x y H Q => ∃ (z : Str) (a : Addr) (o : Option V), x = .str z ∧ y = .ref a ∧ KHas X.K X.w a z o ∧ Q (.bl o.isSome) H) := by
  intro pins s σ H x y v u Q I rx ry h
  obtain ⟨z, a, o, rfl, rfl, ⟨es, n, r, D, e, ro⟩, q⟩ := h
  rw [ro.isSome_eq] at q
  exact op_in_kd D pins s σ H _ _ v u Q I rx ry ⟨z, r, rfl, rfl, e, q⟩
noncomputable def rIxK (K : PySem.W.Frag) (w : World) : R2 := fun x y H Q => ∃ (z : Str) (a : Addr) (v : V), x = .ref a ∧ y = .str z ∧ KHas K w a z (some v) ∧ Q v H
theorem ix_k : IxR X (rIxK X.K X.w) := by
  intro value slice pins s σ H x y v u Q I rx ry h hs
  obtain ⟨z, a, r, rfl, rfl, ⟨es, n, q0, D, e, ro⟩, q⟩ := h
  obtain ⟨u0, rfl, ru⟩ := RelO.some_of (v := r) (o := q0) ro
  exact ix_kdict value slice pins s σ H _ _ v u Q I rx ry ⟨a, z, r, rfl, rfl, ⟨es, n, u0, D.at_, D.lit, e, ru⟩, q⟩ hs
variable {o e : Expr} {apos cpos : Pos} {td ty : TE}
noncomputable def tKGet (K : PySem.W.Frag) (w : World) (td ty : TE) : TE := fun σ H Q => td σ H fun x H1 => ∃ a es n, x = .ref a ∧ KDict K w a es n ∧ ty σ H1 fun y H2 => ∃ z o, y = .str z ∧ KHas K w a z o ∧ Q (o.getD .non) H2
theorem pe_kget1 (ho : PE X o td) (he : PE X e ty) (m : M1 X o "get" apos e cpos) : PE X (.Call (.Attribute o "get" apos) [e] [] cpos) (tKGet X.K X.w td ty) := by
  refine ⟨fun pins s σ H Q I h => ?_⟩
  refine wpAny_Call_method m.base m.few m.line PySem.F.plainAttrs_dict PySem.F.slot_dict_get PySem.F.type_dict_get (thn (ho.run pins s σ H _ I h) fun u s1 ⟨x, H1, I1, rx, a, es, n, ex, D, q1⟩ => ?_)
  subst ex
  obtain rfl : u = Value.ref a := rx
  have hm := PySem.W.mapOf_K (prog := X.prog) (w := X.w) I1.kIn D.at_ D.lit
  refine ⟨hm.typeIs, hm.noDict, ?_⟩
  rw [m.trees]
  refine Calls.callWith_builtin rfl (Calls.evalArgs_plain (Calls.spliced_cons (thn (he.run pins s1 σ H1 _ I1 q1) fun iv s2 ⟨y, H2, I2, ry, z, ov, ey, g, q2⟩ => Calls.spliced_nil ?_)))
  subst ey
  obtain ⟨es', n', r, D', e, ro⟩ := g
  obtain ⟨t, rfl⟩ := ry
  have hm2 := PySem.W.mapOf_K (prog := X.prog) (w := X.w) I2.kIn D'.at_ D'.lit
  refine call_meetsIn PySem.F.slot_dict_get hm2.typeIs PySem.F.entry_dict_get (PySem.F.args_dict_get_2 _ _) (meets_dict_get (strKind X.prog X.w) a (strKind_is X.prog X.w z t) D'.low) ⟨_, hm2, ⟨_, H2, I2.tok _, ?_, q2⟩⟩
  rw [PySem.W.find_K D'.at_ e]
  exact ro.getD rfl
end
end Ws
namespace Ws
open PySem PySem.Spec PyProof.Rows L2
/-! ### tests of words -/
theorem hu65 {A : Around} {k : Nat} (hr : Room k A) : A.units + 65 < cLine := by have := hr.un; omega
theorem in_strs' (x : Str) (l : List Str) : inV (.str x) (l.map V.str) = decide (x ∈ l) := by
  unfold inV
  rw [List.any_map, Bool.eq_iff_iff, List.any_eq_true, decide_eq_true_iff]
  constructor
  · rintro ⟨y, hy, e⟩
    have e' : y = x := by simpa [eqV] using e
    exact e' ▸ hy
  · exact fun h => ⟨x, h, by simp [eqV]⟩
noncomputable def litsS : List Str → TA
  | [] => tNil
  | x :: r => tCons (tC (V.str x)) (litsS r)
theorem litsS_get : ∀ (ls : List Str) (σ : L2.St) (H : Hp) (Q : List V → Hp → Prop), litsS ls σ H Q ↔ Q (ls.map V.str) H
  | [], _, _, _ => Iff.rfl
  | x :: r, σ, H, Q => litsS_get r σ H fun vs H1 => Q (V.str x :: vs) H1
/-- a in ("..", ..) -/
theorem t_inS {K : PySem.W.Frag} {i : Nat} {a : Str} {ls : List Str} {σ : L2.St} {H : Hp} {Q : Bool → Hp → Prop} (h : σ[i]? = some (some (.str a))) (hz : ls.length ≤ 1000) (q : ∀ H', Same H H' → Q (decide (a ∈ ls)) H') :
    tTest (tOp (rIn K false) (tVar i) (tTup (litsS ls))) σ H Q := by
  refine ⟨_, h, ?_⟩
  refine (litsS_get ls σ H _).mpr ⟨by rw [List.length_map]; exact Nat.le_trans hz (by decide), fun p np => ?_⟩
  refine ⟨p, ls.map V.str, rfl, .inr (.inl (.inl upd_same)), rfl, by rw [List.all_map]; exact List.all_eq_true.mpr fun _ _ => rfl, _, rfl, ?_⟩
  show Q (inV (.str a) (ls.map V.str)) _
  rw [in_strs']
  exact q _ (Same.new np)
theorem decS {a z : Str} : decide (V.str a = V.str z) = decide (a = z) := by
  rw [Bool.eq_iff_iff, decide_eq_true_iff, decide_eq_true_iff]
  exact ⟨fun h => by injection h, fun h => by rw [h]⟩
theorem decI {a z : Int} : decide (V.int a = V.int z) = decide (a = z) := by
  rw [Bool.eq_iff_iff, decide_eq_true_iff, decide_eq_true_iff]
  exact ⟨fun h => by injection h, fun h => by rw [h]⟩
/-- a == "..", as a test and as a value -/
theorem t_eqS {i : Nat} {a z : Str} {σ : L2.St} {H : Hp} {Q : Bool → Hp → Prop} (h : σ[i]? = some (some (.str a))) (q : Q (decide (a = z)) H) : tTest (tOp rEq (tVar i) (tC (.str z))) σ H Q :=
  ⟨_, h, rfl, _, rfl, by rw [decS]; exact q⟩
theorem t_neS {i : Nat} {a z : Str} {σ : L2.St} {H : Hp} {Q : Bool → Hp → Prop} (h : σ[i]? = some (some (.str a))) (q : Q (!decide (a = z)) H) : tTest (tOp rNe (tVar i) (tC (.str z))) σ H Q :=
  ⟨_, h, rfl, _, rfl, by rw [decS]; exact q⟩
theorem e_eqS {i : Nat} {a z : Str} {σ : L2.St} {H : Hp} {Q : VK} (h : σ[i]? = some (some (.str a))) (q : Q (.bl (decide (a = z))) H) : tOp rEq (tVar i) (tC (.str z)) σ H Q :=
  ⟨_, h, rfl, by rw [decS]; exact q⟩
theorem e_eqI {i : Nat} {a z : Int} {σ : L2.St} {H : Hp} {Q : VK} (h : σ[i]? = some (some (.int a))) (q : Q (.bl (decide (a = z))) H) : tOp rEq (tVar i) (tC (.int z)) σ H Q :=
  ⟨_, h, rfl, by rw [decI]; exact q⟩
theorem t_eqI {i : Nat} {a z : Int} {σ : L2.St} {H : Hp} {Q : Bool → Hp → Prop} (h : σ[i]? = some (some (.int a))) (q : Q (decide (a = z)) H) : tTest (tOp rEq (tVar i) (tC (.int z))) σ H Q :=
  ⟨_, h, rfl, _, rfl, by rw [decI]; exact q⟩
/-- x and y, as values -/
theorem v_and {ta tb : TE} {σ : L2.St} {H : Hp} {Q : VK} {c : Bool} {d : Bool} (h : ta σ H fun x H1 => x = .bl c ∧ ((c = true → tb σ H1 fun y H2 => y = .bl d ∧ Q (.bl d) H2) ∧ (c = false → Q (.bl false) H1))) (mono : ∀ {H1 : Hp} {Q1 Q2 : VK}, (∀ x H', Q1 x H' → Q2 x H') → tb σ H1 Q1 → tb σ H1 Q2) (monoA : ∀ {Q1 Q2 : VK}, (∀ x H', Q1 x H' → Q2 x H') → ta σ H Q1 → ta σ H Q2) : tAndV ta tb σ H Q := by
  refine monoA (fun x H1 ⟨e, h1, h2⟩ => ⟨c, e, ?_⟩) h
  cases c with
  | true => exact iteT (mono (fun y H2 ⟨e, q⟩ => by rw [e]; exact q) (h1 rfl))
  | false => exact iteF (h2 rfl)
theorem at_last {xs : List V} {n : Nat} {v : V} (hn : 0 < n) (hl : xs.length = n) (h : xs[n - 1]? = some v) : atI xs (-1) = some v := by
  have hx : xs ≠ [] := by intro z; rw [z] at hl; simp at hl; omega
  have e := List.dropLast_concat_getLast hx
  have e2 : xs.getLast hx = v := by
    rw [List.getLast_eq_getElem]
    subst hl
    exact (List.getElem?_eq_some_iff.mp h).2
  rw [← e, e2]
  exact atI_last _ _
theorem decB {a z : Bool} : decide (V.bl a = V.bl z) = decide (a = z) := by
  rw [Bool.eq_iff_iff, decide_eq_true_iff, decide_eq_true_iff]
  exact ⟨fun h => by injection h, fun h => by rw [h]⟩
end Ws

namespace Ws
open PySem PySem.Spec PyProof.Rows L2
/-! ### a tuple looked up in a dict whose keys are texts -/
section
variable {prog : Program} {w : World} {A : Around} {E : Value → Shared → Prop} {s : Shared}
theorem find_str_tup {d a : Addr} {o : Obj} {es : Array DictEntry} {ep : Nat} {ks : List Key} {h : Int} {Q : Option Nat → Shared → Prop} (hu : A.units < cLine) (hkey : IsTupleKey (mixKind prog w) s.heap ks a)
    (ho : s.heap.get? d = some o) (hd : o.data = .dict es ep) (hs : ∀ e ∈ es, ∃ x t, e.key = .str x t) (q : Q none s) : wpAny (model prog w) A (dictFind d (.ref a) h) Q E s := by
  have hst : ∀ v ∈ (placesWithHash es.size (fun i => es[i]?.map (·.hash)) h).filterMap (fun i => es[i]?.map (·.key)), ∃ x t, v = .str x t := by
    intro v hv
    obtain ⟨i, _, hi⟩ := List.mem_filterMap.mp hv
    cases hei : es[i]? with
    | none => rw [hei] at hi; cases hi
    | some e =>
      rw [hei] at hi
      obtain rfl : e.key = v := by simpa using hi
      exact hs e (Array.mem_of_getElem? hei)
  have hany : ¬ (es.any fun e => e.key == Value.ref a && e.hash != h) = true := by
    rw [← Array.any_toList, List.any_eq_true]
    rintro ⟨e, hin, hc⟩
    obtain ⟨x, t, hx⟩ := hs e (Array.mem_toList_iff.mp hin)
    rw [hx] at hc
    simp at hc
  have hone : ¬ (((placesWithHash es.size (fun i => es[i]?.map (·.hash)) h).filterMap (fun i => es[i]?.map (·.key))) == [Value.ref a]) = true := by
    intro z
    have z := eq_of_beq z
    obtain ⟨x, t, e⟩ := hst (.ref a) (by rw [z]; exact List.mem_singleton.mpr rfl)
    cases e
  have quiet : ∀ {Q : Bool → Shared → Prop}, Q true s → wpAny (model prog w) A (eqIsQuiet 8 (.ref a)) Q E s := fun q => wpAny_eqIsQuiet_tuple hkey q
  have hT : ∃ items, s.heap.IsTuple a items := by
    obtain ⟨ot, items, n, h1, h2, h3, _⟩ := hkey
    exact ⟨items, ot, h1, h2, n, h3⟩
  obtain ⟨items, hT⟩ := hT
  unfold dictFind
  try with_reducible refine wpAny_holding ?_
  refine wpAny_bind (wpAny_dictEntries ho hd ?_)
  dsimp only
  rw [if_neg (show ¬ ((Value.ref a :: (placesWithHash es.size (fun i => es[i]?.map (·.hash)) h).filterMap (fun i => es[i]?.map (·.key))).all carriedByValue) = true by simp [carriedByValue])]
  rw [if_neg hany]
  rw [if_neg hone]
  have tell : ∀ {Q : Bool → Shared → Prop} (st : List Value), (∀ v ∈ st, ∃ x t, v = .str x t) → Q false s → wpAny (model prog w) A (tableMayTell (.ref a) st) Q E s := by
    intro Q st hst q
    unfold tableMayTell
    split
    · exact wpAny_pure q
    · refine wpAny_bind (quiet ?_)
      simp only [Bool.not_true, Bool.false_eq_true, if_false]
      refine wpAny_bind ?_
      refine wpAny_forIn_list _ (fun rest r s' => s' = s ∧ r = (none, ()) ∧ ∀ v ∈ rest, ∃ x t, v = .str x t) _ ?_ ?_ _ _ ⟨rfl, rfl, hst⟩
      · rintro x rest r s' ⟨rfl, rfl, hr⟩
        obtain ⟨k', b, rfl⟩ := hr x List.mem_cons_self
        refine wpAny_bind (wpAny_pure ?_)
        simp only [Bool.not_true, Bool.false_eq_true, if_false]
        exact wpAny_pure ⟨rfl, rfl, fun v hv => hr v (List.mem_cons_of_mem _ hv)⟩
      · rintro r s' ⟨rfl, rfl, _⟩
        exact wpAny_pure q
  refine wpAny_bind (tell _ hst ?_)
  rw [if_neg (by simp)]
  refine wpAny_bind ?_
  refine wpAny_forIn_list _ (fun rest b s' => s' = s ∧ b = (none, none)) _ ?_ ?_ _ _ ⟨rfl, rfl⟩
  · rintro x rest b s' ⟨rfl, rfl⟩
    cases hex : es[x]? with
    | none => exact wpAny_pure ⟨rfl, rfl⟩
    | some e =>
      dsimp only
      obtain ⟨y, t, hy⟩ := hs e (Array.mem_of_getElem? hex)
      by_cases hh : (e.hash == h) = true
      · rw [if_pos hh]
        rw [hy]
        refine wpAny_bind (wpAny_dictEpoch ho hd (wpAny_bind ((SeqAt.EqAt.str_tuple y t hT hu) _ _ _ _ (wpAny_bind (wpAny_dictEpoch ho hd ?_)))))
        show wpAny _ _ (if (ep != ep) = true then _ else _) _ E _
        rw [if_neg (by simp)]
        simp only [Bool.false_eq_true, if_false]
        refine wpAny_bind (wpAny_rule ?_)
        first | rw [if_neg (by simp)] | skip
        first
          | exact wpAny_pure ⟨rfl, rfl⟩
          | exact wpAny_bind (wpAny_pure (wpAny_pure ⟨rfl, rfl⟩))
      · rw [if_neg hh]
        exact wpAny_pure ⟨rfl, rfl⟩
  · rintro b s' ⟨rfl, rfl⟩
    exact wpAny_pure q
theorem get_str_tup {d a : Addr} {f : Str → Option Value} {ks : List Key} {Q : Option Value → Shared → Prop} (hu : A.units < cLine) (hkey : IsTupleKey (mixKind prog w) s.heap ks a)
    (hm : s.heap.MapOf (strKind prog w) d f) (q : Q none { s with toks := s.toks + (ks.length + 1) }) : wpAny (model prog w) A (dictGet d (.ref a)) Q E s := by
  obtain ⟨o, es, ep, ho, _, hd, hk, _⟩ := hm
  unfold dictGet
  try with_reducible refine wpAny_holding ?_
  refine wpAny_bind (wpAny_pyHash_tuple hu hkey ?_)
  refine wpAny_bind (find_str_tup hu (ks := ks) (s := { s with toks := s.toks + (ks.length + 1) }) hkey ho hd (fun e he => ?_) (wpAny_pure q))
  obtain ⟨k, h1, _⟩ := hk e he
  obtain ⟨t, ht⟩ := Value.isStrOf_shape (show Value.isStrOf k e.key = true from h1)
  exact ⟨k, t, ht⟩
theorem in_str_tup {d a : Addr} {f : Str → Option Value} {ks : List Key} {Q : Value → Shared → Prop} (hu : A.units + 1 < cLine) (hkey : IsTupleKey (mixKind prog w) s.heap ks a)
    (hd : (d == sysModules) = false) (hm : s.heap.MapOf (strKind prog w) d f) (q : Q (.bool false) { s with toks := s.toks + (ks.length + 1) }) : wpAny (model prog w) A (compareOp .In (.ref a) (.ref d)) Q E s := by
  show wpAny _ _ (do return .bool (← contains (.ref d) (.ref a))) Q E s
  refine wpAny_bind ?_
  unfold contains
  try with_reducible refine wpAny_holding ?_
  refine wpAny_bind (wpAny_specialOf hm.typeIs slot_dict_contains.lookup ?_)
  show wpAny _ _ (if (some (Value.builtin "dict.__contains__") == some Value.none) = true then _ else _) _ E s
  rw [if_neg (by rw [beq_builtin_none]; exact Bool.false_ne_true)]
  refine wpAny_bind (wpAny_callSpecialUnlessNone?_slot (name := Str.ofString "__contains__") hm.typeIs slot_dict_contains
    (wpAny_call_entry slot_dict_contains hm.typeIs entry_dict_contains ?_ (args_dict_contains _ _)))
  show wpAny _ _ (dictGet d (.ref a) >>= _) _ _ s
  refine wpAny_bind (get_str_tup (by exact hu) hkey hm ?_)
  show wpAny _ _ (Builtin.Dict.pendingKey? d (.ref a) >>= _) _ _ _
  exact wpAny_bind (wpAny_pendingKey_other hd (wpAny_pure ⟨_, rfl, wpAny_truthy_bool (wpAny_pure q)⟩))
end
section
variable {X : Cx}
/-- a tuple of ints and texts is no key of such a dict -/
theorem op_in_kT (hu : X.A.units + 1 < cLine) : OpR X (compareOp .In) (fun x y H Q => ∃ (p a : Addr) (ks : List Key) (es : Array DictEntry) (n : Nat), x = .ref p ∧ y = .ref a ∧ SqT X.K H p (ks.map kV) ∧ KDict X.K X.w a es n ∧ Q (.bl false) H) := by
  intro pins s σ H x y v u Q I rx ry h
  obtain ⟨p, a, ks, es, n, rfl, rfl, ht, D, q⟩ := h
  cases (show v = Value.ref p from rx)
  cases (show u = Value.ref a from ry)
  obtain ⟨us, r1, ⟨o1, e1, c1, n1, d1⟩, _⟩ := I.tuple ht
  have hm := PySem.W.mapOf_K (prog := X.prog) (w := X.w) I.kIn D.at_ D.lit
  refine in_str_tup hu ⟨o1, us.toArray, n1, e1, c1, d1, by simpa using items_are (P := X.prog) (w := X.w) r1⟩ D.low hm ⟨.bl false, H, I.tok _, rfl, q⟩
end
end Ws

/-! the forms of lines: the package's tables, the law's own looks, and one classification -/
namespace Mi
open PySem
inductive Wn where
  | LOCK | QUEUE | PART | TASK | LATER | VARIABLE
  deriving DecidableEq
inductive Sl where
  | lit (k : Kw) | num (lo hi : Int) | new | want (w : Wn) | value
  deriving DecidableEq
inductive PK where
  | cores | slice | lock | lent | queue | cell | part | task | later | work | set | ifk | elsek | endk | whilek | repeatk | get | unlock | put | take | sleep | start | wait | say
  deriving DecidableEq
inductive Fd where
  | w (x : Str) | i (n : Int) | t (tr : Tr)
noncomputable abbrev Rows := List (PK × List Sl)
noncomputable def CORES : Rows := [(.cores, [.lit .cores, .num 1 3])]
noncomputable def SLICE : Rows := [(.slice, [.lit .slice, .num 0 20])]
noncomputable def DECLARATIONS : Rows := [(.lock, [.lit .lock, .new]), (.lent, [.lit .lock, .new, .lit .lent]), (.queue, [.lit .queue, .new, .num 1 4]), (.cell, [.lit .cell, .new, .num 0 999]), (.part, [.lit .part, .new])]
noncomputable def TASKS : Rows := [(.task, [.lit .task, .new, .num 1 9]), (.later, [.lit .task, .new, .num 1 9, .lit .later])]
noncomputable def STATEMENTS : Rows := [(.work, [.lit .work, .num 0 99]), (.work, [.lit .work, .num 0 99, .want .PART]), (.set, [.want .VARIABLE, .lit .eq, .value]), (.ifk, [.lit .ifk, .value]), (.elsek, [.lit .elsek]), (.endk, [.lit .endk]), (.whilek, [.lit .whilek, .value]), (.repeatk, [.lit .repeatk, .num 0 50]),
  (.get, [.lit .lock, .want .LOCK]), (.unlock, [.lit .unlock, .want .LOCK]), (.put, [.lit .put, .want .QUEUE, .value]), (.take, [.lit .take, .want .QUEUE, .want .VARIABLE]), (.sleep, [.lit .sleep, .num 0 99]), (.start, [.lit .start, .want .LATER]), (.wait, [.lit .wait, .want .TASK]), (.say, [.lit .say, .value])]
noncomputable def readWord (w : Str) : Sl → Option Fd
  | .num lo hi => (wholeP w lo hi).map .i
  | .new => if isName w = true then some (.w w) else none
  | .want _ => if isName w = true then some (.w w) else none
  | .lit k => if kw w = k then some (.w w) else none
  | .value => none
noncomputable def readSlots : List Str → List Sl → Option (List Fd)
  | _, [] => some []
  | ws, .value :: r => match readExpr ws with
    | none => none
    | some t => (readSlots (ws.drop 1) r).map (.t t :: ·)
  | [], _ :: _ => none
  | w :: ws, s :: r => match readWord w s with
    | none => none
    | some x => (readSlots ws r).map (x :: ·)
noncomputable def hasLen (ws : List Str) (sl : List Sl) : Bool := if sl.getLast? = some .value then decide (sl.length ≤ ws.length) else decide (ws.length = sl.length)
structure Fm where
  kind : PK
  slots : List Sl
  found : List Fd
noncomputable def rowRead (ws : List Str) (r : PK × List Sl) : Option Fm := if hasLen ws r.2 = true then (readSlots ws r.2).map (Fm.mk r.1 r.2 ·) else none
noncomputable def readForm (ws : List Str) (t : Rows) : Option Fm := t.findSome? (rowRead ws)
/-- the names that a line uses, and as what -/
noncomputable def usesOf : List Sl → List Fd → List (Wn × Str)
  | .want n :: s, .w x :: f => (n, x) :: usesOf s f
  | .value :: s, .t t :: f => t.vars.map (fun x => (Wn.VARIABLE, x)) ++ usesOf s f
  | _ :: s, _ :: f => usesOf s f
  | _, _ => []
noncomputable def Fm.uses (f : Fm) : List (Wn × Str) := usesOf f.slots f.found
/-! ### what a line is -/
inductive K where
  | cores | slice | lock (x : Str) | lent (x : Str) | queue (x : Str) | cell (x : Str) | part (x : Str) | task (x : Str) | later (x : Str) | work (p : Option Str) | set (x : Str) (vs : List Str) | ifk (vs : List Str) | elsek | endk | whilek (vs : List Str) | repeatk
  | unlock (x : Str) | put (q : Str) (vs : List Str) | take (q v : Str) | sleep | start (x : Str) | wait (x : Str) | say (vs : List Str)
noncomputable def isVal (ws : List Str) : Bool := (readExpr ws).isSome
noncomputable def names (ws : List Str) : List Str := ws.filter isName
noncomputable def clsK (k : Kw) (a : Str) (r : List Str) : Option K := match k, r with
  | .cores, [b] => if wholeL b 1 3 = true then some .cores else none
  | .slice, [b] => if wholeL b 0 20 = true then some .slice else none
  | .lock, [b] => if isName b = true then some (.lock b) else none
  | .lock, [b, c] => if isName b = true ∧ kw c = .lent then some (.lent b) else none
  | .queue, [b, c] => if isName b = true ∧ wholeL c 1 4 = true then some (.queue b) else none
  | .cell, [b, c] => if isName b = true ∧ wholeL c 0 999 = true then some (.cell b) else none
  | .part, [b] => if isName b = true then some (.part b) else none
  | .task, [b, c] => if isName b = true ∧ wholeL c 1 9 = true then some (.task b) else none
  | .task, [b, c, d] => if isName b = true ∧ wholeL c 1 9 = true ∧ kw d = .later then some (.later b) else none
  | .work, [b] => if wholeL b 0 99 = true then some (.work none) else none
  | .work, [b, c] => if wholeL b 0 99 = true ∧ isName c = true then some (.work (some c)) else none
  | .ifk, vs => if isVal vs = true then some (.ifk (names vs)) else none
  | .elsek, [] => some .elsek
  | .endk, [] => some .endk
  | .whilek, vs => if isVal vs = true then some (.whilek (names vs)) else none
  | .repeatk, [b] => if wholeL b 0 50 = true then some .repeatk else none
  | .unlock, [b] => if isName b = true then some (.unlock b) else none
  | .put, b :: vs => if isName b = true ∧ isVal vs = true then some (.put b (names vs)) else none
  | .take, [b, c] => if isName b = true ∧ isName c = true then some (.take b c) else none
  | .sleep, [b] => if wholeL b 0 99 = true then some .sleep else none
  | .start, [b] => if isName b = true then some (.start b) else none
  | .wait, [b] => if isName b = true then some (.wait b) else none
  | .say, vs => if isVal vs = true then some (.say (names vs)) else none
  | .other, e :: vs => if isName a = true ∧ kw e = .eq ∧ isVal vs = true then some (.set a (names vs)) else none
  | _, _ => none
noncomputable def cls : List Str → Option K
  | [] => none
  | a :: r => clsK (kw a) a r
/-- what names a line uses -/
noncomputable def K.uses : K → List (Wn × Str)
  | .work (some p) => [(.PART, p)]
  | .set x vs => (.VARIABLE, x) :: vs.map (fun y => (Wn.VARIABLE, y))
  | .ifk vs => vs.map fun y => (Wn.VARIABLE, y)
  | .whilek vs => vs.map fun y => (Wn.VARIABLE, y)
  | .say vs => vs.map fun y => (Wn.VARIABLE, y)
  | .put q vs => (.QUEUE, q) :: vs.map (fun y => (Wn.VARIABLE, y))
  | .take q v => [(.QUEUE, q), (.VARIABLE, v)]
  | .unlock x => [(.LOCK, x)]
  | .start x => [(.LATER, x)]
  | .wait x => [(.TASK, x)]
  | _ => []
/-- where a line is told to stand: 0 first, 1 second, 2 ahead of the tasks, 3 behind the first task -/
inductive Pl where
  | first | second | decl | stmt
  deriving DecidableEq
noncomputable def Pl.rows : Pl → Rows
  | .first => CORES
  | .second => SLICE
  | .decl => DECLARATIONS ++ TASKS
  | .stmt => STATEMENTS ++ TASKS
/-- the package's kind of such a line there -/
noncomputable def K.pk : Pl → K → Option PK
  | .first, .cores => some .cores
  | .second, .slice => some .slice
  | .decl, .lock _ => some .lock
  | .decl, .lent _ => some .lent
  | .decl, .queue _ => some .queue
  | .decl, .cell _ => some .cell
  | .decl, .part _ => some .part
  | .decl, .task _ => some .task
  | .decl, .later _ => some .later
  | .stmt, .task _ => some .task
  | .stmt, .later _ => some .later
  | .stmt, .lock _ => some .get
  | .stmt, .work _ => some .work
  | .stmt, .set _ _ => some .set
  | .stmt, .ifk _ => some .ifk
  | .stmt, .elsek => some .elsek
  | .stmt, .endk => some .endk
  | .stmt, .whilek _ => some .whilek
  | .stmt, .repeatk => some .repeatk
  | .stmt, .unlock _ => some .unlock
  | .stmt, .put _ _ => some .put
  | .stmt, .take _ _ => some .take
  | .stmt, .sleep => some .sleep
  | .stmt, .start _ => some .start
  | .stmt, .wait _ => some .wait
  | .stmt, .say _ => some .say
  | _, _ => none
/-- the uses there: a lock that is got is used -/
noncomputable def K.usesAt : Pl → K → List (Wn × Str)
  | .stmt, .lock x => [(.LOCK, x)]
  | _, k => k.uses
noncomputable def K.name : K → Option Str
  | .lock x | .lent x | .queue x | .cell x | .part x | .task x | .later x => some x
  | _ => none
noncomputable def PK.declares : PK → Bool
  | .lock | .lent | .queue | .cell | .part | .task | .later => true
  | _ => false
structure Match (p : Pl) (k : K) (f : Fm) : Prop where
  kind : k.pk p = some f.kind
  name : f.kind.declares = true → ∃ x, k.name = some x ∧ f.found[1]? = some (.w x)
  uses : ∀ z, z ∈ f.uses ↔ z ∈ k.usesAt p
theorem wP {w : Str} {lo hi : Int} (h0 : 0 ≤ lo) (h1 : hi < 1000) : wholeL w lo hi = true ↔ ∃ i, wholeP w lo hi = some i := by
  rw [← whole_eq h0 h1, Option.isSome_iff_exists]
theorem wN {w : Str} {lo hi : Int} (h0 : 0 ≤ lo) (h1 : hi < 1000) : ¬ wholeL w lo hi = true ↔ wholeP w lo hi = none := by
  rw [wP h0 h1]
  cases wholeP w lo hi with
  | none => simp
  | some i => simp
theorem row_none {ws : List Str} {t : Rows} (h : ∀ r ∈ t, rowRead ws r = none) : readForm ws t = none := by
  unfold readForm
  rw [List.findSome?_eq_none_iff]
  exact h
/-! ### by first words -/
theorem rr_lit {a : Str} {r : List Str} {q : PK} {k : Kw} {s : List Sl} (h : kw a ≠ k) : rowRead (a :: r) (q, .lit k :: s) = none := by
  unfold rowRead
  split
  · show ((match readWord a (.lit k) with | none => none | some x => (readSlots r s).map (x :: ·)).map _) = none
    rw [show readWord a (.lit k) = none from if_neg h]
    rfl
  · rfl
theorem rr_want {a : Str} {r : List Str} {q : PK} {n : Wn} {s : List Sl} (h : isName a = false) : rowRead (a :: r) (q, .want n :: s) = none := by
  unfold rowRead
  split
  · show ((match readWord a (.want n) with | none => none | some x => (readSlots r s).map (x :: ·)).map _) = none
    rw [show readWord a (.want n) = none from if_neg (by rw [h]; simp)]
    rfl
  · rfl
noncomputable def keep (k : Kw) (x : PK × List Sl) : Bool := match x.2 with
  | .lit k' :: _ => decide (k' = k)
  | .want _ :: _ => decide (k = .other)
  | _ => true
theorem keep_no {a : Str} {r : List Str} {x : PK × List Sl} (h : keep (kw a) x = false) : rowRead (a :: r) x = none := by
  obtain ⟨q, s⟩ := x
  match s, h with
  | .lit k' :: s, h => exact rr_lit fun z => by rw [z] at h; simp [keep] at h
  | .want n :: s, h =>
    refine rr_want ?_
    cases hn : isName a with
    | false => rfl
    | true =>
      rw [name_other hn] at h
      simp [keep] at h
  | [], h => cases h
  | .num _ _ :: _, h => cases h
  | .new :: _, h => cases h
  | .value :: _, h => cases h
theorem filt (a : Str) (r : List Str) : ∀ t : Rows, readForm (a :: r) t = readForm (a :: r) (t.filter (keep (kw a)))
  | [] => rfl
  | x :: t => by
    rw [List.filter_cons]
    cases h : keep (kw a) x with
    | false =>
      unfold readForm
      rw [List.findSome?_cons, keep_no h]
      exact filt a r t
    | true =>
      unfold readForm
      rw [if_pos rfl, List.findSome?_cons, List.findSome?_cons]
      cases rowRead (a :: r) x with
      | none => exact filt a r t
      | some f => rfl
noncomputable def K.kwOf : K → Kw
  | .cores => .cores | .slice => .slice | .lock _ => .lock | .lent _ => .lock | .queue _ => .queue | .cell _ => .cell | .part _ => .part | .task _ => .task | .later _ => .task | .work _ => .work | .set _ _ => .other | .ifk _ => .ifk | .elsek => .elsek | .endk => .endk
  | .whilek _ => .whilek | .repeatk => .repeatk | .unlock _ => .unlock | .put _ _ => .put | .take _ _ => .take | .sleep => .sleep | .start _ => .start | .wait _ => .wait | .say _ => .say
theorem clsK_kw {k : Kw} {a : Str} {r : List Str} {z : K} (h : clsK k a r = some z) : z.kwOf = k := by
  unfold clsK at h
  split at h
  all_goals first
    | (cases h; rfl)
    | (split at h
       · cases h; rfl
       · cases h)
    | (cases h; done)
noncomputable def Fine (p : Pl) (ws : List Str) : Prop := (∃ k f, cls ws = some k ∧ readForm ws p.rows = some f ∧ Match p k f) ∨ (readForm ws p.rows = none ∧ ∀ k, cls ws = some k → k.pk p = none)
theorem fine_no {p : Pl} {k : Kw} {a : Str} {r : List Str} (hk : kw a = k) (h : p.rows.filter (keep k) = []) (hp : ∀ z : K, z.kwOf = k → z.pk p = none) : Fine p (a :: r) := by
  refine .inr ⟨?_, fun z hz => hp z ?_⟩
  · rw [filt, hk, h]
    rfl
  · have hz' : clsK (kw a) a r = some z := hz
    rw [clsK_kw hz', hk]
/-- the rows that are left are none -/
theorem fine_out {p : Pl} {a : Str} {r : List Str} {t : Rows} (h : p.rows.filter (keep (kw a)) = t) (hr : ∀ x ∈ t, rowRead (a :: r) x = none) (hc : clsK (kw a) a r = none) : Fine p (a :: r) := by
  refine .inr ⟨by rw [filt, h]; exact row_none hr, fun z hz => ?_⟩
  have hz' : clsK (kw a) a r = some z := hz
  rw [hc] at hz'
  cases hz'
theorem fine_hit1 {p : Pl} {a : Str} {r : List Str} {x : PK × List Sl} {t : Rows} {z : K} {f : Fm} (h : p.rows.filter (keep (kw a)) = x :: t) (hx : rowRead (a :: r) x = some f) (hc : clsK (kw a) a r = some z) (m : Match p z f) : Fine p (a :: r) := by
  refine .inl ⟨z, f, hc, ?_, m⟩
  rw [filt, h]
  unfold readForm
  rw [List.findSome?_cons, hx]
theorem fine_hit2 {p : Pl} {a : Str} {r : List Str} {x y : PK × List Sl} {t : Rows} {z : K} {f : Fm} (h : p.rows.filter (keep (kw a)) = x :: y :: t) (hx : rowRead (a :: r) x = none) (hy : rowRead (a :: r) y = some f) (hc : clsK (kw a) a r = some z) (m : Match p z f) : Fine p (a :: r) := by
  refine .inl ⟨z, f, hc, ?_, m⟩
  rw [filt, h]
  unfold readForm
  rw [List.findSome?_cons, hx, List.findSome?_cons, hy]
theorem val_uses {vs : List Str} {t : Tr} (h : readExpr vs = some t) (z : Wn × Str) : z ∈ t.vars.map (fun x => (Wn.VARIABLE, x)) ↔ z ∈ (names vs).map fun y => (Wn.VARIABLE, y) := by
  simp only [List.mem_map, names, List.mem_filter]
  constructor
  · rintro ⟨x, h1, h2⟩
    exact ⟨x, (readExpr_vars h x).mp h1, h2⟩
  · rintro ⟨x, h1, h2⟩
    exact ⟨x, (readExpr_vars h x).mpr h1, h2⟩
theorem isVal_nil : isVal [] = false := by decide +kernel
theorem expr_nil : readExpr [] = none := by
  have h := isVal_nil
  unfold isVal at h
  cases e : readExpr [] with
  | none => rfl
  | some t => rw [e] at h; cases h
theorem fine_first (a : Str) (r : List Str) : Fine .first (a :: r) := by
  cases hk : kw a
  case cores =>
    have ht : (Pl.rows .first).filter (keep (kw a)) = [(PK.cores, [.lit .cores, .num 1 3])] := by rw [hk]; rfl
    match r with
    | [] => exact fine_out ht (fun x hx => by rw [List.mem_singleton.mp hx]; simp [rowRead, hasLen, readSlots, readWord]) (by rw [hk]; simp [clsK])
    | [b] =>
      cases hb : wholeP b 1 3
      case none =>
        have gb := (wN (by decide) (by decide)).mpr hb
        exact fine_out ht (fun x hx => by rw [List.mem_singleton.mp hx]; simp [rowRead, hasLen, readSlots, readWord, hk, hb, gb]) (by rw [hk]; simp [clsK, hk, hb, gb])
      case some ib =>
        have gb := (wP (by decide) (by decide)).mpr ⟨_, hb⟩
        exact fine_hit1 (z := .cores) (f := ⟨.cores, [.lit .cores, .num 1 3], [.w a, .i ib]⟩) ht (by simp [rowRead, hasLen, readSlots, readWord, hk, hb, gb]) (by rw [hk]; simp [clsK, hk, hb, gb]) ⟨rfl, (fun z => by cases z), fun z => by simp [Fm.uses, usesOf, K.usesAt, K.uses]⟩
    | b :: x0 :: t => exact fine_out ht (fun x hx => by rw [List.mem_singleton.mp hx]; simp [rowRead, hasLen, readSlots, readWord]) (by rw [hk]; simp [clsK])
  case slice =>
    exact fine_no hk rfl (by intro z; cases z <;> simp [K.kwOf, K.pk])
  case lock =>
    exact fine_no hk rfl (by intro z; cases z <;> simp [K.kwOf, K.pk])
  case lent =>
    exact fine_no hk rfl (by intro z; cases z <;> simp [K.kwOf, K.pk])
  case queue =>
    exact fine_no hk rfl (by intro z; cases z <;> simp [K.kwOf, K.pk])
  case cell =>
    exact fine_no hk rfl (by intro z; cases z <;> simp [K.kwOf, K.pk])
  case part =>
    exact fine_no hk rfl (by intro z; cases z <;> simp [K.kwOf, K.pk])
  case task =>
    exact fine_no hk rfl (by intro z; cases z <;> simp [K.kwOf, K.pk])
  case later =>
    exact fine_no hk rfl (by intro z; cases z <;> simp [K.kwOf, K.pk])
  case work =>
    exact fine_no hk rfl (by intro z; cases z <;> simp [K.kwOf, K.pk])
  case ifk =>
    exact fine_no hk rfl (by intro z; cases z <;> simp [K.kwOf, K.pk])
  case elsek =>
    exact fine_no hk rfl (by intro z; cases z <;> simp [K.kwOf, K.pk])
  case endk =>
    exact fine_no hk rfl (by intro z; cases z <;> simp [K.kwOf, K.pk])
  case whilek =>
    exact fine_no hk rfl (by intro z; cases z <;> simp [K.kwOf, K.pk])
  case repeatk =>
    exact fine_no hk rfl (by intro z; cases z <;> simp [K.kwOf, K.pk])
  case unlock =>
    exact fine_no hk rfl (by intro z; cases z <;> simp [K.kwOf, K.pk])
  case put =>
    exact fine_no hk rfl (by intro z; cases z <;> simp [K.kwOf, K.pk])
  case take =>
    exact fine_no hk rfl (by intro z; cases z <;> simp [K.kwOf, K.pk])
  case sleep =>
    exact fine_no hk rfl (by intro z; cases z <;> simp [K.kwOf, K.pk])
  case start =>
    exact fine_no hk rfl (by intro z; cases z <;> simp [K.kwOf, K.pk])
  case wait =>
    exact fine_no hk rfl (by intro z; cases z <;> simp [K.kwOf, K.pk])
  case say =>
    exact fine_no hk rfl (by intro z; cases z <;> simp [K.kwOf, K.pk])
  case eq =>
    exact fine_no hk rfl (by intro z; cases z <;> simp [K.kwOf, K.pk])
  case other =>
    exact fine_no hk rfl (by intro z; cases z <;> simp [K.kwOf, K.pk])
theorem fine_second (a : Str) (r : List Str) : Fine .second (a :: r) := by
  cases hk : kw a
  case cores =>
    exact fine_no hk rfl (by intro z; cases z <;> simp [K.kwOf, K.pk])
  case slice =>
    have ht : (Pl.rows .second).filter (keep (kw a)) = [(PK.slice, [.lit .slice, .num 0 20])] := by rw [hk]; rfl
    match r with
    | [] => exact fine_out ht (fun x hx => by rw [List.mem_singleton.mp hx]; simp [rowRead, hasLen, readSlots, readWord]) (by rw [hk]; simp [clsK])
    | [b] =>
      cases hb : wholeP b 0 20
      case none =>
        have gb := (wN (by decide) (by decide)).mpr hb
        exact fine_out ht (fun x hx => by rw [List.mem_singleton.mp hx]; simp [rowRead, hasLen, readSlots, readWord, hk, hb, gb]) (by rw [hk]; simp [clsK, hk, hb, gb])
      case some ib =>
        have gb := (wP (by decide) (by decide)).mpr ⟨_, hb⟩
        exact fine_hit1 (z := .slice) (f := ⟨.slice, [.lit .slice, .num 0 20], [.w a, .i ib]⟩) ht (by simp [rowRead, hasLen, readSlots, readWord, hk, hb, gb]) (by rw [hk]; simp [clsK, hk, hb, gb]) ⟨rfl, (fun z => by cases z), fun z => by simp [Fm.uses, usesOf, K.usesAt, K.uses]⟩
    | b :: x0 :: t => exact fine_out ht (fun x hx => by rw [List.mem_singleton.mp hx]; simp [rowRead, hasLen, readSlots, readWord]) (by rw [hk]; simp [clsK])
  case lock =>
    exact fine_no hk rfl (by intro z; cases z <;> simp [K.kwOf, K.pk])
  case lent =>
    exact fine_no hk rfl (by intro z; cases z <;> simp [K.kwOf, K.pk])
  case queue =>
    exact fine_no hk rfl (by intro z; cases z <;> simp [K.kwOf, K.pk])
  case cell =>
    exact fine_no hk rfl (by intro z; cases z <;> simp [K.kwOf, K.pk])
  case part =>
    exact fine_no hk rfl (by intro z; cases z <;> simp [K.kwOf, K.pk])
  case task =>
    exact fine_no hk rfl (by intro z; cases z <;> simp [K.kwOf, K.pk])
  case later =>
    exact fine_no hk rfl (by intro z; cases z <;> simp [K.kwOf, K.pk])
  case work =>
    exact fine_no hk rfl (by intro z; cases z <;> simp [K.kwOf, K.pk])
  case ifk =>
    exact fine_no hk rfl (by intro z; cases z <;> simp [K.kwOf, K.pk])
  case elsek =>
    exact fine_no hk rfl (by intro z; cases z <;> simp [K.kwOf, K.pk])
  case endk =>
    exact fine_no hk rfl (by intro z; cases z <;> simp [K.kwOf, K.pk])
  case whilek =>
    exact fine_no hk rfl (by intro z; cases z <;> simp [K.kwOf, K.pk])
  case repeatk =>
    exact fine_no hk rfl (by intro z; cases z <;> simp [K.kwOf, K.pk])
  case unlock =>
    exact fine_no hk rfl (by intro z; cases z <;> simp [K.kwOf, K.pk])
  case put =>
    exact fine_no hk rfl (by intro z; cases z <;> simp [K.kwOf, K.pk])
  case take =>
    exact fine_no hk rfl (by intro z; cases z <;> simp [K.kwOf, K.pk])
  case sleep =>
    exact fine_no hk rfl (by intro z; cases z <;> simp [K.kwOf, K.pk])
  case start =>
    exact fine_no hk rfl (by intro z; cases z <;> simp [K.kwOf, K.pk])
  case wait =>
    exact fine_no hk rfl (by intro z; cases z <;> simp [K.kwOf, K.pk])
  case say =>
    exact fine_no hk rfl (by intro z; cases z <;> simp [K.kwOf, K.pk])
  case eq =>
    exact fine_no hk rfl (by intro z; cases z <;> simp [K.kwOf, K.pk])
  case other =>
    exact fine_no hk rfl (by intro z; cases z <;> simp [K.kwOf, K.pk])
theorem fine_decl (a : Str) (r : List Str) : Fine .decl (a :: r) := by
  cases hk : kw a
  case cores =>
    exact fine_no hk rfl (by intro z; cases z <;> simp [K.kwOf, K.pk])
  case slice =>
    exact fine_no hk rfl (by intro z; cases z <;> simp [K.kwOf, K.pk])
  case lock =>
    have ht : (Pl.rows .decl).filter (keep (kw a)) = [(PK.lock, [.lit .lock, .new]), (PK.lent, [.lit .lock, .new, .lit .lent])] := by rw [hk]; rfl
    match r with
    | [] => exact fine_out ht (fun x hx => by (rcases List.mem_cons.mp hx with e | hx); (rw [e]; simp [rowRead, hasLen, readSlots, readWord]); (rw [List.mem_singleton.mp hx]; simp [rowRead, hasLen, readSlots, readWord])) (by rw [hk]; simp [clsK])
    | [b] =>
      cases hb : isName b
      case false =>
        exact fine_out ht (fun x hx => by (rcases List.mem_cons.mp hx with e | hx); (rw [e]; simp [rowRead, hasLen, readSlots, readWord, hk, hb]); (rw [List.mem_singleton.mp hx]; simp [rowRead, hasLen, readSlots, readWord, hk, hb])) (by rw [hk]; simp [clsK, hk, hb])
      case true =>
        exact fine_hit1 (z := .lock b) (f := ⟨.lock, [.lit .lock, .new], [.w a, .w b]⟩) ht (by simp [rowRead, hasLen, readSlots, readWord, hk, hb]) (by rw [hk]; simp [clsK, hk, hb]) ⟨rfl, (fun _ => ⟨b, rfl, rfl⟩), fun z => by simp [Fm.uses, usesOf, K.usesAt, K.uses]⟩
    | [b, c] =>
      cases hb : isName b
      case false =>
        exact fine_out ht (fun x hx => by (rcases List.mem_cons.mp hx with e | hx); (rw [e]; simp [rowRead, hasLen, readSlots, readWord, hk, hb]); (rw [List.mem_singleton.mp hx]; simp [rowRead, hasLen, readSlots, readWord, hk, hb])) (by rw [hk]; simp [clsK, hk, hb])
      case true =>
        by_cases hc : kw c = .lent
        rotate_left
        ·
          exact fine_out ht (fun x hx => by (rcases List.mem_cons.mp hx with e | hx); (rw [e]; simp [rowRead, hasLen, readSlots, readWord, hk, hb, hc]); (rw [List.mem_singleton.mp hx]; simp [rowRead, hasLen, readSlots, readWord, hk, hb, hc])) (by rw [hk]; simp [clsK, hk, hb, hc])
        ·
          exact fine_hit2 (z := .lent b) (f := ⟨.lent, [.lit .lock, .new, .lit .lent], [.w a, .w b, .w c]⟩) ht (by simp [rowRead, hasLen, readSlots, readWord]) (by simp [rowRead, hasLen, readSlots, readWord, hk, hb, hc]) (by rw [hk]; simp [clsK, hk, hb, hc]) ⟨rfl, (fun _ => ⟨b, rfl, rfl⟩), fun z => by simp [Fm.uses, usesOf, K.usesAt, K.uses]⟩
    | b :: c :: x0 :: t => exact fine_out ht (fun x hx => by (rcases List.mem_cons.mp hx with e | hx); (rw [e]; simp [rowRead, hasLen, readSlots, readWord]); (rw [List.mem_singleton.mp hx]; simp [rowRead, hasLen, readSlots, readWord])) (by rw [hk]; simp [clsK])
  case lent =>
    exact fine_no hk rfl (by intro z; cases z <;> simp [K.kwOf, K.pk])
  case queue =>
    have ht : (Pl.rows .decl).filter (keep (kw a)) = [(PK.queue, [.lit .queue, .new, .num 1 4])] := by rw [hk]; rfl
    match r with
    | [] => exact fine_out ht (fun x hx => by rw [List.mem_singleton.mp hx]; simp [rowRead, hasLen, readSlots, readWord]) (by rw [hk]; simp [clsK])
    | [b] => exact fine_out ht (fun x hx => by rw [List.mem_singleton.mp hx]; simp [rowRead, hasLen, readSlots, readWord]) (by rw [hk]; simp [clsK])
    | [b, c] =>
      cases hb : isName b
      case false =>
        exact fine_out ht (fun x hx => by rw [List.mem_singleton.mp hx]; simp [rowRead, hasLen, readSlots, readWord, hk, hb]) (by rw [hk]; simp [clsK, hk, hb])
      case true =>
        cases hc : wholeP c 1 4
        case none =>
          have gc := (wN (by decide) (by decide)).mpr hc
          exact fine_out ht (fun x hx => by rw [List.mem_singleton.mp hx]; simp [rowRead, hasLen, readSlots, readWord, hk, hb, hc, gc]) (by rw [hk]; simp [clsK, hk, hb, hc, gc])
        case some ic =>
          have gc := (wP (by decide) (by decide)).mpr ⟨_, hc⟩
          exact fine_hit1 (z := .queue b) (f := ⟨.queue, [.lit .queue, .new, .num 1 4], [.w a, .w b, .i ic]⟩) ht (by simp [rowRead, hasLen, readSlots, readWord, hk, hb, hc, gc]) (by rw [hk]; simp [clsK, hk, hb, hc, gc]) ⟨rfl, (fun _ => ⟨b, rfl, rfl⟩), fun z => by simp [Fm.uses, usesOf, K.usesAt, K.uses]⟩
    | b :: c :: x0 :: t => exact fine_out ht (fun x hx => by rw [List.mem_singleton.mp hx]; simp [rowRead, hasLen, readSlots, readWord]) (by rw [hk]; simp [clsK])
  case cell =>
    have ht : (Pl.rows .decl).filter (keep (kw a)) = [(PK.cell, [.lit .cell, .new, .num 0 999])] := by rw [hk]; rfl
    match r with
    | [] => exact fine_out ht (fun x hx => by rw [List.mem_singleton.mp hx]; simp [rowRead, hasLen, readSlots, readWord]) (by rw [hk]; simp [clsK])
    | [b] => exact fine_out ht (fun x hx => by rw [List.mem_singleton.mp hx]; simp [rowRead, hasLen, readSlots, readWord]) (by rw [hk]; simp [clsK])
    | [b, c] =>
      cases hb : isName b
      case false =>
        exact fine_out ht (fun x hx => by rw [List.mem_singleton.mp hx]; simp [rowRead, hasLen, readSlots, readWord, hk, hb]) (by rw [hk]; simp [clsK, hk, hb])
      case true =>
        cases hc : wholeP c 0 999
        case none =>
          have gc := (wN (by decide) (by decide)).mpr hc
          exact fine_out ht (fun x hx => by rw [List.mem_singleton.mp hx]; simp [rowRead, hasLen, readSlots, readWord, hk, hb, hc, gc]) (by rw [hk]; simp [clsK, hk, hb, hc, gc])
        case some ic =>
          have gc := (wP (by decide) (by decide)).mpr ⟨_, hc⟩
          exact fine_hit1 (z := .cell b) (f := ⟨.cell, [.lit .cell, .new, .num 0 999], [.w a, .w b, .i ic]⟩) ht (by simp [rowRead, hasLen, readSlots, readWord, hk, hb, hc, gc]) (by rw [hk]; simp [clsK, hk, hb, hc, gc]) ⟨rfl, (fun _ => ⟨b, rfl, rfl⟩), fun z => by simp [Fm.uses, usesOf, K.usesAt, K.uses]⟩
    | b :: c :: x0 :: t => exact fine_out ht (fun x hx => by rw [List.mem_singleton.mp hx]; simp [rowRead, hasLen, readSlots, readWord]) (by rw [hk]; simp [clsK])
  case part =>
    have ht : (Pl.rows .decl).filter (keep (kw a)) = [(PK.part, [.lit .part, .new])] := by rw [hk]; rfl
    match r with
    | [] => exact fine_out ht (fun x hx => by rw [List.mem_singleton.mp hx]; simp [rowRead, hasLen, readSlots, readWord]) (by rw [hk]; simp [clsK])
    | [b] =>
      cases hb : isName b
      case false =>
        exact fine_out ht (fun x hx => by rw [List.mem_singleton.mp hx]; simp [rowRead, hasLen, readSlots, readWord, hk, hb]) (by rw [hk]; simp [clsK, hk, hb])
      case true =>
        exact fine_hit1 (z := .part b) (f := ⟨.part, [.lit .part, .new], [.w a, .w b]⟩) ht (by simp [rowRead, hasLen, readSlots, readWord, hk, hb]) (by rw [hk]; simp [clsK, hk, hb]) ⟨rfl, (fun _ => ⟨b, rfl, rfl⟩), fun z => by simp [Fm.uses, usesOf, K.usesAt, K.uses]⟩
    | b :: x0 :: t => exact fine_out ht (fun x hx => by rw [List.mem_singleton.mp hx]; simp [rowRead, hasLen, readSlots, readWord]) (by rw [hk]; simp [clsK])
  case task =>
    have ht : (Pl.rows .decl).filter (keep (kw a)) = [(PK.task, [.lit .task, .new, .num 1 9]), (PK.later, [.lit .task, .new, .num 1 9, .lit .later])] := by rw [hk]; rfl
    match r with
    | [] => exact fine_out ht (fun x hx => by (rcases List.mem_cons.mp hx with e | hx); (rw [e]; simp [rowRead, hasLen, readSlots, readWord]); (rw [List.mem_singleton.mp hx]; simp [rowRead, hasLen, readSlots, readWord])) (by rw [hk]; simp [clsK])
    | [b] => exact fine_out ht (fun x hx => by (rcases List.mem_cons.mp hx with e | hx); (rw [e]; simp [rowRead, hasLen, readSlots, readWord]); (rw [List.mem_singleton.mp hx]; simp [rowRead, hasLen, readSlots, readWord])) (by rw [hk]; simp [clsK])
    | [b, c] =>
      cases hb : isName b
      case false =>
        exact fine_out ht (fun x hx => by (rcases List.mem_cons.mp hx with e | hx); (rw [e]; simp [rowRead, hasLen, readSlots, readWord, hk, hb]); (rw [List.mem_singleton.mp hx]; simp [rowRead, hasLen, readSlots, readWord, hk, hb])) (by rw [hk]; simp [clsK, hk, hb])
      case true =>
        cases hc : wholeP c 1 9
        case none =>
          have gc := (wN (by decide) (by decide)).mpr hc
          exact fine_out ht (fun x hx => by (rcases List.mem_cons.mp hx with e | hx); (rw [e]; simp [rowRead, hasLen, readSlots, readWord, hk, hb, hc, gc]); (rw [List.mem_singleton.mp hx]; simp [rowRead, hasLen, readSlots, readWord, hk, hb, hc, gc])) (by rw [hk]; simp [clsK, hk, hb, hc, gc])
        case some ic =>
          have gc := (wP (by decide) (by decide)).mpr ⟨_, hc⟩
          exact fine_hit1 (z := .task b) (f := ⟨.task, [.lit .task, .new, .num 1 9], [.w a, .w b, .i ic]⟩) ht (by simp [rowRead, hasLen, readSlots, readWord, hk, hb, hc, gc]) (by rw [hk]; simp [clsK, hk, hb, hc, gc]) ⟨rfl, (fun _ => ⟨b, rfl, rfl⟩), fun z => by simp [Fm.uses, usesOf, K.usesAt, K.uses]⟩
    | [b, c, d] =>
      cases hb : isName b
      case false =>
        exact fine_out ht (fun x hx => by (rcases List.mem_cons.mp hx with e | hx); (rw [e]; simp [rowRead, hasLen, readSlots, readWord, hk, hb]); (rw [List.mem_singleton.mp hx]; simp [rowRead, hasLen, readSlots, readWord, hk, hb])) (by rw [hk]; simp [clsK, hk, hb])
      case true =>
        cases hc : wholeP c 1 9
        case none =>
          have gc := (wN (by decide) (by decide)).mpr hc
          exact fine_out ht (fun x hx => by (rcases List.mem_cons.mp hx with e | hx); (rw [e]; simp [rowRead, hasLen, readSlots, readWord, hk, hb, hc, gc]); (rw [List.mem_singleton.mp hx]; simp [rowRead, hasLen, readSlots, readWord, hk, hb, hc, gc])) (by rw [hk]; simp [clsK, hk, hb, hc, gc])
        case some ic =>
          have gc := (wP (by decide) (by decide)).mpr ⟨_, hc⟩
          by_cases hd : kw d = .later
          rotate_left
          ·
            exact fine_out ht (fun x hx => by (rcases List.mem_cons.mp hx with e | hx); (rw [e]; simp [rowRead, hasLen, readSlots, readWord, hk, hb, hc, gc, hd]); (rw [List.mem_singleton.mp hx]; simp [rowRead, hasLen, readSlots, readWord, hk, hb, hc, gc, hd])) (by rw [hk]; simp [clsK, hk, hb, hc, gc, hd])
          ·
            exact fine_hit2 (z := .later b) (f := ⟨.later, [.lit .task, .new, .num 1 9, .lit .later], [.w a, .w b, .i ic, .w d]⟩) ht (by simp [rowRead, hasLen, readSlots, readWord]) (by simp [rowRead, hasLen, readSlots, readWord, hk, hb, hc, gc, hd]) (by rw [hk]; simp [clsK, hk, hb, hc, gc, hd]) ⟨rfl, (fun _ => ⟨b, rfl, rfl⟩), fun z => by simp [Fm.uses, usesOf, K.usesAt, K.uses]⟩
    | b :: c :: d :: x0 :: t => exact fine_out ht (fun x hx => by (rcases List.mem_cons.mp hx with e | hx); (rw [e]; simp [rowRead, hasLen, readSlots, readWord]); (rw [List.mem_singleton.mp hx]; simp [rowRead, hasLen, readSlots, readWord])) (by rw [hk]; simp [clsK])
  case later =>
    exact fine_no hk rfl (by intro z; cases z <;> simp [K.kwOf, K.pk])
  case work =>
    exact fine_no hk rfl (by intro z; cases z <;> simp [K.kwOf, K.pk])
  case ifk =>
    exact fine_no hk rfl (by intro z; cases z <;> simp [K.kwOf, K.pk])
  case elsek =>
    exact fine_no hk rfl (by intro z; cases z <;> simp [K.kwOf, K.pk])
  case endk =>
    exact fine_no hk rfl (by intro z; cases z <;> simp [K.kwOf, K.pk])
  case whilek =>
    exact fine_no hk rfl (by intro z; cases z <;> simp [K.kwOf, K.pk])
  case repeatk =>
    exact fine_no hk rfl (by intro z; cases z <;> simp [K.kwOf, K.pk])
  case unlock =>
    exact fine_no hk rfl (by intro z; cases z <;> simp [K.kwOf, K.pk])
  case put =>
    exact fine_no hk rfl (by intro z; cases z <;> simp [K.kwOf, K.pk])
  case take =>
    exact fine_no hk rfl (by intro z; cases z <;> simp [K.kwOf, K.pk])
  case sleep =>
    exact fine_no hk rfl (by intro z; cases z <;> simp [K.kwOf, K.pk])
  case start =>
    exact fine_no hk rfl (by intro z; cases z <;> simp [K.kwOf, K.pk])
  case wait =>
    exact fine_no hk rfl (by intro z; cases z <;> simp [K.kwOf, K.pk])
  case say =>
    exact fine_no hk rfl (by intro z; cases z <;> simp [K.kwOf, K.pk])
  case eq =>
    exact fine_no hk rfl (by intro z; cases z <;> simp [K.kwOf, K.pk])
  case other =>
    exact fine_no hk rfl (by intro z; cases z <;> simp [K.kwOf, K.pk])
theorem fine_stmt (a : Str) (r : List Str) : Fine .stmt (a :: r) := by
  cases hk : kw a
  case cores =>
    exact fine_no hk rfl (by intro z; cases z <;> simp [K.kwOf, K.pk])
  case slice =>
    exact fine_no hk rfl (by intro z; cases z <;> simp [K.kwOf, K.pk])
  case lock =>
    have ht : (Pl.rows .stmt).filter (keep (kw a)) = [(PK.get, [.lit .lock, .want .LOCK])] := by rw [hk]; rfl
    match r with
    | [] => exact fine_out ht (fun x hx => by rw [List.mem_singleton.mp hx]; simp [rowRead, hasLen, readSlots, readWord]) (by rw [hk]; simp [clsK])
    | [b] =>
      cases hb : isName b
      case false =>
        exact fine_out ht (fun x hx => by rw [List.mem_singleton.mp hx]; simp [rowRead, hasLen, readSlots, readWord, hk, hb]) (by rw [hk]; simp [clsK, hk, hb])
      case true =>
        exact fine_hit1 (z := .lock b) (f := ⟨.get, [.lit .lock, .want .LOCK], [.w a, .w b]⟩) ht (by simp [rowRead, hasLen, readSlots, readWord, hk, hb]) (by rw [hk]; simp [clsK, hk, hb]) ⟨rfl, (fun z => by cases z), fun z => by simp [Fm.uses, usesOf, K.usesAt, K.uses]⟩
    | b :: x0 :: t =>
      refine .inr ⟨by rw [filt, ht]; exact row_none (fun x hx => by rw [List.mem_singleton.mp hx]; simp [rowRead, hasLen, readSlots, readWord]), fun z hz => ?_⟩
      have hz2 : clsK (kw a) a (b :: x0 :: t) = some z := hz
      rw [hk] at hz2
      match t, hz2 with
      | [], hz2 =>
        have hz3 : (if isName b = true ∧ kw x0 = .lent then some (K.lent b) else none) = some z := hz2
        split at hz3
        · cases hz3; rfl
        · cases hz3
      | _ :: _, hz2 => simp [clsK] at hz2
  case lent =>
    exact fine_no hk rfl (by intro z; cases z <;> simp [K.kwOf, K.pk])
  case queue =>
    exact fine_no hk rfl (by intro z; cases z <;> simp [K.kwOf, K.pk])
  case cell =>
    exact fine_no hk rfl (by intro z; cases z <;> simp [K.kwOf, K.pk])
  case part =>
    exact fine_no hk rfl (by intro z; cases z <;> simp [K.kwOf, K.pk])
  case task =>
    have ht : (Pl.rows .stmt).filter (keep (kw a)) = [(PK.task, [.lit .task, .new, .num 1 9]), (PK.later, [.lit .task, .new, .num 1 9, .lit .later])] := by rw [hk]; rfl
    match r with
    | [] => exact fine_out ht (fun x hx => by (rcases List.mem_cons.mp hx with e | hx); (rw [e]; simp [rowRead, hasLen, readSlots, readWord]); (rw [List.mem_singleton.mp hx]; simp [rowRead, hasLen, readSlots, readWord])) (by rw [hk]; simp [clsK])
    | [b] => exact fine_out ht (fun x hx => by (rcases List.mem_cons.mp hx with e | hx); (rw [e]; simp [rowRead, hasLen, readSlots, readWord]); (rw [List.mem_singleton.mp hx]; simp [rowRead, hasLen, readSlots, readWord])) (by rw [hk]; simp [clsK])
    | [b, c] =>
      cases hb : isName b
      case false =>
        exact fine_out ht (fun x hx => by (rcases List.mem_cons.mp hx with e | hx); (rw [e]; simp [rowRead, hasLen, readSlots, readWord, hk, hb]); (rw [List.mem_singleton.mp hx]; simp [rowRead, hasLen, readSlots, readWord, hk, hb])) (by rw [hk]; simp [clsK, hk, hb])
      case true =>
        cases hc : wholeP c 1 9
        case none =>
          have gc := (wN (by decide) (by decide)).mpr hc
          exact fine_out ht (fun x hx => by (rcases List.mem_cons.mp hx with e | hx); (rw [e]; simp [rowRead, hasLen, readSlots, readWord, hk, hb, hc, gc]); (rw [List.mem_singleton.mp hx]; simp [rowRead, hasLen, readSlots, readWord, hk, hb, hc, gc])) (by rw [hk]; simp [clsK, hk, hb, hc, gc])
        case some ic =>
          have gc := (wP (by decide) (by decide)).mpr ⟨_, hc⟩
          exact fine_hit1 (z := .task b) (f := ⟨.task, [.lit .task, .new, .num 1 9], [.w a, .w b, .i ic]⟩) ht (by simp [rowRead, hasLen, readSlots, readWord, hk, hb, hc, gc]) (by rw [hk]; simp [clsK, hk, hb, hc, gc]) ⟨rfl, (fun _ => ⟨b, rfl, rfl⟩), fun z => by simp [Fm.uses, usesOf, K.usesAt, K.uses]⟩
    | [b, c, d] =>
      cases hb : isName b
      case false =>
        exact fine_out ht (fun x hx => by (rcases List.mem_cons.mp hx with e | hx); (rw [e]; simp [rowRead, hasLen, readSlots, readWord, hk, hb]); (rw [List.mem_singleton.mp hx]; simp [rowRead, hasLen, readSlots, readWord, hk, hb])) (by rw [hk]; simp [clsK, hk, hb])
      case true =>
        cases hc : wholeP c 1 9
        case none =>
          have gc := (wN (by decide) (by decide)).mpr hc
          exact fine_out ht (fun x hx => by (rcases List.mem_cons.mp hx with e | hx); (rw [e]; simp [rowRead, hasLen, readSlots, readWord, hk, hb, hc, gc]); (rw [List.mem_singleton.mp hx]; simp [rowRead, hasLen, readSlots, readWord, hk, hb, hc, gc])) (by rw [hk]; simp [clsK, hk, hb, hc, gc])
        case some ic =>
          have gc := (wP (by decide) (by decide)).mpr ⟨_, hc⟩
          by_cases hd : kw d = .later
          rotate_left
          ·
            exact fine_out ht (fun x hx => by (rcases List.mem_cons.mp hx with e | hx); (rw [e]; simp [rowRead, hasLen, readSlots, readWord, hk, hb, hc, gc, hd]); (rw [List.mem_singleton.mp hx]; simp [rowRead, hasLen, readSlots, readWord, hk, hb, hc, gc, hd])) (by rw [hk]; simp [clsK, hk, hb, hc, gc, hd])
          ·
            exact fine_hit2 (z := .later b) (f := ⟨.later, [.lit .task, .new, .num 1 9, .lit .later], [.w a, .w b, .i ic, .w d]⟩) ht (by simp [rowRead, hasLen, readSlots, readWord]) (by simp [rowRead, hasLen, readSlots, readWord, hk, hb, hc, gc, hd]) (by rw [hk]; simp [clsK, hk, hb, hc, gc, hd]) ⟨rfl, (fun _ => ⟨b, rfl, rfl⟩), fun z => by simp [Fm.uses, usesOf, K.usesAt, K.uses]⟩
    | b :: c :: d :: x0 :: t => exact fine_out ht (fun x hx => by (rcases List.mem_cons.mp hx with e | hx); (rw [e]; simp [rowRead, hasLen, readSlots, readWord]); (rw [List.mem_singleton.mp hx]; simp [rowRead, hasLen, readSlots, readWord])) (by rw [hk]; simp [clsK])
  case later =>
    exact fine_no hk rfl (by intro z; cases z <;> simp [K.kwOf, K.pk])
  case work =>
    have ht : (Pl.rows .stmt).filter (keep (kw a)) = [(PK.work, [.lit .work, .num 0 99]), (PK.work, [.lit .work, .num 0 99, .want .PART])] := by rw [hk]; rfl
    match r with
    | [] => exact fine_out ht (fun x hx => by (rcases List.mem_cons.mp hx with e | hx); (rw [e]; simp [rowRead, hasLen, readSlots, readWord]); (rw [List.mem_singleton.mp hx]; simp [rowRead, hasLen, readSlots, readWord])) (by rw [hk]; simp [clsK])
    | [b] =>
      cases hb : wholeP b 0 99
      case none =>
        have gb := (wN (by decide) (by decide)).mpr hb
        exact fine_out ht (fun x hx => by (rcases List.mem_cons.mp hx with e | hx); (rw [e]; simp [rowRead, hasLen, readSlots, readWord, hk, hb, gb]); (rw [List.mem_singleton.mp hx]; simp [rowRead, hasLen, readSlots, readWord, hk, hb, gb])) (by rw [hk]; simp [clsK, hk, hb, gb])
      case some ib =>
        have gb := (wP (by decide) (by decide)).mpr ⟨_, hb⟩
        exact fine_hit1 (z := .work none) (f := ⟨.work, [.lit .work, .num 0 99], [.w a, .i ib]⟩) ht (by simp [rowRead, hasLen, readSlots, readWord, hk, hb, gb]) (by rw [hk]; simp [clsK, hk, hb, gb]) ⟨rfl, (fun z => by cases z), fun z => by simp [Fm.uses, usesOf, K.usesAt, K.uses]⟩
    | [b, c] =>
      cases hb : wholeP b 0 99
      case none =>
        have gb := (wN (by decide) (by decide)).mpr hb
        exact fine_out ht (fun x hx => by (rcases List.mem_cons.mp hx with e | hx); (rw [e]; simp [rowRead, hasLen, readSlots, readWord, hk, hb, gb]); (rw [List.mem_singleton.mp hx]; simp [rowRead, hasLen, readSlots, readWord, hk, hb, gb])) (by rw [hk]; simp [clsK, hk, hb, gb])
      case some ib =>
        have gb := (wP (by decide) (by decide)).mpr ⟨_, hb⟩
        cases hc : isName c
        case false =>
          exact fine_out ht (fun x hx => by (rcases List.mem_cons.mp hx with e | hx); (rw [e]; simp [rowRead, hasLen, readSlots, readWord, hk, hb, gb, hc]); (rw [List.mem_singleton.mp hx]; simp [rowRead, hasLen, readSlots, readWord, hk, hb, gb, hc])) (by rw [hk]; simp [clsK, hk, hb, gb, hc])
        case true =>
          exact fine_hit2 (z := .work (some c)) (f := ⟨.work, [.lit .work, .num 0 99, .want .PART], [.w a, .i ib, .w c]⟩) ht (by simp [rowRead, hasLen, readSlots, readWord]) (by simp [rowRead, hasLen, readSlots, readWord, hk, hb, gb, hc]) (by rw [hk]; simp [clsK, hk, hb, gb, hc]) ⟨rfl, (fun z => by cases z), fun z => by simp [Fm.uses, usesOf, K.usesAt, K.uses]⟩
    | b :: c :: x0 :: t => exact fine_out ht (fun x hx => by (rcases List.mem_cons.mp hx with e | hx); (rw [e]; simp [rowRead, hasLen, readSlots, readWord]); (rw [List.mem_singleton.mp hx]; simp [rowRead, hasLen, readSlots, readWord])) (by rw [hk]; simp [clsK])
  case ifk =>
    have ht : (Pl.rows .stmt).filter (keep (kw a)) = [(PK.ifk, [.lit .ifk, .value])] := by rw [hk]; rfl
    match r with
    | [] => exact fine_out ht (fun x hx => by rw [List.mem_singleton.mp hx]; simp [rowRead, hasLen, readSlots, readWord]) (by rw [hk]; simp [clsK, isVal_nil])
    | v :: t =>
      obtain ⟨vs, hvs⟩ : ∃ vs, vs = v :: t := ⟨_, rfl⟩
      cases he : readExpr (v :: t)
      case none =>
        exact fine_out ht (fun x hx => by rw [List.mem_singleton.mp hx]; simp [rowRead, hasLen, readSlots, readWord, hk, he]) (by rw [hk]; simp [clsK, isVal, he])
      case some tr =>
        refine fine_hit1 (z := .ifk (names (v :: t))) (f := ⟨.ifk, [.lit .ifk, .value], [.w a, .t tr]⟩) ht (by simp [rowRead, hasLen, readSlots, readWord, hk, he]) (by rw [hk]; simp [clsK, isVal, he]) ⟨rfl, (fun z => by cases z), fun z => ?_⟩
        have u := val_uses he z
        simp only [Fm.uses, usesOf, K.usesAt, K.uses, List.append_nil, List.mem_cons, u]
  case elsek =>
    have ht : (Pl.rows .stmt).filter (keep (kw a)) = [(PK.elsek, [.lit .elsek])] := by rw [hk]; rfl
    match r with
    | [] =>
      exact fine_hit1 (z := .elsek) (f := ⟨.elsek, [.lit .elsek], [.w a]⟩) ht (by simp [rowRead, hasLen, readSlots, readWord, hk]) (by rw [hk]; simp [clsK, hk]) ⟨rfl, (fun z => by cases z), fun z => by simp [Fm.uses, usesOf, K.usesAt, K.uses]⟩
    | x0 :: t => exact fine_out ht (fun x hx => by rw [List.mem_singleton.mp hx]; simp [rowRead, hasLen, readSlots, readWord]) (by rw [hk]; simp [clsK])
  case endk =>
    have ht : (Pl.rows .stmt).filter (keep (kw a)) = [(PK.endk, [.lit .endk])] := by rw [hk]; rfl
    match r with
    | [] =>
      exact fine_hit1 (z := .endk) (f := ⟨.endk, [.lit .endk], [.w a]⟩) ht (by simp [rowRead, hasLen, readSlots, readWord, hk]) (by rw [hk]; simp [clsK, hk]) ⟨rfl, (fun z => by cases z), fun z => by simp [Fm.uses, usesOf, K.usesAt, K.uses]⟩
    | x0 :: t => exact fine_out ht (fun x hx => by rw [List.mem_singleton.mp hx]; simp [rowRead, hasLen, readSlots, readWord]) (by rw [hk]; simp [clsK])
  case whilek =>
    have ht : (Pl.rows .stmt).filter (keep (kw a)) = [(PK.whilek, [.lit .whilek, .value])] := by rw [hk]; rfl
    match r with
    | [] => exact fine_out ht (fun x hx => by rw [List.mem_singleton.mp hx]; simp [rowRead, hasLen, readSlots, readWord]) (by rw [hk]; simp [clsK, isVal_nil])
    | v :: t =>
      obtain ⟨vs, hvs⟩ : ∃ vs, vs = v :: t := ⟨_, rfl⟩
      cases he : readExpr (v :: t)
      case none =>
        exact fine_out ht (fun x hx => by rw [List.mem_singleton.mp hx]; simp [rowRead, hasLen, readSlots, readWord, hk, he]) (by rw [hk]; simp [clsK, isVal, he])
      case some tr =>
        refine fine_hit1 (z := .whilek (names (v :: t))) (f := ⟨.whilek, [.lit .whilek, .value], [.w a, .t tr]⟩) ht (by simp [rowRead, hasLen, readSlots, readWord, hk, he]) (by rw [hk]; simp [clsK, isVal, he]) ⟨rfl, (fun z => by cases z), fun z => ?_⟩
        have u := val_uses he z
        simp only [Fm.uses, usesOf, K.usesAt, K.uses, List.append_nil, List.mem_cons, u]
  case repeatk =>
    have ht : (Pl.rows .stmt).filter (keep (kw a)) = [(PK.repeatk, [.lit .repeatk, .num 0 50])] := by rw [hk]; rfl
    match r with
    | [] => exact fine_out ht (fun x hx => by rw [List.mem_singleton.mp hx]; simp [rowRead, hasLen, readSlots, readWord]) (by rw [hk]; simp [clsK])
    | [b] =>
      cases hb : wholeP b 0 50
      case none =>
        have gb := (wN (by decide) (by decide)).mpr hb
        exact fine_out ht (fun x hx => by rw [List.mem_singleton.mp hx]; simp [rowRead, hasLen, readSlots, readWord, hk, hb, gb]) (by rw [hk]; simp [clsK, hk, hb, gb])
      case some ib =>
        have gb := (wP (by decide) (by decide)).mpr ⟨_, hb⟩
        exact fine_hit1 (z := .repeatk) (f := ⟨.repeatk, [.lit .repeatk, .num 0 50], [.w a, .i ib]⟩) ht (by simp [rowRead, hasLen, readSlots, readWord, hk, hb, gb]) (by rw [hk]; simp [clsK, hk, hb, gb]) ⟨rfl, (fun z => by cases z), fun z => by simp [Fm.uses, usesOf, K.usesAt, K.uses]⟩
    | b :: x0 :: t => exact fine_out ht (fun x hx => by rw [List.mem_singleton.mp hx]; simp [rowRead, hasLen, readSlots, readWord]) (by rw [hk]; simp [clsK])
  case unlock =>
    have ht : (Pl.rows .stmt).filter (keep (kw a)) = [(PK.unlock, [.lit .unlock, .want .LOCK])] := by rw [hk]; rfl
    match r with
    | [] => exact fine_out ht (fun x hx => by rw [List.mem_singleton.mp hx]; simp [rowRead, hasLen, readSlots, readWord]) (by rw [hk]; simp [clsK])
    | [b] =>
      cases hb : isName b
      case false =>
        exact fine_out ht (fun x hx => by rw [List.mem_singleton.mp hx]; simp [rowRead, hasLen, readSlots, readWord, hk, hb]) (by rw [hk]; simp [clsK, hk, hb])
      case true =>
        exact fine_hit1 (z := .unlock b) (f := ⟨.unlock, [.lit .unlock, .want .LOCK], [.w a, .w b]⟩) ht (by simp [rowRead, hasLen, readSlots, readWord, hk, hb]) (by rw [hk]; simp [clsK, hk, hb]) ⟨rfl, (fun z => by cases z), fun z => by simp [Fm.uses, usesOf, K.usesAt, K.uses]⟩
    | b :: x0 :: t => exact fine_out ht (fun x hx => by rw [List.mem_singleton.mp hx]; simp [rowRead, hasLen, readSlots, readWord]) (by rw [hk]; simp [clsK])
  case put =>
    have ht : (Pl.rows .stmt).filter (keep (kw a)) = [(PK.put, [.lit .put, .want .QUEUE, .value])] := by rw [hk]; rfl
    match r with
    | [] => exact fine_out ht (fun x hx => by rw [List.mem_singleton.mp hx]; simp [rowRead, hasLen, readSlots, readWord]) (by rw [hk]; simp [clsK, isVal_nil])
    | [b] => exact fine_out ht (fun x hx => by rw [List.mem_singleton.mp hx]; simp [rowRead, hasLen, readSlots, readWord]) (by rw [hk]; simp [clsK, isVal_nil])
    | b :: v :: t =>
      obtain ⟨vs, hvs⟩ : ∃ vs, vs = v :: t := ⟨_, rfl⟩
      cases hb : isName b
      case false =>
        exact fine_out ht (fun x hx => by rw [List.mem_singleton.mp hx]; simp [rowRead, hasLen, readSlots, readWord, hk, hb]) (by rw [hk]; simp [clsK, isVal, hb])
      case true =>
        cases he : readExpr (v :: t)
        case none =>
          exact fine_out ht (fun x hx => by rw [List.mem_singleton.mp hx]; simp [rowRead, hasLen, readSlots, readWord, hk, hb, he]) (by rw [hk]; simp [clsK, isVal, hb, he])
        case some tr =>
          refine fine_hit1 (z := .put b (names (v :: t))) (f := ⟨.put, [.lit .put, .want .QUEUE, .value], [.w a, .w b, .t tr]⟩) ht (by simp [rowRead, hasLen, readSlots, readWord, hk, hb, he]) (by rw [hk]; simp [clsK, isVal, hb, he]) ⟨rfl, (fun z => by cases z), fun z => ?_⟩
          have u := val_uses he z
          simp only [Fm.uses, usesOf, K.usesAt, K.uses, List.append_nil, List.mem_cons, u]
  case take =>
    have ht : (Pl.rows .stmt).filter (keep (kw a)) = [(PK.take, [.lit .take, .want .QUEUE, .want .VARIABLE])] := by rw [hk]; rfl
    match r with
    | [] => exact fine_out ht (fun x hx => by rw [List.mem_singleton.mp hx]; simp [rowRead, hasLen, readSlots, readWord]) (by rw [hk]; simp [clsK])
    | [b] => exact fine_out ht (fun x hx => by rw [List.mem_singleton.mp hx]; simp [rowRead, hasLen, readSlots, readWord]) (by rw [hk]; simp [clsK])
    | [b, c] =>
      cases hb : isName b
      case false =>
        exact fine_out ht (fun x hx => by rw [List.mem_singleton.mp hx]; simp [rowRead, hasLen, readSlots, readWord, hk, hb]) (by rw [hk]; simp [clsK, hk, hb])
      case true =>
        cases hc : isName c
        case false =>
          exact fine_out ht (fun x hx => by rw [List.mem_singleton.mp hx]; simp [rowRead, hasLen, readSlots, readWord, hk, hb, hc]) (by rw [hk]; simp [clsK, hk, hb, hc])
        case true =>
          exact fine_hit1 (z := .take b c) (f := ⟨.take, [.lit .take, .want .QUEUE, .want .VARIABLE], [.w a, .w b, .w c]⟩) ht (by simp [rowRead, hasLen, readSlots, readWord, hk, hb, hc]) (by rw [hk]; simp [clsK, hk, hb, hc]) ⟨rfl, (fun z => by cases z), fun z => by simp [Fm.uses, usesOf, K.usesAt, K.uses]⟩
    | b :: c :: x0 :: t => exact fine_out ht (fun x hx => by rw [List.mem_singleton.mp hx]; simp [rowRead, hasLen, readSlots, readWord]) (by rw [hk]; simp [clsK])
  case sleep =>
    have ht : (Pl.rows .stmt).filter (keep (kw a)) = [(PK.sleep, [.lit .sleep, .num 0 99])] := by rw [hk]; rfl
    match r with
    | [] => exact fine_out ht (fun x hx => by rw [List.mem_singleton.mp hx]; simp [rowRead, hasLen, readSlots, readWord]) (by rw [hk]; simp [clsK])
    | [b] =>
      cases hb : wholeP b 0 99
      case none =>
        have gb := (wN (by decide) (by decide)).mpr hb
        exact fine_out ht (fun x hx => by rw [List.mem_singleton.mp hx]; simp [rowRead, hasLen, readSlots, readWord, hk, hb, gb]) (by rw [hk]; simp [clsK, hk, hb, gb])
      case some ib =>
        have gb := (wP (by decide) (by decide)).mpr ⟨_, hb⟩
        exact fine_hit1 (z := .sleep) (f := ⟨.sleep, [.lit .sleep, .num 0 99], [.w a, .i ib]⟩) ht (by simp [rowRead, hasLen, readSlots, readWord, hk, hb, gb]) (by rw [hk]; simp [clsK, hk, hb, gb]) ⟨rfl, (fun z => by cases z), fun z => by simp [Fm.uses, usesOf, K.usesAt, K.uses]⟩
    | b :: x0 :: t => exact fine_out ht (fun x hx => by rw [List.mem_singleton.mp hx]; simp [rowRead, hasLen, readSlots, readWord]) (by rw [hk]; simp [clsK])
  case start =>
    have ht : (Pl.rows .stmt).filter (keep (kw a)) = [(PK.start, [.lit .start, .want .LATER])] := by rw [hk]; rfl
    match r with
    | [] => exact fine_out ht (fun x hx => by rw [List.mem_singleton.mp hx]; simp [rowRead, hasLen, readSlots, readWord]) (by rw [hk]; simp [clsK])
    | [b] =>
      cases hb : isName b
      case false =>
        exact fine_out ht (fun x hx => by rw [List.mem_singleton.mp hx]; simp [rowRead, hasLen, readSlots, readWord, hk, hb]) (by rw [hk]; simp [clsK, hk, hb])
      case true =>
        exact fine_hit1 (z := .start b) (f := ⟨.start, [.lit .start, .want .LATER], [.w a, .w b]⟩) ht (by simp [rowRead, hasLen, readSlots, readWord, hk, hb]) (by rw [hk]; simp [clsK, hk, hb]) ⟨rfl, (fun z => by cases z), fun z => by simp [Fm.uses, usesOf, K.usesAt, K.uses]⟩
    | b :: x0 :: t => exact fine_out ht (fun x hx => by rw [List.mem_singleton.mp hx]; simp [rowRead, hasLen, readSlots, readWord]) (by rw [hk]; simp [clsK])
  case wait =>
    have ht : (Pl.rows .stmt).filter (keep (kw a)) = [(PK.wait, [.lit .wait, .want .TASK])] := by rw [hk]; rfl
    match r with
    | [] => exact fine_out ht (fun x hx => by rw [List.mem_singleton.mp hx]; simp [rowRead, hasLen, readSlots, readWord]) (by rw [hk]; simp [clsK])
    | [b] =>
      cases hb : isName b
      case false =>
        exact fine_out ht (fun x hx => by rw [List.mem_singleton.mp hx]; simp [rowRead, hasLen, readSlots, readWord, hk, hb]) (by rw [hk]; simp [clsK, hk, hb])
      case true =>
        exact fine_hit1 (z := .wait b) (f := ⟨.wait, [.lit .wait, .want .TASK], [.w a, .w b]⟩) ht (by simp [rowRead, hasLen, readSlots, readWord, hk, hb]) (by rw [hk]; simp [clsK, hk, hb]) ⟨rfl, (fun z => by cases z), fun z => by simp [Fm.uses, usesOf, K.usesAt, K.uses]⟩
    | b :: x0 :: t => exact fine_out ht (fun x hx => by rw [List.mem_singleton.mp hx]; simp [rowRead, hasLen, readSlots, readWord]) (by rw [hk]; simp [clsK])
  case say =>
    have ht : (Pl.rows .stmt).filter (keep (kw a)) = [(PK.say, [.lit .say, .value])] := by rw [hk]; rfl
    match r with
    | [] => exact fine_out ht (fun x hx => by rw [List.mem_singleton.mp hx]; simp [rowRead, hasLen, readSlots, readWord]) (by rw [hk]; simp [clsK, isVal_nil])
    | v :: t =>
      obtain ⟨vs, hvs⟩ : ∃ vs, vs = v :: t := ⟨_, rfl⟩
      cases he : readExpr (v :: t)
      case none =>
        exact fine_out ht (fun x hx => by rw [List.mem_singleton.mp hx]; simp [rowRead, hasLen, readSlots, readWord, hk, he]) (by rw [hk]; simp [clsK, isVal, he])
      case some tr =>
        refine fine_hit1 (z := .say (names (v :: t))) (f := ⟨.say, [.lit .say, .value], [.w a, .t tr]⟩) ht (by simp [rowRead, hasLen, readSlots, readWord, hk, he]) (by rw [hk]; simp [clsK, isVal, he]) ⟨rfl, (fun z => by cases z), fun z => ?_⟩
        have u := val_uses he z
        simp only [Fm.uses, usesOf, K.usesAt, K.uses, List.append_nil, List.mem_cons, u]
  case eq =>
    exact fine_no hk rfl (by intro z; cases z <;> simp [K.kwOf, K.pk])
  case other =>
    have ht : (Pl.rows .stmt).filter (keep (kw a)) = [(PK.set, [.want .VARIABLE, .lit .eq, .value])] := by rw [hk]; rfl
    cases hn : isName a
    case false =>
      refine fine_out ht (fun x hx => by rw [List.mem_singleton.mp hx]; exact rr_want hn) ?_
      unfold clsK
      rw [hk]
      split <;> simp_all
    case true =>
      match r with
      | [] => exact fine_out ht (fun x hx => by rw [List.mem_singleton.mp hx]; simp [rowRead, hasLen, readSlots, readWord]) (by rw [hk]; simp [clsK, isVal_nil])
      | [b] => exact fine_out ht (fun x hx => by rw [List.mem_singleton.mp hx]; simp [rowRead, hasLen, readSlots, readWord]) (by rw [hk]; simp [clsK, isVal_nil])
      | b :: v :: t =>
        obtain ⟨vs, hvs⟩ : ∃ vs, vs = v :: t := ⟨_, rfl⟩
        by_cases hb : kw b = .eq
        rotate_left
        ·
          exact fine_out ht (fun x hx => by rw [List.mem_singleton.mp hx]; simp [rowRead, hasLen, readSlots, readWord, hk, hb, hn]) (by rw [hk]; simp [clsK, isVal, hb, hn])
        ·
          cases he : readExpr (v :: t)
          case none =>
            exact fine_out ht (fun x hx => by rw [List.mem_singleton.mp hx]; simp [rowRead, hasLen, readSlots, readWord, hk, hb, hn, he]) (by rw [hk]; simp [clsK, isVal, hb, hn, he])
          case some tr =>
            refine fine_hit1 (z := .set a (names (v :: t))) (f := ⟨.set, [.want .VARIABLE, .lit .eq, .value], [.w a, .w b, .t tr]⟩) ht (by simp [rowRead, hasLen, readSlots, readWord, hk, hb, hn, he]) (by rw [hk]; simp [clsK, isVal, hb, hn, he]) ⟨rfl, (fun z => by cases z), fun z => ?_⟩
            have u := val_uses he z
            simp only [Fm.uses, usesOf, K.usesAt, K.uses, List.append_nil, List.mem_cons, u]
end Mi

/-! the law's own look at a line -/
namespace Mi
open PySem
inductive LK where
  | bad | set | k (k : Kw)
  deriving DecidableEq
noncomputable def isValL (vs : List Str) : Bool := decide (1 ≤ vs.length) && (decide (vs.length ≤ 40) && decide (Gr.lV (4 * vs.length + 4) 0 (vs.map tok) = some []))
theorem isVal_eq (vs : List Str) : isVal vs = isValL vs := by
  unfold isVal isValL
  rw [readExpr_some]
  have h := Gr.same (ws := vs.map tok) (n := 4 * vs.length + 4) (m := 4 * vs.length + 4) (by rw [List.length_map]; exact Nat.le_refl _) (by rw [List.length_map]; exact Nat.le_refl _)
  rw [List.length_map] at h
  cases e : Gr.readV (4 * vs.length + 4) (vs.map tok) with
  | true =>
    obtain ⟨h1, h2, h3⟩ := h.mp e
    rw [decide_eq_true h1, decide_eq_true h2, decide_eq_true h3]
    rfl
  | false =>
    by_cases h1 : 1 ≤ vs.length
    · by_cases h2 : vs.length ≤ 40
      · by_cases h3 : Gr.lV (4 * vs.length + 4) 0 (vs.map tok) = some []
        · have := h.mpr ⟨h1, h2, h3⟩
          rw [e] at this
          cases this
        · rw [decide_eq_false h3]; simp
      · rw [decide_eq_false h2]; simp
    · rw [decide_eq_false h1]; simp
noncomputable def lawPlain (a : Str) (r : List Str) : Bool :=
  if kw a = .cores then decide (r.length = 1) && wholeL (r.getD 0 "") 1 3
  else if kw a = .slice then decide (r.length = 1) && wholeL (r.getD 0 "") 0 20
  else if kw a = .repeatk then decide (r.length = 1) && wholeL (r.getD 0 "") 0 50
  else if kw a = .sleep then decide (r.length = 1) && wholeL (r.getD 0 "") 0 99
  else if kw a = .elsek ∨ kw a = .endk then decide (r.length = 0)
  else if r.length < 1 ∨ (kw a ≠ .work ∧ isName (r.getD 0 "") = false) then false
  else if kw a = .part ∨ kw a = .unlock ∨ kw a = .start ∨ kw a = .wait then decide (r.length = 1)
  else if kw a = .work then wholeL (r.getD 0 "") 0 99 && (decide (r.length = 1) || (decide (r.length = 2) && isName (r.getD 1 "")))
  else if kw a = .queue then decide (r.length = 2) && wholeL (r.getD 1 "") 1 4
  else if kw a = .cell then decide (r.length = 2) && wholeL (r.getD 1 "") 0 999
  else if kw a = .take then decide (r.length = 2) && isName (r.getD 1 "")
  else if kw a = .lock then decide (r.length = 1) || decide (r.drop 1 = [("lent" : Str)])
  else decide (kw a = .task) && ((decide (r.length = 2) || decide (r.length = 3)) && (wholeL (r.getD 1 "") 1 9 && (decide (r.drop 2 = []) || decide (r.drop 2 = [("later" : Str)]))))
noncomputable def lawKind (a : Str) (r : List Str) : LK :=
  if ("" : Str) ∈ a :: r then .bad
  else if kw a = .ifk ∨ kw a = .whilek ∨ kw a = .say then (if isValL r = true then .k (kw a) else .bad)
  else if kw a = .put then (if decide (1 < r.length) && (isName (r.getD 0 "") && isValL (r.drop 1)) then .k .put else .bad)
  else if decide (1 < r.length) && (decide (r.getD 0 "" = "=") && isName a) then (if isValL (r.drop 1) = true then .set else .bad)
  else if lawPlain a r = true then .k (kw a) else .bad
noncomputable def K.lk : K → LK
  | .set _ _ => .set
  | k => .k k.kwOf
noncomputable def lkOf : Option K → LK
  | none => .bad
  | some k => k.lk
theorem kw_eqs {a : Str} : (a = "=") ↔ kw a = .eq := (kw_iff (k := .eq) (by decide)).symm
theorem kw_lent {a : Str} : (a = "lent") ↔ kw a = .lent := (kw_iff (k := .lent) (by decide)).symm
theorem kw_later {a : Str} : (a = "later") ↔ kw a = .later := (kw_iff (k := .later) (by decide)).symm
theorem junkF : ∀ {d : Nat} {ws : List Gr.T}, Gr.V d ws → Gr.T.junk ∉ ws := by
  intro d ws h
  refine Gr.V.rec (motive_1 := fun d ws _ => Gr.T.junk ∉ ws) (motive_2 := fun d ws _ => Gr.T.junk ∉ ws) (motive_3 := fun d ws _ => Gr.T.junk ∉ ws) (motive_4 := fun d ws _ => Gr.T.junk ∉ ws) ?_ ?_ ?_ ?_ ?_ ?_ ?_ ?_ h
  · intro d; decide
  · intro d ws _ _ h; simp [h]
  · intro d ws _ h; exact h
  · intro d a b _ _ h1 h2; simp [h1, h2]
  · intro d ws _ h; exact h
  · intro d a b _ _ h1 h2; simp [h1, h2]
  · intro d ws _ h; exact h
  · intro d a b _ _ h1 h2; simp [h1, h2]
theorem val_empty {vs : List Str} (h : isVal vs = true) : ("" : Str) ∉ vs := fun hm => by
  unfold isVal at h
  rw [readExpr_some] at h
  have v := (Gr.readV_iff (ws := vs.map tok) (n := 4 * vs.length + 4) (by rw [List.length_map]; exact Nat.le_refl _)).mp h
  refine junkF v.2 (List.mem_map.mpr ⟨"", hm, ?_⟩)
  decide +kernel
theorem name_empty {w : Str} (h : isName w = true) : w ≠ "" := fun e => by rw [e] at h; exact absurd h (by decide +kernel)
theorem whole_empty {w : Str} {lo hi : Int} (h : wholeL w lo hi = true) : w ≠ "" := fun e => by rw [e] at h; exact absurd h (by simp [wholeL, show ("" : Str).cps.size = 0 from by decide +kernel])
theorem kw_empty {w : Str} {k : Kw} (h : kw w = k) (n : k ≠ .other) : w ≠ "" := fun e => by rw [e, show kw "" = .other from by decide +kernel] at h; exact n h.symm
theorem cls_empty {a : Str} {r : List Str} {z : K} (h : cls (a :: r) = some z) : ("" : Str) ∉ a :: r := by
  have h' : clsK (kw a) a r = some z := h
  have ha : kw a ≠ .other → a ≠ "" := fun n => kw_empty rfl n
  generalize hk : kw a = k at h' ha
  unfold clsK at h'
  split at h'
  all_goals first
    | (cases h'; done)
    | (cases h'
       have := ha (by decide)
       simp [this.symm])
    | (split at h'
       · rename_i c
         have n1 : ∀ w, isName w = true → ("" : Str) ≠ w := fun w h e => name_empty h e.symm
         have n2 : ∀ w lo hi, wholeL w lo hi = true → ("" : Str) ≠ w := fun w lo hi h e => whole_empty h e.symm
         have n3 : ∀ w k, kw w = k → k ≠ .other → ("" : Str) ≠ w := fun w k h n e => kw_empty h n e.symm
         have n4 : ∀ vs, isVal vs = true → ("" : Str) ∉ vs := fun vs h => val_empty h
         simp only [List.mem_cons, List.not_mem_nil, or_false, not_or]
         first
           | exact ⟨(ha (by decide)).symm, n1 _ c⟩
           | exact ⟨(ha (by decide)).symm, n2 _ _ _ c⟩
           | exact ⟨(ha (by decide)).symm, n4 _ c⟩
           | exact ⟨(ha (by decide)).symm, n1 _ c.1, n2 _ _ _ c.2⟩
           | exact ⟨(ha (by decide)).symm, n1 _ c.1, n3 _ _ c.2 (by decide)⟩
           | exact ⟨(ha (by decide)).symm, n1 _ c.1, n4 _ c.2⟩
           | exact ⟨(ha (by decide)).symm, n1 _ c.1, n1 _ c.2⟩
           | exact ⟨(ha (by decide)).symm, n2 _ _ _ c.1, n1 _ c.2⟩
           | exact ⟨(ha (by decide)).symm, n1 _ c.1, n2 _ _ _ c.2.1, n3 _ _ c.2.2 (by decide)⟩
           | exact ⟨n1 _ c.1, n3 _ _ c.2.1 (by decide), n4 _ c.2.2⟩
       · cases h')
end Mi

/-! the law's look at a line tells what the line is -/
namespace Mi
open PySem
theorem nn_of {a : Str} {k : Kw} (h : kw a = k) (n : k ≠ .other) : isName a = false := by
  cases e : isName a with
  | false => rfl
  | true => rw [name_other e] at h; exact absurd h.symm n
theorem lawKind_eq (a : Str) (r : List Str) : lawKind a r = lkOf (cls (a :: r)) := by
  by_cases he : ("" : Str) ∈ a :: r
  · have hc : cls (a :: r) = none := by
      cases h : cls (a :: r) with
      | none => rfl
      | some z => exact absurd he (cls_empty h)
    rw [hc]
    unfold lawKind
    rw [if_pos he]
    rfl
  · unfold lawKind
    rw [if_neg he]
    show _ = lkOf (clsK (kw a) a r)
    cases hk : kw a
    case other =>
      cases hn : isName a with
      | false => 
        have hc : clsK .other a r = none := by
          unfold clsK
          split <;> first | rfl | (rename_i h; cases h; done) | simp_all
        rw [hc]
        rcases r with _ | ⟨b, _ | ⟨c, t⟩⟩ <;> simp [lawPlain, hk, lkOf, hn]
      | true =>
        rcases r with _ | ⟨b, _ | ⟨c, t⟩⟩
        · simp [lawPlain, hk, lkOf, clsK]
        · have : isVal [] = false := isVal_nil
          simp [lawPlain, hk, lkOf, clsK, hn, this]
        · simp only [List.getD_cons_zero, List.drop_succ_cons, List.drop_zero, List.length_cons]
          rw [← isVal_eq]
          by_cases hb : b = "="
          · have hb2 : kw b = .eq := kw_eqs.mp hb
            have hb3 : kw (Str.ofString "=") = .eq := by decide +kernel
            cases hv : isVal (c :: t) <;> simp [clsK, hn, hb2, hb, hb3, hv, lkOf, K.lk, ← isVal_eq]
          · have hb2 : ¬ kw b = .eq := fun z => hb (kw_eqs.mpr z)
            simp [lawPlain, hk, lkOf, clsK, hn, hb, hb2]
    all_goals have hn : isName a = false := nn_of hk (by decide)
    case ifk => cases hv : isVal r <;> simp [← isVal_eq, clsK, hv, lkOf, K.lk, K.kwOf]
    case whilek => cases hv : isVal r <;> simp [← isVal_eq, clsK, hv, lkOf, K.lk, K.kwOf]
    case say => cases hv : isVal r <;> simp [← isVal_eq, clsK, hv, lkOf, K.lk, K.kwOf]
    case put =>
      rcases r with _ | ⟨b, _ | ⟨c, t⟩⟩
      · simp [clsK, lkOf]
      · have : isVal [] = false := isVal_nil
        simp [clsK, lkOf, this]
      · cases hb : isName b <;> cases hv : isVal (c :: t) <;> simp [← isVal_eq, clsK, hb, hv, lkOf, K.lk, K.kwOf]
    all_goals (rcases r with _ | ⟨b, _ | ⟨c, _ | ⟨d, _ | ⟨e, t⟩⟩⟩⟩ <;> simp [lawPlain, hk, hn, clsK, lkOf, ← kw_lent, ← kw_later])
    all_goals first | rfl | (split <;> rfl)
end Mi

/-! lines of a program: the package's reading and the law's own -/
namespace Mi
open PySem
inductive Bk where
  | ifk | elsek | whilek | repeatk
  deriving DecidableEq
inductive G where
  | lock | queue | cell | part | task
  deriving DecidableEq
noncomputable def PK.group : PK → Option G
  | .lock | .lent => some .lock
  | .queue => some .queue
  | .cell => some .cell
  | .part => some .part
  | .task | .later => some .task
  | _ => none
noncomputable def G.most : G → Nat
  | .lock => 4 | .queue => 3 | .cell => 4 | .part => 5 | .task => 6
noncomputable def grp (fs : List Fm) (g : G) : List Fm := fs.filter fun f => decide (f.kind.group = some g)
noncomputable def pl (at' : Nat) (t : Bool) : Pl := if at' = 0 then .first else if at' = 1 then .second else if t = true then .stmt else .decl
noncomputable def inTask (fs : List Fm) : Bool := decide (grp fs .task ≠ [])
noncomputable def canStand (bs : List Bk) (fs : List Fm) (k : PK) : Bool := match k.group with
  | some g => decide (bs = []) && decide ((grp fs g).length < g.most)
  | none => match k with
    | .ifk | .whilek | .repeatk => decide (bs.length < 6)
    | .elsek => decide (bs.getLast? = some .ifk)
    | .endk => decide (0 < bs.length)
    | _ => true
noncomputable def change (bs : List Bk) : PK → List Bk
  | .ifk => bs ++ [.ifk]
  | .whilek => bs ++ [.whilek]
  | .repeatk => bs ++ [.repeatk]
  | .elsek => bs.dropLast ++ [.elsek]
  | .endk => bs.dropLast
  | _ => bs
noncomputable def lastTask (fs : List Fm) : Bool := match fs.getLast? with
  | some f => decide (f.kind.group = some .task)
  | none => false
noncomputable def addLine (fs : List Fm) (bs : List Bk) (ws : List Str) : Except Nat (Fm × List Bk) :=
  match readForm ws (pl fs.length (inTask fs)).rows with
  | none => .error fs.length
  | some f =>
    if f.kind.group = some .task ∧ lastTask fs = true then .error (fs.length - 1)
    else if 80 ≤ fs.length ∨ canStand bs fs f.kind = false then .error fs.length
    else .ok (f, change bs f.kind)
noncomputable def readAll : List Fm → List Bk → List (List Str) → Except Nat (List Fm)
  | fs, bs, [] => if lastTask fs = true then .error (fs.length - 1) else if bs ≠ [] ∨ inTask fs = false then .error fs.length else .ok fs
  | fs, bs, ws :: r => match addLine fs bs ws with
    | .error n => .error n
    | .ok (f, bs) => readAll (fs ++ [f]) bs r
/-! ### the law's -/
structure LS where
  blocks : List Bk
  counts : LK → Nat
  last : Option Nat
noncomputable def lawPlaced (k : LK) (ws : List Str) (n : Nat) (bs : List Bk) (c : LK → Nat) : Bool :=
  if k = .bad ∨ 80 ≤ n ∨ decide (n < 2) ≠ decide (k = .k .cores ∨ k = .k .slice) then false
  else if n < 2 then decide (k = if n = 0 then .k .cores else .k .slice)
  else if k = .k .lock then (decide (0 < c (.k .task)) && decide (ws.drop 2 = [])) || (!decide (0 < c (.k .task)) && decide (c (.k .lock) < 4))
  else if k = .k .queue then !decide (0 < c (.k .task)) && decide (c (.k .queue) < 3)
  else if k = .k .cell then !decide (0 < c (.k .task)) && decide (c (.k .cell) < 4)
  else if k = .k .part then !decide (0 < c (.k .task)) && decide (c (.k .part) < 5)
  else if k = .k .task then decide (bs = []) && decide (c (.k .task) < 6)
  else if k = .k .ifk ∨ k = .k .whilek ∨ k = .k .repeatk then decide (0 < c (.k .task)) && decide (bs.length < 6)
  else if k = .k .elsek then decide (bs ≠ []) && decide (bs.getLast? = some .ifk)
  else if k = .k .endk then decide (bs ≠ [])
  else decide (0 < c (.k .task))
noncomputable def lawBlocks (bs : List Bk) (k : LK) : List Bk :=
  if k = .k .ifk then bs ++ [.ifk] else if k = .k .whilek then bs ++ [.whilek] else if k = .k .repeatk then bs ++ [.repeatk]
  else if k = .k .elsek then bs.dropLast ++ [.elsek] else if k = .k .endk then bs.dropLast else bs
noncomputable def kindOf : List Str → LK
  | [] => .bad
  | a :: r => lawKind a r
noncomputable def LS.step (s : LS) (n : Nat) (k : LK) : LS := ⟨lawBlocks s.blocks k, fun j => if j = k then s.counts j + 1 else s.counts j, if k = .k .task then some n else s.last⟩
noncomputable def lawBad : Nat → LS → List (List Str) → Option Nat
  | n, s, [] => if s.last.map (· + 1) = some n then s.last else if s.blocks ≠ [] ∨ s.last = none then some n else none
  | n, s, ws :: r =>
    if s.last.map (· + 1) = some n ∧ kindOf ws = .k .task then s.last
    else if lawPlaced (kindOf ws) ws n s.blocks s.counts = false then some n
    else lawBad (n + 1) (s.step n (kindOf ws)) r
/-! ### both tell the same -/
inductive Rel : Nat → Bool → List Fm → List (List Str) → Prop where
  | nil {n : Nat} {t : Bool} : Rel n t [] []
  | cons {n : Nat} {t : Bool} {f : Fm} {fs : List Fm} {a : Str} {r : List Str} {wss : List (List Str)} {k : K} (h1 : cls (a :: r) = some k) (h2 : Match (pl n t) k f) (h3 : Rel (n + 1) (t || decide (k.kwOf = .task)) fs wss) : Rel n t (f :: fs) ((a :: r) :: wss)
structure Inv (fs : List Fm) (bs : List Bk) (s : LS) : Prop where
  blocks : s.blocks = bs
  task : s.counts (.k .task) = (grp fs .task).length
  out : s.counts (.k .task) = 0 → bs = [] ∧ s.counts (.k .lock) = (grp fs .lock).length ∧ s.counts (.k .queue) = (grp fs .queue).length ∧ s.counts (.k .cell) = (grp fs .cell).length ∧ s.counts (.k .part) = (grp fs .part).length
  last : (s.last.map (· + 1) = some fs.length) ↔ lastTask fs = true
  low : ∀ l, s.last = some l → l < fs.length
  none' : s.last = none ↔ grp fs .task = []
  first : fs.length < 2 → grp fs .task = []
theorem fine_all (p : Pl) (a : Str) (r : List Str) : Fine p (a :: r) := by
  cases p
  · exact fine_first a r
  · exact fine_second a r
  · exact fine_decl a r
  · exact fine_stmt a r
theorem grp_snoc (fs : List Fm) (f : Fm) (g : G) : (grp (fs ++ [f]) g).length = (grp fs g).length + if f.kind.group = some g then 1 else 0 := by
  unfold grp
  rw [List.filter_append, List.length_append]
  congr 1
  by_cases h : f.kind.group = some g <;> simp [h]
theorem last_snoc (fs : List Fm) (f : Fm) : lastTask (fs ++ [f]) = decide (f.kind.group = some .task) := by
  unfold lastTask
  rw [List.getLast?_append]
  rfl
theorem inTask_iff (fs : List Fm) : inTask fs = true ↔ 0 < (grp fs .task).length := by
  unfold inTask
  rw [decide_eq_true_iff, List.length_pos_iff]
end Mi

/-! lines of a program: both readers tell the same line -/
namespace Mi
open PySem
theorem cls_lock {a : Str} {r : List Str} {x : Str} (h : cls (a :: r) = some (.lock x)) : (a :: r).drop 2 = [] := by
  have h' : clsK (kw a) a r = some (.lock x) := h
  unfold clsK at h'
  split at h' <;> first | rfl | (cases h'; done) | (split at h' <;> cases h'; done)
theorem cls_lent {a : Str} {r : List Str} {x : Str} (h : cls (a :: r) = some (.lent x)) : (a :: r).drop 2 ≠ [] := by
  have h' : clsK (kw a) a r = some (.lent x) := h
  unfold clsK at h'
  split at h' <;> first | (intro z; cases z; done) | (cases h'; done) | (split at h' <;> cases h'; done)
theorem kindOf_some {a : Str} {r : List Str} {k : K} (h : cls (a :: r) = some k) : kindOf (a :: r) = k.lk := by
  show lawKind a r = _
  rw [lawKind_eq, h]; rfl
theorem kindOf_none {a : Str} {r : List Str} (h : cls (a :: r) = none) : kindOf (a :: r) = .bad := by
  show lawKind a r = _
  rw [lawKind_eq, h]; rfl
theorem pk_task {p : Pl} {k : K} {q : PK} (h : k.pk p = some q) : q.group = some .task ↔ k.lk = .k .task := by
  cases p <;> cases k <;> simp only [K.pk, Option.some.injEq, reduceCtorEq] at h <;> (try subst h) <;> simp [PK.group, K.lk, K.kwOf]
theorem pl_cases (n : Nat) (t : Bool) : (n = 0 ∧ pl n t = .first) ∨ (n = 1 ∧ pl n t = .second) ∨ (2 ≤ n ∧ t = true ∧ pl n t = .stmt) ∨ (2 ≤ n ∧ t = false ∧ pl n t = .decl) := by
  unfold pl
  by_cases h0 : n = 0
  · exact .inl ⟨h0, if_pos h0⟩
  · by_cases h1 : n = 1
    · exact .inr (.inl ⟨h1, by rw [if_neg h0, if_pos h1]⟩)
    · cases t with
      | true => exact .inr (.inr (.inl ⟨by omega, rfl, by rw [if_neg h0, if_neg h1]; rfl⟩))
      | false => exact .inr (.inr (.inr ⟨by omega, rfl, by rw [if_neg h0, if_neg h1]; rfl⟩))
theorem lastTask_in {fs : List Fm} (h : lastTask fs = true) : grp fs .task ≠ [] := by
  unfold lastTask at h
  cases e : fs.getLast? with
  | none => rw [e] at h; cases h
  | some f =>
    rw [e] at h
    have hm : f ∈ fs := List.mem_of_getLast? e
    exact List.ne_nil_of_mem (List.mem_filter.mpr ⟨hm, h⟩)
/-- a line that the package takes for no form stands nowhere for the law -/
theorem placed_no {n : Nat} {t : Bool} {a : Str} {r : List Str} {bs : List Bk} {c : LK → Nat} (ht : t = true ↔ 0 < c (.k .task)) (hb : c (.k .task) = 0 → bs = []) (h : ∀ k, cls (a :: r) = some k → k.pk (pl n t) = none) : lawPlaced (kindOf (a :: r)) (a :: r) n bs c = false := by
  cases hc : cls (a :: r) with
  | none => rw [kindOf_none hc]; simp [lawPlaced]
  | some k =>
    rw [kindOf_some hc]
    have hk := h k hc
    rcases pl_cases n t with ⟨e, ep⟩ | ⟨e, ep⟩ | ⟨e, et, ep⟩ | ⟨e, et, ep⟩
    · rw [ep] at hk
      subst e
      cases k <;> simp [K.pk] at hk <;> simp [lawPlaced, K.lk, K.kwOf]
    · rw [ep] at hk
      subst e
      cases k <;> simp [K.pk] at hk <;> simp [lawPlaced, K.lk, K.kwOf]
    · rw [ep] at hk
      have g := ht.mp et
      have n2 : ¬ n < 2 := by omega
      cases k <;> simp [K.pk] at hk <;> simp [lawPlaced, K.lk, K.kwOf, n2, g]
      case lent x => have := cls_lent hc; simp at this; simp [this]
    · rw [ep] at hk
      have g : c (.k .task) = 0 := Nat.eq_zero_of_not_pos (fun z => by rw [ht.mpr z] at et; cases et)
      have n2 : ¬ n < 2 := by omega
      have gb := hb g
      cases k <;> simp [K.pk] at hk <;> simp [lawPlaced, K.lk, K.kwOf, n2, g, gb]
theorem placed_iff {fs : List Fm} {bs : List Bk} {s : LS} (I : Inv fs bs s) {a : Str} {r : List Str} {k : K} {q : PK} (hc : cls (a :: r) = some k) (hk : k.pk (pl fs.length (inTask fs)) = some q) :
    lawPlaced (kindOf (a :: r)) (a :: r) fs.length s.blocks s.counts = (decide (fs.length < 80) && canStand bs fs q) := by
  rw [kindOf_some hc]
  have ib := I.blocks
  have it := I.task
  have io := I.out
  rcases pl_cases fs.length (inTask fs) with ⟨e, ep⟩ | ⟨e, ep⟩ | ⟨e, et, ep⟩ | ⟨e, et, ep⟩
  · rw [ep] at hk
    rw [e]
    cases k <;> simp [K.pk] at hk <;> subst hk <;> simp [lawPlaced, K.lk, K.kwOf, canStand, PK.group]
  · rw [ep] at hk
    rw [e]
    cases k <;> simp [K.pk] at hk <;> subst hk <;> simp [lawPlaced, K.lk, K.kwOf, canStand, PK.group]
  · rw [ep] at hk
    have g : 0 < s.counts (.k .task) := by rw [it]; exact (inTask_iff fs).mp et
    have n2 : ¬ fs.length < 2 := by omega
    have g' : 0 < (grp fs .task).length := by rw [← it]; exact g
    rw [ib]
    generalize fs.length = n at *
    by_cases h8 : n < 80
    · have h8' : ¬ 80 ≤ n := by omega
      cases k <;> simp [K.pk] at hk <;> subst hk <;> simp [lawPlaced, K.lk, K.kwOf, canStand, PK.group, G.most, n2, h8, h8', it, g']
      case lock x => have := cls_lock hc; simp at this; simp [this]
      all_goals first | rfl | (congr; done) | (cases bs <;> simp; done) | trace_state
    · have h8' : 80 ≤ n := by omega
      simp [lawPlaced, h8', h8]
  · rw [ep] at hk
    have g : s.counts (.k .task) = 0 := by
      rw [it]
      exact Nat.eq_zero_of_not_pos (fun z => by rw [(inTask_iff fs).mpr z] at et; cases et)
    obtain ⟨o1, o2, o3, o4, o5⟩ := io g
    have n2 : ¬ fs.length < 2 := by omega
    rw [ib, o1]
    generalize fs.length = n at *
    by_cases h8 : n < 80
    · have h8' : ¬ 80 ≤ n := by omega
      cases k <;> simp [K.pk] at hk <;> subst hk <;> simp [lawPlaced, K.lk, K.kwOf, canStand, PK.group, G.most, n2, g, h8, h8', o2, o3, o4, o5]
      all_goals first | rfl | (congr; done) | (rw [← it, g]; rfl) | trace_state
    · have h8' : 80 ≤ n := by omega
      simp [lawPlaced, h8', h8]
end Mi

/-! lines of a program: both readers go on alike -/
namespace Mi
open PySem
theorem change_eq {p : Pl} {k : K} {q : PK} {bs : List Bk} (h : k.pk p = some q) : lawBlocks bs k.lk = change bs q := by
  cases p <;> cases k <;> simp only [K.pk, Option.some.injEq, reduceCtorEq] at h <;> subst h <;> simp [lawBlocks, change, K.lk, K.kwOf]
/-- the group that counts ahead of the tasks -/
theorem pk_group {n : Nat} {t : Bool} {k : K} {q : PK} (ht : t = false) (h : k.pk (pl n t) = some q) :
    (q.group = some .lock ↔ k.lk = .k .lock) ∧ (q.group = some .queue ↔ k.lk = .k .queue) ∧ (q.group = some .cell ↔ k.lk = .k .cell) ∧ (q.group = some .part ↔ k.lk = .k .part) := by
  rcases pl_cases n t with ⟨_, ep⟩ | ⟨_, ep⟩ | ⟨_, et, ep⟩ | ⟨_, _, ep⟩
  · rw [ep] at h
    cases k <;> simp only [K.pk, Option.some.injEq, reduceCtorEq] at h <;> subst h <;> simp [PK.group, K.lk, K.kwOf]
  · rw [ep] at h
    cases k <;> simp only [K.pk, Option.some.injEq, reduceCtorEq] at h <;> subst h <;> simp [PK.group, K.lk, K.kwOf]
  · rw [ht] at et; cases et
  · rw [ep] at h
    cases k <;> simp only [K.pk, Option.some.injEq, reduceCtorEq] at h <;> subst h <;> simp [PK.group, K.lk, K.kwOf]
theorem pk_blocks {n : Nat} {t : Bool} {k : K} {q : PK} (ht : t = false) (h : k.pk (pl n t) = some q) : change [] q = [] := by
  rcases pl_cases n t with ⟨_, ep⟩ | ⟨_, ep⟩ | ⟨_, et, ep⟩ | ⟨_, _, ep⟩
  · rw [ep] at h
    cases k <;> simp only [K.pk, Option.some.injEq, reduceCtorEq] at h <;> subst h <;> rfl
  · rw [ep] at h
    cases k <;> simp only [K.pk, Option.some.injEq, reduceCtorEq] at h <;> subst h <;> rfl
  · rw [ht] at et; cases et
  · rw [ep] at h
    cases k <;> simp only [K.pk, Option.some.injEq, reduceCtorEq] at h <;> subst h <;> rfl
theorem pk_first {n : Nat} {t : Bool} {k : K} {q : PK} (hn : n < 2) (h : k.pk (pl n t) = some q) : q.group ≠ some .task := by
  rcases pl_cases n t with ⟨_, ep⟩ | ⟨_, ep⟩ | ⟨e, _, _⟩ | ⟨e, _, _⟩
  · rw [ep] at h
    cases k <;> simp only [K.pk, Option.some.injEq, reduceCtorEq] at h <;> subst h <;> simp [PK.group]
  · rw [ep] at h
    cases k <;> simp only [K.pk, Option.some.injEq, reduceCtorEq] at h <;> subst h <;> simp [PK.group]
  · omega
  · omega
theorem step_inv {fs : List Fm} {bs : List Bk} {s : LS} (I : Inv fs bs s) {a : Str} {r : List Str} {k : K} {f : Fm} (hc : cls (a :: r) = some k) (hk : k.pk (pl fs.length (inTask fs)) = some f.kind) :
    Inv (fs ++ [f]) (change bs f.kind) (s.step fs.length (kindOf (a :: r))) := by
  rw [kindOf_some hc]
  have tk := pk_task hk
  have len : (fs ++ [f]).length = fs.length + 1 := List.length_append
  have ct : (s.step fs.length k.lk).counts (.k .task) = (grp (fs ++ [f]) .task).length := by
    rw [grp_snoc]
    show (if LK.k Kw.task = k.lk then _ else _) = _
    rw [I.task]
    by_cases h : k.lk = .k .task
    · rw [if_pos h.symm, if_pos (tk.mpr h)]
    · rw [if_neg (fun e => h e.symm), if_neg (fun e => h (tk.mp e))]; rfl
  refine ⟨?_, ct, fun z => ?_, ?_, fun l hl => ?_, ?_, fun z => ?_⟩
  · show lawBlocks s.blocks k.lk = _
    rw [I.blocks]
    exact change_eq hk
  · have z2 := z
    rw [ct, grp_snoc] at z2
    have hnt : ¬ f.kind.group = some .task := fun e => by rw [if_pos e] at z2; omega
    have z3 : (grp fs .task).length = 0 := by omega
    have ht : inTask fs = false := by
      cases e : inTask fs with
      | false => rfl
      | true => have := (inTask_iff fs).mp e; omega
    obtain ⟨o1, o2, o3, o4, o5⟩ := I.out (by rw [I.task]; exact z3)
    obtain ⟨g1, g2, g3, g4⟩ := pk_group ht hk
    refine ⟨by rw [o1]; exact pk_blocks ht hk, ?_, ?_, ?_, ?_⟩
    all_goals (rw [grp_snoc]; show (if _ = k.lk then _ else _) = _)
    · by_cases h : k.lk = .k .lock
      · rw [if_pos h.symm, if_pos (g1.mpr h), o2]
      · rw [if_neg (fun e => h e.symm), if_neg (fun e => h (g1.mp e)), o2]; rfl
    · by_cases h : k.lk = .k .queue
      · rw [if_pos h.symm, if_pos (g2.mpr h), o3]
      · rw [if_neg (fun e => h e.symm), if_neg (fun e => h (g2.mp e)), o3]; rfl
    · by_cases h : k.lk = .k .cell
      · rw [if_pos h.symm, if_pos (g3.mpr h), o4]
      · rw [if_neg (fun e => h e.symm), if_neg (fun e => h (g3.mp e)), o4]; rfl
    · by_cases h : k.lk = .k .part
      · rw [if_pos h.symm, if_pos (g4.mpr h), o5]
      · rw [if_neg (fun e => h e.symm), if_neg (fun e => h (g4.mp e)), o5]; rfl
  · rw [last_snoc, len]
    show ((if k.lk = .k .task then some fs.length else s.last).map (· + 1) = _) ↔ _
    rw [decide_eq_true_iff, tk]
    by_cases h : k.lk = .k .task
    · rw [if_pos h]; simp [h]
    · rw [if_neg h]
      simp only [h, iff_false]
      intro e
      cases hl : s.last with
      | none => rw [hl] at e; cases e
      | some l =>
        have hb := I.low l hl
        rw [hl] at e
        simp at e
        omega
  · have hl' : (if k.lk = .k .task then some fs.length else s.last) = some l := hl
    rw [len]
    by_cases h : k.lk = .k .task
    · rw [if_pos h] at hl'; cases hl'; omega
    · rw [if_neg h] at hl'
      have := I.low l hl'
      omega
  · show (if k.lk = .k .task then some fs.length else s.last) = none ↔ _
    have g := grp_snoc fs f .task
    rw [← List.length_eq_zero_iff, g]
    by_cases h : k.lk = .k .task
    · rw [if_pos h, if_pos (tk.mpr h)]; simp
    · rw [if_neg h, if_neg (fun e => h (tk.mp e)), I.none', ← List.length_eq_zero_iff]; simp
  · rw [len] at z
    have hf := pk_first (by omega) hk
    have g := grp_snoc fs f .task
    rw [if_neg hf, I.first (by omega)] at g
    exact List.length_eq_zero_iff.mp (by simpa using g)
theorem tOf_step {fs : List Fm} {f : Fm} {k : K} (hk : k.pk (pl fs.length (inTask fs)) = some f.kind) : inTask (fs ++ [f]) = (inTask fs || decide (k.kwOf = .task)) := by
  have tk := pk_task hk
  have tk2 : k.lk = .k .task ↔ k.kwOf = .task := by cases k <;> simp [K.lk, K.kwOf]
  rw [Bool.eq_iff_iff, inTask_iff, grp_snoc, Bool.or_eq_true, inTask_iff, decide_eq_true_iff, ← tk2, ← tk]
  by_cases h : f.kind.group = some .task
  · rw [if_pos h]; simp [h]
  · rw [if_neg h]; simp [h]
/-- both readers tell the same bad line, or go through -/
theorem read_sim : ∀ (wss : List (List Str)) (fs : List Fm) (bs : List Bk) (s : LS), (∀ ws ∈ wss, ws ≠ []) → Inv fs bs s →
    (∃ n, readAll fs bs wss = .error n ∧ lawBad fs.length s wss = some n) ∨ (∃ gs, readAll fs bs wss = .ok (fs ++ gs) ∧ lawBad fs.length s wss = none ∧ Rel fs.length (inTask fs) gs wss)
  | [], fs, bs, s, _, I => by
    unfold readAll lawBad
    by_cases hl : lastTask fs = true
    · refine .inl ⟨fs.length - 1, if_pos hl, ?_⟩
      have h := I.last.mpr hl
      rw [if_pos h]
      cases e : s.last with
      | none => rw [e] at h; cases h
      | some l => rw [e] at h; simp at h; rw [← h]; rfl
    · rw [if_neg hl, if_neg (fun e => hl (I.last.mp e)), I.blocks]
      by_cases hb : bs ≠ [] ∨ grp fs .task = []
      · exact .inl ⟨fs.length, if_pos (hb.imp_right fun e => by unfold inTask; rw [e]; rfl), if_pos (hb.imp_right I.none'.mpr)⟩
      · refine .inr ⟨[], by rw [if_neg (fun h => hb (h.imp_right fun e => by unfold inTask at e; exact Decidable.not_not.mp (of_decide_eq_false e)))]; rw [List.append_nil], if_neg (fun h => hb (h.imp_right I.none'.mp)), .nil⟩
  | [] :: _, _, _, _, h, _ => absurd rfl (h [] (List.mem_cons_self ..))
  | (a :: r) :: wss, fs, bs, s, hn, I => by
    unfold readAll lawBad
    have hp : s.counts (.k .task) = 0 → bs = [] := fun z => (I.out z).1
    have hz : inTask fs = true ↔ 0 < s.counts (.k .task) := by rw [I.task]; exact inTask_iff fs
    rcases fine_all (pl fs.length (inTask fs)) a r with ⟨k, f, hc, hf, m⟩ | ⟨hf, hno⟩
    · have hk := m.kind
      have tk := pk_task hk
      have pi := placed_iff I hc hk
      have ha : addLine fs bs (a :: r) = if f.kind.group = some .task ∧ lastTask fs = true then .error (fs.length - 1) else if 80 ≤ fs.length ∨ canStand bs fs f.kind = false then .error fs.length else .ok (f, change bs f.kind) := by
        unfold addLine
        rw [hf]
      rw [ha]
      by_cases h1 : f.kind.group = some .task ∧ lastTask fs = true
      · rw [if_pos h1]
        refine .inl ⟨fs.length - 1, rfl, ?_⟩
        have h := I.last.mpr h1.2
        rw [if_pos ⟨h, by rw [kindOf_some hc]; exact tk.mp h1.1⟩]
        cases e : s.last with
        | none => rw [e] at h; cases h
        | some l => rw [e] at h; simp at h; rw [← h]; rfl
      · rw [if_neg h1]
        have hA : ¬ (s.last.map (· + 1) = some fs.length ∧ kindOf (a :: r) = .k .task) := fun e => h1 ⟨tk.mpr (by rw [← kindOf_some hc]; exact e.2), I.last.mp e.1⟩
        by_cases h2 : 80 ≤ fs.length ∨ canStand bs fs f.kind = false
        · rw [if_pos h2, if_neg hA, pi]
          refine .inl ⟨fs.length, rfl, if_pos ?_⟩
          rcases h2 with h2 | h2
          · rw [decide_eq_false (by omega)]; rfl
          · rw [h2, Bool.and_false]
        · rw [if_neg h2, if_neg hA, pi, if_neg ?_]
          · have J := step_inv I hc hk
            have len : (fs ++ [f]).length = fs.length + 1 := List.length_append
            rcases read_sim wss (fs ++ [f]) (change bs f.kind) _ (fun ws h => hn ws (List.mem_cons_of_mem _ h)) J with ⟨n, e1, e2⟩ | ⟨gs, e1, e2, e3⟩
            · rw [len] at e2
              exact .inl ⟨n, e1, e2⟩
            · rw [len] at e2 e3
              rw [tOf_step hk] at e3
              exact .inr ⟨f :: gs, e1.trans (by rw [List.append_assoc]; rfl), e2, .cons hc m e3⟩
          · intro e
            rw [Bool.and_eq_false_iff, decide_eq_false_iff_not] at e
            exact h2 (e.imp (fun x => by omega) id)
    · have ha : addLine fs bs (a :: r) = .error fs.length := by unfold addLine; rw [hf]
      rw [ha]
      refine .inl ⟨fs.length, rfl, ?_⟩
      rw [I.blocks, placed_no hz hp hno, if_pos rfl, if_neg ?_]
      rintro ⟨h1, h2⟩
      have h3 := lastTask_in (I.last.mp h1)
      cases hc : cls (a :: r) with
      | none => rw [kindOf_none hc] at h2; cases h2
      | some k =>
        rw [kindOf_some hc] at h2
        have hk := hno k hc
        have h4 : inTask fs = true := decide_eq_true h3
        rcases pl_cases fs.length (inTask fs) with ⟨e, _⟩ | ⟨e, _⟩ | ⟨_, _, ep⟩ | ⟨_, et, _⟩
        · exact h3 (I.first (by omega))
        · exact h3 (I.first (by omega))
        · rw [ep] at hk
          cases k <;> simp [K.lk, K.kwOf] at h2 <;> simp [K.pk] at hk
        · rw [h4] at et; cases et
end Mi

/-! whole texts: names declared twice, names that are not there, and what is due -/
namespace Mi
open PySem
inductive D where
  | lock | queue | cell | part | task | later
  deriving DecidableEq
noncomputable def PK.d : PK → Option D
  | .lock | .lent => some .lock
  | .queue => some .queue
  | .cell => some .cell
  | .part => some .part
  | .task => some .task
  | .later => some .later
  | _ => none
noncomputable def Fm.nm (f : Fm) : Str := match f.found[1]? with
  | some (Fd.w x) => x
  | _ => ""
/-! ### the package's -/
noncomputable def doubledP : Nat → List Str → List Fm → Option Nat
  | _, _, [] => none
  | n, ds, f :: fs => if f.kind.declares = true then (if f.nm ∈ ds then some n else doubledP (n + 1) (f.nm :: ds) fs) else doubledP (n + 1) ds fs
noncomputable def look {α : Type} (l : List (Str × α)) : Str → Option α := l.foldl (fun g p => fun y => if y = p.1 then some p.2 else g y) (fun _ => none)
noncomputable def kindsP (fs : List Fm) : Str → Option PK := look ((fs.filter fun f => f.kind.declares).map fun f => (f.nm, f.kind))
noncomputable def wantedP : Wn → Option PK → Bool
  | .LOCK, k => decide (k = some .lock ∨ k = some .lent)
  | .QUEUE, k => decide (k = some .queue)
  | .PART, k => decide (k = some .part)
  | .TASK, k => decide (k = some .task ∨ k = some .later)
  | .LATER, k => decide (k = some .later)
  | .VARIABLE, k => decide (k = some .cell ∨ k = none)
noncomputable def unnamedP (g : Str → Option PK) : Nat → List Fm → Option Nat
  | _, [] => none
  | n, f :: fs => if f.uses.all (fun z => wantedP z.1 (g z.2)) = true then unnamedP g (n + 1) fs else some n
inductive Due where
  | fine | bad (n : Nat) | doubled (n : Nat) | unnamed (n : Nat)
  deriving DecidableEq
noncomputable def dueP (wss : List (List Str)) : Due := match readAll [] [] wss with
  | .error n => .bad n
  | .ok fs => match doubledP 0 [] fs with
    | some n => .doubled n
    | none => match unnamedP (kindsP fs) 0 fs with
      | some n => .unnamed n
      | none => .fine
/-! ### the law's -/
noncomputable def dOf (k : Kw) (ws : List Str) : Option D := match k with
  | .lock => some .lock
  | .queue => some .queue
  | .cell => some .cell
  | .part => some .part
  | .task => if ws.length = 4 then some .later else some .task
  | _ => none
noncomputable def declL (t : Bool) (a : Str) (r : List Str) : Option D := if kw a = .queue ∨ kw a = .cell ∨ kw a = .part ∨ kw a = .task ∨ (kw a = .lock ∧ t = false) then dOf (kw a) (a :: r) else none
noncomputable def declaredL : Nat → Bool → List (List Str) → List (Nat × D × Str)
  | _, _, [] => []
  | n, t, [] :: wss => declaredL (n + 1) t wss
  | n, t, (a :: r) :: wss => match declL t a r with
    | some d => (n, d, r.getD 0 "") :: declaredL (n + 1) (t || decide (kw a = .task)) wss
    | none => declaredL (n + 1) (t || decide (kw a = .task)) wss
noncomputable def doubledL : List Str → List (Nat × D × Str) → Option Nat
  | _, [] => none
  | ds, (n, _, x) :: l => if x ∈ ds then some n else doubledL (x :: ds) l
noncomputable def kindsL (l : List (Nat × D × Str)) : Str → Option D := look (l.map fun z => (z.2.2, z.2.1))
noncomputable def firstL (n : Nat) (l : List (Nat × D × Str)) : Nat := l.foldl (fun m z => if z.2.1 = .task ∨ z.2.1 = .later then min m z.1 else m) n
noncomputable def variablesL (a : Str) (r : List Str) : List Str :=
  (if kw a = .ifk ∨ kw a = .whilek ∨ kw a = .say then r else if kw a = .put ∨ kw a = .take then r.drop 1 else if r.take 1 ≠ [("=" : Str)] then [] else a :: r).filter isName
noncomputable def wantsL (g : Str → Option D) (a : Str) (r : List Str) : Bool :=
  let x := g (r.getD 0 "")
  if kw a = .lock ∨ kw a = .unlock then decide (x = some .lock)
  else if kw a = .put ∨ kw a = .take then decide (x = some .queue)
  else if kw a = .start then decide (x = some .later)
  else if kw a = .wait then decide (x = some .task ∨ x = some .later)
  else true
noncomputable def lineL (g : Str → Option D) : List Str → Bool
  | [] => true
  | a :: r => wantsL g a r && ((!(decide (kw a = .work) && decide (r.length = 2)) || decide (g (r.getD 1 "") = some .part)) && (variablesL a r).all (fun x => decide (g x = none ∨ g x = some .cell)))
noncomputable def unnamedL (g : Str → Option D) (first : Nat) : Nat → List (List Str) → Option Nat
  | _, [] => none
  | n, ws :: wss => if decide (first < n) && (!decide (kw (ws.getD 0 "") = .task) && !lineL g ws) then some n else unnamedL g first (n + 1) wss
noncomputable def dueL (wss : List (List Str)) : Due := match lawBad 0 ⟨[], fun _ => 0, none⟩ wss with
  | some n => .bad n
  | none => match doubledL [] (declaredL 0 false wss) with
    | some n => .doubled n
    | none => match unnamedL (kindsL (declaredL 0 false wss)) (firstL wss.length (declaredL 0 false wss)) 0 wss with
      | some n => .unnamed n
      | none => .fine
/-! ### both are the same -/
theorem inv0 : Inv [] [] ⟨[], fun _ => 0, none⟩ := ⟨rfl, rfl, fun _ => ⟨rfl, rfl, rfl, rfl, rfl⟩, ⟨fun h => (by cases h), fun h => (by cases h)⟩, fun _ h => (by cases h), ⟨fun _ => rfl, fun _ => rfl⟩, fun _ => rfl⟩
theorem decl_some {n : Nat} {t : Bool} {a : Str} {r : List Str} {k : K} {q : PK} (hc : cls (a :: r) = some k) (hk : k.pk (pl n t) = some q) (hn : n < 2 → t = false) :
    declL t a r = q.d ∧ (q.declares = true ↔ q.d ≠ none) ∧ (q.declares = true → k.name = some (r.getD 0 "")) := by
  have hkw : kw a = k.kwOf := (clsK_kw (show clsK (kw a) a r = some k from hc)).symm
  have h' : clsK (kw a) a r = some k := hc
  unfold declL
  have e3 : kw a = .task → (∃ x, k = .task x) ∨ ∃ x, k = .later x := by
    intro z
    rw [z] at hkw
    cases k <;> simp [K.kwOf] at hkw
    · exact .inl ⟨_, rfl⟩
    · exact .inr ⟨_, rfl⟩
  generalize hA : kw a = A at *
  unfold clsK at h'
  split at h'
  all_goals first
    | (cases h'; done)
    | (split at h'
       · cases h'
         rcases pl_cases n t with ⟨e, ep⟩ | ⟨e, ep⟩ | ⟨_, et, ep⟩ | ⟨_, et, ep⟩
         all_goals (rw [ep] at hk; simp only [K.pk, Option.some.injEq, reduceCtorEq] at hk)
         all_goals (subst hk; first | (simp [et, dOf, PK.d, PK.declares, K.name]; done) | (have et := hn (by omega); simp [et, dOf, PK.d, PK.declares, K.name]))
       · cases h'; done)
    | (cases h'
       rcases pl_cases n t with ⟨e, ep⟩ | ⟨e, ep⟩ | ⟨_, et, ep⟩ | ⟨_, et, ep⟩
       all_goals (rw [ep] at hk; simp only [K.pk, Option.some.injEq, reduceCtorEq] at hk)
       all_goals (subst hk; first | (simp [et, dOf, PK.d, PK.declares, K.name]; done) | (have et := hn (by omega); simp [et, dOf, PK.d, PK.declares, K.name])))
end Mi

/-! whole texts: what is due is the same -/
namespace Mi
open PySem
theorem all_mem {α : Type} {l m : List α} {p : α → Bool} (h : ∀ z, z ∈ l ↔ z ∈ m) : l.all p = m.all p := by
  rw [Bool.eq_iff_iff, List.all_eq_true, List.all_eq_true]
  exact ⟨fun g z hz => g z ((h z).mpr hz), fun g z hz => g z ((h z).mp hz)⟩
noncomputable def declP : Nat → List Fm → List (Nat × D × Str)
  | _, [] => []
  | n, f :: fs => match f.kind.d with
    | some d => (n, d, f.nm) :: declP (n + 1) fs
    | none => declP (n + 1) fs
theorem declares_d (q : PK) : q.declares = true ↔ q.d ≠ none := by cases q <;> simp [PK.declares, PK.d]
theorem kw_of {a : Str} {r : List Str} {k : K} (hc : cls (a :: r) = some k) : kw a = k.kwOf := (clsK_kw (show clsK (kw a) a r = some k from hc)).symm
theorem first_next {n : Nat} {t : Bool} {k : K} {q : PK} (hk : k.pk (pl n t) = some q) (hn : n < 2 → t = false) : n + 1 < 2 → (t || decide (k.kwOf = .task)) = false := by
  intro h
  have n0 : n = 0 := by omega
  rw [hn (by omega)]
  subst n0
  have hk' : k.pk .first = some q := hk
  cases k <;> simp [K.pk] at hk' <;> simp [K.kwOf]
theorem decl_same : ∀ {n : Nat} {t : Bool} {fs : List Fm} {wss : List (List Str)}, Rel n t fs wss → (n < 2 → t = false) → declaredL n t wss = declP n fs := by
  intro n t fs wss h
  induction h with
  | nil => intro _; rfl
  | cons h1 h2 _ ih =>
    intro hn
    rename_i n t f fs a r wss k _
    obtain ⟨e1, e2, e3⟩ := decl_some h1 h2.kind hn
    have ih := ih (first_next h2.kind hn)
    unfold declaredL declP
    rw [e1, kw_of h1]
    cases hd : f.kind.d with
    | none => exact ih
    | some d =>
      show _ :: _ = _ :: _
      rw [ih]
      have hq : f.kind.declares = true := (declares_d _).mpr (by rw [hd]; simp)
      obtain ⟨x, x1, x2⟩ := h2.name hq
      have := e3 hq
      rw [x1] at this
      have nm : f.nm = x := by unfold Fm.nm; rw [x2]
      rw [nm, ← Option.some.inj this]
theorem doubled_same : ∀ (fs : List Fm) (n : Nat) (ds : List Str), doubledP n ds fs = doubledL ds (declP n fs)
  | [], _, _ => rfl
  | f :: fs, n, ds => by
    unfold doubledP declP
    cases hd : f.kind.d with
    | none =>
      rw [if_neg (fun e => (declares_d _).mp e hd)]
      exact doubled_same fs (n + 1) ds
    | some d =>
      rw [if_pos ((declares_d _).mpr (by rw [hd]; simp))]
      show _ = (if f.nm ∈ ds then some n else doubledL (f.nm :: ds) (declP (n + 1) fs))
      rw [doubled_same fs (n + 1) (f.nm :: ds)]
/-! ### what names are -/
theorem look_go {α β : Type} {c : α → Option β} : ∀ (l : List (Str × α)) (l' : List (Str × β)) (g : Str → Option α) (g' : Str → Option β), (l.map fun p => (p.1, c p.2)) = (l'.map fun p => (p.1, some p.2)) → (∀ x, g' x = (g x).bind c) →
    ∀ x, (l'.foldl (fun g p => fun y => if y = p.1 then some p.2 else g y) g') x = ((l.foldl (fun g p => fun y => if y = p.1 then some p.2 else g y) g) x).bind c
  | [], [], g, g', _, h, x => h x
  | [], _ :: _, _, _, h, _, _ => by cases h
  | _ :: _, [], _, _, h, _, _ => by cases h
  | p :: l, p' :: l', g, g', h, hg, x => by
    rw [List.map_cons, List.map_cons, List.cons.injEq, Prod.mk.injEq] at h
    refine look_go l l' _ _ h.2 (fun y => ?_) x
    show (if y = p'.1 then some p'.2 else g' y) = (if y = p.1 then some p.2 else g y).bind c
    rw [← h.1.1, ← h.1.2]
    by_cases e : y = p.1
    · rw [if_pos e, if_pos e]; rfl
    · rw [if_neg e, if_neg e]; exact hg y
theorem declP_map : ∀ (fs : List Fm) (n : Nat), (((fs.filter fun f => f.kind.declares).map fun f => (f.nm, f.kind)).map fun p => (p.1, p.2.d)) = ((declP n fs).map fun z => (z.2.2, z.2.1)).map fun p => (p.1, some p.2)
  | [], _ => rfl
  | f :: fs, n => by
    unfold declP
    cases hd : f.kind.d with
    | none =>
      have hq : ¬ f.kind.declares = true := fun e => (declares_d _).mp e hd
      rw [List.filter_cons_of_neg (p := fun f : Fm => f.kind.declares) hq]
      exact declP_map fs (n + 1)
    | some d =>
      have hq : f.kind.declares = true := (declares_d _).mpr (by rw [hd]; simp)
      rw [List.filter_cons_of_pos (p := fun f : Fm => f.kind.declares) hq]
      simp only [List.map_cons, hd]
      rw [declP_map fs (n + 1)]
theorem kinds_same (fs : List Fm) (n : Nat) (x : Str) : kindsL (declP n fs) x = (kindsP fs x).bind PK.d := by
  unfold kindsL kindsP look
  exact look_go _ _ (fun _ => none) (fun _ => none) (declP_map fs n) (fun _ => rfl) x
theorem look_mem {α : Type} {P : α → Prop} : ∀ (l : List (Str × α)) (g : Str → Option α), (∀ p ∈ l, P p.2) → (∀ x k, g x = some k → P k) → ∀ x k, (l.foldl (fun g p => fun y => if y = p.1 then some p.2 else g y) g) x = some k → P k
  | [], _, _, h, x, k, e => h x k e
  | p :: l, g, hl, h, x, k, e => by
    refine look_mem l _ (fun q hq => hl q (List.mem_cons_of_mem _ hq)) (fun y j ej => ?_) x k e
    have ej' : (if y = p.1 then some p.2 else g y) = some j := ej
    by_cases e : y = p.1
    · rw [if_pos e] at ej'; cases ej'; exact hl p (List.mem_cons_self ..)
    · rw [if_neg e] at ej'; exact h y j ej'
theorem kinds_d {fs : List Fm} {x : Str} {k : PK} (h : kindsP fs x = some k) : k.d ≠ none := by
  refine look_mem (P := fun k : PK => k.d ≠ none) _ _ (fun p hp => ?_) (fun _ _ e => (by cases e)) x k h
  obtain ⟨f, hf, e⟩ := List.mem_map.mp hp
  rw [← e]
  exact (declares_d _).mp (List.mem_filter.mp hf).2
noncomputable def wantedD : Wn → Option D → Bool
  | .LOCK, k => decide (k = some .lock)
  | .QUEUE, k => decide (k = some .queue)
  | .PART, k => decide (k = some .part)
  | .TASK, k => decide (k = some .task ∨ k = some .later)
  | .LATER, k => decide (k = some .later)
  | .VARIABLE, k => decide (k = none ∨ k = some .cell)
theorem wanted_eq {o : Option PK} (h : ∀ k, o = some k → k.d ≠ none) (w : Wn) : wantedP w o = wantedD w (o.bind PK.d) := by
  cases o with
  | none => cases w <;> simp [wantedP, wantedD]
  | some k =>
    have := h k rfl
    cases w <;> cases k <;> simp [PK.d] at this <;> simp [wantedP, wantedD, PK.d]
theorem whole_eqs {w : Str} {lo hi : Int} (h : wholeL w lo hi = true) : w ≠ "=" := fun e => by
  rw [e] at h
  exact absurd h (by simp [wholeL, show allIn ("=" : Str) DIGITS = false from by decide +kernel])
theorem name_eqs {w : Str} (h : isName w = true) : w ≠ "=" := fun e => by rw [e] at h; exact absurd h (by decide +kernel)
theorem line_same {g : Str → Option D} {a : Str} {r : List Str} {k : K} (hc : cls (a :: r) = some k) (hs : k.pk .stmt ≠ none) (ht : k.kwOf ≠ .task) : lineL g (a :: r) = (k.usesAt .stmt).all fun z => wantedD z.1 (g z.2) := by
  have h' : clsK (kw a) a r = some k := hc
  have ea : kw a = k.kwOf := kw_of hc
  have n1 : ∀ w, isName w = true → ¬ w = "=" := fun w h => name_eqs h
  have n2 : ∀ w lo hi, wholeL w lo hi = true → ¬ w = "=" := fun w lo hi h => whole_eqs h
  have n3 : isName "=" = false := by decide +kernel
  unfold lineL variablesL wantsL
  generalize hA : kw a = A at *
  unfold clsK at h'
  split at h'
  all_goals first
    | (cases h'; done)
    | (split at h'
       · rename_i c
         cases h'
         first
           | exact absurd rfl hs
           | exact absurd rfl ht
           | (simp [hA, K.usesAt, K.uses, wantedD, names, c, n1 _ c, List.all_map, Function.comp_def]; done)
           | (simp [hA, K.usesAt, K.uses, wantedD, names, c, n2 _ _ _ c, List.all_map, Function.comp_def]; done)
           | (simp [hA, K.usesAt, K.uses, wantedD, names, c, List.all_map, Function.comp_def]; done)
           | (simp [hA, K.usesAt, K.uses, wantedD, names, c, n2 _ _ _ c.1, List.all_map, Function.comp_def]; done)
           | (simp [hA, K.usesAt, K.uses, wantedD, names, c, n3, kw_eqs.mpr c.2.1, List.all_map, Function.comp_def]; done)
           | trace_state
       · cases h'; done)
    | (cases h'; first | exact absurd rfl hs | exact absurd rfl ht | (simp [hA, K.usesAt, K.uses, wantedD, names, List.all_map, Function.comp_def]; done) | trace_state)
end Mi

/-! whole texts: both readers tell the same -/
namespace Mi
open PySem
noncomputable def isTaskL (z : Nat × D × Str) : Prop := z.2.1 = .task ∨ z.2.1 = .later
noncomputable instance (z : Nat × D × Str) : Decidable (isTaskL z) := by unfold isTaskL; infer_instance
theorem firstL_spec : ∀ (l : List (Nat × D × Str)) (n : Nat), (firstL n l ≤ n ∧ ∀ z ∈ l, isTaskL z → firstL n l ≤ z.1) ∧ (firstL n l = n ∨ ∃ z ∈ l, isTaskL z ∧ firstL n l = z.1)
  | [], n => ⟨⟨Nat.le_refl _, fun _ h => (by cases h)⟩, .inl rfl⟩
  | z :: l, n => by
    have e : firstL n (z :: l) = firstL (if z.2.1 = .task ∨ z.2.1 = .later then min n z.1 else n) l := rfl
    rw [e]
    obtain ⟨⟨h1, h2⟩, h3⟩ := firstL_spec l (if z.2.1 = .task ∨ z.2.1 = .later then min n z.1 else n)
    generalize hm : (if z.2.1 = .task ∨ z.2.1 = .later then min n z.1 else n) = m at *
    by_cases ht : isTaskL z
    · have hm' : min n z.1 = m := by rw [← hm]; exact (if_pos ht).symm
      refine ⟨⟨by omega, fun y hy hyt => ?_⟩, ?_⟩
      · rcases List.mem_cons.mp hy with e | hy
        · rw [e]; omega
        · exact h2 y hy hyt
      · rcases h3 with h3 | ⟨y, hy, hyt, e⟩
        · by_cases hle : n ≤ z.1
          · left; omega
          · right; exact ⟨z, List.mem_cons_self .., ht, by omega⟩
        · exact .inr ⟨y, List.mem_cons_of_mem _ hy, hyt, e⟩
    · have hm' : n = m := by rw [← hm]; exact (if_neg ht).symm
      refine ⟨⟨by omega, fun y hy hyt => ?_⟩, ?_⟩
      · rcases List.mem_cons.mp hy with e | hy
        · rw [e] at hyt; exact absurd hyt ht
        · exact h2 y hy hyt
      · rcases h3 with h3 | ⟨y, hy, hyt, e⟩
        · left; omega
        · exact .inr ⟨y, List.mem_cons_of_mem _ hy, hyt, e⟩
theorem declaredL_cons (n : Nat) (t : Bool) (a : Str) (r : List Str) (wss : List (List Str)) : declaredL n t ((a :: r) :: wss) = match declL t a r with
    | some d => (n, d, r.getD 0 "") :: declaredL (n + 1) (t || decide (kw a = .task)) wss
    | none => declaredL (n + 1) (t || decide (kw a = .task)) wss := rfl
/-- the tasks among what is declared are the lines of tasks -/
theorem task_decl : ∀ (wss : List (List Str)) (n : Nat) (t : Bool) (j : Nat), (∃ z ∈ declaredL n t wss, isTaskL z ∧ z.1 = n + j) ↔ ∃ a r, wss[j]? = some (a :: r) ∧ kw a = .task
  | [], _, _, j => ⟨fun ⟨_, h, _⟩ => (by cases h), fun ⟨_, _, h, _⟩ => (by cases h)⟩
  | ws :: wss, n, t, j => by
    have low : ∀ (wss : List (List Str)) (n : Nat) (t : Bool), ∀ z ∈ declaredL n t wss, n ≤ z.1 := by
      intro wss
      induction wss with
      | nil => intro n t z h; cases h
      | cons ws wss ih =>
        intro n t z h
        cases ws with
        | nil => exact Nat.le_of_succ_le (ih _ _ z h)
        | cons a r =>
          unfold declaredL at h
          split at h
          · rcases List.mem_cons.mp h with e | h
            · rw [e]; exact Nat.le_refl _
            · exact Nat.le_of_succ_le (ih _ _ z h)
          · exact Nat.le_of_succ_le (ih _ _ z h)
    cases ws with
    | nil =>
      cases j with
      | zero =>
        refine ⟨fun ⟨z, h, _, e⟩ => ?_, fun ⟨a, r, h, _⟩ => (by cases h)⟩
        have := low wss (n + 1) t z h
        omega
      | succ j =>
        have := task_decl wss (n + 1) t j
        rw [show n + 1 + j = n + (j + 1) from by omega] at this
        exact this
    | cons a r =>
      cases j with
      | zero =>
        unfold declaredL
        constructor
        · rintro ⟨z, h, hz, e⟩
          split at h
          · rename_i d hd
            rcases List.mem_cons.mp h with e2 | h
            · rw [e2] at hz
              refine ⟨a, r, rfl, ?_⟩
              unfold declL at hd
              split at hd
              · generalize kw a = A at *
                cases A <;> simp [dOf] at hd <;> first | rfl | (rw [← hd] at hz; rcases hz with hz | hz <;> cases hz)
              · cases hd
            · have := low wss (n + 1) _ z h
              omega
          · have := low wss (n + 1) _ z h
            omega
        · rintro ⟨a', r', h, ht⟩
          cases h
          have hd : declL t a r = some (if (a :: r).length = 4 then .later else .task) := by
            unfold declL
            rw [if_pos (by simp [ht]), ht]
            show (if _ then _ else _) = _
            by_cases h4 : (a :: r).length = 4
            · rw [if_pos h4, if_pos h4]
            · rw [if_neg h4, if_neg h4]
          rw [hd]
          refine ⟨_, List.mem_cons_self .., ?_, rfl⟩
          unfold isTaskL
          by_cases h4 : (a :: r).length = 4
          · rw [if_pos h4]; exact .inr rfl
          · rw [if_neg h4]; exact .inl rfl
      | succ j =>
        have := task_decl wss (n + 1) (t || decide (kw a = .task)) j
        rw [show n + 1 + j = n + (j + 1) from by omega] at this
        rw [show ((a :: r) :: wss)[j + 1]? = wss[j]? from rfl, ← this]
        rw [declaredL_cons]
        constructor
        · rintro ⟨z, h, hz, e⟩
          split at h
          · rcases List.mem_cons.mp h with e2 | h
            · rw [e2] at e
              have e' : n = n + (j + 1) := e
              omega
            · exact ⟨z, h, hz, e⟩
          · exact ⟨z, h, hz, e⟩
        · rintro ⟨z, h, hz, e⟩
          split
          · exact ⟨z, List.mem_cons_of_mem _ h, hz, e⟩
          · exact ⟨z, h, hz, e⟩
theorem first_iff (wss : List (List Str)) (j : Nat) (hj : j < wss.length) : firstL wss.length (declaredL 0 false wss) < j ↔ ∃ i, i < j ∧ ∃ a r, wss[i]? = some (a :: r) ∧ kw a = .task := by
  obtain ⟨⟨h1, h2⟩, h3⟩ := firstL_spec (declaredL 0 false wss) wss.length
  generalize firstL wss.length (declaredL 0 false wss) = m at *
  constructor
  · intro h
    rcases h3 with h3 | ⟨z, hz, ht, e⟩
    · omega
    · exact ⟨m, h, (task_decl wss 0 false m).mp ⟨z, hz, ht, by omega⟩⟩
  · rintro ⟨i, hi, h⟩
    obtain ⟨z, hz, ht, e⟩ := (task_decl wss 0 false i).mpr h
    have := h2 z hz ht
    omega
theorem uses_out {p : Pl} {k : K} {q : PK} (h : k.pk p = some q) (hp : p ≠ .stmt ∨ k.kwOf = .task) : k.usesAt p = [] := by
  cases p <;> cases k <;> simp [K.pk, K.kwOf] at h hp <;> rfl
theorem unnamed_same {g : Str → Option PK} {g' : Str → Option D} (hg : ∀ x, g' x = (g x).bind PK.d) (hd : ∀ x k, g x = some k → k.d ≠ none) {first : Nat} : ∀ {n : Nat} {t : Bool} {fs : List Fm} {wss : List (List Str)}, Rel n t fs wss → (n < 2 → t = false) →
    (∀ j, j < wss.length → (first < n + j ↔ t = true ∨ ∃ i, i < j ∧ ∃ a r, wss[i]? = some (a :: r) ∧ kw a = .task)) → unnamedP g n fs = unnamedL g' first n wss := by
  intro n t fs wss h
  induction h with
  | nil => intro _ _; rfl
  | cons h1 h2 _ ih =>
    intro hn hf
    rename_i n t f fs a r wss k _
    have hk := h2.kind
    have ih := ih (first_next hk hn) (fun j hj => by
      have := hf (j + 1) (by simpa using hj)
      rw [show n + 1 + j = n + (j + 1) from by omega, this, Bool.or_eq_true, decide_eq_true_iff, ← kw_of h1]
      constructor
      · rintro (h | ⟨i, hi, h⟩)
        · exact .inl (.inl h)
        · cases i with
          | zero => obtain ⟨a', r', e, ht⟩ := h; cases e; exact .inl (.inr ht)
          | succ i => exact .inr ⟨i, by omega, h⟩
      · rintro ((h | h) | ⟨i, hi, h⟩)
        · exact .inl h
        · exact .inr ⟨0, by omega, a, r, rfl, h⟩
        · exact .inr ⟨i + 1, by omega, h⟩)
    have h0 := hf 0 (by simp)
    have h0' : first < n ↔ t = true := by
      rw [Nat.add_zero] at h0
      rw [h0]
      exact ⟨fun h => h.elim id (fun ⟨i, hi, _⟩ => absurd hi (Nat.not_lt_zero _)), .inl⟩
    unfold unnamedP unnamedL
    rw [all_mem h2.uses, ih]
    have e0 : ((a :: r).getD 0 "") = a := rfl
    rw [e0, kw_of h1]
    by_cases hs : pl n t = .stmt ∧ k.kwOf ≠ .task
    · obtain ⟨hs, ht⟩ := hs
      have tt : t = true := by
        rcases pl_cases n t with ⟨_, ep⟩ | ⟨_, ep⟩ | ⟨_, et, _⟩ | ⟨_, _, ep⟩
        · rw [hs] at ep; cases ep
        · rw [hs] at ep; cases ep
        · exact et
        · rw [hs] at ep; cases ep
      rw [hs] at hk
      rw [hs, line_same h1 (by rw [hk]; simp) ht, decide_eq_true (h0'.mpr tt), decide_eq_false ht]
      have e : ((k.usesAt .stmt).all fun z => wantedP z.1 (g z.2)) = (k.usesAt .stmt).all fun z => wantedD z.1 (g' z.2) := by
        congr 1
        funext z
        rw [hg]
        exact wanted_eq (hd z.2) z.1
      rw [e]
      cases (k.usesAt .stmt).all fun z => wantedD z.1 (g' z.2) <;> rfl
    · have hs' : pl n t ≠ .stmt ∨ k.kwOf = .task := by
        by_cases h : pl n t = .stmt
        · exact .inr (Decidable.not_not.mp fun e => hs ⟨h, e⟩)
        · exact .inl h
      rw [uses_out hk hs']
      show unnamedL g' first (n + 1) wss = _
      rw [if_neg ?_]
      rw [Bool.and_eq_true, decide_eq_true_iff, h0', Bool.and_eq_true]
      rintro ⟨tt, hnt, _⟩
      rcases hs' with hp | ht
      · refine hp ?_
        rcases pl_cases n t with ⟨e, _⟩ | ⟨e, _⟩ | ⟨_, _, ep⟩ | ⟨_, et, _⟩
        · rw [hn (by omega)] at tt; cases tt
        · rw [hn (by omega)] at tt; cases tt
        · exact ep
        · rw [et] at tt; cases tt
      · rw [decide_eq_true ht] at hnt; cases hnt
/-- what the package's reading is due to tell is what the law's own reader is due to tell -/
theorem due_same (wss : List (List Str)) (hn : ∀ ws ∈ wss, ws ≠ []) : dueP wss = dueL wss := by
  unfold dueP dueL
  rcases read_sim wss [] [] _ hn inv0 with ⟨n, e1, e2⟩ | ⟨fs, e1, e2, e3⟩
  · rw [e1, show lawBad 0 ⟨[], fun _ => 0, none⟩ wss = _ from e2]
  · rw [e1, show lawBad 0 ⟨[], fun _ => 0, none⟩ wss = _ from e2]
    have e3' : Rel 0 false fs wss := e3
    have hd := decl_same e3' (fun _ => rfl)
    rw [hd, ← doubled_same fs 0 []]
    simp only [List.nil_append]
    show (match doubledP 0 [] fs with | some n => _ | none => _) = (match doubledP 0 [] fs with | some n => _ | none => _)
    have hu := unnamed_same (g := kindsP fs) (g' := kindsL (declP 0 fs)) (kinds_same fs 0) (fun x k h => kinds_d h) (first := firstL wss.length (declP 0 fs)) e3' (fun _ => rfl) (fun j hj => by
      rw [← hd, Nat.zero_add, first_iff wss j hj]
      exact ⟨.inr, fun h => h.elim (fun z => by cases z) id⟩)
    rw [hu]
end Mi

/-! the tables of the module's text, read from what is written -/
namespace Ws
open PySem PySem.Spec PyProof.Rows L2
noncomputable def pkTxt : Mi.PK → Str
  | .cores => "cores" | .slice => "slice" | .lock => "lock" | .lent => "lent" | .queue => "queue" | .cell => "cell" | .part => "part" | .task => "task" | .later => "later" | .work => "work" | .set => "set" | .ifk => "if" | .elsek => "else" | .endk => "end" | .whilek => "while"
  | .repeatk => "repeat" | .get => "get" | .unlock => "unlock" | .put => "put" | .take => "take" | .sleep => "sleep" | .start => "start" | .wait => "wait" | .say => "say"
noncomputable def pkAll : List Mi.PK := [.cores, .slice, .lock, .lent, .queue, .cell, .part, .task, .later, .work, .set, .ifk, .elsek, .endk, .whilek, .repeatk, .get, .unlock, .put, .take, .sleep, .start, .wait, .say]
noncomputable def wnTxt : Mi.Wn → Str
  | .LOCK => "LOCK" | .QUEUE => "QUEUE" | .PART => "PART" | .TASK => "TASK" | .LATER => "LATER" | .VARIABLE => "VARIABLE"
noncomputable def wnAll : List Mi.Wn := [.LOCK, .QUEUE, .PART, .TASK, .LATER, .VARIABLE]
theorem pk_inj {a b : Mi.PK} (h : pkTxt a = pkTxt b) : a = b := by
  revert h
  cases a <;> cases b <;> first | (intro _; rfl) | (intro h; exact absurd h (by decide +kernel))
/-- the items of a written tuple -/
noncomputable def kTup (K : PySem.W.Frag) : Value → Option (List Value)
  | .ref a => match K.lookup a with
    | some ⟨.type "tuple", _, .seq its _, _⟩ => if its.size ≤ 1000 then some its.toList else none
    | _ => none
  | _ => none
noncomputable def slStr (x : Str) : Option Mi.Sl :=
  if x = "NEW" then some .new else if x = "VALUE" then some .value else match wnAll.find? (fun w => decide (wnTxt w = x)) with
    | some w => some (.want w)
    | none => match Mi.kw x with
      | .other => none
      | k => some (.lit k)
noncomputable def rdSl (K : PySem.W.Frag) (v : Value) : Option Mi.Sl := match v with
  | .str x _ => slStr x
  | v => match kTup K v with
    | some [.int lo _, .int hi _] => if 0 ≤ hi ∧ hi < 1000 then some (.num lo hi) else none
    | _ => none
noncomputable def rdRow (K : PySem.W.Frag) (v : Value) : Option (Mi.PK × List Mi.Sl) := match kTup K v with
  | some [.str x _, s] => match pkAll.find? (fun p => decide (pkTxt p = x)), (kTup K s).bind (fun l => l.mapM (rdSl K)) with
    | some p, some sl => some (p, sl)
    | _, _ => none
  | _ => none
noncomputable def rdTab (K : PySem.W.Frag) (v : Value) : Option Mi.Rows := (kTup K v).bind fun l => l.mapM (rdRow K)
/-! ### what they tell -/
noncomputable def SlAt (K : PySem.W.Frag) : Mi.Sl → V → Prop
  | .lit k, v => v = .str k.txt ∧ k ≠ .other
  | .num lo hi, v => (0 ≤ hi ∧ hi < 1000) ∧ ∃ t, v = .ref t ∧ ∀ H, SqT K H t [.int lo, .int hi]
  | .new, v => v = .str "NEW"
  | .want w, v => v = .str (wnTxt w)
  | .value, v => v = .str "VALUE"
noncomputable def SlotsAt (K : PySem.W.Frag) (a : Addr) (sl : List Mi.Sl) : Prop := ∃ vs, (∀ H, SqT K H a vs) ∧ Paired (SlAt K) sl vs
noncomputable def RowAt (K : PySem.W.Frag) (r : Mi.PK × List Mi.Sl) (v : V) : Prop := ∃ a b, v = .ref a ∧ (∀ H, SqT K H a [.str (pkTxt r.1), .ref b]) ∧ SlotsAt K b r.2
noncomputable def TabAt (K : PySem.W.Frag) (rows : Mi.Rows) (a : Addr) : Prop := ∃ vs, (∀ H, SqT K H a vs) ∧ Paired (RowAt K) rows vs
theorem kTup_at {K : PySem.W.Frag} {v : Value} {l : List Value} (h : kTup K v = some l) : ∃ a, v = .ref a ∧ l.length ≤ 1000 ∧ ∀ (vs : List V) (H : Hp), Vals vs l → SqT K H a vs := by
  unfold kTup at h
  split at h
  · rename_i a
    split at h
    · rename_i d its n sl hl
      split at h
      · rename_i hz
        cases h
        refine ⟨a, rfl, by simpa using hz, fun vs H r => .inr ⟨_, its, n, hl, rfl, rfl, Nat.le_trans hz (by decide), r⟩⟩
      · cases h
    · cases h
  · cases h
theorem slStr_at {K : PySem.W.Frag} {x : Str} {s : Mi.Sl} (h : slStr x = some s) : SlAt K s (.str x) := by
  unfold slStr at h
  split at h
  · rename_i e; cases h; rw [e]; rfl
  · split at h
    · rename_i e; cases h; rw [e]; rfl
    · split at h
      · rename_i w hw
        cases h
        have := List.find?_some hw
        have e : wnTxt w = x := of_decide_eq_true this
        show V.str x = V.str (wnTxt w)
        rw [e]
      · split at h
        · cases h
        · rename_i k hk
          cases h
          have e := Mi.kwIn_txt (show Mi.kwIn Mi.Kw.all x = Mi.kw x from rfl) hk
          show V.str x = V.str (Mi.kw x).txt ∧ _
          exact ⟨congrArg V.str e, hk⟩
theorem rdSl_at {K : PySem.W.Frag} {v : Value} {s : Mi.Sl} (h : rdSl K v = some s) : ∃ u, RelV u v ∧ SlAt K s u := by
  unfold rdSl at h
  split at h
  · rename_i x t
    exact ⟨.str x, ⟨t, rfl⟩, slStr_at h⟩
  · split at h
    · rename_i lo t1 hi t2 hk
      split at h
      case isFalse => cases h
      rename_i hb
      cases h
      obtain ⟨a, e, _, k⟩ := kTup_at hk
      subst e
      exact ⟨.ref a, rfl, hb, a, rfl, fun H => k [.int lo, .int hi] H (.cons ⟨_, rfl⟩ (.cons ⟨_, rfl⟩ .nil))⟩
    · cases h
theorem mapM_pair {α : Type} {f : Value → Option α} {R : α → V → Prop} (hf : ∀ v a, f v = some a → ∃ u, RelV u v ∧ R a u) : ∀ {l : List Value} {as : List α}, l.mapM f = some as → ∃ us, Vals us l ∧ Paired R as us
  | [], as, h => by
    cases h
    exact ⟨[], .nil, .nil⟩
  | v :: l, as, h => by
    rw [List.mapM_cons] at h
    cases e1 : f v with
    | none => rw [e1] at h; cases h
    | some a =>
      rw [e1] at h
      cases e2 : l.mapM f with
      | none => rw [e2] at h; cases h
      | some bs =>
        rw [e2] at h
        cases h
        obtain ⟨u, h1, h2⟩ := hf v a e1
        obtain ⟨us, h3, h4⟩ := mapM_pair hf e2
        exact ⟨u :: us, .cons h1 h3, .cons h2 h4⟩
theorem rdRow_at {K : PySem.W.Frag} {v : Value} {r : Mi.PK × List Mi.Sl} (h : rdRow K v = some r) : ∃ u, RelV u v ∧ RowAt K r u := by
  unfold rdRow at h
  split at h
  · rename_i x t s hk
    split at h
    · rename_i p sl hp hs
      cases h
      obtain ⟨a, e, _, k⟩ := kTup_at hk
      subst e
      have hp2 := List.find?_some hp
      have e2 : pkTxt p = x := of_decide_eq_true hp2
      cases hks : kTup K s with
      | none => rw [hks] at hs; cases hs
      | some l =>
        rw [hks] at hs
        obtain ⟨b, eb, _, kb⟩ := kTup_at hks
        subst eb
        obtain ⟨us, h3, h4⟩ := mapM_pair (R := SlAt K) (fun v a e => rdSl_at e) (show l.mapM (rdSl K) = some sl from hs)
        exact ⟨.ref a, rfl, a, b, rfl, fun H => k _ H (.cons ⟨t, by rw [e2]⟩ (.cons rfl .nil)), us, fun H => kb us H h3, h4⟩
    · cases h
  · cases h
theorem rdTab_at {K : PySem.W.Frag} {a : Addr} {rows : Mi.Rows} (h : rdTab K (.ref a) = some rows) : TabAt K rows a := by
  unfold rdTab at h
  cases hk : kTup K (.ref a) with
  | none => rw [hk] at h; cases h
  | some l =>
    rw [hk] at h
    obtain ⟨b, eb, _, kb⟩ := kTup_at hk
    cases eb
    obtain ⟨us, h3, h4⟩ := mapM_pair (R := RowAt K) (fun v a e => rdRow_at e) (show l.mapM (rdRow K) = some rows from h)
    exact ⟨us, fun H => kb us H h3, h4⟩
/-! ### dicts -/
inductive DV where
  | s (x : Str) | i (n : Int) | t (xs : List (Option Str))
  deriving DecidableEq
noncomputable def dvOf (K : PySem.W.Frag) (v : Value) : Option DV := match v with
  | .str x _ => some (.s x)
  | .int n _ => some (.i n)
  | v => (kTup K v).bind fun l => (l.mapM fun u => match u with | Value.str x _ => some (some x) | Value.none => some none | _ => none).map .t
noncomputable def rdDict (K : PySem.W.Frag) (a : Addr) : Option (List (Str × DV)) := match K.lookup a with
  | some ⟨_, _, .dict es _, _⟩ => es.toList.mapM fun e => match e.key with
    | .str x _ => (dvOf K e.val).map fun d => (x, d)
    | _ => none
  | _ => none
noncomputable def DvAt (K : PySem.W.Frag) : DV → V → Prop
  | .s x, v => v = .str x
  | .i n, v => v = .int n
  | .t xs, v => ∃ a, v = .ref a ∧ ∀ H, SqT K H a (xs.map fun o => match o with | some x => V.str x | none => V.non)
theorem dvOf_at {K : PySem.W.Frag} {v : Value} {d : DV} (h : dvOf K v = some d) : ∃ u, RelV u v ∧ DvAt K d u := by
  unfold dvOf at h
  split at h
  · rename_i x t; cases h; exact ⟨.str x, ⟨t, rfl⟩, rfl⟩
  · rename_i x t; cases h; exact ⟨.int x, ⟨t, rfl⟩, rfl⟩
  · cases hk : kTup K v with
    | none => rw [hk] at h; cases h
    | some l =>
      rw [hk] at h
      obtain ⟨b, eb, _, kb⟩ := kTup_at hk
      subst eb
      obtain ⟨xs, h1, h2⟩ := Option.map_eq_some_iff.mp (show Option.map DV.t (l.mapM _) = some d from h)
      subst h2
      obtain ⟨us, h3, h4⟩ := mapM_pair (R := fun (o : Option Str) u => u = match o with | some x => V.str x | none => V.non) (fun v a e => by
        split at e
        · rename_i x t; cases e; exact ⟨.str x, ⟨t, rfl⟩, rfl⟩
        · cases e; exact ⟨.non, rfl, rfl⟩
        · cases e) h1
      refine ⟨.ref b, rfl, b, rfl, fun H => ?_⟩
      have : us = xs.map fun o => match o with | some x => V.str x | none => V.non := by
        clear h1 h3 hk h kb
        induction h4 with
        | nil => rfl
        | cons e _ ih => rw [e, ih]; rfl
      rw [← this]
      exact kb us H h3
noncomputable def findD (l : List (Str × DV)) (x : Str) : Option DV := (l.find? fun p => decide (p.1 = x)).map (·.2)
/-- what such a dict holds at a text -/
theorem rdDict_at {K : PySem.W.Frag} {w : World} {a : Addr} {l : List (Str × DV)} {ks : List Str} (h : rdDict K a = some l) (hd : He.dicW K a = some (He.keysIn w.params ks)) (x : Str) :
    (findD l x = none ∧ KHas K w a x none) ∨ ∃ d v, findD l x = some d ∧ DvAt K d v ∧ KHas K w a x (some v) := by
  obtain ⟨es0, n0, D⟩ := He.dicW_ok hd
  unfold rdDict at h
  rw [D.at_] at h
  have hm : es0.toList.mapM (fun e => match e.key with | .str x _ => (dvOf K e.val).map fun d => (x, d) | _ => none) = some l := h
  have key : ∀ (es : List DictEntry) (l : List (Str × DV)), es.mapM (fun e => match e.key with | .str x _ => (dvOf K e.val).map fun d => (x, d) | _ => none) = some l →
      (findD l x = none ∧ es.find? (·.key.isStr x) = none ∧ es.any (·.refKey) = false) ∨ ∃ d v e, findD l x = some d ∧ DvAt K d v ∧ es.find? (·.key.isStr x) = some e ∧ RelV v e.val := by
    intro es
    induction es with
    | nil => intro l h; cases h; exact .inl ⟨rfl, rfl, rfl⟩
    | cons e es ih =>
      intro l h
      rw [List.mapM_cons] at h
      cases hk : e.key with
      | str y t =>
        rw [hk] at h
        cases hv : dvOf K e.val with
        | none => rw [hv] at h; cases h
        | some d =>
          rw [hv] at h
          cases hr : es.mapM (fun e => match e.key with | .str x _ => (dvOf K e.val).map fun d => (x, d) | _ => none) with
          | none =>
            have h' : (match es.mapM (fun e => match e.key with | .str x _ => (dvOf K e.val).map fun d => (x, d) | _ => none) with | none => none | some r => some ((y, d) :: r)) = some l := by
              rw [← h]; cases es.mapM (fun e => match e.key with | .str x _ => (dvOf K e.val).map fun d => (x, d) | _ => none) <;> rfl
            rw [hr] at h'; cases h'
          | some r =>
            have h' : (match es.mapM (fun e => match e.key with | .str x _ => (dvOf K e.val).map fun d => (x, d) | _ => none) with | none => none | some r => some ((y, d) :: r)) = some l := by
              rw [← h]; cases es.mapM (fun e => match e.key with | .str x _ => (dvOf K e.val).map fun d => (x, d) | _ => none) <;> rfl
            rw [hr] at h'
            cases h'
            have hs : e.key.isStr x = decide (y = x) := by
              rw [hk]
              show (y == x) = _
              rw [Bool.eq_iff_iff, beq_iff_eq, decide_eq_true_iff]
            by_cases e1 : y = x
            · obtain ⟨u, ru, du⟩ := dvOf_at hv
              refine .inr ⟨d, u, e, ?_, du, ?_, ru⟩
              · unfold findD
                rw [List.find?_cons, decide_eq_true (show (y, d).1 = x from e1)]
                rfl
              · rw [List.find?_cons, hs, decide_eq_true e1]
            · have f1 : findD ((y, d) :: r) x = findD r x := by
                unfold findD
                rw [List.find?_cons, decide_eq_false (show ¬ (y, d).1 = x from e1)]
              have f2 : (e :: es).find? (·.key.isStr x) = es.find? (·.key.isStr x) := by
                rw [List.find?_cons, hs, decide_eq_false e1]
              rw [f1, f2]
              rcases ih r hr with ⟨i1, i2, i3⟩ | i
              · refine .inl ⟨i1, i2, ?_⟩
                rw [List.any_cons, i3, Bool.or_false]
                show e.refKey = false
                unfold DictEntry.refKey
                rw [hk]
              · exact .inr i
      | _ => rw [hk] at h; cases h
  rcases key _ _ hm with ⟨i1, i2, i3⟩ | ⟨d, v, e, i1, i2, i3, i4⟩
  · refine .inl ⟨i1, es0, n0, none, D, ?_, trivial⟩
    unfold PySem.W.nsIn
    rw [D.at_]
    show (match es0.toList.find? (·.key.isStr x) with | some e => some (some e.val) | none => if es0.toList.any (·.refKey) then none else some none) = some none
    rw [i2, i3]
    rfl
  · refine .inr ⟨d, v, i1, i2, es0, n0, some e.val, D, ?_, i4⟩
    unfold PySem.W.nsIn
    rw [D.at_]
    show (match es0.toList.find? (·.key.isStr x) with | some e => some (some e.val) | none => if es0.toList.any (·.refKey) then none else some none) = some (some e.val)
    rw [i3]
end Ws

namespace Ws
open PySem PySem.Spec PyProof.Rows L2
/-! ### the head by one kernel run: what the top has laid, told by names -/
/-- the addresses that are looked at: the module's globals, and what the top has laid (from lo on, so many) -/
noncomputable def adrs (lo n : Nat) : List Addr := mainGlobals :: List.range' lo n
/-- a def: where it stands, its name, its qualified name, its statement, its defaults -/
structure DnD where
  at_ : PySem.W.Frag → Addr
  name : Str
  qual : Str
  st : Stmt
  dfl : List He.Dv := []
  kwd : List (Str × He.Dv) := []
noncomputable def fnWa (K : PySem.W.Frag) (a : Addr) : He.FnW := match K.lookup a with
  | some ⟨_, _, .func fd, _⟩ => some (fd.name, fd.qualname, fd.params, fd.body, fd.scope, fd.globals, fd.closure, fd.builtins)
  | _ => none
noncomputable def DnD.val (d : DnD) : He.FnW := some (d.name, d.qual, defArgs d.st, .stmts (defBody d.st), defScope d.st, mainGlobals, [], builtinsNs)
noncomputable def DnD.dvs (K : PySem.W.Frag) (d : DnD) : List V := d.dfl.map (He.Dv.v K)
noncomputable def DnD.kws (K : PySem.W.Frag) (d : DnD) : List (Str × V) := d.kwd.map fun q => (q.1, q.2.v K)
noncomputable def DnD.ok (K : PySem.W.Frag) (d : DnD) : Bool := PySem.W.keepIn K (.ref (d.at_ K)) && (match K.lookup (d.at_ K) with
  | some ⟨_, _, .func fd, _⟩ => PySem.W.codeIn K fd.code d.qual && (He.dflB K fd.defaults (d.dvs K) && He.kwdB K fd.kwdefaults (d.kws K))
  | _ => false)
theorem DnD.funD {K : PySem.W.Frag} {d : DnD} (e : fnWa K (d.at_ K) = d.val) (c : d.ok K = true) : ∃ fd, FunD K d.name d.qual (defArgs d.st) (defBody d.st) (defScope d.st) (d.dvs K) (d.kws K) (d.at_ K) fd := by
  obtain ⟨kp, c2⟩ := He.ba c
  unfold fnWa at e
  cases q : K.lookup (d.at_ K) with
  | none =>
    rw [q] at c2
    cases c2
  | some o =>
    obtain ⟨oc, od, dt, osl⟩ := o
    rw [q] at c2 e
    cases dt with
    | func fd =>
      obtain ⟨n1, n2, n3, n4, n5, n6, n7, n8, n9, n10, n11, n12, n13, n14, n15⟩ := fd
      have e2 : (some (n1, n2, n3, n4, n5, n6, n7, n15) : He.FnW) = some (d.name, d.qual, defArgs d.st, .stmts (defBody d.st), defScope d.st, mainGlobals, [], builtinsNs) := e
      simp only [Option.some.injEq, Prod.mk.injEq] at e2
      obtain ⟨h1, h2, h3, h4, h5, h6, h7, h8⟩ := e2
      subst h1 h2 h3 h4 h5 h6 h7 h8
      have c3 : (PySem.W.codeIn K n13 d.qual && (He.dflB K n8 (d.dvs K) && He.kwdB K n9 (d.kws K))) = true := c2
      obtain ⟨k1, k2⟩ := He.ba c3
      obtain ⟨k3, k4⟩ := He.ba k2
      exact ⟨_, ⟨oc, od, n8, n9, n10, n11, n12, n13, n14, osl, rfl, q, k1, He.dflB_ok k3, He.kwdB_ok k4⟩, kp⟩
    | _ => cases c2
theorem fun_of_funD {K : PySem.W.Frag} {x qual : Str} {st : Stmt} {f : Addr} {fd : FuncData} (F : FunD K x qual (defArgs st) (defBody st) (defScope st) [] [] f fd) : L2.Fun K x qual st f fd := by
  obtain ⟨oc, od, dV, kV, doc, pm, an, cdv, ct, osl, h1, h2, h3, h4, _⟩ := F.ex
  rcases h4 with ⟨_, e⟩ | ⟨e, _⟩
  · subst e
    exact ⟨⟨oc, od, kV, doc, pm, an, cdv, ct, osl, h1, h2, h3⟩, F.kp⟩
  · exact absurd rfl e
noncomputable abbrev FaW : Type := PySem.W.Frag → Bool
noncomputable abbrev AlW : Type := Bool × List He.FnW × List (Option (List (Option (Str × Int))))
noncomputable def obsW (fa : List FaW) (fn : List DnD) (ts : List He.Tab) (K : PySem.W.Frag) : AlW := ((fa.all fun f => f K) && fn.all fun d => d.ok K, fn.map fun d => fnWa K (d.at_ K), ts.map fun t => He.dicW K (t.1 K))
noncomputable def valW (fn : List DnD) (ts : List He.Tab) (w : World) : AlW := (true, fn.map DnD.val, ts.map fun t => some (He.keysIn w.params t.2))
noncomputable def SaysW (fa : List FaW) (fn : List DnD) (ts : List He.Tab) (w : World) (K : PySem.W.Frag) : Prop := obsW fa fn ts K = valW fn ts w
noncomputable def hookW (lo n : Nat) (fa : List FaW) (fn : List DnD) (ts : List He.Tab) : PySem.W.Hook where
  α := AlW
  obs := fun s => obsW fa fn ts (He.frG s.heap.get? (adrs lo n))
  val := fun w => valW fn ts w
  says := fun w h => ∃ K : PySem.W.Frag, K.In h ∧ SaysW fa fn ts w K
  of := fun _ _ e => ⟨_, He.frG_in, e⟩
  keeps := fun _ _ _ ⟨K, hK, c⟩ k => ⟨K, PySem.W.Frag.In.keeps hK k, c⟩
noncomputable def obW (lo n : Nat) (fa : List FaW) (fn : List DnD) (ts : List He.Tab) (s : PySem.W.SharedT) : AlW := obsW fa fn ts (He.frG (HandSHeadRun.getT s) (adrs lo n))
theorem obW_eq {lo n : Nat} {fa : List FaW} {fn : List DnD} {ts : List He.Tab} (s : PySem.W.SharedT) : obW lo n fa fn ts s = (hookW lo n fa fn ts).obs s.abs := by
  have e : HandSHeadRun.getT s = s.abs.heap.get? := funext fun a => HandSHeadRun.getT_eq s a
  show obsW fa fn ts (He.frG (HandSHeadRun.getT s) (adrs lo n)) = obsW fa fn ts (He.frG s.abs.heap.get? (adrs lo n))
  rw [e]
section
variable {fa : List FaW} {fn : List DnD} {ts : List He.Tab} {w : World} {K : PySem.W.Frag}
theorem SaysW.fact (c : SaysW fa fn ts w K) (i : Nat) {f : FaW} (h : fa[i]? = some f) : f K = true := by
  have c1 := (He.ba (show ((fa.all fun f => f K) && fn.all fun d => d.ok K) = true from congrArg (fun z : AlW => z.1) c)).1
  exact List.all_eq_true.mp c1 f (List.mem_of_getElem? h)
theorem SaysW.is (c : SaysW fa fn ts w K) (i : Nat) {p : PySem.W.Frag → Prop} [∀ K, Decidable (p K)] (h : fa[i]? = some fun K => decide (p K)) : p K := of_decide_eq_true (c.fact i h)
theorem SaysW.def_ (c : SaysW fa fn ts w K) (i : Nat) {d : DnD} (h : fn[i]? = some d) : ∃ fd, FunD K d.name d.qual (defArgs d.st) (defBody d.st) (defScope d.st) (d.dvs K) (d.kws K) (d.at_ K) fd := by
  have c2 := (He.ba (show ((fa.all fun f => f K) && fn.all fun d => d.ok K) = true from congrArg (fun z : AlW => z.1) c)).2
  have e : fn.map (fun d => fnWa K (d.at_ K)) = fn.map DnD.val := congrArg (fun z : AlW => z.2.1) c
  have e2 : (fn.map fun d => fnWa K (d.at_ K))[i]? = (fn.map DnD.val)[i]? := by rw [e]
  rw [List.getElem?_map, List.getElem?_map, h] at e2
  exact DnD.funD (Option.some.inj e2) (List.all_eq_true.mp c2 d (List.mem_of_getElem? h))
theorem SaysW.tab (c : SaysW fa fn ts w K) (i : Nat) {t : He.Tab} (h : ts[i]? = some t) : He.dicW K (t.1 K) = some (He.keysIn w.params t.2) := by
  have e : ts.map (fun t => He.dicW K (t.1 K)) = ts.map fun t => some (He.keysIn w.params t.2) := congrArg (fun z : AlW => z.2.2) c
  have e2 : (ts.map fun t => He.dicW K (t.1 K))[i]? = (ts.map fun t => some (He.keysIn w.params t.2))[i]? := by rw [e]
  rw [List.getElem?_map, List.getElem?_map, h] at e2
  exact Option.some.inj e2
end
/-! ### addresses by names, recognizers -/
/-- the function of the property m of the class at C -/
noncomputable def prG (K : PySem.W.Frag) (C : Addr) (m : Str) : Addr := match PySem.W.recIn K (He.ma K C m) "property" with
  | some (.ref f :: _) => f
  | _ => 0
noncomputable def prB (K : PySem.W.Frag) (C : Addr) (m : Str) : Bool := match PySem.W.recIn K (He.ma K C m) "property" with
  | some (.ref _ :: _) => true
  | _ => false
theorem prB_ok {K : PySem.W.Frag} {C : Addr} {m : Str} (h : prB K C m = true) : ∃ r, PySem.W.recIn K (He.ma K C m) "property" = some (.ref (prG K C m) :: r) := by
  unfold prB at h
  unfold prG
  split at h
  · rename_i f r e
    rw [e]
    exact ⟨r, rfl⟩
  · cases h
/-- a class that stands written: the pieces of its object -/
noncomputable def clB (K : PySem.W.Frag) (C : Addr) (p : ClassData → List Value → String → Bool) : Bool := match K.lookup C with
  | some ⟨.type "type", _, .cls cd, sl⟩ => (match cd.mro, sl.toList with
    | .ref C' :: bm, [_, _, _, _, some (.builtin n), _] => C' == C && (!cd.hasDel && p cd bm n)
    | _, _ => false)
  | _ => false
theorem clB_ok {K : PySem.W.Frag} {C : Addr} {p : ClassData → List Value → String → Bool} (q : clB K C p = true) : ∃ nm qn N bs bm hdct sn sub ab col dd k0 k1 k2 k3 k5 nid,
    K.lookup C = some (excClassObj nm qn C N bs bm hdct sn sub ab col dd k0 k1 k2 k3 k5 nid) ∧ p { name := nm, bases := bs, mro := .ref C :: bm, ns := N, qualname := qn, hasDict := hdct, slotNames := sn, subclasses := sub, abstract := ab, collection := col, hasDel := false } bm nid = true := by
  unfold clB at q
  split at q
  · rename_i dd cd sl ho
    split at q
    · rename_i C' bm k0 k1 k2 k3 n k5 hm hs
      simp only [Bool.and_eq_true, beq_iff_eq, Bool.not_eq_true'] at q
      obtain ⟨rfl, hdel, ht⟩ := q
      obtain ⟨nm, bs, mro, ns, qn, hd, sn, sub, ab, col, del⟩ := cd
      dsimp only at hm hdel
      subst hm hdel
      have hsl : sl = #[k0, k1, k2, k3, some (.builtin n), k5] := by
        obtain ⟨l⟩ := sl
        simp only at hs
        rw [hs]
      subst hsl
      exact ⟨nm, qn, ns, bs, bm, hd, sn, sub, ab, col, dd, k0, k1, k2, k3, k5, n, ho, ht⟩
    · cases q
  · cases q
noncomputable def exB (K : PySem.W.Frag) (C : Addr) : Bool := clB K C fun cd bm n => cd.hasDict && (n == "ValueError.__new__" && PySem.HandSPX.refsVE bm)
theorem exB_ok {K : PySem.W.Frag} {C : Addr} (q : exB K C = true) : ∃ nm qn N bs bm sn sub ab col dd k0 k1 k2 k3 k5, K.lookup C = some (excClassObj nm qn C N bs bm true sn sub ab col dd k0 k1 k2 k3 k5 "ValueError.__new__") ∧ PySem.HandSPX.refsVE bm = true := by
  obtain ⟨nm, qn, N, bs, bm, hdct, sn, sub, ab, col, dd, k0, k1, k2, k3, k5, nid, h1, h2⟩ := clB_ok q
  obtain ⟨h3, h4⟩ := He.ba h2
  obtain ⟨h5, h6⟩ := He.ba h4
  have h3 : hdct = true := h3
  have h5 : nid = "ValueError.__new__" := beq_iff_eq.mp h5
  subst h3 h5
  exact ⟨nm, qn, N, bs, bm, sn, sub, ab, col, dd, k0, k1, k2, k3, k5, h1, h6⟩
noncomputable def neB (K : PySem.W.Frag) (C : Addr) : Bool := clB K C fun _ bm _ => bm.contains (.type "object")
theorem neC_of {K : PySem.W.Frag} {C : Addr} (ne : PySem.W.findIn K (.ref C) "__ne__" = some (some (.builtin "object.__ne__"))) (q : neB K C = true) : NeC K C := by
  obtain ⟨nm, qn, N, bs, bm, hdct, sn, sub, ab, col, dd, k0, k1, k2, k3, k5, nid, h1, h2⟩ := clB_ok q
  exact ⟨ne, nm, qn, N, bs, bm, hdct, sn, sub, ab, col, dd, k0, k1, k2, k3, k5, nid, h1, h2⟩
/-- a constant of the module -/
noncomputable def conI (K : PySem.W.Frag) (x : Str) (i : Int) : Bool := match PySem.W.nsIn K mainGlobals x with
  | some (some (.int j _)) => decide (j = i)
  | _ => false
theorem conI_ok {K : PySem.W.Frag} {x : Str} {i : Int} (h : conI K x i = true) : ∃ t, PySem.W.nsIn K mainGlobals x = some (some (.int i t)) := by
  unfold conI at h
  split at h
  · rename_i j t e
    rw [e, of_decide_eq_true h]
    exact ⟨t, rfl⟩
  · cases h
noncomputable def conS (K : PySem.W.Frag) (x : Str) (z : Str) : Bool := match PySem.W.nsIn K mainGlobals x with
  | some (some (.str y _)) => decide (y = z)
  | _ => false
theorem conS_ok {K : PySem.W.Frag} {x z : Str} (h : conS K x z = true) : ∃ t, PySem.W.nsIn K mainGlobals x = some (some (.str z t)) := by
  unfold conS at h
  split at h
  · rename_i j t e
    rw [e, of_decide_eq_true h]
    exact ⟨t, rfl⟩
  · cases h
/-! ### the end -/
theorem walk_W {l : PySem.W.OpenLaw} {n k : Nat} {q : Program} {loose : List Str} {XP : (Str → Option Value) → Heap → Prop} {fa : List FaW} {fn : List DnD} {ts : List He.Tab} {lo m : Nat} {d : DefRec} {sp : PySem.W.Frag → Sp}
    (hn : l.most = some n) (hn2 : n ≤ sizeLine) (hdf : d.params.defaults = []) (hr : Room k callerA)
    (F : ∀ (w : World) (mg : Str → Option Value) (fa' : Addr) (h : Heap) (K : PySem.W.Frag), K.In h → SaysW fa fn ts w K → h.Ns mainGlobals mg → mg d.name = some (.ref fa') → ∀ base : Heap, K.In base → base.Ns mainGlobals mg → FnG l.prog w K mg base CX0 k fa' (sp K))
    (hsp : ∀ (K : PySem.W.Frag) (H : Hp) (a : Addr) (ns : List Int), ns.length ≤ n → Only H → SqL K H a (ns.map V.int) → sp K [.ref a] H (fun v _ => v = .bl true) fun _ _ _ => False) :
    PySem.W.WalkO q loose XP (hookW lo m fa fn ts).says l.row.toRowW d [] (fun f vs => PySem.call f vs) :=
  Att.attach_call hn hdf fun w s₀ s mg mb fa' o pm cd doc a vs ns G Y ho hd hcd hmg hobj hints hlen hg => by
    obtain ⟨K, KX, c⟩ := Y
    exact law_G KX G.T.g G.T.b G.T.builtins G.T.nolimit hg hobj hints (Nat.le_trans hlen hn2) hr (F w mg fa' _ K KX c G.T.g hmg) fun H hO hS => hsp K H a ns hlen hO hS
end Ws

/-! written tuples of texts; what the written dicts of the reader hold -/
namespace Ws
open PySem PySem.Spec PyProof.Rows L2
noncomputable def rdTxts (K : PySem.W.Frag) (v : Value) : Option (List Str) := (kTup K v).bind fun l => l.mapM fun u => match u with
  | .str x _ => some x
  | _ => none
theorem rdTxts_at {K : PySem.W.Frag} {a : Addr} {xs : List Str} (h : rdTxts K (.ref a) = some xs) : ∀ H, SqT K H a (xs.map V.str) := by
  unfold rdTxts at h
  obtain ⟨l, h1, h2⟩ := Option.bind_eq_some_iff.mp h
  obtain ⟨b, e, _, hb⟩ := kTup_at h1
  cases e
  intro H
  refine hb _ H ?_
  have key : ∀ (l : List Value) (xs : List Str), (l.mapM fun u => match u with | Value.str x _ => some x | _ => none) = some xs → Vals (xs.map V.str) l := by
    intro l
    induction l with
    | nil => intro xs h; cases h; exact .nil
    | cons u l ih =>
      intro xs h
      rw [List.mapM_cons] at h
      cases u with
      | str x t =>
        cases hr : (l.mapM fun u => match u with | Value.str x _ => some x | _ => none) with
        | none =>
          exfalso
          have h' : (match (l.mapM fun u => match u with | Value.str x _ => some x | _ => none) with | none => none | some r => some (x :: r)) = some xs := by
            rw [← h]; cases (l.mapM fun u => match u with | Value.str x _ => some x | _ => none) <;> rfl
          rw [hr] at h'; cases h'
        | some r =>
          have h' : (match (l.mapM fun u => match u with | Value.str x _ => some x | _ => none) with | none => none | some r => some (x :: r)) = some xs := by
            rw [← h]; cases (l.mapM fun u => match u with | Value.str x _ => some x | _ => none) <;> rfl
          rw [hr] at h'
          cases h'
          exact .cons ⟨t, rfl⟩ (ih r hr)
      | _ => exact absurd h (by intro z; cases z)
  exact key l xs h2
theorem find_cons (p : Str × DV) (l : List (Str × DV)) (x : Str) : findD (p :: l) x = if p.1 = x then some p.2 else findD l x := by
  unfold findD
  rw [List.find?_cons]
  by_cases h : p.1 = x
  · rw [decide_eq_true h, if_pos h]; rfl
  · rw [decide_eq_false h, if_neg h]
noncomputable def declList : List (Str × DV) := [("lock", .s "lock"), ("lent", .s "lock"), ("queue", .s "queue"), ("cell", .s "cell"), ("part", .s "part"), ("task", .s "task"), ("later", .s "task")]
noncomputable def mostList : List (Str × DV) := [("lock", .i 4), ("queue", .i 3), ("cell", .i 4), ("part", .i 5), ("task", .i 6)]
noncomputable def wantList : List (Str × DV) := [("LOCK", .t [some "lock", some "lent"]), ("QUEUE", .t [some "queue"]), ("PART", .t [some "part"]), ("TASK", .t [some "task", some "later"]), ("LATER", .t [some "later"]), ("VARIABLE", .t [some "cell", none])]
end Ws

namespace Ws
/-! ### fractions in lowest terms -/
noncomputable def gI (t b : Int) : Int := ((Nat.gcd t.natAbs b.natAbs : Nat) : Int)
noncomputable def gS (t b : Int) : Int := if b < 0 then -(gI t b) else gI t b
noncomputable def nT (t b : Int) : Int := t.fdiv (gS t b)
noncomputable def nB (t b : Int) : Int := b.fdiv (gS t b)
theorem gI_pos {t b : Int} (hb : b ≠ 0) : 0 < gI t b := by
  have : 0 < Nat.gcd t.natAbs b.natAbs := Nat.gcd_pos_of_pos_right _ (by omega)
  unfold gI; omega
theorem gS_ne {t b : Int} (hb : b ≠ 0) : gS t b ≠ 0 := by
  have := gI_pos (t := t) hb
  unfold gS; split <;> omega
/-- the reduced pair -/
structure Low (t b p q : Int) : Prop where
  pos : 0 < q
  cross : p * b = t * q
  cop : Nat.gcd p.natAbs q.natAbs = 1
theorem nf_parts {t b : Int} (hb : b ≠ 0) : ∃ t' b' : Int, t = gI t b * t' ∧ b = gI t b * b' ∧ Nat.gcd t'.natAbs b'.natAbs = 1 ∧ b' ≠ 0 := by
  have hg := gI_pos (t := t) hb
  have h1 : gI t b ∣ t := by
    have : Nat.gcd t.natAbs b.natAbs ∣ t.natAbs := Nat.gcd_dvd_left _ _
    have := Int.ofNat_dvd.mpr this
    exact Int.dvd_natAbs.mp this
  have h2 : gI t b ∣ b := by
    have : Nat.gcd t.natAbs b.natAbs ∣ b.natAbs := Nat.gcd_dvd_right _ _
    have := Int.ofNat_dvd.mpr this
    exact Int.dvd_natAbs.mp this
  obtain ⟨t', e1⟩ := h1
  obtain ⟨b', e2⟩ := h2
  refine ⟨t', b', e1, e2, ?_, ?_⟩
  · have e3 : t.natAbs = (gI t b).natAbs * t'.natAbs := by rw [← Int.natAbs_mul, ← e1]
    have e4 : b.natAbs = (gI t b).natAbs * b'.natAbs := by rw [← Int.natAbs_mul, ← e2]
    have e5 : Nat.gcd t.natAbs b.natAbs = (gI t b).natAbs := by unfold gI; simp
    rw [e3, e4, Nat.gcd_mul_left] at e5
    have h0 : 0 < (gI t b).natAbs := by omega
    exact Nat.eq_of_mul_eq_mul_left h0 (by rw [e5, Nat.mul_one])
  · intro z
    rw [z, Int.mul_zero] at e2
    exact hb e2
theorem nf_vals {t b : Int} (hb : b ≠ 0) : ∃ t' b' : Int, t = gI t b * t' ∧ b = gI t b * b' ∧ Nat.gcd t'.natAbs b'.natAbs = 1 ∧ b' ≠ 0 ∧ nT t b = (if b < 0 then -t' else t') ∧ nB t b = (if b < 0 then -b' else b') ∧ (b < 0 ↔ b' < 0) := by
  obtain ⟨t', b', e1, e2, hc, h0⟩ := nf_parts (t := t) hb
  have hg := gI_pos (t := t) hb
  have hs : b < 0 ↔ b' < 0 := by
    constructor
    · intro h
      apply Int.lt_of_not_ge
      intro h2
      have : 0 ≤ gI t b * b' := Int.mul_nonneg (by omega) h2
      omega
    · intro h
      have : gI t b * b' < gI t b * 0 := Int.mul_lt_mul_of_pos_left h hg
      omega
  refine ⟨t', b', e1, e2, hc, h0, ?_, ?_, hs⟩
  · unfold nT gS
    split
    · generalize gI t b = g at *
      subst e1
      rw [show g * t' = -g * -t' by grind, Int.mul_fdiv_cancel_left _ (by omega)]
    · generalize gI t b = g at *
      subst e1
      rw [Int.mul_fdiv_cancel_left _ (by omega)]
  · unfold nB gS
    split
    · generalize gI t b = g at *
      rw [e2, show g * b' = -g * -b' by grind, Int.mul_fdiv_cancel_left _ (by omega)]
    · generalize gI t b = g at *
      rw [e2, Int.mul_fdiv_cancel_left _ (by omega)]
theorem nf_low {t b : Int} (hb : b ≠ 0) : Low t b (nT t b) (nB t b) := by
  obtain ⟨t', b', e1, e2, hc, h0, eT, eB, hs⟩ := nf_vals (t := t) hb
  generalize gI t b = g at *
  rw [eT, eB]
  split
  · rename_i h
    have := hs.mp h
    refine ⟨by omega, by grind, by simpa using hc⟩
  · rename_i h
    have : ¬ b' < 0 := fun z => h (hs.mpr z)
    exact ⟨by omega, by grind, hc⟩
theorem nf_le {t b : Int} (hb : b ≠ 0) : (nT t b).natAbs ≤ t.natAbs ∧ (nB t b).natAbs ≤ b.natAbs := by
  obtain ⟨t', b', e1, e2, hc, h0, eT, eB, hs⟩ := nf_vals (t := t) hb
  have hg := gI_pos (t := t) hb
  have e3 : t.natAbs = (gI t b).natAbs * t'.natAbs := by rw [← Int.natAbs_mul, ← e1]
  have e4 : b.natAbs = (gI t b).natAbs * b'.natAbs := by rw [← Int.natAbs_mul, ← e2]
  have h0 : 1 ≤ (gI t b).natAbs := by omega
  have k1 : t'.natAbs ≤ t.natAbs := by rw [e3]; exact Nat.le_mul_of_pos_left _ h0
  have k2 : b'.natAbs ≤ b.natAbs := by rw [e4]; exact Nat.le_mul_of_pos_left _ h0
  rw [eT, eB]
  by_cases h : b < 0
  · rw [if_pos h, if_pos h]
    constructor <;> omega
  · rw [if_neg h, if_neg h]
    exact ⟨k1, k2⟩
theorem low_uniq {p q r s : Int} (h : p * s = r * q) (hq : 0 < q) (hs : 0 < s) (h1 : Nat.gcd p.natAbs q.natAbs = 1) (h2 : Nat.gcd r.natAbs s.natAbs = 1) : p = r ∧ q = s := by
  have e : p.natAbs * s.natAbs = r.natAbs * q.natAbs := by rw [← Int.natAbs_mul, ← Int.natAbs_mul, h]
  have d1 : q.natAbs ∣ s.natAbs := by
    have c : Nat.Coprime q.natAbs p.natAbs := by rw [Nat.coprime_comm]; exact h1
    exact c.dvd_of_dvd_mul_left ⟨r.natAbs, by rw [e, Nat.mul_comm]⟩
  have d2 : s.natAbs ∣ q.natAbs := by
    have c : Nat.Coprime s.natAbs r.natAbs := by rw [Nat.coprime_comm]; exact h2
    exact c.dvd_of_dvd_mul_left ⟨p.natAbs, by rw [← e, Nat.mul_comm]⟩
  have e2 : q.natAbs = s.natAbs := Nat.dvd_antisymm d1 d2
  have e3 : q = s := by omega
  subst e3
  exact ⟨Int.eq_of_mul_eq_mul_right (by omega) h, rfl⟩
/-- a reduced pair is the reduced pair of anything that it crosses with -/
theorem Low.eq {t b p q c d r s : Int} (h : Low t b p q) (h' : Low c d r s) (hb : b ≠ 0) (hd : d ≠ 0) (e : t * d = c * b) : p = r ∧ q = s := by
  refine low_uniq ?_ h.pos h'.pos h.cop h'.cop
  have e1 := h.cross
  have e2 := h'.cross
  have : (p * s) * (b * d) = (r * q) * (b * d) := by grind
  exact Int.eq_of_mul_eq_mul_right (Int.mul_ne_zero hb hd) this
theorem Low.ne {t b p q c d r s : Int} (h : Low t b p q) (h' : Low c d r s) (hb : b ≠ 0) (hd : d ≠ 0) (e : t * d ≠ c * b) : ¬ (p = r ∧ q = s) := by
  rintro ⟨rfl, rfl⟩
  refine e ?_
  have e1 := h.cross
  have e2 := h'.cross
  have : (t * d) * q = (c * b) * q := by grind
  exact Int.eq_of_mul_eq_mul_right (by have := h.pos; omega) this
theorem nf_eq {t b c d : Int} (hb : b ≠ 0) (hd : d ≠ 0) (e : t * d = c * b) : nT t b = nT c d ∧ nB t b = nB c d := (nf_low hb).eq (nf_low hd) hb hd e
theorem nf_ne {t b c d : Int} (hb : b ≠ 0) (hd : d ≠ 0) (e : t * d ≠ c * b) : ¬ (nT t b = nT c d ∧ nB t b = nB c d) := (nf_low hb).ne (nf_low hd) hb hd e
/-- the law's own reckoning -/
theorem nf_least {t b : Int} (hb : b ≠ 0) : ((if b < 0 then -1 else 1) * t) / gI t b = nT t b ∧ (if b < 0 then -b else b) / gI t b = nB t b := by
  obtain ⟨t', b', e1, e2, hc, h0, eT, eB, hs⟩ := nf_vals (t := t) hb
  have hg := gI_pos (t := t) hb
  rw [eT, eB]
  generalize gI t b = g at *
  subst e1
  split
  · refine ⟨?_, ?_⟩
    · rw [show -1 * (g * t') = g * -t' by grind, Int.mul_ediv_cancel_left _ (by omega)]
    · rw [e2, show -(g * b') = g * -b' by grind, Int.mul_ediv_cancel_left _ (by omega)]
  · refine ⟨?_, ?_⟩
    · rw [Int.one_mul, Int.mul_ediv_cancel_left _ (by omega)]
    · rw [e2, Int.mul_ediv_cancel_left _ (by omega)]
/-- one turn of Euclid's loop -/
theorem gcd_turn {a b : Int} (ha : 0 ≤ a) (hb : 0 < b) : Nat.gcd b.natAbs (a % b).natAbs = Nat.gcd a.natAbs b.natAbs := by
  rw [Int.natAbs_emod_of_nonneg ha, Nat.gcd_comm a.natAbs, Nat.gcd_rec b.natAbs a.natAbs, Nat.gcd_comm]
/-! ### sizes -/
/-- less than n bits -/
noncomputable def Sz (n : Nat) (i : Int) : Prop := i.natAbs < 2 ^ n
theorem Sz.mono {n m : Nat} {i : Int} (h : Sz n i) (hm : n ≤ m) : Sz m i := Nat.lt_of_lt_of_le h (Nat.pow_le_pow_right (by decide) hm)
theorem Sz.mul {n m : Nat} {i j : Int} (h : Sz n i) (h' : Sz m j) : Sz (n + m) (i * j) := by
  unfold Sz at *
  rw [Int.natAbs_mul, Nat.pow_add]
  exact Nat.mul_lt_mul'' h h'
theorem Sz.add {n : Nat} {i j : Int} (h : Sz n i) (h' : Sz n j) : Sz (n + 1) (i + j) := by
  unfold Sz at *
  rw [Nat.pow_succ]
  omega
theorem Sz.sub {n : Nat} {i j : Int} (h : Sz n i) (h' : Sz n j) : Sz (n + 1) (i - j) := by
  unfold Sz at *
  rw [Nat.pow_succ]
  omega
theorem Sz.neg {n : Nat} {i : Int} (h : Sz n i) : Sz n (-i) := by
  unfold Sz at *
  omega
theorem Sz.nT {n : Nat} {t b : Int} (hb : b ≠ 0) (h : Sz n t) : Sz n (nT t b) := Nat.lt_of_le_of_lt (nf_le hb).1 h
theorem Sz.nB {n : Nat} {t b : Int} (hb : b ≠ 0) (h : Sz n b) : Sz n (nB t b) := Nat.lt_of_le_of_lt (nf_le hb).2 h
theorem Sz.gI {n : Nat} {t b : Int} (hb : b ≠ 0) (h : Sz n b) : Sz n (gI t b) := by
  refine Nat.lt_of_le_of_lt ?_ h
  unfold Ws.gI
  exact Nat.le_of_dvd (by omega) (Nat.gcd_dvd_right _ _)
theorem Sz.of_abs {n : Nat} {i : Int} (h : i.natAbs < 2 ^ n) : Sz n i := h
end Ws
namespace Ws
/-- a reduced pair is that of any other pair that crosses with the first one -/
theorem Low.base {t b p q c d : Int} (h : Low t b p q) (hb : b ≠ 0) (e : t * d = c * b) : Low c d p q := by
  refine ⟨h.pos, ?_, h.cop⟩
  have e1 := h.cross
  have : (p * d) * b = (c * q) * b := by grind
  exact Int.eq_of_mul_eq_mul_right hb this
theorem Low.nf {t b p q : Int} (h : Low t b p q) (hb : b ≠ 0) : p = nT t b ∧ q = nB t b := h.eq (nf_low hb) hb hb rfl
theorem Low.szT {t b p q : Int} {n : Nat} (h : Low t b p q) (hb : b ≠ 0) (z : Sz n t) : Sz n p := by rw [(h.nf hb).1]; exact z.nT hb
theorem Low.szB {t b p q : Int} {n : Nat} (h : Low t b p q) (hb : b ≠ 0) (z : Sz n b) : Sz n q := by rw [(h.nf hb).2]; exact z.nB hb
theorem Low.zero {t b p q : Int} (h : Low t b p q) (hb : b ≠ 0) : p = 0 ↔ t = 0 := by
  have e := h.cross
  have hq := h.pos
  constructor
  · intro z
    rw [z, Int.zero_mul] at e
    rcases Int.mul_eq_zero.mp e.symm with z | z
    · exact z
    · omega
  · intro z
    rw [z, Int.zero_mul] at e
    rcases Int.mul_eq_zero.mp e with z | z
    · exact z
    · exact absurd z hb
theorem Low.self {t b p q : Int} (h : Low t b p q) (hb : b ≠ 0) : Low p q p q := ⟨h.pos, rfl, h.cop⟩
end Ws

/-! texts of numbers: written, and read back -/
namespace Nt
open PySem L2 TL
noncomputable abbrev dv (l : List Nat) : Nat := NumText.digitsVal l
theorem dv_snoc (m : List Nat) (d : Nat) : dv (m ++ [d]) = dv m * 10 + (d - 48) := by
  unfold dv NumText.digitsVal
  rw [List.foldl_append]
  rfl
theorem fold_pos : ∀ (l : List Nat) (a : Nat), 0 < a → 0 < l.foldl (fun acc c => acc * 10 + (c - 48)) a
  | [], a, h => h
  | c :: r, a, h => fold_pos r _ (by show 0 < a * 10 + (c - 48); omega)
theorem dv_pos {c : Nat} {r : List Nat} (h : 48 < c) : 0 < dv (c :: r) := fold_pos r _ (by show 0 < 0 * 10 + (c - 48); omega)
/-- digits without noughts ahead are the digits of their value -/
theorem numL_back_rev : ∀ (k : Nat) (l : List Nat), l.length = k → NumText.AllDigits l → l ≠ [] → (l.head? = some 48 → l.length ≤ 1) → l = numL (dv l) := by
  intro k
  induction k with
  | zero => intro l hk _ hne _; exact absurd (List.length_eq_zero_iff.mp hk) hne
  | succ k ih =>
    intro l hk hd hne hh
    have e := (List.dropLast_concat_getLast hne).symm
    generalize l.getLast hne = d at e
    generalize l.dropLast = m at e
    subst e
    have hdd := hd d (by simp)
    rw [dv_snoc]
    by_cases hm : m = []
    · subst hm
      rw [numL_lt (by show 0 * 10 + (d - 48) < 10; omega)]
      show [d] = [48 + (0 * 10 + (d - 48))]
      congr 1
      omega
    · obtain ⟨c, r, rfl⟩ := List.exists_cons_of_ne_nil hm
      have hc := hd c (by simp)
      have hc48 : c ≠ 48 := fun z => by
        have := hh (by rw [z]; rfl)
        simp at this
      have h0 : 0 < dv (c :: r) := dv_pos (by omega)
      have hi := ih (c :: r) (by simpa using hk) (fun x hx => hd x (List.mem_append_left _ hx)) (by simp) (fun z => absurd (Option.some.inj z) hc48)
      rw [numL_step (by omega)]
      have e1 : (dv (c :: r) * 10 + (d - 48)) / 10 = dv (c :: r) := by omega
      have e2 : 48 + (dv (c :: r) * 10 + (d - 48)) % 10 = d := by omega
      rw [e1, e2, ← hi]
theorem numL_back {l : List Nat} (hd : NumText.AllDigits l) (hne : l ≠ []) (hh : l.head? = some 48 → l.length ≤ 1) : l = numL (dv l) := numL_back_rev _ l rfl hd hne hh
theorem numL_head {n : Nat} (h : (numL n).head? = some 48) : n = 0 := by
  by_cases h0 : n < 10
  · rw [numL_lt h0] at h
    have := Option.some.inj h
    omega
  · have : ∀ k n, n ≤ k → (numL n).head? = some 48 → n = 0 := by
      intro k
      induction k with
      | zero => intro n hn _; omega
      | succ k ih =>
        intro n hn h
        by_cases h0 : n < 10
        · rw [numL_lt h0] at h
          have := Option.some.inj h
          omega
        · rw [numL_step (by omega)] at h
          rw [List.head?_append, Option.or_eq_some_iff] at h
          rcases h with h | ⟨h, _⟩
          · have := ih (n / 10) (by omega) h
            omega
          · exact absurd (List.head?_eq_none_iff.mp h) (numL_ne _)
    exact this n n (Nat.le_refl _) h
theorem numL_zero : numL 0 = [48] := numL_lt (by decide)
theorem numL_len_iff {n k : Nat} (hk : 0 < k) : (numL n).length ≤ k ↔ n < 10 ^ k := by
  unfold numL
  rw [List.length_map]
  exact Nat.length_toDigits_le_iff (by decide) hk
/-! ### ints -/
noncomputable def nTx (t : Int) : Str := Str.ofString (toString t)
theorem tl_pos {t : Int} (h : 0 ≤ t) : tl (nTx t) = numL t.toNat := by
  obtain ⟨n, rfl⟩ := Int.eq_ofNat_of_zero_le h
  exact tl_num n
theorem tl_neg {t : Int} (h : t < 0) : tl (nTx t) = 45 :: numL t.natAbs := by
  obtain ⟨n, rfl⟩ := Int.eq_negSucc_of_lt_zero h
  show tl (Str.ofString (toString (Int.negSucc n))) = _
  have e : toString (Int.negSucc n) = "-" ++ toString (n + 1) := rfl
  rw [e, tl_ofString, String.toList_append, List.map_append]
  show [45] ++ ((toString (n + 1)).toList.map Char.toNat) = _
  have e2 : (toString (n + 1)).toList.map Char.toNat = numL (n + 1) := by
    rw [← tl_num (n + 1), tl_ofString]
    rfl
  rw [e2]
  rfl
theorem tl_int (t : Int) : tl (nTx t) = (if t < 0 then [45] else []) ++ numL t.natAbs := by
  by_cases h : t < 0
  · rw [if_pos h, tl_neg h]; rfl
  · rw [if_neg h, tl_pos (by omega)]
    show _ = numL _
    congr 1
    omega
theorem neg_txt {t : Int} (h : t < 0) : nTx t = "-" ++ nTx (-t) := by
  refine ext_tl ?_
  rw [tl_append, tl_neg h, tl_pos (by omega)]
  show 45 :: numL t.natAbs = [45] ++ numL (-t).toNat
  rw [show (-t).toNat = t.natAbs by omega]
  rfl
theorem int_free {t : Int} {c : Nat} (h : c ≠ 45) (h2 : c < 48 ∨ 57 < c) : c ∉ tl (nTx t) := by
  rw [tl_int]
  intro hm
  rcases List.mem_append.mp hm with hm | hm
  · split at hm
    · exact h (List.mem_singleton.mp hm)
    · cases hm
  · exact numL_free h2 hm
theorem pos_free {t : Int} (h0 : 0 ≤ t) {c : Nat} (h2 : c < 48 ∨ 57 < c) : c ∉ tl (nTx t) := by
  rw [tl_pos h0]
  exact numL_free h2
theorem int_len {t : Int} {k : Nat} (hk : 0 < k) (h : t.natAbs < 10 ^ k) : (nTx t).length ≤ k + 1 := by
  rw [len_tl, tl_int, List.length_append]
  have := (numL_len_iff hk).mpr h
  split
  · simp only [List.length_cons, List.length_nil]; omega
  · simp only [List.length_nil]; omega
/-! ### fractions -/
noncomputable def G30 : Int := 1000000000000000000000000000000 - 1
noncomputable def shN (t b : Int) : Str := if b = 1 then nTx t else nTx t ++ "/" ++ nTx b
/-- a fraction that may be written -/
structure Can (t b : Int) : Prop where
  pos : 0 < b
  top : t.natAbs ≤ G30.toNat
  bot : b ≤ G30
  cop : Nat.gcd t.natAbs b.natAbs = 1
theorem Can.low {t b : Int} (h : Can t b) : Ws.nT t b = t ∧ Ws.nB t b = b := by
  have h1 : b ≠ 0 := by have := h.pos; omega
  have l1 := Ws.nf_low (t := t) h1
  exact Ws.low_uniq l1.cross l1.pos h.pos l1.cop h.cop
/-- what a word of digits tells -/
noncomputable def whQ (x : Str) (lo hi : Int) : Option Int := if tl x = numL (dv (tl x)) ∧ lo ≤ (dv (tl x) : Int) ∧ (dv (tl x) : Int) ≤ hi then some (dv (tl x) : Int) else none
theorem whQ_iff {x : Str} {lo hi n : Int} (h0 : 0 ≤ lo) : whQ x lo hi = some n ↔ x = nTx n ∧ lo ≤ n ∧ n ≤ hi := by
  unfold whQ
  constructor
  · intro h
    split at h
    · rename_i hc
      have e := Option.some.inj h
      subst e
      refine ⟨ext_tl ?_, hc.2⟩
      rw [tl_pos (by omega)]
      exact hc.1
    · cases h
  · rintro ⟨rfl, h1, h2⟩
    rw [tl_pos (by omega)]
    have e : dv (numL n.toNat) = n.toNat := numL_val _
    rw [e, if_pos ⟨rfl, by omega, by omega⟩]
    congr 1
    omega
theorem allIn_digits {x : Str} : Mi.allIn x Mi.DIGITS = true ↔ NumText.AllDigits (tl x) := by
  unfold Mi.allIn
  rw [List.all_eq_true]
  constructor
  · intro h c hc
    exact Mi.digit_range (of_decide_eq_true (h c hc))
  · intro h c hc
    have hr := h c hc
    refine decide_eq_true ?_
    have : ∀ k : Fin 10, 48 + (k : Nat) ∈ Mi.DIGITS.cps.toList := by decide +kernel
    have e := this ⟨c - 48, by omega⟩
    rwa [show 48 + (c - 48) = c by omega] at e
theorem dig_fold : ∀ (l : List Nat) (a : Nat), NumText.AllDigits l → l.foldl (fun (n : Int) (c : Nat) => 10 * n + ((c : Int) - 48)) (a : Int) = ((l.foldl (fun acc c => acc * 10 + (c - 48)) a : Nat) : Int)
  | [], _, _ => rfl
  | c :: r, a, h => by
    have hc := h c (List.mem_cons_self ..)
    rw [List.foldl_cons, List.foldl_cons, ← dig_fold r _ (fun d hd => h d (List.mem_cons_of_mem _ hd))]
    congr 1
    omega
theorem dig_dv {x : Str} (h : NumText.AllDigits (tl x)) : Mi.dig x = (dv (tl x) : Int) := dig_fold (tl x) 0 h
theorem whQ_no {x : Str} {lo hi : Int} (h0 : 0 ≤ lo) (h : x.length = 0 ∨ (nTx hi).length < x.length ∨ Mi.allIn x Mi.DIGITS = false ∨ ((tl x).head? = some 48 ∧ 1 < x.length)) : whQ x lo hi = none := by
  cases e : whQ x lo hi with
  | none => rfl
  | some n =>
    obtain ⟨rfl, h1, h2⟩ := (whQ_iff h0).mp e
    exfalso
    have ht := tl_pos (t := n) (by omega)
    have hl : (nTx n).length = (numL n.toNat).length := by rw [len_tl, ht]
    rcases h with h | h | h | ⟨h, hk⟩
    · rw [hl] at h
      exact numL_ne _ (List.length_eq_zero_iff.mp h)
    · have hh : (nTx hi).length = (numL hi.toNat).length := by rw [len_tl, tl_pos (by omega)]
      rw [hl, hh] at h
      have p : 0 < (numL hi.toNat).length := List.length_pos_iff.mpr (numL_ne _)
      have a := (numL_len_iff (n := hi.toNat) p).mp (Nat.le_refl _)
      have b := (numL_len_iff (n := n.toNat) p).mpr (Nat.lt_of_le_of_lt (by omega) a)
      omega
    · have : Mi.allIn (nTx n) Mi.DIGITS = true := allIn_digits.mpr (by rw [ht]; exact numL_digits _)
      rw [this] at h
      cases h
    · rw [ht] at h
      have := numL_head h
      rw [hl, this, numL_zero] at hk
      simp at hk
theorem whQ_yes {x : Str} {lo hi : Int} (hne : tl x ≠ []) (ha : Mi.allIn x Mi.DIGITS = true) (hh : ¬ ((tl x).head? = some 48 ∧ 1 < x.length)) : whQ x lo hi = if lo ≤ Mi.dig x ∧ Mi.dig x ≤ hi then some (Mi.dig x) else none := by
  have hd := allIn_digits.mp ha
  have hb := numL_back hd hne (fun z => by
    have : ¬ 1 < x.length := fun y => hh ⟨z, y⟩
    rw [len_tl] at this
    omega)
  rw [dig_dv hd]
  unfold whQ
  by_cases c : lo ≤ (dv (tl x) : Int) ∧ (dv (tl x) : Int) ≤ hi
  · rw [if_pos c, if_pos ⟨hb, c⟩]
  · rw [if_neg c, if_neg (fun z => c z.2)]
noncomputable def numQ (x : Str) : Option (Int × Int) :=
  let pr := Txt.partition (Txt.removeprefix x "-") "/"
  match whQ pr.1 0 G30, (if pr.2.1 = Str.empty then some 1 else whQ pr.2.2 1 G30) with
  | some t, some b =>
    let s := if Txt.startswith x "-" = true then -t else t
    if shN (Ws.nT s b) (Ws.nB s b) = x then some (Ws.nT s b, Ws.nB s b) else none
  | _, _ => none
theorem can_of {s b : Int} (h1 : s.natAbs ≤ G30.toNat) (h2 : 1 ≤ b) (h3 : b ≤ G30) : Can (Ws.nT s b) (Ws.nB s b) := by
  have hb : b ≠ 0 := by omega
  have l1 := Ws.nf_low (t := s) hb
  have l2 := Ws.nf_le (t := s) hb
  exact ⟨l1.pos, Nat.le_trans l2.1 h1, by have := l1.pos; omega, l1.cop⟩
theorem pre_yes (x : Str) : Txt.removeprefix ("-" ++ x) "-" = x ∧ Txt.startswith ("-" ++ x) "-" = true := by
  have hl : ("-" ++ x : Str).length = 1 + x.length := by
    rw [len_tl, tl_append, List.length_append, ← len_tl x]; rfl
  have hs : Builtin.Str.subAt ("-" ++ x) "-" 0 = true := by
    rw [StrLaws.subAt_eq]
    show ((tl ("-" ++ x)).drop 0 |>.take 1) == [45]
    rw [tl_append]
    rfl
  have h1 : ("-" : Str).length = 1 := rfl
  refine ⟨?_, ?_⟩
  · rw [StrLaws.removeprefix_eq, if_pos (by rw [hs, hl, h1, Bool.and_true, decide_eq_true_iff]; omega)]
    refine ext_tl ?_
    show ((tl ("-" ++ x)).drop 1).take (("-" ++ x : Str).length - 1) = tl x
    rw [hl, tl_append]
    show (tl x).take (1 + x.length - 1) = tl x
    rw [List.take_of_length_le (by rw [← len_tl]; omega)]
  · unfold Txt.startswith
    rw [hs, hl, h1, Bool.and_true, decide_eq_true_iff]
    omega
theorem pre_no {x : Str} (h : (tl x).head? ≠ some 45) : Txt.removeprefix x "-" = x ∧ Txt.startswith x "-" = false := by
  have hs : Builtin.Str.subAt x "-" 0 = false := by
    rw [StrLaws.subAt_eq]
    show (((tl x).drop 0 |>.take 1) == [45]) = false
    cases hx : tl x with
    | nil => rfl
    | cons c r =>
      rw [hx] at h
      show ([c] == [45]) = false
      rw [beq_eq_false_iff_ne]
      intro z
      exact h (by rw [List.cons.inj z |>.1]; rfl)
  refine ⟨?_, ?_⟩
  · rw [StrLaws.removeprefix_eq, hs, Bool.and_false, if_neg (by simp)]
  · unfold Txt.startswith
    rw [hs, Bool.and_false]
theorem part_yes (a b : Str) (h : 47 ∉ tl a) : Txt.partition (a ++ "/" ++ b) "/" = (a, ("/" : Str), b) := partition_app (y := "/") (s := 47) (S := []) (by decide +kernel) h
theorem part_no {a : Str} (h : 47 ∉ tl a) : Txt.partition a "/" = (a, Str.empty, Str.empty) := partition_none (y := "/") (s := 47) (S := []) (by decide +kernel) h
theorem num_head {t : Int} (h : 0 ≤ t) (r : List Nat) : (tl (nTx t) ++ r).head? ≠ some 45 := by
  rw [tl_pos h]
  obtain ⟨c, q, e⟩ := List.exists_cons_of_ne_nil (numL_ne t.toNat)
  have hd := numL_digits t.toNat c (by rw [e]; exact List.mem_cons_self ..)
  rw [e]
  intro z
  have : c = 45 := Option.some.inj z
  omega
theorem str_app_assoc (a b c : Str) : a ++ b ++ c = a ++ (b ++ c) := ext_tl (by rw [tl_append, tl_append, tl_append, tl_append, List.append_assoc])
theorem str_empty_app (a : Str) : Str.empty ++ a = a := ext_tl (by rw [tl_append]; rfl)
theorem shN_neg {t b : Int} (h : t < 0) : shN t b = "-" ++ shN (-t) b := by
  unfold shN
  split
  · exact neg_txt h
  · rw [neg_txt h, str_app_assoc, str_app_assoc, str_app_assoc]
theorem shN_pre {t b : Int} : Txt.removeprefix (shN t b) "-" = shN (t.natAbs : Int) b ∧ Txt.startswith (shN t b) "-" = decide (t < 0) := by
  by_cases h : t < 0
  · rw [shN_neg h, decide_eq_true h, show ((t.natAbs : Nat) : Int) = -t by omega]
    exact pre_yes _
  · rw [decide_eq_false h, show ((t.natAbs : Nat) : Int) = t by omega]
    refine pre_no ?_
    unfold shN
    split
    · have := num_head (t := t) (by omega) []
      rwa [List.append_nil] at this
    · rw [tl_append, tl_append, List.append_assoc]
      exact num_head (by omega) _
theorem numQ_iff {x : Str} {t b : Int} : numQ x = some (t, b) ↔ x = shN t b ∧ Can t b := by
  have hG : G30.toNat = 999999999999999999999999999999 := by decide +kernel
  constructor
  · intro h
    unfold numQ at h
    dsimp only at h
    generalize Txt.partition (Txt.removeprefix x "-") "/" = pr at h
    cases h1 : whQ pr.1 0 G30 with
    | none => rw [h1] at h; cases h
    | some t0 =>
      rw [h1] at h
      have a1 := (whQ_iff (by decide)).mp h1
      cases h2 : (if pr.2.1 = Str.empty then some 1 else whQ pr.2.2 1 G30) with
      | none => rw [h2] at h; cases h
      | some b0 =>
        rw [h2] at h
        have a2 : 1 ≤ b0 ∧ b0 ≤ G30 := by
          split at h2
          · cases h2; decide +kernel
          · exact ((whQ_iff (by decide)).mp h2).2
        dsimp only at h
        generalize hs : (if Txt.startswith x "-" = true then -t0 else t0) = s at h
        have hsn : s.natAbs ≤ G30.toNat := by
          rw [← hs]
          split <;> omega
        split at h
        · rename_i he
          cases h
          exact ⟨he.symm, can_of hsn a2.1 a2.2⟩
        · cases h
  · rintro ⟨rfl, c⟩
    have hlow := c.low
    obtain ⟨cp, ct, cb, cc⟩ := c
    unfold numQ
    dsimp only
    rw [shN_pre.1, shN_pre.2]
    have hw : whQ (nTx (t.natAbs : Int)) 0 G30 = some (t.natAbs : Int) := (whQ_iff (by decide)).mpr ⟨rfl, by omega, by rw [hG] at ct; show _ ≤ (999999999999999999999999999999 : Int); omega⟩
    have hs : (if decide (t < 0) = true then -((t.natAbs : Nat) : Int) else ((t.natAbs : Nat) : Int)) = t := by
      split
      · rename_i h; have := of_decide_eq_true h; omega
      · rename_i h; have : ¬ t < 0 := fun z => h (decide_eq_true z); omega
    by_cases hb : b = 1
    · subst hb
      have e : shN (t.natAbs : Int) 1 = nTx (t.natAbs : Int) := if_pos rfl
      rw [e, part_no (pos_free (by omega) (by decide))]
      dsimp only
      rw [hw, if_pos rfl]
      dsimp only
      rw [hs, hlow.1, hlow.2, if_pos rfl]
    · have e : shN (t.natAbs : Int) b = nTx (t.natAbs : Int) ++ "/" ++ nTx b := if_neg hb
      have hwb : whQ (nTx b) 1 G30 = some b := (whQ_iff (by decide)).mpr ⟨rfl, by omega, cb⟩
      rw [e, part_yes _ _ (pos_free (by omega) (by decide))]
      dsimp only
      rw [hw, if_neg (by decide +kernel), hwb]
      dsimp only
      rw [hs, hlow.1, hlow.2, if_pos rfl]
end Nt

namespace Ws
open PySem PySem.Spec PyProof.Rows L2
noncomputable def hkFa0 : List FaW := [
  fun K => decide (PySem.W.nsIn K mainGlobals "Number" = some (some (.ref (He.ga K "Number")))),
  fun K => decide (PySem.W.plainGet K (He.ga K "Number") Str.empty = true),
  fun K => decide (PySem.W.hasDictIn K (He.ga K "Number") = true),
  fun K => decide (PySem.W.plainOver K (He.ga K "Number") = true),
  fun K => decide (PySem.W.findIn K (.ref (He.ga K "Number")) "__setattr__" = some (some (.builtin "object.__setattr__"))),
  fun K => decide (PySem.W.makesIn K (He.ga K "Number") = true),
  fun K => decide (PySem.W.keepIn K (.ref (He.ga K "Number")) = true),
  fun K => decide (PySem.W.findIn K (.ref (He.ga K "Number")) "_top" = some none),
  fun K => decide (PySem.W.findIn K (.ref (He.ga K "Number")) "_bottom" = some none),
  fun K => decide (PySem.W.findIn K (.ref (He.ga K "Number")) "__class__" = some (some (.builtin "object.__class__"))),
  fun K => decide (PySem.W.specialIn K (.builtin "object.__class__") "__get__" = some (some (.builtin "getset_descriptor.__get__"))),
  fun K => decide (PySem.W.takesIn K (.builtin "object.__class__") = some true),
  fun K => decide (PySem.W.mroIn K (He.ga K "Number") (.type "object") = some true),
  fun K => decide (PySem.W.selfFirst K (He.ga K "Number") = true),
  fun K => decide (PySem.W.notFirst K (He.ga K "Number") (.ref (He.ga K "Number")) = true),
  fun K => decide (PySem.W.nsIn K mainGlobals "Line" = some (some (.ref (He.ga K "Line")))),
  fun K => decide (PySem.W.plainGet K (He.ga K "Line") Str.empty = true),
  fun K => decide (PySem.W.hasDictIn K (He.ga K "Line") = true),
  fun K => decide (PySem.W.plainOver K (He.ga K "Line") = true),
  fun K => decide (PySem.W.findIn K (.ref (He.ga K "Line")) "__setattr__" = some (some (.builtin "object.__setattr__")))]
noncomputable def hkFa1 : List FaW := [
  fun K => decide (PySem.W.makesIn K (He.ga K "Line") = true),
  fun K => decide (PySem.W.keepIn K (.ref (He.ga K "Line")) = true),
  fun K => decide (PySem.W.findIn K (.ref (He.ga K "Line")) "_base" = some none),
  fun K => decide (PySem.W.findIn K (.ref (He.ga K "Line")) "_slope" = some none),
  fun K => decide (PySem.W.findIn K (.ref (He.ga K "Line")) "__class__" = some (some (.builtin "object.__class__"))),
  fun K => decide (PySem.W.specialIn K (.builtin "object.__class__") "__get__" = some (some (.builtin "getset_descriptor.__get__"))),
  fun K => decide (PySem.W.takesIn K (.builtin "object.__class__") = some true),
  fun K => decide (PySem.W.mroIn K (He.ga K "Line") (.type "object") = some true),
  fun K => decide (PySem.W.selfFirst K (He.ga K "Line") = true),
  fun K => decide (PySem.W.notFirst K (He.ga K "Line") (.ref (He.ga K "Line")) = true),
  fun K => decide (PySem.W.nsIn K mainGlobals "Stretch" = some (some (.ref (He.ga K "Stretch")))),
  fun K => decide (PySem.W.plainGet K (He.ga K "Stretch") Str.empty = true),
  fun K => decide (PySem.W.hasDictIn K (He.ga K "Stretch") = true),
  fun K => decide (PySem.W.plainOver K (He.ga K "Stretch") = true),
  fun K => decide (PySem.W.findIn K (.ref (He.ga K "Stretch")) "__setattr__" = some (some (.builtin "object.__setattr__"))),
  fun K => decide (PySem.W.makesIn K (He.ga K "Stretch") = true),
  fun K => decide (PySem.W.keepIn K (.ref (He.ga K "Stretch")) = true),
  fun K => decide (PySem.W.findIn K (.ref (He.ga K "Stretch")) "_low" = some none),
  fun K => decide (PySem.W.findIn K (.ref (He.ga K "Stretch")) "_high" = some none),
  fun K => decide (PySem.W.findIn K (.ref (He.ga K "Stretch")) "_has_low" = some none)]
noncomputable def hkFa2 : List FaW := [
  fun K => decide (PySem.W.findIn K (.ref (He.ga K "Stretch")) "_has_high" = some none),
  fun K => decide (PySem.W.findIn K (.ref (He.ga K "Stretch")) "_middle" = some none),
  fun K => decide (PySem.W.findIn K (.ref (He.ga K "Stretch")) "__class__" = some (some (.builtin "object.__class__"))),
  fun K => decide (PySem.W.specialIn K (.builtin "object.__class__") "__get__" = some (some (.builtin "getset_descriptor.__get__"))),
  fun K => decide (PySem.W.takesIn K (.builtin "object.__class__") = some true),
  fun K => decide (PySem.W.mroIn K (He.ga K "Stretch") (.type "object") = some true),
  fun K => decide (PySem.W.selfFirst K (He.ga K "Stretch") = true),
  fun K => decide (PySem.W.notFirst K (He.ga K "Stretch") (.ref (He.ga K "Stretch")) = true),
  fun K => decide (PySem.W.nsIn K mainGlobals "gcd" = some (some (.builtin "math.gcd"))),
  fun K => decide (PySem.W.specialIn K (.builtin "object.__class__") "__get__" = some (some (.builtin "getset_descriptor.__get__"))),
  fun K => decide (PySem.W.findIn K (.ref (He.ga K "Number")) "__ne__" = some (some (.builtin "object.__ne__"))),
  fun K => neB K (He.ga K "Number"),
  fun K => decide (PySem.W.findIn K (.ref (He.ga K "Line")) "__ne__" = some (some (.builtin "object.__ne__"))),
  fun K => neB K (He.ga K "Line"),
  fun K => decide (PySem.W.nsIn K mainGlobals "SpeedError" = some (some (.ref (He.ga K "SpeedError")))),
  fun K => decide (PySem.W.subIn K (.ref (He.ga K "SpeedError")) (.type "BaseException") = some true),
  fun K => decide (PySem.W.typeIn K (.ref (He.ga K "SpeedError")) = some (.type "type")),
  fun K => decide (PySem.W.hasDictIn K (He.ga K "SpeedError") = true),
  fun K => decide (PySem.W.nsIn K mainGlobals "BadStretch" = some (some (.ref (He.ga K "BadStretch")))),
  fun K => exB K (He.ga K "BadStretch")]
noncomputable def hkFa3 : List FaW := [
  fun K => decide (PySem.W.findIn K (.ref (He.ga K "BadStretch")) "__setattr__" = some (some (.builtin "object.__setattr__"))),
  fun K => decide (PySem.W.subIn K (.ref (He.ga K "BadStretch")) (.type "BaseException") = some true),
  fun K => decide (PySem.W.typeIn K (.ref (He.ga K "BadStretch")) = some (.type "type")),
  fun K => decide (PySem.W.keepIn K (.ref (He.ga K "BadStretch")) = true),
  fun K => decide (PySem.W.findIn K (.ref (He.ga K "BadStretch")) "__getattribute__" = some (some (.builtin "BaseException.__getattribute__"))),
  fun K => decide (PySem.W.findIn K (.ref (He.ga K "BadStretch")) "__getattr__" = some none),
  fun K => decide (PySem.W.hasDictIn K (He.ga K "BadStretch") = true),
  fun K => decide (PySem.W.findIn K (.ref (He.ga K "BadStretch")) "__class__" = some (some (.builtin "object.__class__"))),
  fun K => decide (PySem.W.mroIn K (He.ga K "BadStretch") (.type "object") = some true),
  fun K => decide (PySem.W.isClsIn K (He.ga K "BadStretch") = true),
  fun K => decide (PySem.W.subIn K (.ref (He.ga K "BadStretch")) (.ref (He.ga K "BadStretch")) = some true),
  fun K => decide (PySem.W.findIn K (.ref (He.ga K "BadStretch")) "value" = some none),
  fun K => decide (PySem.W.findIn K (.ref (He.ga K "BadStretch")) "__init__" = some (some (.ref (He.ma K (He.ga K "BadStretch") "__init__")))),
  fun K => decide (PySem.W.isFn K (.ref (He.ma K (He.ga K "BadStretch") "__init__")) = true),
  fun K => decide (PySem.W.nsIn K mainGlobals "BadText" = some (some (.ref (He.ga K "BadText")))),
  fun K => exB K (He.ga K "BadText"),
  fun K => decide (PySem.W.findIn K (.ref (He.ga K "BadText")) "__setattr__" = some (some (.builtin "object.__setattr__"))),
  fun K => decide (PySem.W.subIn K (.ref (He.ga K "BadText")) (.type "BaseException") = some true),
  fun K => decide (PySem.W.typeIn K (.ref (He.ga K "BadText")) = some (.type "type")),
  fun K => decide (PySem.W.keepIn K (.ref (He.ga K "BadText")) = true)]
noncomputable def hkFa4 : List FaW := [
  fun K => decide (PySem.W.findIn K (.ref (He.ga K "BadText")) "__getattribute__" = some (some (.builtin "BaseException.__getattribute__"))),
  fun K => decide (PySem.W.findIn K (.ref (He.ga K "BadText")) "__getattr__" = some none),
  fun K => decide (PySem.W.hasDictIn K (He.ga K "BadText") = true),
  fun K => decide (PySem.W.findIn K (.ref (He.ga K "BadText")) "__class__" = some (some (.builtin "object.__class__"))),
  fun K => decide (PySem.W.mroIn K (He.ga K "BadText") (.type "object") = some true),
  fun K => decide (PySem.W.isClsIn K (He.ga K "BadText") = true),
  fun K => decide (PySem.W.subIn K (.ref (He.ga K "BadText")) (.ref (He.ga K "BadText")) = some true),
  fun K => decide (PySem.W.findIn K (.ref (He.ga K "BadText")) "value" = some none),
  fun K => decide (PySem.W.findIn K (.ref (He.ga K "BadText")) "__init__" = some (some (.ref (He.ma K (He.ga K "BadText") "__init__")))),
  fun K => decide (PySem.W.isFn K (.ref (He.ma K (He.ga K "BadText") "__init__")) = true),
  fun K => decide (PySem.W.specialIn K (.builtin "object.__class__") "__get__" = some (some (.builtin "getset_descriptor.__get__"))),
  fun K => decide (PySem.W.takesIn K (.builtin "object.__class__") = some true),
  fun K => decide (PySem.W.subIn K (.ref (He.ga K "BadText")) (.ref (He.ga K "SpeedError")) = some true),
  fun K => decide (PySem.W.nsIn K mainGlobals "is_whole" = some (some (.ref (He.ga K "is_whole")))),
  fun K => decide (PySem.W.nsIn K mainGlobals "_made_of" = some (some (.ref (He.ga K "_made_of")))),
  fun K => decide (PySem.W.nsIn K mainGlobals "read_whole" = some (some (.ref (He.ga K "read_whole")))),
  fun K => decide (PySem.W.nsIn K mainGlobals "show_number" = some (some (.ref (He.ga K "show_number")))),
  fun K => decide (PySem.W.nsIn K mainGlobals "show_line" = some (some (.ref (He.ga K "show_line")))),
  fun K => decide (PySem.W.nsIn K mainGlobals "show_stretch" = some (some (.ref (He.ga K "show_stretch")))),
  fun K => decide (PySem.W.nsIn K mainGlobals "number_of" = some (some (.ref (He.ga K "number_of"))))]
noncomputable def hkFa5 : List FaW := [
  fun K => decide (PySem.W.nsIn K mainGlobals "_line_of" = some (some (.ref (He.ga K "_line_of")))),
  fun K => decide (PySem.W.nsIn K mainGlobals "_stretch_of" = some (some (.ref (He.ga K "_stretch_of")))),
  fun K => decide (PySem.W.nsIn K mainGlobals "_read" = some (some (.ref (He.ga K "_read")))),
  fun K => decide (PySem.W.nsIn K mainGlobals "read_number" = some (some (.ref (He.ga K "read_number")))),
  fun K => decide (PySem.W.nsIn K mainGlobals "read_line" = some (some (.ref (He.ga K "read_line")))),
  fun K => decide (PySem.W.nsIn K mainGlobals "read_stretch" = some (some (.ref (He.ga K "read_stretch")))),
  fun K => decide (PySem.W.nsIn K mainGlobals "_law_pot" = some (some (.ref (He.ga K "_law_pot")))),
  fun K => decide (PySem.W.nsIn K mainGlobals "_law_take" = some (some (.ref (He.ga K "_law_take")))),
  fun K => decide (PySem.W.nsIn K mainGlobals "_law_of" = some (some (.ref (He.ga K "_law_of")))),
  fun K => decide (PySem.W.nsIn K mainGlobals "_law_digits" = some (some (.ref (He.ga K "_law_digits")))),
  fun K => decide (PySem.W.nsIn K mainGlobals "_law_lowest" = some (some (.ref (He.ga K "_law_lowest")))),
  fun K => decide (PySem.W.nsIn K mainGlobals "_law_pair" = some (some (.ref (He.ga K "_law_pair")))),
  fun K => decide (PySem.W.nsIn K mainGlobals "_law_number_text" = some (some (.ref (He.ga K "_law_number_text")))),
  fun K => decide (PySem.W.nsIn K mainGlobals "_law_line_text" = some (some (.ref (He.ga K "_law_line_text")))),
  fun K => decide (PySem.W.nsIn K mainGlobals "_law_is_digits" = some (some (.ref (He.ga K "_law_is_digits")))),
  fun K => decide (PySem.W.nsIn K mainGlobals "_law_number_of" = some (some (.ref (He.ga K "_law_number_of")))),
  fun K => decide (PySem.W.nsIn K mainGlobals "_law_is_line" = some (some (.ref (He.ga K "_law_is_line")))),
  fun K => decide (PySem.W.nsIn K mainGlobals "_law_is_stretch" = some (some (.ref (He.ga K "_law_is_stretch")))),
  fun K => decide (PySem.W.nsIn K mainGlobals "_law_due" = some (some (.ref (He.ga K "_law_due")))),
  fun K => decide (PySem.W.nsIn K mainGlobals "_law_read" = some (some (.ref (He.ga K "_law_read"))))]
noncomputable def hkFa6 : List FaW := [
  fun K => decide (PySem.W.nsIn K mainGlobals "_law_is_right" = some (some (.ref (He.ga K "_law_is_right")))),
  fun K => decide (PySem.W.nsIn K mainGlobals "_law_bent" = some (some (.ref (He.ga K "_law_bent")))),
  fun K => decide (PySem.W.nsIn K mainGlobals "_law_drawn" = some (some (.ref (He.ga K "_law_drawn")))),
  fun K => decide (PySem.W.nsIn K mainGlobals "law" = some (some (.ref (He.ga K "law")))),
  fun K => decide (PySem.W.findIn K (.ref (He.ga K "Number")) "__init__" = some (some (.ref (He.ma K (He.ga K "Number") "__init__")))),
  fun K => decide (PySem.W.isFn K (.ref (He.ma K (He.ga K "Number") "__init__")) = true),
  fun K => decide (PySem.W.findIn K (.ref (He.ga K "Stretch")) "__init__" = some (some (.ref (He.ma K (He.ga K "Stretch") "__init__")))),
  fun K => decide (PySem.W.isFn K (.ref (He.ma K (He.ga K "Stretch") "__init__")) = true),
  fun K => decide (PySem.W.findIn K (.ref (He.ga K "Number")) "__eq__" = some (some (.ref (He.ma K (He.ga K "Number") "__eq__")))),
  fun K => decide (PySem.W.isFn K (.ref (He.ma K (He.ga K "Number") "__eq__")) = true),
  fun K => decide (PySem.W.findIn K (.ref (He.ga K "Number")) "__bool__" = some (some (.ref (He.ma K (He.ga K "Number") "__bool__")))),
  fun K => decide (PySem.W.isFn K (.ref (He.ma K (He.ga K "Number") "__bool__")) = true),
  fun K => decide (PySem.W.findIn K (.ref (He.ga K "Number")) "__add__" = some (some (.ref (He.ma K (He.ga K "Number") "__add__")))),
  fun K => decide (PySem.W.isFn K (.ref (He.ma K (He.ga K "Number") "__add__")) = true),
  fun K => decide (PySem.W.findIn K (.ref (He.ga K "Number")) "__mul__" = some (some (.ref (He.ma K (He.ga K "Number") "__mul__")))),
  fun K => decide (PySem.W.isFn K (.ref (He.ma K (He.ga K "Number") "__mul__")) = true),
  fun K => decide (PySem.W.findIn K (.ref (He.ga K "Number")) "__neg__" = some (some (.ref (He.ma K (He.ga K "Number") "__neg__")))),
  fun K => decide (PySem.W.isFn K (.ref (He.ma K (He.ga K "Number") "__neg__")) = true),
  fun K => decide (PySem.W.findIn K (.ref (He.ga K "Number")) "__abs__" = some (some (.ref (He.ma K (He.ga K "Number") "__abs__")))),
  fun K => decide (PySem.W.isFn K (.ref (He.ma K (He.ga K "Number") "__abs__")) = true)]
noncomputable def hkFa7 : List FaW := [
  fun K => decide (PySem.W.findIn K (.ref (He.ga K "Number")) "is_less" = some (some (.ref (He.ma K (He.ga K "Number") "is_less")))),
  fun K => decide (PySem.W.isFn K (.ref (He.ma K (He.ga K "Number") "is_less")) = true),
  fun K => decide (PySem.W.findIn K (.ref (He.ga K "Line")) "__init__" = some (some (.ref (He.ma K (He.ga K "Line") "__init__")))),
  fun K => decide (PySem.W.isFn K (.ref (He.ma K (He.ga K "Line") "__init__")) = true),
  fun K => decide (PySem.W.findIn K (.ref (He.ga K "Number")) "top" = some (some (.ref (He.ma K (He.ga K "Number") "top")))),
  fun K => decide (PySem.W.specialIn K (.ref (He.ma K (He.ga K "Number") "top")) "__get__" = some (some (.builtin "property.__get__"))),
  fun K => decide (PySem.W.takesIn K (.ref (He.ma K (He.ga K "Number") "top")) = some true),
  fun K => prB K (He.ga K "Number") "top",
  fun K => decide (PySem.W.findIn K (.ref (He.ga K "Number")) "bottom" = some (some (.ref (He.ma K (He.ga K "Number") "bottom")))),
  fun K => decide (PySem.W.specialIn K (.ref (He.ma K (He.ga K "Number") "bottom")) "__get__" = some (some (.builtin "property.__get__"))),
  fun K => decide (PySem.W.takesIn K (.ref (He.ma K (He.ga K "Number") "bottom")) = some true),
  fun K => prB K (He.ga K "Number") "bottom",
  fun K => decide (PySem.W.findIn K (.ref (He.ga K "Line")) "base" = some (some (.ref (He.ma K (He.ga K "Line") "base")))),
  fun K => decide (PySem.W.specialIn K (.ref (He.ma K (He.ga K "Line") "base")) "__get__" = some (some (.builtin "property.__get__"))),
  fun K => decide (PySem.W.takesIn K (.ref (He.ma K (He.ga K "Line") "base")) = some true),
  fun K => prB K (He.ga K "Line") "base",
  fun K => decide (PySem.W.findIn K (.ref (He.ga K "Line")) "slope" = some (some (.ref (He.ma K (He.ga K "Line") "slope")))),
  fun K => decide (PySem.W.specialIn K (.ref (He.ma K (He.ga K "Line") "slope")) "__get__" = some (some (.builtin "property.__get__"))),
  fun K => decide (PySem.W.takesIn K (.ref (He.ma K (He.ga K "Line") "slope")) = some true),
  fun K => prB K (He.ga K "Line") "slope"]
noncomputable def hkFa8 : List FaW := [
  fun K => decide (PySem.W.findIn K (.ref (He.ga K "Stretch")) "low" = some (some (.ref (He.ma K (He.ga K "Stretch") "low")))),
  fun K => decide (PySem.W.specialIn K (.ref (He.ma K (He.ga K "Stretch") "low")) "__get__" = some (some (.builtin "property.__get__"))),
  fun K => decide (PySem.W.takesIn K (.ref (He.ma K (He.ga K "Stretch") "low")) = some true),
  fun K => prB K (He.ga K "Stretch") "low",
  fun K => decide (PySem.W.findIn K (.ref (He.ga K "Stretch")) "high" = some (some (.ref (He.ma K (He.ga K "Stretch") "high")))),
  fun K => decide (PySem.W.specialIn K (.ref (He.ma K (He.ga K "Stretch") "high")) "__get__" = some (some (.builtin "property.__get__"))),
  fun K => decide (PySem.W.takesIn K (.ref (He.ma K (He.ga K "Stretch") "high")) = some true),
  fun K => prB K (He.ga K "Stretch") "high",
  fun K => decide (PySem.W.findIn K (.ref (He.ga K "Stretch")) "has_low" = some (some (.ref (He.ma K (He.ga K "Stretch") "has_low")))),
  fun K => decide (PySem.W.specialIn K (.ref (He.ma K (He.ga K "Stretch") "has_low")) "__get__" = some (some (.builtin "property.__get__"))),
  fun K => decide (PySem.W.takesIn K (.ref (He.ma K (He.ga K "Stretch") "has_low")) = some true),
  fun K => prB K (He.ga K "Stretch") "has_low",
  fun K => decide (PySem.W.findIn K (.ref (He.ga K "Stretch")) "has_high" = some (some (.ref (He.ma K (He.ga K "Stretch") "has_high")))),
  fun K => decide (PySem.W.specialIn K (.ref (He.ma K (He.ga K "Stretch") "has_high")) "__get__" = some (some (.builtin "property.__get__"))),
  fun K => decide (PySem.W.takesIn K (.ref (He.ma K (He.ga K "Stretch") "has_high")) = some true),
  fun K => prB K (He.ga K "Stretch") "has_high",
  fun K => conI K "GREATEST" Nt.G30,
  fun K => conS K "DIGITS" Mi.DIGITS,
  fun K => decide (PySem.W.kitOne K (.type "NoneType") (.ref (He.ga K "Number")) = some false),
  fun K => decide (PySem.W.kitOne K (.type "NoneType") (.type "bool") = some false)]
noncomputable def hkFa9 : List FaW := [
  fun K => decide (PySem.W.exmOne K (.ref (He.ga K "BadStretch")) (.ref (He.ga K "BadStretch")) = some true),
  fun K => decide (PySem.W.nsIn K mainGlobals "len" = some none),
  fun K => decide (PySem.W.nsIn K mainGlobals "abs" = some none),
  fun K => decide (PySem.W.nsIn K mainGlobals "int" = some none),
  fun K => decide (PySem.W.nsIn K mainGlobals "bool" = some none),
  fun K => decide (PySem.W.nsIn K mainGlobals "max" = some none),
  fun K => decide (PySem.W.nsIn K mainGlobals "min" = some none),
  fun K => decide (PySem.W.nsIn K mainGlobals "range" = some none),
  fun K => decide (PySem.W.nsIn K mainGlobals "all" = some none),
  fun K => decide (PySem.W.nsIn K mainGlobals "any" = some none),
  fun K => decide (PySem.W.nsIn K mainGlobals "isinstance" = some none),
  fun K => decide (PySem.W.nsIn K mainGlobals "str" = some none)]
noncomputable def hkFa : List FaW := hkFa0 ++ (hkFa1 ++ (hkFa2 ++ (hkFa3 ++ (hkFa4 ++ (hkFa5 ++ (hkFa6 ++ (hkFa7 ++ (hkFa8 ++ (hkFa9)))))))))
noncomputable def hkFn0 : List DnD := [
  ⟨fun K => (He.ma K (He.ga K "BadStretch") "__init__"), "__init__", "BadStretch.__init__", (inClass (PySem.Challenge.pw_whatspeed_k94_texts_that_are_none.main.body.getD 5 (.Pass ⟨0, 0, 0, 0⟩)) 0), [], []⟩,
  ⟨fun K => (He.ma K (He.ga K "BadText") "__init__"), "__init__", "BadText.__init__", (inClass (PySem.Challenge.pw_whatspeed_k94_texts_that_are_none.main.body.getD 6 (.Pass ⟨0, 0, 0, 0⟩)) 0), [], []⟩,
  ⟨fun K => (He.ga K "is_whole"), "is_whole", "is_whole", (PySem.Challenge.pw_whatspeed_k94_texts_that_are_none.main.body.getD 8 (.Pass ⟨0, 0, 0, 0⟩)), [], []⟩,
  ⟨fun K => (He.ga K "_made_of"), "_made_of", "_made_of", (PySem.Challenge.pw_whatspeed_k94_texts_that_are_none.main.body.getD 15 (.Pass ⟨0, 0, 0, 0⟩)), [], []⟩,
  ⟨fun K => (He.ga K "read_whole"), "read_whole", "read_whole", (PySem.Challenge.pw_whatspeed_k94_texts_that_are_none.main.body.getD 14 (.Pass ⟨0, 0, 0, 0⟩)), [], []⟩,
  ⟨fun K => (He.ga K "show_number"), "show_number", "show_number", (PySem.Challenge.pw_whatspeed_k94_texts_that_are_none.main.body.getD 18 (.Pass ⟨0, 0, 0, 0⟩)), [], []⟩,
  ⟨fun K => (He.ga K "show_line"), "show_line", "show_line", (PySem.Challenge.pw_whatspeed_k94_texts_that_are_none.main.body.getD 19 (.Pass ⟨0, 0, 0, 0⟩)), [], []⟩,
  ⟨fun K => (He.ga K "show_stretch"), "show_stretch", "show_stretch", (PySem.Challenge.pw_whatspeed_k94_texts_that_are_none.main.body.getD 20 (.Pass ⟨0, 0, 0, 0⟩)), [], []⟩,
  ⟨fun K => (He.ga K "number_of"), "number_of", "number_of", (PySem.Challenge.pw_whatspeed_k94_texts_that_are_none.main.body.getD 24 (.Pass ⟨0, 0, 0, 0⟩)), [], []⟩,
  ⟨fun K => (He.ga K "_line_of"), "_line_of", "_line_of", (PySem.Challenge.pw_whatspeed_k94_texts_that_are_none.main.body.getD 26 (.Pass ⟨0, 0, 0, 0⟩)), [], []⟩,
  ⟨fun K => (He.ga K "_stretch_of"), "_stretch_of", "_stretch_of", (PySem.Challenge.pw_whatspeed_k94_texts_that_are_none.main.body.getD 27 (.Pass ⟨0, 0, 0, 0⟩)), [], []⟩,
  ⟨fun K => (He.ga K "_read"), "_read", "_read", (PySem.Challenge.pw_whatspeed_k94_texts_that_are_none.main.body.getD 25 (.Pass ⟨0, 0, 0, 0⟩)), [], []⟩,
  ⟨fun K => (He.ga K "read_number"), "read_number", "read_number", (PySem.Challenge.pw_whatspeed_k94_texts_that_are_none.main.body.getD 21 (.Pass ⟨0, 0, 0, 0⟩)), [], []⟩,
  ⟨fun K => (He.ga K "read_line"), "read_line", "read_line", (PySem.Challenge.pw_whatspeed_k94_texts_that_are_none.main.body.getD 22 (.Pass ⟨0, 0, 0, 0⟩)), [], []⟩,
  ⟨fun K => (He.ga K "read_stretch"), "read_stretch", "read_stretch", (PySem.Challenge.pw_whatspeed_k94_texts_that_are_none.main.body.getD 23 (.Pass ⟨0, 0, 0, 0⟩)), [], []⟩,
  ⟨fun K => (He.ga K "_law_pot"), "_law_pot", "_law_pot", (PySem.Challenge.pw_whatspeed_k94_texts_that_are_none.main.body.getD 29 (.Pass ⟨0, 0, 0, 0⟩)), [], []⟩,
  ⟨fun K => (He.ga K "_law_take"), "_law_take", "_law_take", (PySem.Challenge.pw_whatspeed_k94_texts_that_are_none.main.body.getD 30 (.Pass ⟨0, 0, 0, 0⟩)), [], []⟩,
  ⟨fun K => (He.ga K "_law_of"), "_law_of", "_law_of", (PySem.Challenge.pw_whatspeed_k94_texts_that_are_none.main.body.getD 31 (.Pass ⟨0, 0, 0, 0⟩)), [], []⟩,
  ⟨fun K => (He.ga K "_law_digits"), "_law_digits", "_law_digits", (PySem.Challenge.pw_whatspeed_k94_texts_that_are_none.main.body.getD 32 (.Pass ⟨0, 0, 0, 0⟩)), [], []⟩,
  ⟨fun K => (He.ga K "_law_lowest"), "_law_lowest", "_law_lowest", (PySem.Challenge.pw_whatspeed_k94_texts_that_are_none.main.body.getD 33 (.Pass ⟨0, 0, 0, 0⟩)), [], []⟩]
noncomputable def hkFn1 : List DnD := [
  ⟨fun K => (He.ga K "_law_pair"), "_law_pair", "_law_pair", (PySem.Challenge.pw_whatspeed_k94_texts_that_are_none.main.body.getD 34 (.Pass ⟨0, 0, 0, 0⟩)), [], []⟩,
  ⟨fun K => (He.ga K "_law_number_text"), "_law_number_text", "_law_number_text", (PySem.Challenge.pw_whatspeed_k94_texts_that_are_none.main.body.getD 35 (.Pass ⟨0, 0, 0, 0⟩)), [], []⟩,
  ⟨fun K => (He.ga K "_law_line_text"), "_law_line_text", "_law_line_text", (PySem.Challenge.pw_whatspeed_k94_texts_that_are_none.main.body.getD 36 (.Pass ⟨0, 0, 0, 0⟩)), [], []⟩,
  ⟨fun K => (He.ga K "_law_is_digits"), "_law_is_digits", "_law_is_digits", (PySem.Challenge.pw_whatspeed_k94_texts_that_are_none.main.body.getD 37 (.Pass ⟨0, 0, 0, 0⟩)), [], []⟩,
  ⟨fun K => (He.ga K "_law_number_of"), "_law_number_of", "_law_number_of", (PySem.Challenge.pw_whatspeed_k94_texts_that_are_none.main.body.getD 38 (.Pass ⟨0, 0, 0, 0⟩)), [], []⟩,
  ⟨fun K => (He.ga K "_law_is_line"), "_law_is_line", "_law_is_line", (PySem.Challenge.pw_whatspeed_k94_texts_that_are_none.main.body.getD 39 (.Pass ⟨0, 0, 0, 0⟩)), [], []⟩,
  ⟨fun K => (He.ga K "_law_is_stretch"), "_law_is_stretch", "_law_is_stretch", (PySem.Challenge.pw_whatspeed_k94_texts_that_are_none.main.body.getD 40 (.Pass ⟨0, 0, 0, 0⟩)), [], []⟩,
  ⟨fun K => (He.ga K "_law_due"), "_law_due", "_law_due", (PySem.Challenge.pw_whatspeed_k94_texts_that_are_none.main.body.getD 41 (.Pass ⟨0, 0, 0, 0⟩)), [], []⟩,
  ⟨fun K => (He.ga K "_law_read"), "_law_read", "_law_read", (PySem.Challenge.pw_whatspeed_k94_texts_that_are_none.main.body.getD 42 (.Pass ⟨0, 0, 0, 0⟩)), [], []⟩,
  ⟨fun K => (He.ga K "_law_is_right"), "_law_is_right", "_law_is_right", (PySem.Challenge.pw_whatspeed_k94_texts_that_are_none.main.body.getD 43 (.Pass ⟨0, 0, 0, 0⟩)), [], []⟩,
  ⟨fun K => (He.ga K "_law_bent"), "_law_bent", "_law_bent", (PySem.Challenge.pw_whatspeed_k94_texts_that_are_none.main.body.getD 44 (.Pass ⟨0, 0, 0, 0⟩)), [], []⟩,
  ⟨fun K => (He.ga K "_law_drawn"), "_law_drawn", "_law_drawn", (PySem.Challenge.pw_whatspeed_k94_texts_that_are_none.main.body.getD 45 (.Pass ⟨0, 0, 0, 0⟩)), [], []⟩,
  ⟨fun K => (He.ga K "law"), "law", "law", (PySem.Challenge.pw_whatspeed_k94_texts_that_are_none.main.body.getD 46 (.Pass ⟨0, 0, 0, 0⟩)), [], []⟩,
  ⟨fun K => (He.ma K (He.ga K "Number") "__init__"), "__init__", "Number.__init__", (inClass (PySem.Challenge.pw_whatspeed_k94_texts_that_are_none.main.body.getD 9 (.Pass ⟨0, 0, 0, 0⟩)) 0), [.int 1], []⟩,
  ⟨fun K => (He.ma K (He.ga K "Stretch") "__init__"), "__init__", "Stretch.__init__", (inClass (PySem.Challenge.pw_whatspeed_k94_texts_that_are_none.main.body.getD 11 (.Pass ⟨0, 0, 0, 0⟩)) 0), [], [("has_low", .bl true), ("has_high", .bl true)]⟩,
  ⟨fun K => (He.ma K (He.ga K "Number") "__eq__"), "__eq__", "Number.__eq__", (inClass (PySem.Challenge.pw_whatspeed_k94_texts_that_are_none.main.body.getD 9 (.Pass ⟨0, 0, 0, 0⟩)) 3), [], []⟩,
  ⟨fun K => (He.ma K (He.ga K "Number") "__bool__"), "__bool__", "Number.__bool__", (inClass (PySem.Challenge.pw_whatspeed_k94_texts_that_are_none.main.body.getD 9 (.Pass ⟨0, 0, 0, 0⟩)) 4), [], []⟩,
  ⟨fun K => (He.ma K (He.ga K "Number") "__add__"), "__add__", "Number.__add__", (inClass (PySem.Challenge.pw_whatspeed_k94_texts_that_are_none.main.body.getD 9 (.Pass ⟨0, 0, 0, 0⟩)) 5), [], []⟩,
  ⟨fun K => (He.ma K (He.ga K "Number") "__mul__"), "__mul__", "Number.__mul__", (inClass (PySem.Challenge.pw_whatspeed_k94_texts_that_are_none.main.body.getD 9 (.Pass ⟨0, 0, 0, 0⟩)) 7), [], []⟩,
  ⟨fun K => (He.ma K (He.ga K "Number") "__neg__"), "__neg__", "Number.__neg__", (inClass (PySem.Challenge.pw_whatspeed_k94_texts_that_are_none.main.body.getD 9 (.Pass ⟨0, 0, 0, 0⟩)) 8), [], []⟩]
noncomputable def hkFn2 : List DnD := [
  ⟨fun K => (He.ma K (He.ga K "Number") "__abs__"), "__abs__", "Number.__abs__", (inClass (PySem.Challenge.pw_whatspeed_k94_texts_that_are_none.main.body.getD 9 (.Pass ⟨0, 0, 0, 0⟩)) 9), [], []⟩,
  ⟨fun K => (He.ma K (He.ga K "Number") "is_less"), "is_less", "Number.is_less", (inClass (PySem.Challenge.pw_whatspeed_k94_texts_that_are_none.main.body.getD 9 (.Pass ⟨0, 0, 0, 0⟩)) 10), [], []⟩,
  ⟨fun K => (He.ma K (He.ga K "Line") "__init__"), "__init__", "Line.__init__", (inClass (PySem.Challenge.pw_whatspeed_k94_texts_that_are_none.main.body.getD 10 (.Pass ⟨0, 0, 0, 0⟩)) 0), [], []⟩,
  ⟨fun K => (prG K (He.ga K "Number") "top"), "top", "Number.top", (inClass (PySem.Challenge.pw_whatspeed_k94_texts_that_are_none.main.body.getD 9 (.Pass ⟨0, 0, 0, 0⟩)) 1), [], []⟩,
  ⟨fun K => (prG K (He.ga K "Number") "bottom"), "bottom", "Number.bottom", (inClass (PySem.Challenge.pw_whatspeed_k94_texts_that_are_none.main.body.getD 9 (.Pass ⟨0, 0, 0, 0⟩)) 2), [], []⟩,
  ⟨fun K => (prG K (He.ga K "Line") "base"), "base", "Line.base", (inClass (PySem.Challenge.pw_whatspeed_k94_texts_that_are_none.main.body.getD 10 (.Pass ⟨0, 0, 0, 0⟩)) 1), [], []⟩,
  ⟨fun K => (prG K (He.ga K "Line") "slope"), "slope", "Line.slope", (inClass (PySem.Challenge.pw_whatspeed_k94_texts_that_are_none.main.body.getD 10 (.Pass ⟨0, 0, 0, 0⟩)) 2), [], []⟩,
  ⟨fun K => (prG K (He.ga K "Stretch") "low"), "low", "Stretch.low", (inClass (PySem.Challenge.pw_whatspeed_k94_texts_that_are_none.main.body.getD 11 (.Pass ⟨0, 0, 0, 0⟩)) 1), [], []⟩,
  ⟨fun K => (prG K (He.ga K "Stretch") "high"), "high", "Stretch.high", (inClass (PySem.Challenge.pw_whatspeed_k94_texts_that_are_none.main.body.getD 11 (.Pass ⟨0, 0, 0, 0⟩)) 2), [], []⟩,
  ⟨fun K => (prG K (He.ga K "Stretch") "has_low"), "has_low", "Stretch.has_low", (inClass (PySem.Challenge.pw_whatspeed_k94_texts_that_are_none.main.body.getD 11 (.Pass ⟨0, 0, 0, 0⟩)) 3), [], []⟩,
  ⟨fun K => (prG K (He.ga K "Stretch") "has_high"), "has_high", "Stretch.has_high", (inClass (PySem.Challenge.pw_whatspeed_k94_texts_that_are_none.main.body.getD 11 (.Pass ⟨0, 0, 0, 0⟩)) 4), [], []⟩]
noncomputable def hkFn : List DnD := hkFn0 ++ (hkFn1 ++ (hkFn2))
noncomputable def hkTs : List He.Tab := []
end Ws
namespace Ws
open PySem PySem.W PySem.Calls PyProof.Rows
noncomputable abbrev hkR : OpenRow := OpenLaw.row PySem.Challenge.rw_whatspeed_k94_texts_that_are_none
noncomputable abbrev hkQ : Program := view hkR.prog [0, 46]
noncomputable def hkN0 : List PySem.Str := [("_wall" : PySem.Str), ("__name__" : PySem.Str), ("SpeedError" : PySem.Str), ("BadNumber" : PySem.Str), ("BadStretch" : PySem.Str), ("BadText" : PySem.Str), ("is_whole" : PySem.Str), ("Number" : PySem.Str), ("Line" : PySem.Str), ("Stretch" : PySem.Str), ("DIGITS" : PySem.Str), ("read_whole" : PySem.Str), ("_made_of" : PySem.Str), ("GREATEST" : PySem.Str), ("show_number" : PySem.Str), ("show_line" : PySem.Str), ("show_stretch" : PySem.Str), ("read_number" : PySem.Str), ("read_line" : PySem.Str), ("read_stretch" : PySem.Str)]
noncomputable def hkN1 : List PySem.Str := [("number_of" : PySem.Str), ("_read" : PySem.Str), ("_line_of" : PySem.Str), ("_stretch_of" : PySem.Str), ("_law_pot" : PySem.Str), ("_law_take" : PySem.Str), ("_law_of" : PySem.Str), ("_law_digits" : PySem.Str), ("_law_lowest" : PySem.Str), ("_law_pair" : PySem.Str), ("_law_number_text" : PySem.Str), ("_law_line_text" : PySem.Str), ("_law_is_digits" : PySem.Str), ("_law_number_of" : PySem.Str), ("_law_is_line" : PySem.Str), ("_law_is_stretch" : PySem.Str), ("_law_due" : PySem.Str), ("_law_read" : PySem.Str), ("_law_is_right" : PySem.Str), ("_law_bent" : PySem.Str)]
noncomputable def hkN2 : List PySem.Str := [("_law_drawn" : PySem.Str)]
noncomputable def hkN : List PySem.Str := hkN0 ++ hkN1 ++ hkN2
noncomputable abbrev hkH : Hook := hookW 11 1000 hkFa hkFn hkTs
theorem hkRun (w : World) : HandSHeadRun.RunEqI hkR hkQ hkH (obW 11 1000 hkFa hkFn hkTs) 30000 hkN w := by
  unfold HandSHeadRun.RunEqI
  kernel_rfl
end Ws

/-! lists of texts as data -/
namespace Ws
open PySem PySem.Spec PyProof.Rows L2
theorem dp_strs {K : PySem.W.Frag} {H : Hp} : ∀ l : List Str, DpAll K H (l.map V.str) (l.map PyData.str)
  | [] => .nil
  | x :: r => .cons (.str x) (dp_strs r)
theorem lay_strs : ∀ l : List Str, (∀ x ∈ l, PyData.strOk x = true) → PyData.canLayAll0 (l.map PyData.str) = true ∧ PyData.depthAll (l.map PyData.str) ≤ 1
  | [], _ => ⟨by simp [PyData.canLayAll0], by simp [PyData.depthAll]⟩
  | x :: r, h => by
    obtain ⟨h1, h2⟩ := lay_strs r fun z hz => h z (List.mem_cons_of_mem _ hz)
    refine ⟨by simp [PyData.canLayAll0, PyData.canLay0, h1, h x (List.mem_cons_self ..)], ?_⟩
    simp only [List.map_cons, PyData.depthAll, PyData.depth]
    omega
theorem shaped_strs (l : List Str) (h : ∀ x ∈ l, PyData.strOk x = true) : SeqAt.shaped (.list (l.map PyData.str)) = true := by
  obtain ⟨h1, h2⟩ := lay_strs l h
  show ((PyData.list (l.map PyData.str)).canLay0 && decide ((PyData.list (l.map PyData.str)).depth ≤ 64)) = true
  rw [Bool.and_eq_true]
  refine ⟨by simp only [PyData.canLay0]; exact h1, decide_eq_true ?_⟩
  simp only [PyData.depth]
  omega
theorem eqv_strs : ∀ u v : List Str, PyData.eqv (.list (u.map PyData.str)) (.list (v.map PyData.str)) = decide (u = v)
  | [], [] => by simp [PyData.eqv, PyData.eqvAll]
  | [], _ :: _ => by simp [PyData.eqv, PyData.eqvAll]
  | _ :: _, [] => by simp [PyData.eqv, PyData.eqvAll]
  | x :: u, y :: v => by
    have := eqv_strs u v
    simp only [PyData.eqv, List.map_cons, PyData.eqvAll] at this ⊢
    rw [this, Bool.eq_iff_iff]
    simp
theorem dp_strL {K : PySem.W.Frag} {H : Hp} {a : Addr} {l : List Str} (h : SqL K H a (l.map V.str)) : Dp K H (.ref a) (.list (l.map PyData.str)) := .lst h (dp_strs l)
theorem cut_last (xs : List V) : cutV xs (some (-1)) none = xs.drop (xs.length - 1) := by
  unfold cutV HT.sIx
  have e : ((-1 : Int) < 0) := by decide
  simp only [e, if_true]
  cases h : xs with
  | nil => rfl
  | cons a r =>
    rw [← h]
    have hl : 0 < xs.length := by rw [h]; simp
    have e2 : (-1 + (xs.length : Int)).toNat = xs.length - 1 := by omega
    rw [e2]
    exact List.take_of_length_le (by rw [List.length_drop]; omega)
theorem parts_ne (x : Str) (cuts : List Nat) (n : Nat) : Builtin.Str.partsBetween x cuts n ≠ [] := by
  unfold Builtin.Str.partsBetween
  cases cuts <;> simp
theorem split_ne (x y : Str) : Txt.split x y ≠ [] := by
  unfold Txt.split
  split
  · simp
  · split
    · simp
    · exact parts_ne _ _ _
theorem split_len (x y : Str) : ∀ z ∈ Txt.split x y, z.length ≤ x.length := by
  intro z hz
  unfold Txt.split at hz
  split at hz
  · rw [List.mem_singleton.mp hz]; exact Nat.le_refl _
  · split at hz
    · rw [List.mem_singleton.mp hz]; exact Nat.le_refl _
    · unfold Builtin.Str.partsBetween at hz
      obtain ⟨⟨i, j⟩, _, rfl⟩ := List.mem_map.mp hz
      unfold Builtin.Str.strSub Str.length
      simp
      omega
theorem split_ok {x : Str} (y : Str) (h : PyData.strOk x = true) : ∀ z ∈ Txt.split x y, PyData.strOk z = true := by
  intro z hz
  unfold Txt.split at hz
  split at hz
  · rw [List.mem_singleton.mp hz]; exact h
  · split at hz
    · rw [List.mem_singleton.mp hz]; exact h
    · unfold Builtin.Str.partsBetween at hz
      obtain ⟨⟨i, j⟩, _, rfl⟩ := List.mem_map.mp hz
      unfold PyData.strOk at h ⊢
      rw [Array.all_eq_true'] at h ⊢
      intro c hc
      refine h c ?_
      unfold Builtin.Str.strSub at hc
      have h2 := Array.mem_toList_iff.mpr hc
      rw [Array.toList_extract] at h2
      unfold List.extract at h2
      exact Array.mem_toList_iff.mp (List.mem_of_mem_drop (List.mem_of_mem_take h2))
end Ws

namespace Ws
open PySem PySem.Spec PyProof.Rows L2
noncomputable abbrev sMade : Stmt := (PySem.Challenge.pw_whatspeed_k94_texts_that_are_none.main.body.getD 15 (.Pass ⟨0, 0, 0, 0⟩))
noncomputable abbrev NMade : List Str := ["word", "signs", "sign"]
noncomputable abbrev PMade : List Str := ["word", "signs"]
theorem scMade : FnScope NMade PMade (defScope sMade) := ⟨rfl, rfl, rfl, by decide +kernel, rfl, by decide +kernel, by decide +kernel⟩
noncomputable abbrev sRWhole : Stmt := (PySem.Challenge.pw_whatspeed_k94_texts_that_are_none.main.body.getD 14 (.Pass ⟨0, 0, 0, 0⟩))
noncomputable abbrev NRWhole : List Str := ["word", "low", "high", "number"]
noncomputable abbrev PRWhole : List Str := ["word", "low", "high"]
theorem scRWhole : FnScope NRWhole PRWhole (defScope sRWhole) := ⟨rfl, rfl, rfl, by decide +kernel, rfl, by decide +kernel, by decide +kernel⟩
/-! ### words of digits -/
noncomputable def oI : Option Int → V
  | none => .non
  | some i => .int i
noncomputable def spMade : Sp := fun vs H Q _ => ∃ w s : Str, vs = [.str w, .str s] ∧ w.length ≤ 1000 ∧ ∀ H', Same H H' → Q (.bl (Mi.allIn w s)) H'
noncomputable def spRWh : Sp := fun vs H Q _ => ∃ (w : Str) (lo hi : Int), vs = [.str w, .int lo, .int hi] ∧ w.length ≤ sizeLine ∧ 0 ≤ lo ∧ 0 ≤ hi ∧ hi.natAbs < 10 ^ 40 ∧ ∀ H', Same H H' → Q (oI (Nt.whQ w lo hi)) H'
section
variable {P : Program} {w : World} {K : PySem.W.Frag} {mg : Str → Option Value} {base : Heap} {f : Addr} {fd : FuncData}
theorem ok_made (F : L2.Fun K "_made_of" "_made_of" sMade f fd) (b : Binds K fd PMade []) (B : Bi mg) : FnR P w K mg base CX0 1 f spMade := by
  refine fnR_of F b scMade (fun vs H Q E h => ?_) (fun cdv A outer s H vs Q E hr h => ?_)
  · obtain ⟨_, _, rfl, _⟩ := h
    rfl
  · have sc := scMade
    obtain ⟨x, z, rfl, hx, k⟩ := h
    refine ⟨_, (pss_one (ps_ret (pe_callB (cr_all rfl) (by rfl) B.all (by decide +kernel) (pa_cons (pe_lc (own := [("sign", 2)]) rfl sc.nd (pi_str (pv 0)) (blkOk_by (N := NMade) (sc := defScope sMade) (by decide +kernel)) (fun _ _ _ _ _ => by exact (pg_name (i := 2) sc.nd rfl (Or.inl rfl))) (fun _ _ _ _ _ => by exact pts_nil) (fun _ _ _ _ _ => by exact (pe_cmpR op_in_sign (pv 2) (pv 1) rfl))) pa_nil)))), ?_⟩
    refine ⟨_, rfl, x, rfl, fun D nD => ?_⟩
    refine lc_str (fun i G => G D = some (.lst ((x.cps.toList.take i).map fun c => V.bl (decide (c ∈ z.cps.toList)))) ∧ Same H G) ⟨upd_same, Same.new nD⟩ (fun i c G hc hp => ?_) (fun G hp => ?_)
    · have e2 : x.cps.toList[i]? = some c := by rw [Array.getElem?_toList]; exact hc
      have il : i < x.cps.size := (Array.getElem?_eq_some_iff.mp hc).1
      have ne : (x.cps.toList.take (i + 1)).map (fun c => V.bl (decide (c ∈ z.cps.toList))) = (x.cps.toList.take i).map (fun c => V.bl (decide (c ∈ z.cps.toList))) ++ [V.bl (decide (c ∈ z.cps.toList))] := by
        rw [List.take_add_one, e2, List.map_append]; rfl
      refine ⟨rfl, ?_⟩
      refine ⟨_, rfl, _, rfl, c, z, rfl, rfl, _, hp.1, ?_, ?_, ?_⟩
      · rw [List.length_map, List.length_take]
        have hx' : x.cps.size ≤ 1000 := hx
        exact Nat.lt_of_le_of_lt (Nat.min_le_left _ _) (Nat.lt_of_lt_of_le il (Nat.le_trans hx' (by decide)))
      · rw [ne]; exact upd_same
      · exact fun b o h => (upd_ne (ne_of_none h nD)).trans (hp.2 b o h)
    · refine ⟨D, x.cps.toList.map (fun c => decide (c ∈ z.cps.toList)), rfl, .inl (.inl ?_), ?_⟩
      · rw [hp.1, List.map_map]
        have : x.cps.size = x.cps.toList.length := rfl
        rw [this, List.take_length]
        rfl
      · have e : ((x.cps.toList.map fun c => decide (c ∈ z.cps.toList)).all id) = Mi.allIn x z := by
          unfold Mi.allIn
          rw [List.all_map]; rfl
        show Q _ _
        rw [e]
        exact k G hp.2
theorem ok_rwhole (F : L2.Fun K "read_whole" "read_whole" sRWhole f fd) (b : Binds K fd PRWhole []) (B : Bi mg) (gS : mg "str" = none) (gD : ∃ t, mg "DIGITS" = some (.str Mi.DIGITS t))
    (cM : CalF P w K mg base 1 "_made_of" spMade) : FnR P w K mg base CX0 2 f spRWh := by
  refine fnR_of F b scRWhole (fun vs H Q E h => ?_) (fun cdv A outer s H vs Q E hr h => ?_)
  · obtain ⟨_, _, _, rfl, _⟩ := h
    rfl
  · have sc := scRWhole
    obtain ⟨x, lo, hi, rfl, hx, hlo, h0, h1, k⟩ := h
    obtain ⟨tD, gD⟩ := gD
    refine ⟨_, (pss_cons (ps_if (PW.pt (pw_or (pt_not (pt_chain op_le op_le pe_int (pe_callB call_len_str (by rfl) B.len PySem.boot_len (pa_cons (pv 0) pa_nil)) (pe_callB call_len_str (by rfl) B.len PySem.boot_len (pa_cons (pe_callTy call_str_int (by rfl) gS (by decide +kernel) (pa_cons (pv 2) pa_nil)) pa_nil)))) (pw_or1 (pt_not (pt_val (pe_f cM hr (by omega) rfl (pa_cons (pv 0) (pa_cons (pe_glob (v := .str Mi.DIGITS) rfl gD ⟨_, rfl⟩) pa_nil)))))))) (pss_one (ps_ret pe_non)) pss_nil) (pss_cons (ps_if (PW.pt (pw_and (pt_cmpR op_eq (pe_ix ix_str (pv 0) pe_int (fun _ _ => rfl)) pe_str (nomark _)) (pw_and1 (pt_cmpR op_gt (pe_callB call_len_str (by rfl) B.len PySem.boot_len (pa_cons (pv 0) pa_nil)) pe_int (nomark _))))) (pss_one (ps_ret pe_non)) pss_nil) (pss_cons (ps_set (i := 3) sc.nd rfl (Or.inl rfl) (pe_callTy call_int_str (by rfl) B.int (by decide +kernel) (pa_cons (pv 0) pa_nil))) (pss_one (ps_ret (pe_ifExp (pt_chain op_le op_le (pv 1) (pv 3) (pv 2)) (pv 3) pe_non)))))), ?_⟩
    have hl : x.length = x.cps.size := rfl
    have hd : (Str.ofString (toString hi)).length ≤ 41 := Nt.int_len (by decide) h1
    have hd2 : (Str.ofString (toString hi)).length = (Nt.nTx hi).length := rfl
    have bad : (x.length = 0 ∨ (Nt.nTx hi).length < x.length ∨ Mi.allIn x Mi.DIGITS = false ∨ ((TL.tl x).head? = some 48 ∧ 1 < x.length)) → ∀ H', Same H H' → Q .non H' := fun h H' s1 => by
      have := k H' s1
      rw [Nt.whQ_no hlo h] at this
      exact this
    have hlog : hi.natAbs.log2 < 1920 := by
      have : hi.natAbs < 2 ^ 1920 := Nat.lt_of_lt_of_le h1 (by decide +kernel)
      by_cases z : hi.natAbs = 0
      · rw [z]; decide
      · exact (Nat.log2_lt z).mpr this
    refine ⟨_, rfl, x, rfl, hx, _, _, rfl, rfl, _, rfl, ?_⟩
    by_cases h1 : (1 : Int) ≤ (x.length : Int)
    · refine ifT (decide_eq_true h1) ⟨_, rfl, hi, rfl, hlog, _, rfl, Nat.le_trans hd (by decide), _, _, rfl, rfl, _, rfl, ?_⟩
      show if (!decide ((x.length : Int) ≤ ((Str.ofString (toString hi)).length : Int))) = true then _ else _
      rw [hd2]
      rw [hd2] at hd
      by_cases h2 : (x.length : Int) ≤ ((Nt.nTx hi).length : Int)
      · refine ifF (by simpa using h2) ?_
        refine ⟨_, rfl, x, _, rfl, by omega, fun H1 s1 => ⟨_, rfl, ?_⟩⟩
        cases ha : Mi.allIn x Mi.DIGITS with
        | false => exact iteT (bad (.inr (.inr (.inl ha))) H1 s1)
        | true =>
          refine iteF ?_
          cases hc : x.cps.toList with
          | nil =>
            have : x.cps.toList.length = x.cps.size := rfl
            rw [hc] at this
            have : (0 : Nat) = x.cps.size := this
            omega
          | cons c r =>
            have hat : atI x.cps.toList 0 = some c := by rw [hc]; simp [atI, ixN]
            have txt : intText? x = some (Mi.dig x) := digits_text (by rw [hc]; simp) ha (by omega)
            have e0 : decide (V.str ⟨#[c]⟩ = V.str "0") = decide (c = 48) := by
              by_cases h : c = 48
              · subst h; rfl
              · rw [decide_eq_false h, decide_eq_false]
                intro e
                injection e with e
                have e2 : (#[c] : Array Nat) = #[48] := congrArg Str.cps e
                simp at e2
                exact h e2
            have hce : TL.tl x = c :: r := hc
            have fin : ¬ (c = 48 ∧ 1 < x.length) → Q (oI (if lo ≤ Mi.dig x ∧ Mi.dig x ≤ hi then some (Mi.dig x) else none)) H1 := fun h => by
              have := k H1 s1
              rw [Nt.whQ_yes (by rw [hce]; simp) ha (by rw [hce]; simpa using h)] at this
              exact this
            have tail : Q (oI (if lo ≤ Mi.dig x ∧ Mi.dig x ≤ hi then some (Mi.dig x) else none)) H1 → tSeq (tAsg (tCB (fun xs H Q => ∃ a n, xs = [V.str a] ∧ intText? a = some n ∧ a.length ≤ 640 ∧ Q (V.int n) H) (tCons (tVar 0) tNil)) (gName 3)) (tRet (tIf (tTest (tChain (rI0 fun i j => V.bl (decide (i ≤ j))) (rI0 fun i j => V.bl (decide (i ≤ j))) (tVar 1) (tVar 3) (tVar 2))) (tVar 3) (tC V.non))) { nx := fun x H' => Q V.non H', rt := Q } (L2.start NRWhole [V.str x, V.int lo, V.int hi]) H1 := fun q => by
              refine ⟨_, rfl, x, _, rfl, txt, by omega, ?_⟩
              refine ⟨_, rfl, _, rfl, _, _, rfl, rfl, _, rfl, ?_⟩
              by_cases g1 : lo ≤ Mi.dig x
              · refine ifT (decide_eq_true g1) ⟨_, rfl, _, _, rfl, rfl, _, rfl, ?_⟩
                by_cases g2 : Mi.dig x ≤ hi
                · refine ifT (decide_eq_true g2) ⟨_, rfl, ?_⟩
                  rw [if_pos ⟨g1, g2⟩] at q
                  exact q
                · refine ifF (by simpa using g2) ?_
                  rw [if_neg (fun z => g2 z.2)] at q
                  exact q
              · refine ifF (by simpa using g1) ⟨_, rfl, iteF ?_⟩
                rw [if_neg (fun z => g1 z.1)] at q
                exact q
            refine ⟨_, rfl, x, 0, c, rfl, rfl, hx, hat, rfl, _, rfl, ?_⟩
            rw [e0]
            by_cases h4 : c = 48
            · refine ifT (decide_eq_true h4) ⟨_, rfl, x, rfl, hx, _, _, rfl, rfl, _, rfl, ?_⟩
              by_cases h5 : (1 : Int) < (x.length : Int)
              · refine ifT (decide_eq_true h5) ?_
                exact bad (.inr (.inr (.inr ⟨by rw [hce, h4]; rfl, by omega⟩))) H1 s1
              · refine ifF (by simpa using h5) ?_
                refine tail (fin fun z => h5 (by omega))
            · refine ifF (by simpa using h4) ?_
              refine tail (fin fun z => h4 z.1)
      · refine ifT (by simpa using h2) ?_
        exact bad (.inr (.inl (by omega))) H (Same.refl H)
    · refine ifF (by simpa using h1) ⟨_, rfl, ?_⟩
      exact bad (.inl (by omega)) H (Same.refl H)
end
end Ws

namespace Ws
open PySem PySem.Spec PyProof.Rows L2
noncomputable abbrev sWhole : Stmt := (PySem.Challenge.pw_whatspeed_k94_texts_that_are_none.main.body.getD 8 (.Pass ⟨0, 0, 0, 0⟩))
noncomputable abbrev NWhole : List Str := ["value"]
noncomputable abbrev PWhole : List Str := ["value"]
theorem scWhole : FnScope NWhole PWhole (defScope sWhole) := ⟨rfl, rfl, rfl, by decide +kernel, rfl, by decide +kernel, by decide +kernel⟩
noncomputable abbrev sNum : Stmt := (inClass (PySem.Challenge.pw_whatspeed_k94_texts_that_are_none.main.body.getD 9 (.Pass ⟨0, 0, 0, 0⟩)) 0)
noncomputable abbrev NNum : List Str := ["self", "top", "bottom", "shared"]
noncomputable abbrev PNum : List Str := ["self", "top", "bottom"]
theorem scNum : FnScope NNum PNum (defScope sNum) := ⟨rfl, rfl, rfl, by decide +kernel, rfl, by decide +kernel, by decide +kernel⟩
noncomputable abbrev sNTop : Stmt := (inClass (PySem.Challenge.pw_whatspeed_k94_texts_that_are_none.main.body.getD 9 (.Pass ⟨0, 0, 0, 0⟩)) 1)
noncomputable abbrev NNTop : List Str := ["self"]
noncomputable abbrev PNTop : List Str := ["self"]
theorem scNTop : FnScope NNTop PNTop (defScope sNTop) := ⟨rfl, rfl, rfl, by decide +kernel, rfl, by decide +kernel, by decide +kernel⟩
noncomputable abbrev sNBot : Stmt := (inClass (PySem.Challenge.pw_whatspeed_k94_texts_that_are_none.main.body.getD 9 (.Pass ⟨0, 0, 0, 0⟩)) 2)
noncomputable abbrev NNBot : List Str := ["self"]
noncomputable abbrev PNBot : List Str := ["self"]
theorem scNBot : FnScope NNBot PNBot (defScope sNBot) := ⟨rfl, rfl, rfl, by decide +kernel, rfl, by decide +kernel, by decide +kernel⟩
noncomputable abbrev sNEq : Stmt := (inClass (PySem.Challenge.pw_whatspeed_k94_texts_that_are_none.main.body.getD 9 (.Pass ⟨0, 0, 0, 0⟩)) 3)
noncomputable abbrev NNEq : List Str := ["self", "other"]
noncomputable abbrev PNEq : List Str := ["self", "other"]
theorem scNEq : FnScope NNEq PNEq (defScope sNEq) := ⟨rfl, rfl, rfl, by decide +kernel, rfl, by decide +kernel, by decide +kernel⟩
noncomputable abbrev sNBool : Stmt := (inClass (PySem.Challenge.pw_whatspeed_k94_texts_that_are_none.main.body.getD 9 (.Pass ⟨0, 0, 0, 0⟩)) 4)
noncomputable abbrev NNBool : List Str := ["self"]
noncomputable abbrev PNBool : List Str := ["self"]
theorem scNBool : FnScope NNBool PNBool (defScope sNBool) := ⟨rfl, rfl, rfl, by decide +kernel, rfl, by decide +kernel, by decide +kernel⟩
noncomputable abbrev sNAdd : Stmt := (inClass (PySem.Challenge.pw_whatspeed_k94_texts_that_are_none.main.body.getD 9 (.Pass ⟨0, 0, 0, 0⟩)) 5)
noncomputable abbrev NNAdd : List Str := ["self", "other"]
noncomputable abbrev PNAdd : List Str := ["self", "other"]
theorem scNAdd : FnScope NNAdd PNAdd (defScope sNAdd) := ⟨rfl, rfl, rfl, by decide +kernel, rfl, by decide +kernel, by decide +kernel⟩
noncomputable abbrev sNSub : Stmt := (inClass (PySem.Challenge.pw_whatspeed_k94_texts_that_are_none.main.body.getD 9 (.Pass ⟨0, 0, 0, 0⟩)) 6)
noncomputable abbrev NNSub : List Str := ["self", "other"]
noncomputable abbrev PNSub : List Str := ["self", "other"]
theorem scNSub : FnScope NNSub PNSub (defScope sNSub) := ⟨rfl, rfl, rfl, by decide +kernel, rfl, by decide +kernel, by decide +kernel⟩
noncomputable abbrev sNMul : Stmt := (inClass (PySem.Challenge.pw_whatspeed_k94_texts_that_are_none.main.body.getD 9 (.Pass ⟨0, 0, 0, 0⟩)) 7)
noncomputable abbrev NNMul : List Str := ["self", "other"]
noncomputable abbrev PNMul : List Str := ["self", "other"]
theorem scNMul : FnScope NNMul PNMul (defScope sNMul) := ⟨rfl, rfl, rfl, by decide +kernel, rfl, by decide +kernel, by decide +kernel⟩
/-! ### a Number, a Line in the heap -/
noncomputable def nF (t b : Int) : List (Str × V) := [("_top", .int t), ("_bottom", .int b)]
noncomputable def NumAt (C : Addr) (H : Hp) (a : Addr) (t b : Int) : Prop := ∃ dx, H a = some (.ins C dx (nF t b))
theorem nF_top (t b : Int) : (nF t b).lookup ("_top" : Str) = some (.int t) := lk_here
theorem nF_bot (t b : Int) : (nF t b).lookup ("_bottom" : Str) = some (.int b) := (lk_past (by decide +kernel)).trans lk_here
theorem NumAt.same {C : Addr} {H H' : Hp} {a : Addr} {t b : Int} (h : NumAt C H a t b) (s : Same H H') : NumAt C H' a t b := let ⟨dx, e⟩ := h; ⟨dx, s _ _ e⟩
theorem NumAt.ch {C : Addr} {H H' : Hp} {p a : Addr} {t b : Int} (h : NumAt C H a t b) (s : Ch p H H') (n : a ≠ p) : NumAt C H' a t b := let ⟨dx, e⟩ := h; ⟨dx, s _ _ n e⟩
/-- what the class Number must be -/
structure NumC (K : PySem.W.Frag) (C : Addr) : Prop where
  cl : Cls K C
  nT : NoAttr K C "_top"
  nB : NoAttr K C "_bottom"
  ha : PySem.W.findIn K (.ref C) "__class__" = some (some (.builtin "object.__class__"))
  hn : PySem.W.specialIn K (.builtin "object.__class__") "__get__" = some (some (.builtin "getset_descriptor.__get__"))
  htk : PySem.W.takesIn K (.builtin "object.__class__") = some true
  hm : PySem.W.mroIn K C (.type "object") = some true
  kk : PySem.W.kitOne K (.ref C) (.ref C) = some true
  sf : PySem.W.selfFirst K C = true
  nf : PySem.W.notFirst K C (.ref C) = true
theorem NumC.ty {K : PySem.W.Frag} {C : Addr} (c : NumC K C) {H : Hp} {a dx : Addr} {fs : List (Str × V)} (e : H a = some (.ins C dx fs)) : TyX K H (.ref a) (.ref C) := .base (.ins e c.cl c.ha c.hn c.htk c.hm)
/-! ### promises -/
noncomputable def spWhole : Sp := fun vs H Q _ => ∃ i : Int, vs = [.int i] ∧ Q (.bl true) H
noncomputable def spNum (C : Addr) : Sp := fun vs H Q _ => ∃ (x dx : Addr) (t b : Int), vs = [.ref x, .int t, .int b] ∧ b ≠ 0 ∧ Sz 8000 b ∧ H x = some (.ins C dx []) ∧
  ∀ H', NumAt C H' x (nT t b) (nB t b) → (∀ a o, H a = some o → a ≠ x → H' a = some o) → Q .non H'
noncomputable def spTop (C : Addr) : Sp := fun vs H Q _ => ∃ (a : Addr) (t b : Int), vs = [.ref a] ∧ NumAt C H a t b ∧ Q (.int t) H
noncomputable def spBot (C : Addr) : Sp := fun vs H Q _ => ∃ (a : Addr) (t b : Int), vs = [.ref a] ∧ NumAt C H a t b ∧ Q (.int b) H
noncomputable def spNEq (C : Addr) : Sp := fun vs H Q _ => ∃ (a c : Addr) (t b p q : Int), vs = [.ref a, .ref c] ∧ NumAt C H a t b ∧ NumAt C H c p q ∧ Q (.bl (decide (t = p ∧ b = q))) H
noncomputable def spNBool (C : Addr) : Sp := fun vs H Q _ => ∃ (a : Addr) (t b : Int), vs = [.ref a] ∧ NumAt C H a t b ∧ Q (.bl (t != 0)) H
/-- a new Number at a place that was free -/
noncomputable def spOp2 (C : Addr) (f g : Int → Int → Int → Int → Int) : Sp := fun vs H Q _ => ∃ (a c : Addr) (t b p q : Int), vs = [.ref a, .ref c] ∧ NumAt C H a t b ∧ NumAt C H c p q ∧ Sz 2000 t ∧ Sz 2000 b ∧ Sz 2000 p ∧ Sz 2000 q ∧ g t b p q ≠ 0 ∧
  ∀ x H', H x = none → NumAt C H' x (nT (f t b p q) (g t b p q)) (nB (f t b p q) (g t b p q)) → Same H H' → Q (.ref x) H'
noncomputable abbrev spAdd (C : Addr) : Sp := spOp2 C (fun t b p q => t * q + p * b) (fun _ b _ q => b * q)
noncomputable abbrev spSub (C : Addr) : Sp := spOp2 C (fun t b p q => t * q - p * b) (fun _ b _ q => b * q)
noncomputable abbrev spMul (C : Addr) : Sp := spOp2 C (fun t b p q => t * p) (fun _ b _ q => b * q)
section
variable {P : Program} {w : World} {K : PySem.W.Frag} {mg : Str → Option Value} {base : Heap} {C f : Addr} {fd : FuncData}
theorem ok_whole (F : L2.Fun K "is_whole" "is_whole" sWhole f fd) (b : Binds K fd PWhole []) (B : Bi mg) : FnR P w K mg base CX0 1 f spWhole := by
  refine fnR_of F b scWhole (fun vs H Q E h => ?_) (fun cdv A outer s H vs Q E hr h => ?_)
  · obtain ⟨i, rfl, _⟩ := h
    rfl
  · have sc := scWhole
    obtain ⟨i, rfl, k⟩ := h
    refine ⟨_, (pss_one (ps_ret (pe_and (pe_callB (show CallR _ (.builtin "isinstance") (rIsi K) from call_isi) (by rfl) B.isinstance (by decide +kernel) (pa_cons (pv 0) (pa_cons (pe_bltn (v := .ty "int") (by rfl) B.int (by decide +kernel) rfl) pa_nil))) (pe_one (pe_not (pe_callB (show CallR _ (.builtin "isinstance") (rIsi K) from call_isi) (by rfl) B.isinstance (by decide +kernel) (pa_cons (pv 0) (pa_cons (pe_bltn (v := .ty "bool") (by rfl) B.bool (by decide +kernel) rfl) pa_nil)))))))), ?_⟩
    refine ⟨_, rfl, _, _, _, _, true, rfl, .ty _, .base (.int i), kit_ty (by decide +kernel), true, rfl, iteT ?_⟩
    exact ⟨_, rfl, _, _, _, _, false, rfl, .ty _, .base (.int i), kit_ty (by decide +kernel), false, rfl, k⟩
theorem ok_num {dvs' : List V} {ds : List Value} {dvs : List V} {sp' : Sp} (F : FunD K "__init__" "Number.__init__" (defArgs sNum) (defBody sNum) (defScope sNum) dvs [] f fd) (b : Binds K fd PNum ds) (d : Vals dvs' ds) (imp : ∀ vs H Q E, sp' vs H Q E → spNum C (vs ++ dvs') H Q E)
    (B : Bi mg) (NC : NumC K C) (hgcd : mg "gcd" = some (.builtin "math.gcd")) (cW : CalF P w K mg base 1 "is_whole" spWhole) : FnR P w K mg base CX0 2 f sp' := by
  refine fnD_of F b d scNum (sp := spNum C) (fun vs H Q E h => ?_) imp (fun cdv A outer s H vs Q E hr h => ?_)
  · obtain ⟨x, dx, t, b, rfl, _⟩ := h
    rfl
  · have sc := scNum
    obtain ⟨x, dx, t, b, rfl, hb, hz, hx, k⟩ := h
    refine ⟨_, (pss_cons (ps_if (PW.pt (pw_or (pt_not (pt_val (pe_f cW hr (by decide) rfl (pa_cons (pv 1) pa_nil)))) (pw_or (pt_not (pt_val (pe_f cW hr (by decide) rfl (pa_cons (pv 2) pa_nil)))) (pw_or1 (pt_cmpR op_eq (pv 2) pe_int (nomark _)))))) (pss_one ps_never) pss_nil) (pss_cons (ps_set (i := 3) sc.nd rfl (Or.inl rfl) (pe_callBfun cr_gcd (by rfl) hgcd (pa_cons (pv 1) (pa_cons (pv 2) pa_nil)))) (pss_cons (ps_if (pt_cmpR op_lt (pv 2) pe_int (nomark _)) (pss_one (ps_set (i := 3) sc.nd rfl (Or.inl rfl) (pe_un un_neg (pv 3)))) pss_nil) (pss_cons (ps_fld (pv 0) (pe_op op_fdivZ (pv 1) (pv 3)) rfl) (pss_one (ps_fld (pv 0) (pe_op op_fdivZ (pv 2) (pv 3)) rfl)))))), ?_⟩
    refine ⟨_, rfl, t, rfl, true, rfl, iteF ?_⟩
    refine ⟨_, rfl, b, rfl, true, rfl, iteF ?_⟩
    refine ⟨_, rfl, rfl, _, rfl, ?_⟩
    refine ifF (by simpa using hb) ?_
    refine ⟨_, rfl, _, rfl, _, _, rfl, ?_⟩
    refine ⟨_, rfl, _, _, rfl, rfl, _, rfl, ?_⟩
    have hs : Sz 8000 (gS t b) := by
      have := Sz.gI (t := t) hb hz
      unfold gS
      split
      · exact this.neg
      · exact this
    have fin : ∀ {Qn : Ends} {y : Int}, y = gS t b → tSeq (sFld K (tVar 0) (tOp (rI (fun _ j => j ≠ 0 ∧ j.natAbs.log2 < 9000) fun i j => .int (i.fdiv j)) (tVar 1) (tVar 3)) "_top") (sFld K (tVar 0) (tOp (rI (fun _ j => j ≠ 0 ∧ j.natAbs.log2 < 9000) fun i j => .int (i.fdiv j)) (tVar 2) (tVar 3)) "_bottom")
        { nx := fun _ H' => Q .non H', rt := Q } [some (.ref x), some (.int t), some (.int b), some (.int y)] H := by
      rintro Qn y rfl
      have h9 : (gS t b).natAbs.log2 < 9000 := Nat.lt_of_lt_of_le (PySem.Flt.log2_lt_of (by decide) hs) (by decide)
      refine ⟨_, rfl, _, rfl, _, _, rfl, rfl, ⟨gS_ne hb, h9⟩, _, rfl, x, C, dx, [], rfl, hx, NC.cl, NC.nT, (by show 0 < 1000; decide), ?_⟩
      refine ⟨_, rfl, _, rfl, _, _, rfl, rfl, ⟨gS_ne hb, h9⟩, _, rfl, x, C, dx, _, rfl, upd_same, NC.cl, NC.nB, (by show 1 < 1000; decide), ?_⟩
      refine k _ ⟨dx, upd_same.trans (congrArg some (congrArg (HO.ins C dx) ?_))⟩ fun a o e n => ?_
      · exact (put_past (by decide +kernel)).trans rfl
      · rw [upd_ne n, upd_ne n]
        exact e
    by_cases hn : b < 0
    · refine ifT (by simpa using hn) ?_
      refine ⟨_, rfl, _, rfl, ?_⟩
      refine fin (Qn := { nx := fun _ H' => Q .non H', rt := Q }) ?_
      unfold gS gI
      rw [if_pos hn]
    · refine ifF (by simpa using hn) ?_
      refine fin (Qn := { nx := fun _ H' => Q .non H', rt := Q }) ?_
      unfold gS gI
      rw [if_neg hn]
theorem ok_top (F : L2.Fun K "top" "Number.top" sNTop f fd) (b : Binds K fd PNTop []) (NC : NumC K C) : FnR P w K mg base CX0 1 f (spTop C) := by
  refine fnR_of F b scNTop (fun vs H Q E h => ?_) (fun cdv A outer s H vs Q E hr h => ?_)
  · obtain ⟨a, t, b, rfl, _⟩ := h
    rfl
  · have sc := scNTop
    obtain ⟨a, t, b, rfl, ⟨dx, e⟩, k⟩ := h
    refine ⟨_, (pss_one (ps_ret (pe_fld (pv 0) rfl))), ?_⟩
    exact ⟨_, rfl, a, C, dx, _, _, rfl, e, NC.cl, NC.nT, nF_top _ _, k⟩
theorem ok_bot (F : L2.Fun K "bottom" "Number.bottom" sNBot f fd) (b : Binds K fd PNBot []) (NC : NumC K C) : FnR P w K mg base CX0 1 f (spBot C) := by
  refine fnR_of F b scNBot (fun vs H Q E h => ?_) (fun cdv A outer s H vs Q E hr h => ?_)
  · obtain ⟨a, t, b, rfl, _⟩ := h
    rfl
  · have sc := scNBot
    obtain ⟨a, t, b, rfl, ⟨dx, e⟩, k⟩ := h
    refine ⟨_, (pss_one (ps_ret (pe_fld (pv 0) rfl))), ?_⟩
    exact ⟨_, rfl, a, C, dx, _, _, rfl, e, NC.cl, NC.nB, nF_bot _ _, k⟩
theorem ok_neq (F : L2.Fun K "__eq__" "Number.__eq__" sNEq f fd) (b : Binds K fd PNEq []) (B : Bi mg) (NC : NumC K C) (gN : mg "Number" = some (.ref C)) : FnR P w K mg base CX0 1 f (spNEq C) := by
  refine fnR_of F b scNEq (fun vs H Q E h => ?_) (fun cdv A outer s H vs Q E hr h => ?_)
  · obtain ⟨a, c, t, b, p, q, rfl, _⟩ := h
    rfl
  · have sc := scNEq
    obtain ⟨a, c, t, b, p, q, rfl, ⟨dx, ea⟩, ⟨dy, ec⟩, k⟩ := h
    refine ⟨_, (pss_one (ps_ret (pe_and (pe_callB (show CallR _ (.builtin "isinstance") (rIsi K) from call_isi) (by rfl) B.isinstance (by decide +kernel) (pa_cons (pv 1) (pa_cons (pe_glob (v := .ref C) rfl gN rfl) pa_nil))) (pe_and (pe_cmpR op_eq (pe_fld (pv 0) rfl) (pe_fld (pv 1) rfl) (nomark _)) (pe_one (pe_cmpR op_eq (pe_fld (pv 0) rfl) (pe_fld (pv 1) rfl) (nomark _))))))), ?_⟩
    refine ⟨_, rfl, _, _, _, _, true, rfl, .own C, NC.ty ec, NC.kk, true, rfl, iteT ?_⟩
    refine ⟨_, rfl, a, C, dx, _, _, rfl, ea, NC.cl, NC.nT, nF_top _ _, _, rfl, c, C, dy, _, _, rfl, ec, NC.cl, NC.nT, nF_top _ _, rfl, _, rfl, ?_⟩
    by_cases h1 : t = p
    · subst h1
      refine ifT (by simp) ?_
      refine ⟨_, rfl, a, C, dx, _, _, rfl, ea, NC.cl, NC.nB, nF_bot _ _, _, rfl, c, C, dy, _, _, rfl, ec, NC.cl, NC.nB, nF_bot _ _, rfl, ?_⟩
      simpa using k
    · refine ifF (by simpa using h1) ?_
      simpa [h1] using k
theorem ok_nbool (F : L2.Fun K "__bool__" "Number.__bool__" sNBool f fd) (b : Binds K fd PNBool []) (B : Bi mg) (NC : NumC K C) : FnR P w K mg base CX0 1 f (spNBool C) := by
  refine fnR_of F b scNBool (fun vs H Q E h => ?_) (fun cdv A outer s H vs Q E hr h => ?_)
  · obtain ⟨a, t, b, rfl, _⟩ := h
    rfl
  · have sc := scNBool
    obtain ⟨a, t, b, rfl, ⟨dx, ea⟩, k⟩ := h
    refine ⟨_, (pss_one (ps_ret (pe_callTy call_bool1 (by rfl) B.bool (by decide +kernel) (pa_cons (pe_fld (pv 0) rfl) pa_nil)))), ?_⟩
    exact ⟨_, rfl, a, C, dx, _, _, rfl, ea, NC.cl, NC.nT, nF_top _ _, .inl ⟨t, rfl, k⟩⟩
theorem ok_nadd (F : L2.Fun K "__add__" "Number.__add__" sNAdd f fd) (b : Binds K fd PNAdd []) (NC : NumC K C) (mN : MakF P w K mg base 2 "Number" C (spNum C)) : FnR P w K mg base CX0 4 f (spAdd C) := by
  refine fnR_of F b scNAdd (fun vs H Q E h => ?_) (fun cdv A outer s H vs Q E hr h => ?_)
  · obtain ⟨a, c, t, b, p, q, rfl, _⟩ := h
    rfl
  · have sc := scNAdd
    obtain ⟨a, c, t, b, p, q, rfl, ⟨dx, ea⟩, ⟨dy, ec⟩, z1, z2, z3, z4, h0, k⟩ := h
    refine ⟨_, (pss_one (ps_ret (pe_mk mN hr (by decide) rfl (pa_cons (pe_op op_add (pe_op op_mulW (pe_fld (pv 0) rfl) (pe_fld (pv 1) rfl)) (pe_op op_mulW (pe_fld (pv 1) rfl) (pe_fld (pv 0) rfl))) (pa_cons (pe_op op_mulW (pe_fld (pv 0) rfl) (pe_fld (pv 1) rfl)) pa_nil))))), ?_⟩
    refine ⟨_, rfl, a, C, dx, _, _, rfl, ea, NC.cl, NC.nT, nF_top _ _, _, rfl, c, C, dy, _, _, rfl, ec, NC.cl, NC.nB, nF_bot _ _, _, _, rfl, rfl, wide_mul z1 z4 (by decide) (by decide) (by decide), ?_⟩
    refine ⟨_, rfl, c, C, dy, _, _, rfl, ec, NC.cl, NC.nT, nF_top _ _, _, rfl, a, C, dx, _, _, rfl, ea, NC.cl, NC.nB, nF_bot _ _, _, _, rfl, rfl, wide_mul z3 z2 (by decide) (by decide) (by decide), _, _, rfl, rfl, ?_⟩
    refine ⟨_, rfl, a, C, dx, _, _, rfl, ea, NC.cl, NC.nB, nF_bot _ _, _, rfl, c, C, dy, _, _, rfl, ec, NC.cl, NC.nB, nF_bot _ _, _, _, rfl, rfl, wide_mul z2 z4 (by decide) (by decide) (by decide), ?_⟩
    intro x d nx nd ne
    refine ⟨x, d, _, _, rfl, h0, (z2.mul z4).mono (by decide), upd_same, fun H1 h1 k1 => ⟨rfl, ?_⟩⟩
    exact k x H1 nx h1 (Same.mk nx nd k1)
theorem ok_nsub (F : L2.Fun K "__sub__" "Number.__sub__" sNSub f fd) (b : Binds K fd PNSub []) (NC : NumC K C) (mN : MakF P w K mg base 2 "Number" C (spNum C)) : FnR P w K mg base CX0 4 f (spSub C) := by
  refine fnR_of F b scNSub (fun vs H Q E h => ?_) (fun cdv A outer s H vs Q E hr h => ?_)
  · obtain ⟨a, c, t, b, p, q, rfl, _⟩ := h
    rfl
  · have sc := scNSub
    obtain ⟨a, c, t, b, p, q, rfl, ⟨dx, ea⟩, ⟨dy, ec⟩, z1, z2, z3, z4, h0, k⟩ := h
    refine ⟨_, (pss_one (ps_ret (pe_mk mN hr (by decide) rfl (pa_cons (pe_op op_sub (pe_op op_mulW (pe_fld (pv 0) rfl) (pe_fld (pv 1) rfl)) (pe_op op_mulW (pe_fld (pv 1) rfl) (pe_fld (pv 0) rfl))) (pa_cons (pe_op op_mulW (pe_fld (pv 0) rfl) (pe_fld (pv 1) rfl)) pa_nil))))), ?_⟩
    refine ⟨_, rfl, a, C, dx, _, _, rfl, ea, NC.cl, NC.nT, nF_top _ _, _, rfl, c, C, dy, _, _, rfl, ec, NC.cl, NC.nB, nF_bot _ _, _, _, rfl, rfl, wide_mul z1 z4 (by decide) (by decide) (by decide), ?_⟩
    refine ⟨_, rfl, c, C, dy, _, _, rfl, ec, NC.cl, NC.nT, nF_top _ _, _, rfl, a, C, dx, _, _, rfl, ea, NC.cl, NC.nB, nF_bot _ _, _, _, rfl, rfl, wide_mul z3 z2 (by decide) (by decide) (by decide), _, _, rfl, rfl, ?_⟩
    refine ⟨_, rfl, a, C, dx, _, _, rfl, ea, NC.cl, NC.nB, nF_bot _ _, _, rfl, c, C, dy, _, _, rfl, ec, NC.cl, NC.nB, nF_bot _ _, _, _, rfl, rfl, wide_mul z2 z4 (by decide) (by decide) (by decide), ?_⟩
    intro x d nx nd ne
    refine ⟨x, d, _, _, rfl, h0, (z2.mul z4).mono (by decide), upd_same, fun H1 h1 k1 => ⟨rfl, ?_⟩⟩
    exact k x H1 nx h1 (Same.mk nx nd k1)
theorem ok_nmul (F : L2.Fun K "__mul__" "Number.__mul__" sNMul f fd) (b : Binds K fd PNMul []) (NC : NumC K C) (mN : MakF P w K mg base 2 "Number" C (spNum C)) : FnR P w K mg base CX0 4 f (spMul C) := by
  refine fnR_of F b scNMul (fun vs H Q E h => ?_) (fun cdv A outer s H vs Q E hr h => ?_)
  · obtain ⟨a, c, t, b, p, q, rfl, _⟩ := h
    rfl
  · have sc := scNMul
    obtain ⟨a, c, t, b, p, q, rfl, ⟨dx, ea⟩, ⟨dy, ec⟩, z1, z2, z3, z4, h0, k⟩ := h
    refine ⟨_, (pss_one (ps_ret (pe_mk mN hr (by decide) rfl (pa_cons (pe_op op_mulW (pe_fld (pv 0) rfl) (pe_fld (pv 1) rfl)) (pa_cons (pe_op op_mulW (pe_fld (pv 0) rfl) (pe_fld (pv 1) rfl)) pa_nil))))), ?_⟩
    refine ⟨_, rfl, a, C, dx, _, _, rfl, ea, NC.cl, NC.nT, nF_top _ _, _, rfl, c, C, dy, _, _, rfl, ec, NC.cl, NC.nT, nF_top _ _, _, _, rfl, rfl, wide_mul z1 z3 (by decide) (by decide) (by decide), ?_⟩
    refine ⟨_, rfl, a, C, dx, _, _, rfl, ea, NC.cl, NC.nB, nF_bot _ _, _, rfl, c, C, dy, _, _, rfl, ec, NC.cl, NC.nB, nF_bot _ _, _, _, rfl, rfl, wide_mul z2 z4 (by decide) (by decide) (by decide), ?_⟩
    intro x d nx nd ne
    refine ⟨x, d, _, _, rfl, h0, (z2.mul z4).mono (by decide), upd_same, fun H1 h1 k1 => ⟨rfl, ?_⟩⟩
    exact k x H1 nx h1 (Same.mk nx nd k1)
end
end Ws

namespace Ws
open PySem PySem.Spec PyProof.Rows L2
noncomputable abbrev sNNeg : Stmt := (inClass (PySem.Challenge.pw_whatspeed_k94_texts_that_are_none.main.body.getD 9 (.Pass ⟨0, 0, 0, 0⟩)) 8)
noncomputable abbrev NNNeg : List Str := ["self"]
noncomputable abbrev PNNeg : List Str := ["self"]
theorem scNNeg : FnScope NNNeg PNNeg (defScope sNNeg) := ⟨rfl, rfl, rfl, by decide +kernel, rfl, by decide +kernel, by decide +kernel⟩
noncomputable abbrev sNAbs : Stmt := (inClass (PySem.Challenge.pw_whatspeed_k94_texts_that_are_none.main.body.getD 9 (.Pass ⟨0, 0, 0, 0⟩)) 9)
noncomputable abbrev NNAbs : List Str := ["self"]
noncomputable abbrev PNAbs : List Str := ["self"]
theorem scNAbs : FnScope NNAbs PNAbs (defScope sNAbs) := ⟨rfl, rfl, rfl, by decide +kernel, rfl, by decide +kernel, by decide +kernel⟩
noncomputable abbrev sNLess : Stmt := (inClass (PySem.Challenge.pw_whatspeed_k94_texts_that_are_none.main.body.getD 9 (.Pass ⟨0, 0, 0, 0⟩)) 10)
noncomputable abbrev NNLess : List Str := ["self", "other"]
noncomputable abbrev PNLess : List Str := ["self", "other"]
theorem scNLess : FnScope NNLess PNLess (defScope sNLess) := ⟨rfl, rfl, rfl, by decide +kernel, rfl, by decide +kernel, by decide +kernel⟩
noncomputable def absI (t : Int) : Int := if t < 0 then -t else t
noncomputable def spOp1 (C : Addr) (f : Int → Int) : Sp := fun vs H Q _ => ∃ (a : Addr) (t b : Int), vs = [.ref a] ∧ NumAt C H a t b ∧ b ≠ 0 ∧ Sz 2000 b ∧ ∀ x H', H x = none → NumAt C H' x (nT (f t) b) (nB (f t) b) → Same H H' → Q (.ref x) H'
noncomputable abbrev spNeg (C : Addr) : Sp := spOp1 C fun t => -t
noncomputable abbrev spAbs (C : Addr) : Sp := spOp1 C absI
noncomputable def spLess (C : Addr) : Sp := fun vs H Q _ => ∃ (a c : Addr) (t b p q : Int), vs = [.ref a, .ref c] ∧ NumAt C H a t b ∧ NumAt C H c p q ∧ Sz 2000 t ∧ Sz 2000 b ∧ Sz 2000 p ∧ Sz 2000 q ∧ Q (.bl (decide (t * q < p * b))) H
section
variable {P : Program} {w : World} {K : PySem.W.Frag} {mg : Str → Option Value} {base : Heap} {C f : Addr} {fd : FuncData}
theorem ok_nneg (F : L2.Fun K "__neg__" "Number.__neg__" sNNeg f fd) (b : Binds K fd PNNeg []) (NC : NumC K C) (mN : MakF P w K mg base 2 "Number" C (spNum C)) : FnR P w K mg base CX0 4 f (spNeg C) := by
  refine fnR_of F b scNNeg (fun vs H Q E h => ?_) (fun cdv A outer s H vs Q E hr h => ?_)
  · obtain ⟨a, t, b, rfl, _⟩ := h
    rfl
  · have sc := scNNeg
    obtain ⟨a, t, b, rfl, ⟨dx, ea⟩, hb, zb, k⟩ := h
    refine ⟨_, (pss_one (ps_ret (pe_mk mN hr (by decide) rfl (pa_cons (pe_un un_neg (pe_fld (pv 0) rfl)) (pa_cons (pe_fld (pv 0) rfl) pa_nil))))), ?_⟩
    refine ⟨_, rfl, a, C, dx, _, _, rfl, ea, NC.cl, NC.nT, nF_top _ _, _, rfl, ?_⟩
    refine ⟨_, rfl, a, C, dx, _, _, rfl, ea, NC.cl, NC.nB, nF_bot _ _, ?_⟩
    intro x d nx nd ne
    refine ⟨x, d, _, _, rfl, hb, zb.mono (by decide), upd_same, fun H1 h1 k1 => ⟨rfl, ?_⟩⟩
    exact k x H1 nx h1 (Same.mk nx nd k1)
theorem ok_nabs (F : L2.Fun K "__abs__" "Number.__abs__" sNAbs f fd) (b : Binds K fd PNAbs []) (B : Bi mg) (NC : NumC K C) (mN : MakF P w K mg base 2 "Number" C (spNum C)) : FnR P w K mg base CX0 4 f (spAbs C) := by
  refine fnR_of F b scNAbs (fun vs H Q E h => ?_) (fun cdv A outer s H vs Q E hr h => ?_)
  · obtain ⟨a, t, b, rfl, _⟩ := h
    rfl
  · have sc := scNAbs
    obtain ⟨a, t, b, rfl, ⟨dx, ea⟩, hb, zb, k⟩ := h
    refine ⟨_, (pss_one (ps_ret (pe_mk mN hr (by decide) rfl (pa_cons (pe_callB call_abs (by rfl) B.abs (by decide +kernel) (pa_cons (pe_fld (pv 0) rfl) pa_nil)) (pa_cons (pe_fld (pv 0) rfl) pa_nil))))), ?_⟩
    refine ⟨_, rfl, a, C, dx, _, _, rfl, ea, NC.cl, NC.nT, nF_top _ _, _, rfl, ?_⟩
    refine ⟨_, rfl, a, C, dx, _, _, rfl, ea, NC.cl, NC.nB, nF_bot _ _, ?_⟩
    intro x d nx nd ne
    refine ⟨x, d, _, _, rfl, hb, zb.mono (by decide), upd_same, fun H1 h1 k1 => ⟨rfl, ?_⟩⟩
    exact k x H1 nx h1 (Same.mk nx nd k1)
theorem ok_nless (F : L2.Fun K "is_less" "Number.is_less" sNLess f fd) (b : Binds K fd PNLess []) (NC : NumC K C) : FnR P w K mg base CX0 1 f (spLess C) := by
  refine fnR_of F b scNLess (fun vs H Q E h => ?_) (fun cdv A outer s H vs Q E hr h => ?_)
  · obtain ⟨a, c, t, b, p, q, rfl, _⟩ := h
    rfl
  · have sc := scNLess
    obtain ⟨a, c, t, b, p, q, rfl, ⟨dx, ea⟩, ⟨dy, ec⟩, z1, z2, z3, z4, k⟩ := h
    refine ⟨_, (pss_one (ps_ret (pe_cmpR op_lt (pe_op op_mulW (pe_fld (pv 0) rfl) (pe_fld (pv 1) rfl)) (pe_op op_mulW (pe_fld (pv 1) rfl) (pe_fld (pv 0) rfl)) (nomark _)))), ?_⟩
    refine ⟨_, rfl, a, C, dx, _, _, rfl, ea, NC.cl, NC.nT, nF_top _ _, _, rfl, c, C, dy, _, _, rfl, ec, NC.cl, NC.nB, nF_bot _ _, _, _, rfl, rfl, wide_mul z1 z4 (by decide) (by decide) (by decide), ?_⟩
    refine ⟨_, rfl, c, C, dy, _, _, rfl, ec, NC.cl, NC.nT, nF_top _ _, _, rfl, a, C, dx, _, _, rfl, ea, NC.cl, NC.nB, nF_bot _ _, _, _, rfl, rfl, wide_mul z3 z2 (by decide) (by decide) (by decide), _, _, rfl, rfl, k⟩
end
end Ws

namespace Ws
open PySem PySem.Spec PyProof.Rows L2
noncomputable abbrev sErrN : Stmt := (inClass (PySem.Challenge.pw_whatspeed_k94_texts_that_are_none.main.body.getD 5 (.Pass ⟨0, 0, 0, 0⟩)) 0)
noncomputable abbrev NErrN : List Str := ["self", "value"]
noncomputable abbrev PErrN : List Str := ["self", "value"]
theorem scErrN : FnScope NErrN PErrN (defScope sErrN) := ⟨rfl, rfl, rfl, by decide +kernel, rfl, by decide +kernel, by decide +kernel⟩
/-! ### an own error's __init__ -/
noncomputable def spErr (C : Addr) : Sp := fun vs H Q _ => ∃ (a : Addr) (v : V), vs = [.ref a, v] ∧ H a = some (exo a C none) ∧ ∀ d, H d = none → d ≠ a → Q .non (upd (upd H d (exd d [("value", v)])) a (exo a C (some d)))
section
variable {P : Program} {w : World} {K : PySem.W.Frag} {mg : Str → Option Value} {base : Heap} {C f : Addr} {fd : FuncData}
theorem ok_errn (F : L2.Fun K "__init__" "BadStretch.__init__" sErrN f fd) (T : OexC K C) (hno : PySem.W.findIn K (.ref C) "value" = some none) : FnOk P w K mg base CX0 1 f fd PErrN (spErr C) := by
  refine F.ok scErrN (fun vs H Q E h => ?_) (fun cdv A outer s H vs Q E hr h => ?_)
  · obtain ⟨a, v, rfl, _⟩ := h
    rfl
  · have sc := scErrN
    obtain ⟨a, v, rfl, e, k⟩ := h
    refine ⟨_, (pss_one (ps_ost (pv 0) (pv 1))), ?_⟩
    refine ⟨_, rfl, _, rfl, a, C, rfl, T, hno, .inl ⟨e, fun d nd ne => ?_⟩⟩
    exact k d nd ne
end
/-- what raising one leaves -/
theorem err_same {H : Hp} {a d C : Addr} {v : V} (na : H a = none) (nd : H d = none) : Same H (upd (del (upd (upd (upd H a (exo a C none)) d (exd d [("value", v)])) a (exo a C (some d))) a) d (.xd [("value", v)])) := fun b o e => by
  have h1 := ne_of_none e na
  have h2 := ne_of_none e nd
  rw [upd_ne h2, del_ne h1, upd_ne h1, upd_ne h2, upd_ne h1]
  exact e
end Ws

namespace Ws
open PySem PySem.Spec PyProof.Rows L2
noncomputable abbrev sSInit : Stmt := (inClass (PySem.Challenge.pw_whatspeed_k94_texts_that_are_none.main.body.getD 11 (.Pass ⟨0, 0, 0, 0⟩)) 0)
noncomputable abbrev NSInit : List Str := ["self", "low", "high", "has_low", "has_high"]
noncomputable abbrev PSInit : List Str := ["self", "low", "high", "has_low", "has_high"]
theorem scSInit : FnScope NSInit PSInit (defScope sSInit) := ⟨rfl, rfl, rfl, by decide +kernel, rfl, by decide +kernel, by decide +kernel⟩
noncomputable abbrev sSLow : Stmt := (inClass (PySem.Challenge.pw_whatspeed_k94_texts_that_are_none.main.body.getD 11 (.Pass ⟨0, 0, 0, 0⟩)) 1)
noncomputable abbrev NSLow : List Str := ["self"]
noncomputable abbrev PSLow : List Str := ["self"]
theorem scSLow : FnScope NSLow PSLow (defScope sSLow) := ⟨rfl, rfl, rfl, by decide +kernel, rfl, by decide +kernel, by decide +kernel⟩
noncomputable abbrev sSHigh : Stmt := (inClass (PySem.Challenge.pw_whatspeed_k94_texts_that_are_none.main.body.getD 11 (.Pass ⟨0, 0, 0, 0⟩)) 2)
noncomputable abbrev NSHigh : List Str := ["self"]
noncomputable abbrev PSHigh : List Str := ["self"]
theorem scSHigh : FnScope NSHigh PSHigh (defScope sSHigh) := ⟨rfl, rfl, rfl, by decide +kernel, rfl, by decide +kernel, by decide +kernel⟩
noncomputable abbrev sSHl : Stmt := (inClass (PySem.Challenge.pw_whatspeed_k94_texts_that_are_none.main.body.getD 11 (.Pass ⟨0, 0, 0, 0⟩)) 3)
noncomputable abbrev NSHl : List Str := ["self"]
noncomputable abbrev PSHl : List Str := ["self"]
theorem scSHl : FnScope NSHl PSHl (defScope sSHl) := ⟨rfl, rfl, rfl, by decide +kernel, rfl, by decide +kernel, by decide +kernel⟩
noncomputable abbrev sSHh : Stmt := (inClass (PySem.Challenge.pw_whatspeed_k94_texts_that_are_none.main.body.getD 11 (.Pass ⟨0, 0, 0, 0⟩)) 4)
noncomputable abbrev NSHh : List Str := ["self"]
noncomputable abbrev PSHh : List Str := ["self"]
theorem scSHh : FnScope NSHh PSHh (defScope sSHh) := ⟨rfl, rfl, rfl, by decide +kernel, rfl, by decide +kernel, by decide +kernel⟩
/-! ### what may stand at an end, what may say that it is included -/
inductive EndK where
  | num (p q : Int)
  | odd
inductive FlagK where
  | flag (b : Bool)
  | odd
noncomputable def EndK.isNum : EndK → Bool
  | .num _ _ => true
  | .odd => false
noncomputable def FlagK.isFlag : FlagK → Bool
  | .flag _ => true
  | .odd => false
noncomputable def fineB : EndK → EndK → FlagK → FlagK → Bool
  | .num p q, .num r s, .flag b, .flag c => decide (p * s < r * q) || (decide (p * s = r * q) && (b && c))
  | _, _, _, _ => false
/-- a value that is neither a Number nor a truth -/
noncomputable def OddV (K : PySem.W.Frag) (C : Addr) (H : Hp) (v : V) : Prop := (∃ t, TyX K H v t ∧ PySem.W.kitOne K t (.ref C) = some false ∧ PySem.W.kitOne K t (.type "bool") = some false) ∧ (flatB v = true ∨ ∃ a o, v = .ref a ∧ H a = some o)
noncomputable def EndIs (K : PySem.W.Frag) (C : Addr) (H : Hp) (v : V) : EndK → Prop
  | .num p q => ∃ a, v = .ref a ∧ NumAt C H a p q ∧ Low p q p q ∧ Sz 110 p ∧ Sz 110 q
  | .odd => OddV K C H v
noncomputable def FlagIs (K : PySem.W.Frag) (C : Addr) (H : Hp) (v : V) : FlagK → Prop
  | .flag b => v = .bl b
  | .odd => OddV K C H v
theorem EndIs.ty {K : PySem.W.Frag} {C : Addr} {H : Hp} {v : V} (NC : NumC K C) : ∀ {A : EndK}, EndIs K C H v A → ∃ t, TyX K H v t ∧ PySem.W.kitOne K t (.ref C) = some A.isNum
  | .num p q, ⟨a, e, ⟨dx, h⟩, _⟩ => by subst e; exact ⟨_, NC.ty h, NC.kk⟩
  | .odd, ⟨⟨t, h1, h2, _⟩, _⟩ => ⟨t, h1, h2⟩
theorem FlagIs.ty {K : PySem.W.Frag} {C : Addr} {H : Hp} {v : V} : ∀ {A : FlagK}, FlagIs K C H v A → ∃ t, TyX K H v t ∧ PySem.W.kitOne K t (.type "bool") = some A.isFlag
  | .flag b, e => by cases (show v = V.bl b from e); exact ⟨_, .base (.bl b), kit_self _⟩
  | .odd, ⟨⟨t, h1, _, h2⟩, _⟩ => ⟨t, h1, h2⟩
theorem tyx_same {K : PySem.W.Frag} {H H' : Hp} {v : V} {t : Value} (h : TyX K H v t) (s : ∀ a o, v = .ref a → H a = some o → H' a = some o) : TyX K H' v t := by
  cases h with
  | base h => cases h with
    | non => exact .base .non
    | bl x => exact .base (.bl x)
    | int i => exact .base (.int i)
    | str x => exact .base (.str x)
    | flt x => exact .base (.flt x)
    | lst e => exact .base (.lst (s _ _ rfl e))
    | frz e => exact .base (.frz (s _ _ rfl e))
    | tup e => exact .base (.tup (s _ _ rfl e))
    | dK e => exact .base (.dK (s _ _ rfl e))
    | dT e => exact .base (.dT (s _ _ rfl e))
    | ins e cl ha hn htk hm => exact .base (.ins (s _ _ rfl e) cl ha hn htk hm)
  | byt b => exact .byt b
  | set e => exact .set (s _ _ rfl e)
  | kList e c => exact .kList e c
  | kTuple e c => exact .kTuple e c
  | kDict e c => exact .kDict e c
  | fTuple e => exact .fTuple (s _ _ rfl e)
  | fDict e => exact .fDict (s _ _ rfl e)
theorem OddV.at {K : PySem.W.Frag} {C : Addr} {H H' : Hp} {v : V} (h : OddV K C H v) (s : ∀ a o, v = .ref a → H a = some o → H' a = some o) : OddV K C H' v := let ⟨⟨t, h1, h2⟩, h3⟩ := h; ⟨⟨t, tyx_same h1 s, h2⟩, h3.imp id fun ⟨a, o, e, q⟩ => ⟨a, o, e, s a o e q⟩⟩
theorem EndIs.at {K : PySem.W.Frag} {C : Addr} {H H' : Hp} {v : V} (s : ∀ a o, v = .ref a → H a = some o → H' a = some o) : ∀ {A : EndK}, EndIs K C H v A → EndIs K C H' v A
  | .num p q, ⟨a, e, ⟨dx, h⟩, r⟩ => ⟨a, e, ⟨dx, s _ _ e h⟩, r⟩
  | .odd, h => OddV.at h s
theorem FlagIs.at {K : PySem.W.Frag} {C : Addr} {H H' : Hp} {v : V} (s : ∀ a o, v = .ref a → H a = some o → H' a = some o) : ∀ {A : FlagK}, FlagIs K C H v A → FlagIs K C H' v A
  | .flag b, e => e
  | .odd, h => OddV.at h s
theorem EndIs.same {K : PySem.W.Frag} {C : Addr} {H H' : Hp} {v : V} {A : EndK} (h : EndIs K C H v A) (s : Same H H') : EndIs K C H' v A := EndIs.at (fun a o _ e => s a o e) h
theorem FlagIs.same {K : PySem.W.Frag} {C : Addr} {H H' : Hp} {v : V} {A : FlagK} (h : FlagIs K C H v A) (s : Same H H') : FlagIs K C H' v A := FlagIs.at (fun a o _ e => s a o e) h
/-! ### a Stretch in the heap -/
noncomputable def sF (l h hl hh m : V) : List (Str × V) := [("_low", l), ("_high", h), ("_has_low", hl), ("_has_high", hh), ("_middle", m)]
noncomputable def StrAt (D : Addr) (H : Hp) (a : Addr) (l h hl hh m : V) : Prop := ∃ dx, H a = some (.ins D dx (sF l h hl hh m))
theorem StrAt.same {D : Addr} {H H' : Hp} {a : Addr} {l h hl hh m : V} (z : StrAt D H a l h hl hh m) (s : Same H H') : StrAt D H' a l h hl hh m := let ⟨dx, e⟩ := z; ⟨dx, s _ _ e⟩
structure StrC (K : PySem.W.Frag) (D : Addr) : Prop where
  cl : Cls K D
  n1 : NoAttr K D "_low"
  n2 : NoAttr K D "_high"
  n3 : NoAttr K D "_has_low"
  n4 : NoAttr K D "_has_high"
  n5 : NoAttr K D "_middle"
/-- the middle -/
noncomputable def MidAt (C : Addr) (H : Hp) (m : V) (A B : EndK) : Prop := ∃ a p q r s, m = .ref a ∧ A = .num p q ∧ B = .num r s ∧ NumAt C H a (nT (p * s + r * q) (2 * q * s)) (nB (p * s + r * q) (2 * q * s))
noncomputable def spStr (K : PySem.W.Frag) (C D Cs : Addr) : Sp := fun vs H Q E => ∃ (x dx : Addr) (l h hl hh : V) (A B : EndK) (F G : FlagK), vs = [.ref x, l, h, hl, hh] ∧ H x = some (.ins D dx []) ∧ l ≠ .ref x ∧ h ≠ .ref x ∧ hl ≠ .ref x ∧ hh ≠ .ref x ∧ EndIs K C H l A ∧ EndIs K C H h B ∧ FlagIs K C H hl F ∧ FlagIs K C H hh G ∧
  (fineB A B F G = true → ∀ m H', StrAt D H' x l h hl hh m → MidAt C H' m A B → (∀ a o, H a = some o → a ≠ x → H' a = some o) → Q .non H') ∧
  (fineB A B F G = false → ∀ y d H', H' y = some (.tup [l, h]) → H' d = some (.xd [("value", .ref y)]) → Same H H' → E (.ref Cs) (some d) H')
noncomputable def spFld (D : Addr) (g : V → V → V → V → V → V) : Sp := fun vs H Q _ => ∃ (a : Addr) (l h hl hh m : V), vs = [.ref a] ∧ StrAt D H a l h hl hh m ∧ Q (g l h hl hh m) H
section
variable {P : Program} {w : World} {K : PySem.W.Frag} {mg : Str → Option Value} {base : Heap} {C D Cs f fB : Addr} {fd fdB : FuncData}
theorem sF_1 (l h hl hh m : V) : (sF l h hl hh m).lookup ("_low" : Str) = some l := lk_here
theorem sF_2 (l h hl hh m : V) : (sF l h hl hh m).lookup ("_high" : Str) = some h := (lk_past (by decide +kernel)).trans lk_here
theorem sF_3 (l h hl hh m : V) : (sF l h hl hh m).lookup ("_has_low" : Str) = some hl := (lk_past (by decide +kernel)).trans ((lk_past (by decide +kernel)).trans lk_here)
theorem sF_4 (l h hl hh m : V) : (sF l h hl hh m).lookup ("_has_high" : Str) = some hh := (lk_past (by decide +kernel)).trans ((lk_past (by decide +kernel)).trans ((lk_past (by decide +kernel)).trans lk_here))
theorem sF_5 (l h hl hh m : V) : (sF l h hl hh m).lookup ("_middle" : Str) = some m := (lk_past (by decide +kernel)).trans ((lk_past (by decide +kernel)).trans ((lk_past (by decide +kernel)).trans ((lk_past (by decide +kernel)).trans lk_here)))
theorem ok_slow (F : L2.Fun K "low" "Stretch.low" sSLow f fd) (b : Binds K fd PSLow []) (SC : StrC K D) : FnR P w K mg base CX0 1 f (spFld D fun l _ _ _ _ => l) := by
  refine fnR_of F b scSLow (fun vs H Q E h => ?_) (fun cdv A outer s H vs Q E hr h => ?_)
  · obtain ⟨a, l, h, hl, hh, m, rfl, _⟩ := h
    rfl
  · have sc := scSLow
    obtain ⟨a, l, h, hl, hh, m, rfl, ⟨dx, e⟩, k⟩ := h
    refine ⟨_, (pss_one (ps_ret (pe_fld (pv 0) rfl))), ?_⟩
    exact ⟨_, rfl, a, D, dx, _, _, rfl, e, SC.cl, SC.n1, sF_1 _ _ _ _ _, k⟩
theorem ok_shigh (F : L2.Fun K "high" "Stretch.high" sSHigh f fd) (b : Binds K fd PSHigh []) (SC : StrC K D) : FnR P w K mg base CX0 1 f (spFld D fun _ h _ _ _ => h) := by
  refine fnR_of F b scSHigh (fun vs H Q E h => ?_) (fun cdv A outer s H vs Q E hr h => ?_)
  · obtain ⟨a, l, h, hl, hh, m, rfl, _⟩ := h
    rfl
  · have sc := scSHigh
    obtain ⟨a, l, h, hl, hh, m, rfl, ⟨dx, e⟩, k⟩ := h
    refine ⟨_, (pss_one (ps_ret (pe_fld (pv 0) rfl))), ?_⟩
    exact ⟨_, rfl, a, D, dx, _, _, rfl, e, SC.cl, SC.n2, sF_2 _ _ _ _ _, k⟩
theorem ok_shl (F : L2.Fun K "has_low" "Stretch.has_low" sSHl f fd) (b : Binds K fd PSHl []) (SC : StrC K D) : FnR P w K mg base CX0 1 f (spFld D fun _ _ hl _ _ => hl) := by
  refine fnR_of F b scSHl (fun vs H Q E h => ?_) (fun cdv A outer s H vs Q E hr h => ?_)
  · obtain ⟨a, l, h, hl, hh, m, rfl, _⟩ := h
    rfl
  · have sc := scSHl
    obtain ⟨a, l, h, hl, hh, m, rfl, ⟨dx, e⟩, k⟩ := h
    refine ⟨_, (pss_one (ps_ret (pe_fld (pv 0) rfl))), ?_⟩
    exact ⟨_, rfl, a, D, dx, _, _, rfl, e, SC.cl, SC.n3, sF_3 _ _ _ _ _, k⟩
theorem ok_shh (F : L2.Fun K "has_high" "Stretch.has_high" sSHh f fd) (b : Binds K fd PSHh []) (SC : StrC K D) : FnR P w K mg base CX0 1 f (spFld D fun _ _ _ hh _ => hh) := by
  refine fnR_of F b scSHh (fun vs H Q E h => ?_) (fun cdv A outer s H vs Q E hr h => ?_)
  · obtain ⟨a, l, h, hl, hh, m, rfl, _⟩ := h
    rfl
  · have sc := scSHh
    obtain ⟨a, l, h, hl, hh, m, rfl, ⟨dx, e⟩, k⟩ := h
    refine ⟨_, (pss_one (ps_ret (pe_fld (pv 0) rfl))), ?_⟩
    exact ⟨_, rfl, a, D, dx, _, _, rfl, e, SC.cl, SC.n4, sF_4 _ _ _ _ _, k⟩
theorem put4 {H : Hp} {x a : Addr} {o o1 o2 o3 o4 : HO} (n : a ≠ x) (e : H a = some o) : upd (upd (upd (upd H x o1) x o2) x o3) x o4 a = some o := (upd_ne n).trans ((upd_ne n).trans ((upd_ne n).trans ((upd_ne n).trans e)))
theorem sF_put {l h hl hh m : V} : putF "_middle" m (putF "_has_high" hh (putF "_has_low" hl (putF "_high" h (putF "_low" l [])))) = sF l h hl hh m := by
  have p0 : putF "_low" l [] = [(("_low" : Str), l)] := rfl
  have p1 : putF "_high" h [(("_low" : Str), l)] = [(("_low" : Str), l), (("_high" : Str), h)] := (put_past (by decide +kernel)).trans rfl
  have p2 : putF "_has_low" hl [(("_low" : Str), l), (("_high" : Str), h)] = [(("_low" : Str), l), (("_high" : Str), h), (("_has_low" : Str), hl)] := (put_past (by decide +kernel)).trans (congrArg (List.cons _) ((put_past (by decide +kernel)).trans rfl))
  have p3 : putF "_has_high" hh [(("_low" : Str), l), (("_high" : Str), h), (("_has_low" : Str), hl)] = [(("_low" : Str), l), (("_high" : Str), h), (("_has_low" : Str), hl), (("_has_high" : Str), hh)] := (put_past (by decide +kernel)).trans (congrArg (List.cons _) ((put_past (by decide +kernel)).trans (congrArg (List.cons _) ((put_past (by decide +kernel)).trans rfl))))
  have p4 : putF "_middle" m [(("_low" : Str), l), (("_high" : Str), h), (("_has_low" : Str), hl), (("_has_high" : Str), hh)] = sF l h hl hh m := (put_past (by decide +kernel)).trans (congrArg (List.cons _) ((put_past (by decide +kernel)).trans (congrArg (List.cons _) ((put_past (by decide +kernel)).trans (congrArg (List.cons _) ((put_past (by decide +kernel)).trans rfl))))))
  rw [p0, p1, p2, p3, p4]
theorem mid_eq {u v p q r s : Int} (hq : 0 < q) (hs : 0 < s) (h : Low (p * s + r * q) (q * s) u v) : nT (u * nT 1 2) (v * nB 1 2) = nT (p * s + r * q) (2 * q * s) ∧ nB (u * nT 1 2) (v * nB 1 2) = nB (p * s + r * q) (2 * q * s) := by
  have e1 : nT 1 2 = 1 := by decide
  have e2 : nB 1 2 = 2 := by decide
  have c := h.cross
  have v0 := h.pos
  have qs : q * s ≠ 0 := Int.mul_ne_zero (by omega) (by omega)
  rw [e1, e2]
  refine nf_eq (by omega) (by rw [Int.mul_assoc]; omega) ?_
  grind
theorem ok_str {dvs : List V} {kvs : List (Str × V)} (F : FunD K "__init__" "Stretch.__init__" (defArgs sSInit) (defBody sSInit) (defScope sSInit) dvs kvs f fd) (B : Bi mg) (NC : NumC K C) (SC : StrC K D) (gN : mg "Number" = some (.ref C)) (gS : mg "BadStretch" = some (.ref Cs))
    (mN : MakF P w K mg base 2 "Number" C (spNum C)) (oA : OpnF P w K mg base 4 C (PySem.dunder Operator.Add.info.2) (spAdd C)) (oM : OpnF P w K mg base 4 C (PySem.dunder Operator.Mult.info.2) (spMul C)) (oE : OpnF P w K mg base 1 C "__eq__" (spNEq C)) (tL : MetF P w K mg base 1 C "is_less" (spLess C))
    (TE : OexC K Cs) (iB : PySem.W.findIn K (.ref Cs) "__init__" = some (some (.ref fB))) (tB : PySem.W.typeIn K (.ref fB) = some (.type "function")) (GB : FnOk P w K mg base CX0 1 fB fdB PErrN (spErr Cs)) (bB : Binds K fdB PErrN []) :
    FnOk P w K mg base (L2.CX P w) 5 f fd PSInit (spStr K C D Cs) := by
  refine F.ok scSInit (fun vs H Q E h => ?_) (fun cdv A0 outer s H vs Q E hr h => ?_)
  · obtain ⟨x, dx, l, h, hl, hh, A, B, F, G, rfl, _⟩ := h
    rfl
  · have sc := scSInit
    obtain ⟨x, dx, l, h, hl, hh, A, B', F, G, rfl, hx, nl, nh, nhl, nhh, iA, iB', iF, iG, k1, k2⟩ := h
    have rest : ∃ t, PSs (cxOf (L2.CX P w) P w K mg base NSInit "Stretch.__init__" (defScope sSInit) f cdv A0 outer s H E) (List.drop 3 (defBody sSInit)) t ∧ ∀ (a1 a2 : Addr) (p q r s' : Int) (b1 b2 : Bool), l = .ref a1 → h = .ref a2 → A = .num p q → B' = .num r s' → F = .flag b1 → G = .flag b2 →
        NumAt C H a1 p q → NumAt C H a2 r s' → Low p q p q → Low r s' r s' → Sz 110 p → Sz 110 q → Sz 110 r → Sz 110 s' → fineB A B' F G = true →
        t { nx := fun _ H' => Q .non H', rt := Q } [some (.ref x), some l, some h, some hl, some hh] H := by
      refine ⟨_, (pss_cons (ps_fld (pv 0) (pv 1) rfl) (pss_cons (ps_fld (pv 0) (pv 2) rfl) (pss_cons (ps_fld (pv 0) (pv 3) rfl) (pss_cons (ps_fld (pv 0) (pv 4) rfl) (pss_one (ps_fld (pv 0) (pe_op (op_own oM NC.sf hr (by decide)) (pe_op (op_own oA NC.sf hr (by decide)) (pv 1) (pv 2)) (pe_mk mN hr (by decide) rfl (pa_cons pe_int (pa_cons pe_int pa_nil)))) rfl)))))), ?_⟩
      rintro a1 a2 p q r s' b1 b2 rfl rfl rfl rfl rfl rfl N1 N2 l1 l2 zp zq zr zs fine
      obtain ⟨d1, e1⟩ := N1
      obtain ⟨d2, e2⟩ := N2
      have n1 : a1 ≠ x := fun z => nl (by rw [z])
      have n2 : a2 ≠ x := fun z => nh (by rw [z])
      have q0 := l1.pos
      have s0 := l2.pos
      have qs : q * s' ≠ 0 := Int.mul_ne_zero (by omega) (by omega)
      refine ⟨_, rfl, _, rfl, x, D, dx, [], rfl, hx, SC.cl, SC.n1, (by show 0 < 1000; decide), ?_⟩
      refine ⟨_, rfl, _, rfl, x, D, dx, _, rfl, upd_same, SC.cl, SC.n2, (by show 1 < 1000; decide), ?_⟩
      refine ⟨_, rfl, _, rfl, x, D, dx, _, rfl, upd_same, SC.cl, SC.n3, (by show 2 < 1000; decide), ?_⟩
      refine ⟨_, rfl, _, rfl, x, D, dx, _, rfl, upd_same, SC.cl, SC.n4, (by show 3 < 1000; decide), ?_⟩
      refine ⟨_, rfl, _, rfl, a1, d1, _, a2, d2, _, rfl, put4 n1 e1, rfl, put4 n2 e2, a1, a2, p, q, r, s', rfl, ⟨d1, put4 n1 e1⟩, ⟨d2, put4 n2 e2⟩, zp.mono (by decide), zq.mono (by decide), zr.mono (by decide), zs.mono (by decide), qs, fun u H6 nu hu j6 => ?_⟩
      intro y dy ny ndy ne
      refine ⟨y, dy, 1, 2, rfl, by decide, (show Sz 2 2 from by unfold Sz; decide).mono (by decide), upd_same, fun H7 h7 k7 => ⟨rfl, ?_⟩⟩
      have j7 : Same H6 H7 := Same.mk ny ndy k7
      have lu := nf_low (t := p * s' + r * q) qs
      have zu : Sz 250 (nT (p * s' + r * q) (q * s')) := (Sz.nT qs ((zp.mul zs).add (zr.mul zq))).mono (by decide)
      have zv : Sz 250 (nB (p * s' + r * q) (q * s')) := (Sz.nB qs (zq.mul zs)).mono (by decide)
      have em := mid_eq q0 s0 lu
      have hv : nB (p * s' + r * q) (q * s') * nB 1 2 ≠ 0 := Int.mul_ne_zero (by have := lu.pos; omega) (by decide)
      obtain ⟨du, eu⟩ := hu
      obtain ⟨dy', ey⟩ := h7
      refine ⟨u, du, _, y, dy', _, rfl, j7 _ _ eu, rfl, ey, u, y, _, _, _, _, rfl, ⟨du, j7 _ _ eu⟩, ⟨dy', ey⟩, zu.mono (by decide), zv.mono (by decide), (show Sz 2 (nT 1 2) from by unfold Sz; decide).mono (by decide), (show Sz 2 (nB 1 2) from by unfold Sz; decide).mono (by decide), hv, fun m H8 nm hm j8 => ?_⟩
      have j68 := (j6.trans j7).trans j8
      refine ⟨_, rfl, x, D, dx, _, rfl, j68 _ _ upd_same, SC.cl, SC.n5, (by show 4 < 1000; decide), ?_⟩
      rw [em.1, em.2] at hm
      have nmx : m ≠ x := fun z => by have := j68 _ _ upd_same; rw [z] at nm; rw [(j6.trans j7) _ _ upd_same] at nm; cases nm
      refine k1 fine (.ref m) _ ⟨dx, upd_same.trans ?_⟩ ⟨m, p, q, r, s', rfl, rfl, rfl, ?_⟩ fun a o e n => (upd_ne n).trans (j68 _ _ (put4 n e))
      · rw [sF_put]
      · obtain ⟨dm, em'⟩ := hm
        exact ⟨dm, (upd_ne nmx).trans em'⟩
    obtain ⟨t, hbody, ht⟩ := rest
    refine ⟨_, (pss_cons (ps_if (PW.pt (pw_or (pt_not (pt_val (pe_callB (show CallR _ (.builtin "isinstance") (rIsi K) from call_isi) (by rfl) B.isinstance (by decide +kernel) (pa_cons (pv 1) (pa_cons (pe_glob (v := .ref C) rfl gN rfl) pa_nil))))) (pw_or1 (pt_not (pt_val (pe_callB (show CallR _ (.builtin "isinstance") (rIsi K) from call_isi) (by rfl) B.isinstance (by decide +kernel) (pa_cons (pv 2) (pa_cons (pe_glob (v := .ref C) rfl gN rfl) pa_nil)))))))) (pss_one (ps_raise rfl (takes_of rfl rfl rfl rfl) (pmk_oex TE iB tB GB (hr.mono (by decide)) bB .nil pass0 rfl gS (pa_cons (pe_tup (pa_cons (pv 1) (pa_cons (pv 2) pa_nil))) pa_nil)))) pss_nil) (pss_cons (ps_if (PW.pt (pw_or (pt_not (pt_val (pe_callB (show CallR _ (.builtin "isinstance") (rIsi K) from call_isi) (by rfl) B.isinstance (by decide +kernel) (pa_cons (pv 3) (pa_cons (pe_bltn (v := .ty "bool") (by rfl) B.bool (by decide +kernel) rfl) pa_nil))))) (pw_or1 (pt_not (pt_val (pe_callB (show CallR _ (.builtin "isinstance") (rIsi K) from call_isi) (by rfl) B.isinstance (by decide +kernel) (pa_cons (pv 4) (pa_cons (pe_bltn (v := .ty "bool") (by rfl) B.bool (by decide +kernel) rfl) pa_nil)))))))) (pss_one (ps_raise rfl (takes_of rfl rfl rfl rfl) (pmk_oex TE iB tB GB (hr.mono (by decide)) bB .nil pass0 rfl gS (pa_cons (pe_tup (pa_cons (pv 1) (pa_cons (pv 2) pa_nil))) pa_nil)))) pss_nil) (pss_cons (ps_if (PW.pt (pw_or (pt_val (pe_mt tL hr (by decide) (pv 2) (pa_cons (pv 1) pa_nil))) (pw_or1 (PW.pt (pw_and (pt_cmpR (show OpR _ _ (rEqO K C (spNEq C)) from op_eqO oE hr (by decide)) (pv 1) (pv 2) (nomark _)) (pw_and1 (pt_not (PW.pt (pw_and (pt_val (pv 3)) (pw_and1 (pt_val (pv 4)))))))))))) (pss_one (ps_raise rfl (takes_of rfl rfl rfl rfl) (pmk_oex TE iB tB GB (hr.mono (by decide)) bB .nil pass0 rfl gS (pa_cons (pe_tup (pa_cons (pv 1) (pa_cons (pv 2) pa_nil))) pa_nil)))) pss_nil) hbody))), ?_⟩
    obtain ⟨tA, yA, kA⟩ := iA.ty NC
    obtain ⟨tB', yB, kB⟩ := iB'.ty NC
    obtain ⟨tF, yF, kF⟩ := iF.ty
    obtain ⟨tG, yG, kG⟩ := iG.ty
    cases A with
    | odd =>
      refine ⟨_, rfl, _, _, _, _, false, rfl, .own C, yA, kA, false, rfl, iteT ?_⟩
      (refine ⟨_, rfl, _, rfl, by show 2 ≤ sizeLine; decide, fun y ny => ⟨by show 1 ≤ 1000; decide, fun e ne => ⟨e, _, rfl, upd_same, fun d nd hde => ?_⟩⟩⟩; have j := Same.new (o := .tup [l, h]) ny; have ey := upd_same (H := H) (a := y) (o := .tup [l, h]); generalize upd H y (.tup [l, h]) = H1 at *; have nd1 : H1 d = none := (by rw [upd_ne hde] at nd; exact nd); have sm := err_same (C := Cs) (v := .ref y) ne nd1; refine ⟨rfl, d, _, upd_same, (upd_ne hde).trans upd_same, nd1, ?_⟩; exact k2 rfl y d _ (sm _ _ ey) upd_same (j.trans sm))
    | num p q =>
      refine ⟨_, rfl, _, _, _, _, true, rfl, .own C, yA, kA, true, rfl, iteF ?_⟩
      cases B' with
      | odd =>
        refine ⟨_, rfl, _, _, _, _, false, rfl, .own C, yB, kB, false, rfl, iteT ?_⟩
        (refine ⟨_, rfl, _, rfl, by show 2 ≤ sizeLine; decide, fun y ny => ⟨by show 1 ≤ 1000; decide, fun e ne => ⟨e, _, rfl, upd_same, fun d nd hde => ?_⟩⟩⟩; have j := Same.new (o := .tup [l, h]) ny; have ey := upd_same (H := H) (a := y) (o := .tup [l, h]); generalize upd H y (.tup [l, h]) = H1 at *; have nd1 : H1 d = none := (by rw [upd_ne hde] at nd; exact nd); have sm := err_same (C := Cs) (v := .ref y) ne nd1; refine ⟨rfl, d, _, upd_same, (upd_ne hde).trans upd_same, nd1, ?_⟩; exact k2 rfl y d _ (sm _ _ ey) upd_same (j.trans sm))
      | num r s' =>
        refine ⟨_, rfl, _, _, _, _, true, rfl, .own C, yB, kB, true, rfl, iteF ?_⟩
        cases F with
        | odd =>
          refine ⟨_, rfl, _, _, _, _, false, rfl, .ty _, yF, kF, false, rfl, iteT ?_⟩
          (refine ⟨_, rfl, _, rfl, by show 2 ≤ sizeLine; decide, fun y ny => ⟨by show 1 ≤ 1000; decide, fun e ne => ⟨e, _, rfl, upd_same, fun d nd hde => ?_⟩⟩⟩; have j := Same.new (o := .tup [l, h]) ny; have ey := upd_same (H := H) (a := y) (o := .tup [l, h]); generalize upd H y (.tup [l, h]) = H1 at *; have nd1 : H1 d = none := (by rw [upd_ne hde] at nd; exact nd); have sm := err_same (C := Cs) (v := .ref y) ne nd1; refine ⟨rfl, d, _, upd_same, (upd_ne hde).trans upd_same, nd1, ?_⟩; exact k2 rfl y d _ (sm _ _ ey) upd_same (j.trans sm))
        | flag b1 =>
          refine ⟨_, rfl, _, _, _, _, true, rfl, .ty _, yF, kF, true, rfl, iteF ?_⟩
          cases G with
          | odd =>
            refine ⟨_, rfl, _, _, _, _, false, rfl, .ty _, yG, kG, false, rfl, iteT ?_⟩
            (refine ⟨_, rfl, _, rfl, by show 2 ≤ sizeLine; decide, fun y ny => ⟨by show 1 ≤ 1000; decide, fun e ne => ⟨e, _, rfl, upd_same, fun d nd hde => ?_⟩⟩⟩; have j := Same.new (o := .tup [l, h]) ny; have ey := upd_same (H := H) (a := y) (o := .tup [l, h]); generalize upd H y (.tup [l, h]) = H1 at *; have nd1 : H1 d = none := (by rw [upd_ne hde] at nd; exact nd); have sm := err_same (C := Cs) (v := .ref y) ne nd1; refine ⟨rfl, d, _, upd_same, (upd_ne hde).trans upd_same, nd1, ?_⟩; exact k2 rfl y d _ (sm _ _ ey) upd_same (j.trans sm))
          | flag b2 =>
            refine ⟨_, rfl, _, _, _, _, true, rfl, .ty _, yG, kG, true, rfl, iteF ?_⟩
            obtain ⟨a1, rfl, N1, l1, zp, zq⟩ := iA
            obtain ⟨a2, rfl, N2, l2, zr, zs⟩ := iB'
            obtain ⟨d1, e1⟩ := N1
            obtain ⟨d2, e2⟩ := N2
            have N1 : NumAt C H a1 p q := ⟨d1, e1⟩
            have N2 : NumAt C H a2 r s' := ⟨d2, e2⟩
            refine ⟨_, rfl, a2, d2, _, rfl, e2, rfl, _, rfl, a2, a1, r, s', p, q, rfl, N2, N1, zr.mono (by decide), zs.mono (by decide), zp.mono (by decide), zq.mono (by decide), _, rfl, ?_⟩
            have iF : hl = .bl b1 := iF
            have iG : hh = .bl b2 := iG
            subst iF iG
            have fine0 : fineB (.num p q) (.num r s') (.flag b1) (.flag b2) = (decide (p * s' < r * q) || (decide (p * s' = r * q) && (b1 && b2))) := rfl
            refine if2 (fun hlt => ?_) (fun hlt => ?_)
            · have hlt := of_decide_eq_true hlt
              have ff : fineB (.num p q) (.num r s') (.flag b1) (.flag b2) = false := by
                rw [fine0, decide_eq_false (by omega), decide_eq_false (by omega)]
                rfl
              (refine ⟨_, rfl, _, rfl, by show 2 ≤ sizeLine; decide, fun y ny => ⟨by show 1 ≤ 1000; decide, fun e ne => ⟨e, _, rfl, upd_same, fun d nd hde => ?_⟩⟩⟩; have j := Same.new (o := .tup [.ref a1, .ref a2]) ny; have ey := upd_same (H := H) (a := y) (o := .tup [.ref a1, .ref a2]); generalize upd H y (.tup [.ref a1, .ref a2]) = H1 at *; have nd1 : H1 d = none := (by rw [upd_ne hde] at nd; exact nd); have sm := err_same (C := Cs) (v := .ref y) ne nd1; refine ⟨rfl, d, _, upd_same, (upd_ne hde).trans upd_same, nd1, ?_⟩; exact k2 ff y d _ (sm _ _ ey) upd_same (j.trans sm))
            · have hlt := of_decide_eq_false hlt
              refine ⟨_, rfl, _, rfl, a1, d1, _, _, rfl, e1, .ins e2, NC.nf, a1, a2, p, q, r, s', rfl, N1, N2, _, rfl, ?_⟩
              refine if2 (fun heq => ?_) (fun hne => ?_)
              · obtain ⟨rfl, rfl⟩ := of_decide_eq_true heq
                cases b1 with
                | false =>
                  refine ⟨_, rfl, _, rfl, ifF rfl (ifT rfl ?_)⟩
                  have ff : fineB (.num p q) (.num p q) (.flag false) (.flag b2) = false := by
                    rw [fine0, decide_eq_false (by omega)]
                    simp
                  (refine ⟨_, rfl, _, rfl, by show 2 ≤ sizeLine; decide, fun y ny => ⟨by show 1 ≤ 1000; decide, fun e ne => ⟨e, _, rfl, upd_same, fun d nd hde => ?_⟩⟩⟩; have j := Same.new (o := .tup [.ref a1, .ref a2]) ny; have ey := upd_same (H := H) (a := y) (o := .tup [.ref a1, .ref a2]); generalize upd H y (.tup [.ref a1, .ref a2]) = H1 at *; have nd1 : H1 d = none := (by rw [upd_ne hde] at nd; exact nd); have sm := err_same (C := Cs) (v := .ref y) ne nd1; refine ⟨rfl, d, _, upd_same, (upd_ne hde).trans upd_same, nd1, ?_⟩; exact k2 ff y d _ (sm _ _ ey) upd_same (j.trans sm))
                | true =>
                  refine ⟨_, rfl, _, rfl, ifT rfl ⟨_, rfl, _, rfl, ?_⟩⟩
                  cases b2 with
                  | false =>
                    refine ifT rfl ?_
                    have ff : fineB (.num p q) (.num p q) (.flag true) (.flag false) = false := by
                      rw [fine0, decide_eq_false (by omega)]
                      simp
                    (refine ⟨_, rfl, _, rfl, by show 2 ≤ sizeLine; decide, fun y ny => ⟨by show 1 ≤ 1000; decide, fun e ne => ⟨e, _, rfl, upd_same, fun d nd hde => ?_⟩⟩⟩; have j := Same.new (o := .tup [.ref a1, .ref a2]) ny; have ey := upd_same (H := H) (a := y) (o := .tup [.ref a1, .ref a2]); generalize upd H y (.tup [.ref a1, .ref a2]) = H1 at *; have nd1 : H1 d = none := (by rw [upd_ne hde] at nd; exact nd); have sm := err_same (C := Cs) (v := .ref y) ne nd1; refine ⟨rfl, d, _, upd_same, (upd_ne hde).trans upd_same, nd1, ?_⟩; exact k2 ff y d _ (sm _ _ ey) upd_same (j.trans sm))
                  | true =>
                    refine ifF rfl ?_
                    exact ht a1 a2 p q p q true true rfl rfl rfl rfl rfl rfl N1 N2 l1 l2 zp zq zr zs (by rw [fine0]; simp)
              · refine ifF rfl ?_
                refine ht a1 a2 p q r s' b1 b2 rfl rfl rfl rfl rfl rfl N1 N2 l1 l2 zp zq zr zs ?_
                have hne := of_decide_eq_false hne
                have : p * s' ≠ r * q := fun z => hne (low_uniq z l1.pos l2.pos l1.cop l2.cop)
                rw [fine0, decide_eq_true (by omega)]
                rfl
end
end Ws

namespace Ws
open PySem PySem.Spec PyProof.Rows L2
noncomputable abbrev sPot : Stmt := (PySem.Challenge.pw_whatspeed_k94_texts_that_are_none.main.body.getD 29 (.Pass ⟨0, 0, 0, 0⟩))
noncomputable abbrev NPot : List Str := ["script", "k", "cell", "own", "mixed"]
noncomputable abbrev PPot : List Str := ["script", "k"]
theorem scPot : FnScope NPot PPot (defScope sPot) := ⟨rfl, rfl, rfl, by decide +kernel, rfl, by decide +kernel, by decide +kernel⟩
noncomputable abbrev sTake : Stmt := (PySem.Challenge.pw_whatspeed_k94_texts_that_are_none.main.body.getD 30 (.Pass ⟨0, 0, 0, 0⟩))
noncomputable abbrev NTake : List Str := ["pot", "upto", "digit", "prime", "mixed"]
noncomputable abbrev PTake : List Str := ["pot", "upto"]
theorem scTake : FnScope NTake PTake (defScope sTake) := ⟨rfl, rfl, rfl, by decide +kernel, rfl, by decide +kernel, by decide +kernel⟩
noncomputable abbrev sOf : Stmt := (PySem.Challenge.pw_whatspeed_k94_texts_that_are_none.main.body.getD 31 (.Pass ⟨0, 0, 0, 0⟩))
noncomputable abbrev NOf : List Str := ["pot", "some"]
noncomputable abbrev POf : List Str := ["pot", "some"]
theorem scOf : FnScope NOf POf (defScope sOf) := ⟨rfl, rfl, rfl, by decide +kernel, rfl, by decide +kernel, by decide +kernel⟩
/-! ### the pot of drawn numbers -/
noncomputable def PotAt (H : Hp) (p : Addr) (m : Int) : Prop := ∃ own seed n : Int, H p = some (.lst [.int own, .int seed, .int n]) ∧ 0 ≤ own ∧ 0 ≤ seed ∧ seed < 2305843009213693921 ∧ 0 ≤ n ∧ n ≤ m
theorem PotAt.mono {H : Hp} {p : Addr} {m m' : Int} (h : PotAt H p m) (l : m ≤ m') : PotAt H p m' := let ⟨a, b, c, e, h1, h2, h3, h4, h5⟩ := h; ⟨a, b, c, e, h1, h2, h3, h4, Int.le_trans h5 l⟩
theorem PotAt.same {H H' : Hp} {p : Addr} {m : Int} (h : PotAt H p m) (s : Same H H') : PotAt H' p m := let ⟨a, b, c, e, r⟩ := h; ⟨a, b, c, s _ _ e, r⟩
noncomputable def spPot (K : PySem.W.Frag) : Sp := fun vs H Q _ => ∃ (s : Addr) (ns : List Int) (k : Nat), vs = [.ref s, .int k] ∧ SqL K H s (ns.map V.int) ∧ k < 100 ∧ ∀ p H', H p = none → PotAt H' p 0 → Same H H' → Q (.ref p) H'
noncomputable def spTake : Sp := fun vs H Q _ => ∃ (p : Addr) (u m : Int), vs = [.ref p, .int u] ∧ PotAt H p m ∧ m ≤ 1000000000000 ∧ 1 ≤ u ∧ u ≤ 100000000000000000000 ∧ ∀ d H', 0 ≤ d → d < u → PotAt H' p (m + 1) → Ch p H H' → Q (.int d) H'
noncomputable def spOf : Sp := fun vs H Q _ => ∃ (p l : Addr) (xs : List V) (m : Int), vs = [.ref p, .ref l] ∧ PotAt H p m ∧ m ≤ 1000000000000 ∧ H l = some (.lst xs) ∧ l ≠ p ∧ 1 ≤ xs.length ∧ xs.length ≤ 1000 ∧ ∀ v H', v ∈ xs → PotAt H' p (m + 1) → Ch p H H' → Q v H'
section
variable {P : Program} {w : World} {K : PySem.W.Frag} {mg : Str → Option Value} {base : Heap} {f : Addr} {fd : FuncData}
theorem at_map {ns : List Int} {k : Nat} (h : k < ns.length) : atI (ns.map V.int) (k : Int) = some (.int ns[k]) := atI_nat (by rw [List.getElem?_map, List.getElem?_eq_getElem h]; rfl)
theorem emod_lt {a b : Int} (h : 0 < b) : a % b < b := Int.emod_lt_of_pos a h
theorem emod_nn {a b : Int} (h : 0 < b) : 0 ≤ a % b := Int.emod_nonneg a (by omega)
theorem ok_pot (F : L2.Fun K "_law_pot" "_law_pot" sPot f fd) (b : Binds K fd PPot []) (B : Bi mg) : FnR P w K mg base CX0 1 f (spPot K) := by
  refine fnR_of F b scPot (fun vs H Q E h => ?_) (fun cdv A outer s H vs Q E hr h => ?_)
  · obtain ⟨s, ns, k, rfl, _⟩ := h
    rfl
  · have sc := scPot
    obtain ⟨s, ns, k, rfl, hS, hk, q⟩ := h
    refine ⟨_, (pss_cons (ps_set (i := 2) sc.nd rfl (Or.inl rfl) (pe_ifExp (pt_cmpR op_lt (pv 1) (pe_callB call_len_seq (by rfl) B.len PySem.boot_len (pa_cons (pv 0) pa_nil)) (nomark _)) (pe_ix ix_list (pv 0) (pv 1) (fun _ _ => rfl)) (pe_op op_add (pe_op op_mul pe_int (pv 1)) pe_int))) (pss_cons (ps_set (i := 3) sc.nd rfl (Or.inl rfl) (pe_op op_mul (pe_op op_mod (pe_callTy call_int1 (by rfl) B.int (by decide +kernel) (pa_cons (pe_callB call_abs (by rfl) B.abs (by decide +kernel) (pa_cons (pv 2) pa_nil)) pa_nil)) (pe_op op_powW (pe_op op_pow pe_int pe_int) pe_int)) (pe_callTy call_int1 (by rfl) B.int (by decide +kernel) (pa_cons (pe_cmpR op_ge (pe_callB call_abs (by rfl) B.abs (by decide +kernel) (pa_cons (pv 2) pa_nil)) (pe_op op_pow pe_int pe_int) (nomark _)) pa_nil)))) (pss_cons (ps_set (i := 4) sc.nd rfl (Or.inl rfl) (pe_op op_add (pe_op op_add (pe_op op_mul (pe_op op_mod (pe_callTy call_int1 (by rfl) B.int (by decide +kernel) (pa_cons (pv 2) pa_nil)) pe_int) pe_int) (pe_op op_mul (pe_op op_mul pe_int (pv 1)) (pv 1))) pe_int)) (pss_one (ps_ret (pe_lst (pa_cons (pv 3) (pa_cons (pe_op op_mod (pe_callTy call_int1 (by rfl) B.int (by decide +kernel) (pa_cons (pv 4) pa_nil)) pe_int) (pa_cons pe_int pa_nil))))))))), ?_⟩
    refine ⟨_, rfl, _, rfl, s, _, rfl, .inl hS, _, _, rfl, rfl, _, rfl, ?_⟩
    have hA : ∀ z : Int, (if z < 0 then -z else z) = (if z < 0 then -z else z) := fun _ => rfl
    refine if2 (fun hc => ?_) (fun hc => ?_)
    · have hlt : k < ns.length := by
        have := of_decide_eq_true hc
        rw [List.length_map] at this
        omega
      refine ⟨_, rfl, _, rfl, s, _, _, _, rfl, rfl, hS, at_map hlt, ?_⟩
      generalize ns[k] = z
      refine ⟨_, rfl, _, rfl, .inl ⟨_, rfl, _, _, rfl, rfl, ⟨by decide, by decide, by decide⟩, _, _, rfl, rfl, ⟨by decide, by decide +kernel⟩, _, _, rfl, rfl, by show (0 : Int) < _; decide +kernel, ?_⟩⟩
      refine ⟨_, rfl, _, rfl, _, _, rfl, rfl, ⟨by decide, by decide, by decide⟩, _, _, rfl, rfl, .inr ⟨_, rfl, _, _, rfl, rfl, .inr (bit_lo _), ?_⟩⟩
      refine ⟨_, rfl, .inl ⟨_, rfl, _, _, rfl, rfl, by show (0 : Int) < _; decide +kernel, _, _, rfl, rfl, .inr ⟨by decide, by decide⟩, _, rfl, _, _, rfl, rfl, .inl ⟨by decide, by decide⟩, _, rfl, _, _, rfl, rfl, .inr ⟨by omega, by omega⟩, _, _, rfl, rfl, _, _, rfl, rfl, ?_⟩⟩
      refine ⟨_, rfl, _, rfl, .inl ⟨_, rfl, _, _, rfl, rfl, by show (0 : Int) < _; decide +kernel, ?_⟩⟩
      refine ⟨by show 3 ≤ sizeLine; decide, fun p hp => q p _ hp ⟨_, _, _, upd_same, ?_, emod_nn (by decide), emod_lt (by decide), by decide, by decide⟩ (Same.new hp)⟩
      exact Int.mul_nonneg (emod_nn (by decide +kernel)) (bit_nn _)
    · refine ⟨_, rfl, _, _, rfl, rfl, .inl ⟨by decide, by decide⟩, _, _, rfl, rfl, ?_⟩
      generalize (31 * (k : Int) + 13) = z
      refine ⟨_, rfl, _, rfl, .inl ⟨_, rfl, _, _, rfl, rfl, ⟨by decide, by decide, by decide⟩, _, _, rfl, rfl, ⟨by decide, by decide +kernel⟩, _, _, rfl, rfl, by show (0 : Int) < _; decide +kernel, ?_⟩⟩
      refine ⟨_, rfl, _, rfl, _, _, rfl, rfl, ⟨by decide, by decide, by decide⟩, _, _, rfl, rfl, .inr ⟨_, rfl, _, _, rfl, rfl, .inr (bit_lo _), ?_⟩⟩
      refine ⟨_, rfl, .inl ⟨_, rfl, _, _, rfl, rfl, by show (0 : Int) < _; decide +kernel, _, _, rfl, rfl, .inr ⟨by decide, by decide⟩, _, rfl, _, _, rfl, rfl, .inl ⟨by decide, by decide⟩, _, rfl, _, _, rfl, rfl, .inr ⟨by omega, by omega⟩, _, _, rfl, rfl, _, _, rfl, rfl, ?_⟩⟩
      refine ⟨_, rfl, _, rfl, .inl ⟨_, rfl, _, _, rfl, rfl, by show (0 : Int) < _; decide +kernel, ?_⟩⟩
      refine ⟨by show 3 ≤ sizeLine; decide, fun p hp => q p _ hp ⟨_, _, _, upd_same, ?_, emod_nn (by decide), emod_lt (by decide), by decide, by decide⟩ (Same.new hp)⟩
      exact Int.mul_nonneg (emod_nn (by decide +kernel)) (bit_nn _)
theorem bits_le {i : Int} {k : Nat} (h : i.natAbs < 2 ^ k) : Builtin.Int.intBits i ≤ k := by
  unfold Builtin.Int.intBits
  split
  · exact Nat.zero_le _
  · rename_i hi
    have h0 : i.natAbs ≠ 0 := fun z => hi (by rw [Int.natAbs_eq_zero.mp z]; rfl)
    exact (Nat.log2_lt h0).mpr h
theorem log_le {u : Int} (h : u ≤ 100000000000000000000) (h0 : 0 < u) : u.natAbs.log2 < 9000 := by
  have e : (2 : Nat) ^ 70 = 1180591620717411303424 := by decide +kernel
  have : u.natAbs < 2 ^ 70 := by rw [e]; omega
  exact Nat.lt_of_lt_of_le ((Nat.log2_lt (by omega)).mpr this) (by decide)
theorem ok_take (F : L2.Fun K "_law_take" "_law_take" sTake f fd) (b : Binds K fd PTake []) (B : Bi mg) : FnR P w K mg base CX0 1 f spTake := by
  refine fnR_of F b scTake (fun vs H Q E h => ?_) (fun cdv A outer s H vs Q E hr h => ?_)
  · obtain ⟨p, u, m, rfl, _⟩ := h
    rfl
  · have sc := scTake
    obtain ⟨p, u, m, rfl, ⟨own, seed, n, hp, h1, h2, h3, h4, h5⟩, hm, hu, hu2, q⟩ := h
    refine ⟨_, (pss_cons (ps_if (pt_cmpR op_gt (pe_ix ix_list (pv 0) pe_int (fun _ _ => rfl)) pe_int (nomark _)) (pss_cons (ps_set (i := 2) sc.nd rfl (Or.inl rfl) (pe_op op_mod (pe_callTy call_int1 (by rfl) B.int (by decide +kernel) (pa_cons (pe_ix ix_list (pv 0) pe_int (fun _ _ => rfl)) pa_nil)) (pv 1))) (pss_cons (ps_asg (pe_op op_fdivW (pe_ix ix_list (pv 0) pe_int (fun _ _ => rfl)) (pv 1)) (pg_sub (pv 0) pe_int set_list)) (pss_one (ps_ret (pv 2))))) pss_nil) (pss_cons (ps_asg (pe_op op_add (pe_ix ix_list (pv 0) pe_int (fun _ _ => rfl)) pe_int) (pg_sub (pv 0) pe_int set_list)) (pss_cons (ps_set (i := 3) sc.nd rfl (Or.inl rfl) (pe_ix ix_list (pe_lst (pa_cons pe_int (pa_cons pe_int (pa_cons pe_int (pa_cons pe_int (pa_cons pe_int pa_nil)))))) (pe_op op_mod (pe_callTy call_int1 (by rfl) B.int (by decide +kernel) (pa_cons (pe_ix ix_list (pv 0) pe_int (fun _ _ => rfl)) pa_nil)) pe_int) (fun _ _ => rfl))) (pss_cons (ps_set (i := 4) sc.nd rfl (Or.inl rfl) (pe_op op_mod (pe_callTy call_int1 (by rfl) B.int (by decide +kernel) (pa_cons (pe_op op_powW (pe_callTy call_int1 (by rfl) B.int (by decide +kernel) (pa_cons (pe_op op_add (pe_op op_add (pe_ix ix_list (pv 0) pe_int (fun _ _ => rfl)) (pe_op op_mul (pe_op op_mul pe_int (pe_ix ix_list (pv 0) pe_int (fun _ _ => rfl))) (pe_ix ix_list (pv 0) pe_int (fun _ _ => rfl)))) pe_int) pa_nil)) pe_int) pa_nil)) (pv 3))) (pss_cons (ps_set (i := 4) sc.nd rfl (Or.inl rfl) (pe_op op_mod (pe_callTy call_int1 (by rfl) B.int (by decide +kernel) (pa_cons (pe_op op_mul (pv 4) (pe_op op_add (pe_op op_mod (pe_callTy call_int1 (by rfl) B.int (by decide +kernel) (pa_cons (pv 4) pa_nil)) pe_int) (pe_op op_mul pe_int (pe_ix ix_list (pv 0) pe_int (fun _ _ => rfl))))) pa_nil)) pe_int)) (pss_one (ps_ret (pe_op op_mod (pe_callTy call_int1 (by rfl) B.int (by decide +kernel) (pa_cons (pe_op op_fdiv (pv 4) pe_int) pa_nil)) (pv 1))))))))), ?_⟩
    refine ⟨_, rfl, p, _, _, _, rfl, rfl, SqL.of hp, rfl, _, _, rfl, rfl, _, rfl, ?_⟩
    refine if2 (fun hc => ?_) (fun hc => ?_)
    · refine ⟨_, rfl, p, _, _, _, rfl, rfl, SqL.of hp, rfl, .inl ⟨_, rfl, _, rfl, _, _, rfl, rfl, by omega, ?_⟩⟩
      refine ⟨_, rfl, p, _, _, _, rfl, rfl, SqL.of hp, rfl, _, rfl, _, _, rfl, rfl, ⟨by omega, log_le hu2 (by omega)⟩, ?_⟩
      refine ⟨_, rfl, p, _, _, _, rfl, rfl, hp, rfl, ?_⟩
      refine ⟨_, rfl, ?_⟩
      refine q _ _ (emod_nn (by omega)) (emod_lt (by omega)) ⟨_, _, _, upd_same, Int.ediv_nonneg h1 (by omega), h2, h3, h4, by omega⟩ Ch.upd
    · refine ⟨_, rfl, p, _, _, _, rfl, rfl, SqL.of hp, rfl, _, _, rfl, rfl, ?_⟩
      refine ⟨_, rfl, p, _, _, _, rfl, rfl, hp, rfl, ?_⟩
      refine ⟨by show 5 ≤ sizeLine; decide, fun l hl => ?_⟩
      have npl : p ≠ l := ne_of_none upd_same hl
      refine ⟨_, rfl, p, _, _, _, rfl, rfl, SqL.of ((upd_ne npl).trans upd_same), rfl, .inl ⟨_, rfl, _, _, rfl, rfl, by show (0 : Int) < _; decide +kernel, ?_⟩⟩
      have hi : ∃ (j : Nat) (pr : Int), (n + 1) % 5 = (j : Int) ∧ [V.int 2147483647, V.int 2147483629, V.int 2147483587, V.int 2147483579, V.int 2147483563][j]? = some (.int pr) ∧ 0 < pr ∧ pr ≤ 2147483647 := by
        have e1 : 0 ≤ (n + 1) % 5 := emod_nn (by decide)
        have e2 : (n + 1) % 5 < 5 := emod_lt (by decide)
        have : (n + 1) % 5 = 0 ∨ (n + 1) % 5 = 1 ∨ (n + 1) % 5 = 2 ∨ (n + 1) % 5 = 3 ∨ (n + 1) % 5 = 4 := by omega
        rcases this with e | e | e | e | e
        · exact ⟨0, _, e, rfl, by decide, by decide⟩
        · exact ⟨1, _, e, rfl, by decide, by decide⟩
        · exact ⟨2, _, e, rfl, by decide, by decide⟩
        · exact ⟨3, _, e, rfl, by decide, by decide⟩
        · exact ⟨4, _, e, rfl, by decide, by decide⟩
      obtain ⟨j, pr, ej, hj, hpr, hpr2⟩ := hi
      refine ⟨l, _, _, _, rfl, rfl, SqL.of upd_same, at_of ej hj, ?_⟩
      refine ⟨_, rfl, p, _, _, _, rfl, rfl, SqL.of ((upd_ne npl).trans upd_same), rfl, ?_⟩
      refine ⟨_, rfl, p, _, _, _, rfl, rfl, SqL.of ((upd_ne npl).trans upd_same), rfl, _, _, rfl, rfl, .inl ⟨by decide, by decide⟩, ?_⟩
      refine ⟨_, rfl, p, _, _, _, rfl, rfl, SqL.of ((upd_ne npl).trans upd_same), rfl, _, _, rfl, rfl, .inr ⟨by omega, by omega⟩, _, _, rfl, rfl, _, _, rfl, rfl, ?_⟩
      have hsq : 0 ≤ (n + 1) * (n + 1) ∧ (n + 1) * (n + 1) ≤ 1000000000001 * 1000000000001 := ⟨Int.mul_nonneg (by omega) (by omega), Int.mul_le_mul (by omega) (by omega) (by omega) (by decide)⟩
      have hb0 : 99839 * (n + 1) * (n + 1) = 99839 * ((n + 1) * (n + 1)) := Int.mul_assoc _ _ _
      refine .inl ⟨_, rfl, _, _, rfl, rfl, ⟨by decide, ?_⟩, .inl ⟨_, rfl, _, rfl, _, _, rfl, rfl, hpr, ?_⟩⟩
      · have hz : (seed + 99839 * (n + 1) * (n + 1) + 43).natAbs < 2 ^ 120 := by
          rw [hb0]
          have e2 : (2 : Nat) ^ 120 = 1329227995784915872903807060280344576 := by decide +kernel
          rw [e2]
          omega
        have hz2 := bits_le hz
        have e3 : (2 : Int) ^ 27 = 134217728 := by decide +kernel
        rw [e3]
        show ((Builtin.Int.intBits (seed + 99839 * (n + 1) * (n + 1) + 43) : Nat) : Int) * 3 ≤ 134217728
        omega
      · generalize hmx : ((seed + 99839 * (n + 1) * (n + 1) + 43) ^ (3 : Int).toNat) % pr = mx
        have m1 : 0 ≤ mx := by rw [← hmx]; exact emod_nn hpr
        have m2 : mx < pr := by rw [← hmx]; exact emod_lt hpr
        refine ⟨_, rfl, _, rfl, .inl ⟨_, rfl, _, _, rfl, rfl, by show (0 : Int) < _; decide +kernel, ?_⟩⟩
        refine ⟨_, rfl, p, _, _, _, rfl, rfl, SqL.of ((upd_ne npl).trans upd_same), rfl, _, _, rfl, rfl, .inl ⟨by decide, by decide⟩, _, _, rfl, rfl, _, _, rfl, rfl, .inl ⟨by omega, by omega⟩, .inl ⟨_, rfl, _, _, rfl, rfl, by show (0 : Int) < _; decide +kernel, ?_⟩⟩
        refine ⟨_, rfl, _, _, rfl, rfl, ⟨by decide, by decide⟩, .inl ⟨_, rfl, _, rfl, _, _, rfl, rfl, by omega, ?_⟩⟩
        exact q _ _ (emod_nn (by omega)) (emod_lt (by omega)) ⟨_, _, _, (upd_ne npl).trans upd_same, h1, h2, h3, by omega, by omega⟩ (Ch.upd.trans (Ch.new hl))
theorem ok_of (F : L2.Fun K "_law_of" "_law_of" sOf f fd) (b : Binds K fd POf []) (B : Bi mg) (cT : CalF P w K mg base 1 "_law_take" spTake) : FnR P w K mg base CX0 2 f spOf := by
  refine fnR_of F b scOf (fun vs H Q E h => ?_) (fun cdv A outer s H vs Q E hr h => ?_)
  · obtain ⟨p, l, xs, m, rfl, _⟩ := h
    rfl
  · have sc := scOf
    obtain ⟨p, l, xs, m, rfl, hp, hm, hl, n, h1, h2, q⟩ := h
    refine ⟨_, (pss_one (ps_ret (pe_ix ix_list (pv 1) (pe_f cT hr (by decide) rfl (pa_cons (pv 0) (pa_cons (pe_callB call_len_seq (by rfl) B.len PySem.boot_len (pa_cons (pv 1) pa_nil)) pa_nil))) (fun _ _ => rfl)))), ?_⟩
    refine ⟨_, rfl, _, rfl, _, rfl, l, xs, rfl, .inl (SqL.of hl), p, _, m, rfl, hp, hm, by omega, by omega, fun d H1 d0 d1 hp1 c1 => ?_⟩
    have hj : d.toNat < xs.length := by omega
    exact ⟨l, xs, _, _, rfl, rfl, SqL.of (c1 _ _ n hl), at_of (j := d.toNat) (by omega) (List.getElem?_eq_getElem hj), q _ _ (List.getElem_mem hj) hp1 c1⟩
end
end Ws

namespace Ws
open PySem PySem.Spec PyProof.Rows L2
noncomputable abbrev sLine : Stmt := (inClass (PySem.Challenge.pw_whatspeed_k94_texts_that_are_none.main.body.getD 10 (.Pass ⟨0, 0, 0, 0⟩)) 0)
noncomputable abbrev NLine : List Str := ["self", "base", "slope"]
noncomputable abbrev PLine : List Str := ["self", "base", "slope"]
theorem scLine : FnScope NLine PLine (defScope sLine) := ⟨rfl, rfl, rfl, by decide +kernel, rfl, by decide +kernel, by decide +kernel⟩
noncomputable abbrev sLCall : Stmt := (inClass (PySem.Challenge.pw_whatspeed_k94_texts_that_are_none.main.body.getD 10 (.Pass ⟨0, 0, 0, 0⟩)) 3)
noncomputable abbrev NLCall : List Str := ["self", "s"]
noncomputable abbrev PLCall : List Str := ["self", "s"]
theorem scLCall : FnScope NLCall PLCall (defScope sLCall) := ⟨rfl, rfl, rfl, by decide +kernel, rfl, by decide +kernel, by decide +kernel⟩
noncomputable abbrev sLBase : Stmt := (inClass (PySem.Challenge.pw_whatspeed_k94_texts_that_are_none.main.body.getD 10 (.Pass ⟨0, 0, 0, 0⟩)) 1)
noncomputable abbrev NLBase : List Str := ["self"]
noncomputable abbrev PLBase : List Str := ["self"]
theorem scLBase : FnScope NLBase PLBase (defScope sLBase) := ⟨rfl, rfl, rfl, by decide +kernel, rfl, by decide +kernel, by decide +kernel⟩
noncomputable abbrev sLSlope : Stmt := (inClass (PySem.Challenge.pw_whatspeed_k94_texts_that_are_none.main.body.getD 10 (.Pass ⟨0, 0, 0, 0⟩)) 2)
noncomputable abbrev NLSlope : List Str := ["self"]
noncomputable abbrev PLSlope : List Str := ["self"]
theorem scLSlope : FnScope NLSlope PLSlope (defScope sLSlope) := ⟨rfl, rfl, rfl, by decide +kernel, rfl, by decide +kernel, by decide +kernel⟩
noncomputable abbrev sLEq : Stmt := (inClass (PySem.Challenge.pw_whatspeed_k94_texts_that_are_none.main.body.getD 10 (.Pass ⟨0, 0, 0, 0⟩)) 4)
noncomputable abbrev NLEq : List Str := ["self", "other"]
noncomputable abbrev PLEq : List Str := ["self", "other"]
theorem scLEq : FnScope NLEq PLEq (defScope sLEq) := ⟨rfl, rfl, rfl, by decide +kernel, rfl, by decide +kernel, by decide +kernel⟩
noncomputable abbrev sLAdd : Stmt := (inClass (PySem.Challenge.pw_whatspeed_k94_texts_that_are_none.main.body.getD 10 (.Pass ⟨0, 0, 0, 0⟩)) 5)
noncomputable abbrev NLAdd : List Str := ["self", "other"]
noncomputable abbrev PLAdd : List Str := ["self", "other"]
theorem scLAdd : FnScope NLAdd PLAdd (defScope sLAdd) := ⟨rfl, rfl, rfl, by decide +kernel, rfl, by decide +kernel, by decide +kernel⟩
noncomputable abbrev sLSub : Stmt := (inClass (PySem.Challenge.pw_whatspeed_k94_texts_that_are_none.main.body.getD 10 (.Pass ⟨0, 0, 0, 0⟩)) 6)
noncomputable abbrev NLSub : List Str := ["self", "other"]
noncomputable abbrev PLSub : List Str := ["self", "other"]
theorem scLSub : FnScope NLSub PLSub (defScope sLSub) := ⟨rfl, rfl, rfl, by decide +kernel, rfl, by decide +kernel, by decide +kernel⟩
noncomputable def lF (a c : Addr) : List (Str × V) := [("_base", .ref a), ("_slope", .ref c)]
noncomputable def LineAt (D : Addr) (H : Hp) (l a c : Addr) : Prop := ∃ dx, H l = some (.ins D dx (lF a c))
theorem lF_base (a c : Addr) : (lF a c).lookup ("_base" : Str) = some (.ref a) := lk_here
theorem lF_slope (a c : Addr) : (lF a c).lookup ("_slope" : Str) = some (.ref c) := (lk_past (by decide +kernel)).trans lk_here
theorem LineAt.same {D : Addr} {H H' : Hp} {l a c : Addr} (h : LineAt D H l a c) (s : Same H H') : LineAt D H' l a c := let ⟨dx, e⟩ := h; ⟨dx, s _ _ e⟩
structure LineC (K : PySem.W.Frag) (D : Addr) : Prop where
  cl : Cls K D
  nA : NoAttr K D "_base"
  nS : NoAttr K D "_slope"
/-- a Number that is the fraction t / b, reduced, of less than n bits -/
noncomputable def NumV (C : Addr) (H : Hp) (a : Addr) (n : Nat) (t b : Int) : Prop := ∃ p q, NumAt C H a p q ∧ Low t b p q ∧ Sz n p ∧ Sz n q
theorem NumV.same {C : Addr} {H H' : Hp} {a : Addr} {n : Nat} {t b : Int} (h : NumV C H a n t b) (s : Same H H') : NumV C H' a n t b := let ⟨p, q, e, r⟩ := h; ⟨p, q, e.same s, r⟩
theorem NumV.mono {C : Addr} {H : Hp} {a : Addr} {n m : Nat} {t b : Int} (h : NumV C H a n t b) (l : n ≤ m) : NumV C H a m t b := let ⟨p, q, e, r, z1, z2⟩ := h; ⟨p, q, e, r, z1.mono l, z2.mono l⟩
theorem NumV.ins {C : Addr} {H : Hp} {a : Addr} {n : Nat} {t b : Int} (h : NumV C H a n t b) : ∃ dx fs, H a = some (.ins C dx fs) := let ⟨_, _, ⟨dx, e⟩, _⟩ := h; ⟨dx, _, e⟩
noncomputable def spLine (D : Addr) : Sp := fun vs H Q _ => ∃ (x dx a c : Addr), vs = [.ref x, .ref a, .ref c] ∧ H x = some (.ins D dx []) ∧ ∀ H', LineAt D H' x a c → (∀ u o, H u = some o → u ≠ x → H' u = some o) → Q .non H'
noncomputable def spLCall (C D : Addr) : Sp := fun vs H Q _ => ∃ (l a c z : Addr) (t b p q m n : Int), vs = [.ref l, .ref z] ∧ LineAt D H l a c ∧ NumV C H a 400 t b ∧ NumV C H c 400 p q ∧ NumV C H z 400 m n ∧ b ≠ 0 ∧ q ≠ 0 ∧ n ≠ 0 ∧
  ∀ x H', H x = none → NumV C H' x 2000 (t * (q * n) + p * m * b) (b * (q * n)) → Same H H' → Q (.ref x) H'
/-- an operator over two fractions in lowest terms -/
theorem op2_of {C : Addr} {f g : Int → Int → Int → Int → Int} {H : Hp} {a c : Addr} {Q : VK} {E : XK} {na nc : Nat} {t b p q : Int} (h1 : NumV C H a na t b) (h2 : NumV C H c nc p q) (za : na ≤ 2000) (zc : nc ≤ 2000) (hg : ∀ t' b' p' q', Low t b t' b' → Low p q p' q' → g t' b' p' q' ≠ 0)
    (k : ∀ t' b' p' q' x H', Low t b t' b' → Low p q p' q' → Sz na t' → Sz na b' → Sz nc p' → Sz nc q' → H x = none → NumAt C H' x (nT (f t' b' p' q') (g t' b' p' q')) (nB (f t' b' p' q') (g t' b' p' q')) → Same H H' → Q (.ref x) H') : spOp2 C f g [.ref a, .ref c] H Q E := by
  obtain ⟨t', b', e1, l1, z1, z2⟩ := h1
  obtain ⟨p', q', e2, l2, z3, z4⟩ := h2
  exact ⟨a, c, t', b', p', q', rfl, e1, e2, z1.mono za, z2.mono za, z3.mono zc, z4.mono zc, hg _ _ _ _ l1 l2, fun x H' nx hx s => k t' b' p' q' x H' l1 l2 z1 z2 z3 z4 nx hx s⟩
/-- the fields' getters -/
noncomputable def spLBase (D : Addr) : Sp := fun vs H Q _ => ∃ l a c : Addr, vs = [.ref l] ∧ LineAt D H l a c ∧ Q (.ref a) H
noncomputable def spLSlope (D : Addr) : Sp := fun vs H Q _ => ∃ l a c : Addr, vs = [.ref l] ∧ LineAt D H l a c ∧ Q (.ref c) H
/-- == of lines; with what is no line it is False -/
noncomputable def spLEq (K : PySem.W.Frag) (C D : Addr) : Sp := fun vs H Q _ => ∃ (l a c : Addr) (y : V) (t b p q : Int), vs = [.ref l, y] ∧ LineAt D H l a c ∧ NumAt C H a t b ∧ NumAt C H c p q ∧
  ((∃ (m a' c' : Addr) (t' b' p' q' : Int), y = .ref m ∧ LineAt D H m a' c' ∧ NumAt C H a' t' b' ∧ NumAt C H c' p' q' ∧ Q (.bl (decide ((t = t' ∧ b = b') ∧ (p = p' ∧ q = q')))) H) ∨ (∃ ty : Value, TyX K H y ty ∧ PySem.W.kitOne K ty (.ref D) = some false ∧ Q (.bl false) H))
noncomputable def spLOp (C D : Addr) (sg : Int) : Sp := fun vs H Q _ => ∃ (l m a c a' c' : Addr) (t b p q t' b' p' q' : Int), vs = [.ref l, .ref m] ∧ LineAt D H l a c ∧ LineAt D H m a' c' ∧ NumV C H a 180 t b ∧ NumV C H c 180 p q ∧ NumV C H a' 180 t' b' ∧ NumV C H c' 180 p' q' ∧ b ≠ 0 ∧ q ≠ 0 ∧ b' ≠ 0 ∧ q' ≠ 0 ∧
  ∀ x u v H', H x = none → LineAt D H' x u v → NumV C H' u 400 (t * b' + sg * t' * b) (b * b') → NumV C H' v 400 (p * q' + sg * p' * q) (q * q') → Same H H' → Q (.ref x) H'
/-- what the class Line must be, to be told from others -/
structure LineT (K : PySem.W.Frag) (D : Addr) : Prop where
  ha : PySem.W.findIn K (.ref D) "__class__" = some (some (.builtin "object.__class__"))
  hn : PySem.W.specialIn K (.builtin "object.__class__") "__get__" = some (some (.builtin "getset_descriptor.__get__"))
  htk : PySem.W.takesIn K (.builtin "object.__class__") = some true
  hm : PySem.W.mroIn K D (.type "object") = some true
  sf : PySem.W.selfFirst K D = true
  nf : PySem.W.notFirst K D (.ref D) = true
theorem LineC.ty {K : PySem.W.Frag} {D : Addr} (c : LineC K D) (t : LineT K D) {H : Hp} {a dx : Addr} {fs : List (Str × V)} (e : H a = some (.ins D dx fs)) : TyX K H (.ref a) (.ref D) := .base (.ins e c.cl t.ha t.hn t.htk t.hm)
section
variable {P : Program} {w : World} {K : PySem.W.Frag} {mg : Str → Option Value} {base : Heap} {C D f : Addr} {fd : FuncData}
theorem ok_lineF (F : L2.Fun K "__init__" "Line.__init__" sLine f fd) (LC : LineC K D) : FnOk P w K mg base CX0 1 f fd PLine (spLine D) := by
  refine F.ok scLine (fun vs H Q E h => ?_) (fun cdv A outer s H vs Q E hr h => ?_)
  · obtain ⟨x, dx, a, c, rfl, _⟩ := h
    rfl
  · have sc := scLine
    obtain ⟨x, dx, a, c, rfl, hx, k⟩ := h
    refine ⟨_, (pss_cons (ps_fld (pv 0) (pv 1) rfl) (pss_one (ps_fld (pv 0) (pv 2) rfl))), ?_⟩
    refine ⟨_, rfl, _, rfl, x, D, dx, [], rfl, hx, LC.cl, LC.nA, (by show 0 < 1000; decide), ?_⟩
    refine ⟨_, rfl, _, rfl, x, D, dx, _, rfl, upd_same, LC.cl, LC.nS, (by show 1 < 1000; decide), ?_⟩
    refine k _ ⟨dx, upd_same.trans (congrArg some (congrArg (HO.ins D dx) ?_))⟩ fun a o e n => ?_
    · exact (put_past (by decide +kernel)).trans rfl
    · rw [upd_ne n, upd_ne n]
      exact e
theorem ok_lcall (F : L2.Fun K "__call__" "Line.__call__" sLCall f fd) (b : Binds K fd PLCall []) (NC : NumC K C) (LC : LineC K D) (oA : OpnF P w K mg base 4 C (PySem.dunder Operator.Add.info.2) (spAdd C)) (oM : OpnF P w K mg base 4 C (PySem.dunder Operator.Mult.info.2) (spMul C)) : FnR P w K mg base CX0 5 f (spLCall C D) := by
  refine fnR_of F b scLCall (fun vs H Q E h => ?_) (fun cdv A outer s H vs Q E hr h => ?_)
  · obtain ⟨l, a, c, z, t, b, p, q, m, n, rfl, _⟩ := h
    rfl
  · have sc := scLCall
    obtain ⟨l, a, c, z, t, b, p, q, m, n, rfl, ⟨dl, el⟩, ha, hc, hz, b0, q0, n0, k⟩ := h
    refine ⟨_, (pss_one (ps_ret (pe_op (op_own oA NC.sf hr (by decide)) (pe_fld (pv 0) rfl) (pe_op (op_own oM NC.sf hr (by decide)) (pe_fld (pv 0) rfl) (pv 1))))), ?_⟩
    refine ⟨_, rfl, l, D, dl, _, _, rfl, el, LC.cl, LC.nA, lF_base _ _, _, rfl, l, D, dl, _, _, rfl, el, LC.cl, LC.nS, lF_slope _ _, _, rfl, ?_⟩
    obtain ⟨dc, fc, ec⟩ := hc.ins
    obtain ⟨dz, fz, ez⟩ := hz.ins
    refine ⟨c, dc, fc, z, dz, fz, rfl, ec, rfl, ez, op2_of hc hz (by decide) (by decide) (fun t' b' p' q' l1 l2 => Int.mul_ne_zero (by have := l1.pos; omega) (by have := l2.pos; omega)) ?_⟩
    intro p1 q1 m1 n1 x H1 l1 l2 y1 y2 y3 y4 nx hx s1
    have hq1 := l1.pos
    have hn1 := l2.pos
    have qn : q1 * n1 ≠ 0 := Int.mul_ne_zero (by omega) (by omega)
    have lx : Low (p * m) (q * n) (nT (p1 * m1) (q1 * n1)) (nB (p1 * m1) (q1 * n1)) := by
      refine (nf_low qn).base qn ?_
      have e1 := l1.cross
      have e2 := l2.cross
      grind
    have hx' : NumV C H1 x 800 (p * m) (q * n) := ⟨_, _, hx, lx, ((y1.mul y3).nT qn).mono (by decide), ((y2.mul y4).nB qn).mono (by decide)⟩
    have ha1 := ha.same s1
    obtain ⟨da, fa, ea⟩ := ha1.ins
    obtain ⟨dx, fx, ex⟩ := hx'.ins
    refine ⟨a, da, fa, x, dx, fx, rfl, ea, rfl, ex, op2_of ha1 hx' (by decide) (by decide) (fun t' b' p' q' l1 l2 => Int.mul_ne_zero (by have := l1.pos; omega) (by have := l2.pos; omega)) ?_⟩
    intro t2 b2 p2 q2 y H2 l3 l4 w1 w2 w3 w4 ny hy s2
    have bq : b2 * q2 ≠ 0 := Int.mul_ne_zero (by have := l3.pos; omega) (by have := l4.pos; omega)
    refine k y H2 (s1.free ny) ⟨_, _, hy, (nf_low bq).base bq ?_, Sz.nT bq (((w1.mul w4).mono (by decide : 400 + 800 ≤ 1999)).add ((w3.mul w2).mono (by decide : 800 + 400 ≤ 1999))), (Sz.nB bq (w2.mul w4)).mono (by decide)⟩ (s1.trans s2)
    have e1 := l3.cross
    have e2 := l4.cross
    grind
theorem ok_lbase (F : L2.Fun K "base" "Line.base" sLBase f fd) (b : Binds K fd PLBase []) (LC : LineC K D) : FnR P w K mg base CX0 1 f (spLBase D) := by
  refine fnR_of F b scLBase (fun vs H Q E h => ?_) (fun cdv A outer s H vs Q E hr h => ?_)
  · obtain ⟨l, a, c, rfl, _⟩ := h
    rfl
  · have sc := scLBase
    obtain ⟨l, a, c, rfl, ⟨dx, e⟩, k⟩ := h
    refine ⟨_, (pss_one (ps_ret (pe_fld (pv 0) rfl))), ?_⟩
    exact ⟨_, rfl, l, D, dx, _, _, rfl, e, LC.cl, LC.nA, lF_base _ _, k⟩
theorem ok_lslope (F : L2.Fun K "slope" "Line.slope" sLSlope f fd) (b : Binds K fd PLSlope []) (LC : LineC K D) : FnR P w K mg base CX0 1 f (spLSlope D) := by
  refine fnR_of F b scLSlope (fun vs H Q E h => ?_) (fun cdv A outer s H vs Q E hr h => ?_)
  · obtain ⟨l, a, c, rfl, _⟩ := h
    rfl
  · have sc := scLSlope
    obtain ⟨l, a, c, rfl, ⟨dx, e⟩, k⟩ := h
    refine ⟨_, (pss_one (ps_ret (pe_fld (pv 0) rfl))), ?_⟩
    exact ⟨_, rfl, l, D, dx, _, _, rfl, e, LC.cl, LC.nS, lF_slope _ _, k⟩
theorem ok_leq (F : L2.Fun K "__eq__" "Line.__eq__" sLEq f fd) (b : Binds K fd PLEq []) (B : Bi mg) (NC : NumC K C) (LC : LineC K D) (LT : LineT K D) (gL : mg "Line" = some (.ref D)) (oE : OpnF P w K mg base 1 C "__eq__" (spNEq C)) : FnR P w K mg base CX0 2 f (spLEq K C D) := by
  refine fnR_of F b scLEq (fun vs H Q E h => ?_) (fun cdv A outer s H vs Q E hr h => ?_)
  · obtain ⟨l, a, c, y, t, b, p, q, rfl, _⟩ := h
    rfl
  · have sc := scLEq
    obtain ⟨l, a, c, y, t, b, p, q, rfl, ⟨dl, el⟩, ha, hc, k⟩ := h
    refine ⟨_, (pss_one (ps_ret (pe_and (pe_callB (show CallR _ (.builtin "isinstance") (rIsi K) from call_isi) (by rfl) B.isinstance (by decide +kernel) (pa_cons (pv 1) (pa_cons (pe_glob (v := .ref D) rfl gL rfl) pa_nil))) (pe_and (pe_cmpR (op_eqO oE hr (by decide)) (pe_fld (pv 0) rfl) (pe_fld (pv 1) rfl) (nomark _)) (pe_one (pe_cmpR (op_eqO oE hr (by decide)) (pe_fld (pv 0) rfl) (pe_fld (pv 1) rfl) (nomark _))))))), ?_⟩
    rcases k with ⟨m, a', c', t', b', p', q', rfl, ⟨dm, em⟩, ha', hc', k⟩ | ⟨ty, hty, hk, k⟩
    · refine ⟨_, rfl, _, _, _, _, true, rfl, .own D, LC.ty LT em, kit_self _, true, rfl, iteT ?_⟩
      obtain ⟨da, ea⟩ := id ha
      obtain ⟨da', ea'⟩ := id ha'
      refine ⟨_, rfl, l, D, dl, _, _, rfl, el, LC.cl, LC.nA, lF_base _ _, _, rfl, m, D, dm, _, _, rfl, em, LC.cl, LC.nA, lF_base _ _, a, da, _, _, rfl, ea, .ins ea', NC.nf, a, a', t, b, t', b', rfl, ha, ha', _, rfl, ?_⟩
      by_cases h1 : t = t' ∧ b = b'
      · refine ifT (decide_eq_true h1) ?_
        obtain ⟨dc, ec⟩ := id hc
        obtain ⟨dc', ec'⟩ := id hc'
        refine ⟨_, rfl, l, D, dl, _, _, rfl, el, LC.cl, LC.nS, lF_slope _ _, _, rfl, m, D, dm, _, _, rfl, em, LC.cl, LC.nS, lF_slope _ _, c, dc, _, _, rfl, ec, .ins ec', NC.nf, c, c', p, q, p', q', rfl, hc, hc', ?_⟩
        have e : decide ((t = t' ∧ b = b') ∧ (p = p' ∧ q = q')) = decide (p = p' ∧ q = q') := by simp [h1]
        rw [← e]
        exact k
      · refine ifF (decide_eq_false h1) ?_
        have e : decide ((t = t' ∧ b = b') ∧ (p = p' ∧ q = q')) = false := decide_eq_false fun z => h1 z.1
        rw [← e]
        exact k
    · exact ⟨_, rfl, _, _, _, _, false, rfl, .own D, hty, hk, false, rfl, iteF k⟩
theorem ok_ladd (F : L2.Fun K "__add__" "Line.__add__" sLAdd f fd) (b : Binds K fd PLAdd []) (NC : NumC K C) (LC : LineC K D) (oA : OpnF P w K mg base 4 C (PySem.dunder Operator.Add.info.2) (spAdd C)) (mL : MakF P w K mg base 1 "Line" D (spLine D)) : FnR P w K mg base CX0 5 f (spLOp C D 1) := by
  refine fnR_of F b scLAdd (fun vs H Q E h => ?_) (fun cdv A outer s H vs Q E hr h => ?_)
  · obtain ⟨l, m, a, c, a', c', t, b, p, q, t', b', p', q', rfl, _⟩ := h
    rfl
  · have sc := scLAdd
    obtain ⟨l, m, a, c, a', c', t, b, p, q, t', b', p', q', rfl, ⟨dl, el⟩, ⟨dm, em⟩, ha, hc, ha', hc', b0, q0, b0', q0', k⟩ := h
    refine ⟨_, (pss_one (ps_ret (pe_mk mL hr (by decide) rfl (pa_cons (pe_op (op_own oA NC.sf hr (by decide)) (pe_fld (pv 0) rfl) (pe_fld (pv 1) rfl)) (pa_cons (pe_op (op_own oA NC.sf hr (by decide)) (pe_fld (pv 0) rfl) (pe_fld (pv 1) rfl)) pa_nil))))), ?_⟩
    obtain ⟨da, fa, ea⟩ := ha.ins
    obtain ⟨da', fa', ea'⟩ := ha'.ins
    refine ⟨_, rfl, l, D, dl, _, _, rfl, el, LC.cl, LC.nA, lF_base _ _, _, rfl, m, D, dm, _, _, rfl, em, LC.cl, LC.nA, lF_base _ _, a, da, fa, a', da', fa', rfl, ea, rfl, ea', op2_of ha ha' (by decide) (by decide) (fun t' b' p' q' l1 l2 => Int.mul_ne_zero (by have := l1.pos; omega) (by have := l2.pos; omega)) ?_⟩
    intro t1 b1 t2 b2 x H1 l1 l2 y1 y2 y3 y4 nx hx s1
    have n1 : b1 * b2 ≠ 0 := Int.mul_ne_zero (by have := l1.pos; omega) (by have := l2.pos; omega)
    have vx : NumV C H1 x 400 (t * b' + 1 * t' * b) (b * b') := ⟨_, _, hx, (nf_low n1).base n1 (by have e1 := l1.cross; have e2 := l2.cross; grind), (Sz.nT n1 (Sz.add (y1.mul y4) (y3.mul y2))).mono (by decide), (Sz.nB n1 (y2.mul y4)).mono (by decide)⟩
    have hc1 := hc.same s1
    have hc1' := hc'.same s1
    obtain ⟨dc, fc, ec⟩ := hc1.ins
    obtain ⟨dc', fc', ec'⟩ := hc1'.ins
    refine ⟨_, rfl, l, D, dl, _, _, rfl, s1 _ _ el, LC.cl, LC.nS, lF_slope _ _, _, rfl, m, D, dm, _, _, rfl, s1 _ _ em, LC.cl, LC.nS, lF_slope _ _, c, dc, fc, c', dc', fc', rfl, ec, rfl, ec', op2_of hc1 hc1' (by decide) (by decide) (fun t' b' p' q' l1 l2 => Int.mul_ne_zero (by have := l1.pos; omega) (by have := l2.pos; omega)) ?_⟩
    intro t3 b3 t4 b4 y H2 l3 l4 w1 w2 w3 w4 ny hy s2
    have n2 : b3 * b4 ≠ 0 := Int.mul_ne_zero (by have := l3.pos; omega) (by have := l4.pos; omega)
    have vy : NumV C H2 y 400 (p * q' + 1 * p' * q) (q * q') := ⟨_, _, hy, (nf_low n2).base n2 (by have e1 := l3.cross; have e2 := l4.cross; grind), (Sz.nT n2 (Sz.add (w1.mul w4) (w3.mul w2))).mono (by decide), (Sz.nB n2 (w2.mul w4)).mono (by decide)⟩
    intro z dz nz nd ne
    refine ⟨z, dz, x, y, rfl, upd_same, fun H3 h3 k3 => ⟨rfl, ?_⟩⟩
    have s3 : Same H2 H3 := Same.mk nz nd k3
    exact k z x y H3 ((s1.trans s2).free nz) h3 ((vx.same s2).same s3) (vy.same s3) ((s1.trans s2).trans s3)
theorem ok_lsub (F : L2.Fun K "__sub__" "Line.__sub__" sLSub f fd) (b : Binds K fd PLSub []) (NC : NumC K C) (LC : LineC K D) (oA : OpnF P w K mg base 4 C (PySem.dunder Operator.Sub.info.2) (spSub C)) (mL : MakF P w K mg base 1 "Line" D (spLine D)) : FnR P w K mg base CX0 5 f (spLOp C D (-1)) := by
  refine fnR_of F b scLSub (fun vs H Q E h => ?_) (fun cdv A outer s H vs Q E hr h => ?_)
  · obtain ⟨l, m, a, c, a', c', t, b, p, q, t', b', p', q', rfl, _⟩ := h
    rfl
  · have sc := scLSub
    obtain ⟨l, m, a, c, a', c', t, b, p, q, t', b', p', q', rfl, ⟨dl, el⟩, ⟨dm, em⟩, ha, hc, ha', hc', b0, q0, b0', q0', k⟩ := h
    refine ⟨_, (pss_one (ps_ret (pe_mk mL hr (by decide) rfl (pa_cons (pe_op (op_own oA NC.sf hr (by decide)) (pe_fld (pv 0) rfl) (pe_fld (pv 1) rfl)) (pa_cons (pe_op (op_own oA NC.sf hr (by decide)) (pe_fld (pv 0) rfl) (pe_fld (pv 1) rfl)) pa_nil))))), ?_⟩
    obtain ⟨da, fa, ea⟩ := ha.ins
    obtain ⟨da', fa', ea'⟩ := ha'.ins
    refine ⟨_, rfl, l, D, dl, _, _, rfl, el, LC.cl, LC.nA, lF_base _ _, _, rfl, m, D, dm, _, _, rfl, em, LC.cl, LC.nA, lF_base _ _, a, da, fa, a', da', fa', rfl, ea, rfl, ea', op2_of ha ha' (by decide) (by decide) (fun t' b' p' q' l1 l2 => Int.mul_ne_zero (by have := l1.pos; omega) (by have := l2.pos; omega)) ?_⟩
    intro t1 b1 t2 b2 x H1 l1 l2 y1 y2 y3 y4 nx hx s1
    have n1 : b1 * b2 ≠ 0 := Int.mul_ne_zero (by have := l1.pos; omega) (by have := l2.pos; omega)
    have vx : NumV C H1 x 400 (t * b' + -1 * t' * b) (b * b') := ⟨_, _, hx, (nf_low n1).base n1 (by have e1 := l1.cross; have e2 := l2.cross; grind), (Sz.nT n1 (Sz.sub (y1.mul y4) (y3.mul y2))).mono (by decide), (Sz.nB n1 (y2.mul y4)).mono (by decide)⟩
    have hc1 := hc.same s1
    have hc1' := hc'.same s1
    obtain ⟨dc, fc, ec⟩ := hc1.ins
    obtain ⟨dc', fc', ec'⟩ := hc1'.ins
    refine ⟨_, rfl, l, D, dl, _, _, rfl, s1 _ _ el, LC.cl, LC.nS, lF_slope _ _, _, rfl, m, D, dm, _, _, rfl, s1 _ _ em, LC.cl, LC.nS, lF_slope _ _, c, dc, fc, c', dc', fc', rfl, ec, rfl, ec', op2_of hc1 hc1' (by decide) (by decide) (fun t' b' p' q' l1 l2 => Int.mul_ne_zero (by have := l1.pos; omega) (by have := l2.pos; omega)) ?_⟩
    intro t3 b3 t4 b4 y H2 l3 l4 w1 w2 w3 w4 ny hy s2
    have n2 : b3 * b4 ≠ 0 := Int.mul_ne_zero (by have := l3.pos; omega) (by have := l4.pos; omega)
    have vy : NumV C H2 y 400 (p * q' + -1 * p' * q) (q * q') := ⟨_, _, hy, (nf_low n2).base n2 (by have e1 := l3.cross; have e2 := l4.cross; grind), (Sz.nT n2 (Sz.sub (w1.mul w4) (w3.mul w2))).mono (by decide), (Sz.nB n2 (w2.mul w4)).mono (by decide)⟩
    intro z dz nz nd ne
    refine ⟨z, dz, x, y, rfl, upd_same, fun H3 h3 k3 => ⟨rfl, ?_⟩⟩
    have s3 : Same H2 H3 := Same.mk nz nd k3
    exact k z x y H3 ((s1.trans s2).free nz) h3 ((vx.same s2).same s3) (vy.same s3) ((s1.trans s2).trans s3)
end
end Ws

/-! calls with nothing in the parentheses; a row that is a list or a tuple -/
namespace Ws
open PySem PySem.Spec PyProof.Rows L2
section
variable {X : Cx} {CX : CXT} {k j : Nat} {C f : Addr} {sp : Sp} {E : L2.St → XK} {x m : Str} {p pos apos : Pos} {o : Expr} {ta : TE}
/-- o.m() -/
theorem pe_mtS0 {pl : Sem Bool} (c : MetE X.prog X.w X.K X.mg X.base CX k C m sp) (hr : Room j X.A) (hk : k ≤ j) (hx : ∀ σ, PassesAt CX X σ (E σ)) (he : PE X o ta)
    (ht : eval (.Call (.Attribute o m apos) [] [] pos) X.env = (do
      let ov ← eval o X.env
      standAt apos.atName
      let (f, first) ← holding [ov] (getMethod ov m pl)
      callWith pos f first (backTo pos (starEach [] X.env)) (backToKw pos (keywordEach [] X.env))) := by rfl) :
    PE X (.Call (.Attribute o m apos) [] [] pos) (tMtS C m sp E ta tNil) := by
  obtain ⟨fa, hc, hm, F⟩ := c
  refine ⟨fun pi st σ G Q J hq => ?_⟩
  refine PySem.W.methodCall_KW (pl := pl) (thn (he.run pi st σ G _ J hq) fun u s1 ⟨y, G1, J1, rx, a, dx, fs, ex, ea, l, q⟩ => ?_) ht
  subst ex
  obtain rfl : u = Value.ref a := rx
  refine getmeth_ok J1 ea hc hm l ?_
  exact PySem.W.callWith_K0 (first := [.ref a]) J1.kIn hm.kp (run_S (us := [.ref a]) (vs := [.ref a]) F (hr.mono hk) (hx σ) J1 (.cons rfl .nil) q)
theorem pe_mt0 {pl : Sem Bool} (c : MetF X.prog X.w X.K X.mg X.base k C m sp) (hr : Room j X.A) (hk : k ≤ j) (he : PE X o ta)
    (ht : eval (.Call (.Attribute o m apos) [] [] pos) X.env = (do
      let ov ← eval o X.env
      standAt apos.atName
      let (f, first) ← holding [ov] (getMethod ov m pl)
      callWith pos f first (backTo pos (starEach [] X.env)) (backToKw pos (keywordEach [] X.env))) := by rfl) :
    PE X (.Call (.Attribute o m apos) [] [] pos) (tMt C m sp ta tNil) := by
  obtain ⟨fa, hc, hm, F⟩ := c
  refine ⟨fun pi st σ G Q J hq => ?_⟩
  refine PySem.W.methodCall_KW (pl := pl) (thn (he.run pi st σ G _ J hq) fun u s1 ⟨y, G1, J1, rx, a, dx, fs, ex, ea, l, q⟩ => ?_) ht
  subst ex
  obtain rfl : u = Value.ref a := rx
  refine getmeth_ok J1 ea hc hm l ?_
  exact PySem.W.callWith_K0 (first := [.ref a]) J1.kIn hm.kp (run_R (us := [.ref a]) (vs := [.ref a]) F (hr.mono hk) pass0 J1 (.cons rfl .nil) q)
/-- C() -/
theorem pe_mk0 (c : MakF X.prog X.w X.K X.mg X.base k x C sp) (hr : Room j X.A) (hk : k + 1 ≤ j) (hg : Gl X x) (hdb : (x == ("__debug__" : Str)) = false := by decide) : PE X (.Call (.Name x p) [] [] pos) (tMk C sp tNil) := by
  obtain ⟨fa, M, F, hm⟩ := c
  refine ⟨fun pi st σ G Q J hq => ?_⟩
  refine wpAny_Call_Name_kw (ld_glob J hg hm ?_ hdb)
  exact PySem.W.callWith_K0 J.kIn M.kp (StX.run_makeR (us := []) M F (hr.mono hk) pass0 J .nil hq)
/-- a row gone through by one of two rules -/
theorem pi_or {tg l : Expr} {w1 w2 : TI} (h1 : PI X tg l w1) (h2 : PI X tg l w2) : PI X tg l (fun σ H R => w1 σ H R ∨ w2 σ H R) :=
  ⟨fun pi st σ G R J q => q.elim (fun q => h1.run pi st σ G R J q) (fun q => h2.run pi st σ G R J q)⟩
/-! within a comprehension the module's part is named -/
theorem pe_fldK {K : PySem.W.Frag} {te : TE} {n : Str} (hK : X.K = K) (hb : attributeBase o n X.env (eval o X.env) = eval o X.env) (he : PE X o te) : PE X (.Attribute o n pos) (tFld K te n) := by
  subst hK
  exact pe_fld he hb
theorem pe_kget1K {K : PySem.W.Frag} {w : World} {e : Expr} {cpos : Pos} {td ty : TE} (hK : X.K = K) (hw : X.w = w) (ho : PE X o td) (he : PE X e ty) (mm : M1 X o "get" apos e cpos) : PE X (.Call (.Attribute o "get" apos) [e] [] cpos) (tKGet K w td ty) := by
  subst hK
  subst hw
  exact pe_kget1 ho he mm
theorem ix_tupK {K : PySem.W.Frag} (hK : X.K = K) : IxR X (rIxT K) := by
  subst hK
  exact ix_tup
theorem op_notIn_k : OpR X (compareOp .NotIn) (fun x y H Q => ∃ (z : Str) (a : Addr) (o : Option V), x = .str z ∧ y = .ref a ∧ KHas X.K X.w a z o ∧ Q (.bl (!o.isSome)) H) := by
  intro pi st σ G x y v u Q J rx ry h
  obtain ⟨z, a, o, rfl, rfl, ⟨es, n, r, D, e, ro⟩, q⟩ := h
  rw [ro.isSome_eq] at q
  exact op_notIn_kd D pi st σ G _ _ v u Q J rx ry ⟨z, r, rfl, rfl, e, q⟩
theorem sl_tupK {K : PySem.W.Frag} (hK : X.K = K) : SlR X (rSlT K) := by
  subst hK
  exact sl_tup
theorem op_in_kK {K : PySem.W.Frag} {w : World} (hK : X.K = K) (hw : X.w = w) : OpR X (compareOp .In) (fun x y H Q => ∃ (z : Str) (a : Addr) (o : Option V), x = .str z ∧ y = .ref a ∧ KHas K w a z o ∧ Q (.bl o.isSome) H) := by
  subst hK
  subst hw
  exact op_in_k
end
end Ws

namespace Ws
open PySem PySem.Spec PyProof.Rows L2
/-! ### calls by keywords alone; calls of a def that a name holds -/
theorem kbn_of {K : PySem.W.Frag} {x qual : Str} {st : Stmt} {f : Addr} {fd : FuncData} {ps ks : List Str} {n : Nat} {g : List Value → List Value → List Value} {gV : List V → List V → List V} (F : L2.Fun K x qual st f fd)
    (hrel : ∀ {vs : List V} {us : List Value} {zs : List V} {ws : List Value}, Vals vs us → Vals zs ws → Vals (gV vs zs) (g us ws))
    (h : ∀ (kV doc pm : Value) (an : Option Addr) (cdv ct : Value) (us ws : List Value), us.length = n → ws.length = ks.length → bindArgs (PySem.W.fnOf x qual (defArgs st) (defBody st) (defScope st) .none kV doc pm an cdv ct) ⟨us, ks.zip ws⟩ = pure (ps.zip (g us ws))) : KBn K fd ps n ks g gV := by
  obtain ⟨oc, od, kV, doc, pm, an, cdv, ct, osl, rfl, lk, hcd⟩ := F.ex
  exact ⟨fun s us ws _ h1 h2 => .of_eq (h kV doc pm an cdv ct us ws h1 h2), hrel⟩
/-- a def that may be called by keywords alone, in the sequence of its parameters -/
noncomputable def CalK (P : Program) (w : World) (K : PySem.W.Frag) (mg : Str → Option Value) (base : Heap) (CX : CXT) (k : Nat) (x : Str) (ks : List Str) (sp : Sp) : Prop :=
  ∃ (f : Addr) (fd : FuncData) (ps : List Str), FnOk P w K mg base CX k f fd ps sp ∧ mg x = some (.ref f) ∧ PySem.W.keepIn K (.ref f) = true ∧ KBn K fd ps 0 ks (fun _ ws => ws) (fun _ zs => zs)
section
variable {X : Cx} {CX : CXT} {k j : Nat} {f : Addr} {sp : Sp} {x : Str} {p pos : Pos} {e fe : Expr} {es : List Expr} {kws : List Keyword} {t tk : TA} {E : XK} {ks : List Str} {tf : TE}
noncomputable def tKf (n : Nat) (sp : Sp) (E : XK) (tk : TA) : TE := fun σ H Q => tk σ H fun zs H1 => zs.length = n ∧ sp zs H1 Q E
theorem pe_kf (c : CalK X.prog X.w X.K X.mg X.base CX k x ks sp) (hr : Room j X.A) (hj : k ≤ j) (hx : Passes CX X E) (hg : Gl X x) (hkw : PK X kws tk)
    (hall : (backToKw pos (keywordEach kws X.env)).all (·.1.isSome) = true := by rfl) (hks : (backToKw pos (keywordEach kws X.env)).filterMap (·.1) = ks := by rfl)
    (hdb : (x == ("__debug__" : Str)) = false := by decide)
    (hpl : ((backTo pos (starEach [] X.env)).any (·.1) || (backToKw pos (keywordEach kws X.env)).any (·.1.isNone)) = false := by rfl) :
    PE X (.Call (.Name x p) [] kws pos) (tKf ks.length sp E tk) := by
  obtain ⟨f, fd, ps, F, hm, hk, hb⟩ := c
  refine ⟨fun pins s σ H Q I h => ?_⟩
  refine wpAny_Call_Name_kw (ld_glob I hg hm ?_ hdb)
  refine PySem.W.callWith_KW0 (first := []) (h₀ := X.base) I.ok.mod.kin hk hall ?_ hpl
  refine thn (hkw.run pos pins s σ H _ I h) fun ws s2 ⟨zs, H2, I2, rz, l2, q2⟩ => ⟨I2.kIn, ?_⟩
  rw [hks]
  exact run_fnN (us := []) (vs := []) F (hr.mono hj) hb hx I2 .nil rz rfl l2 q2
/-- the def at a, as a promise -/
noncomputable def DefAt (P : Program) (w : World) (K : PySem.W.Frag) (mg : Str → Option Value) (base : Heap) (CX : CXT) (k : Nat) (a : Addr) (sp : Sp) : Prop := FnR P w K mg base CX k a sp ∧ PySem.W.keepIn K (.ref a) = true
/-- g(e, ..) where the name g holds a def -/
noncomputable def tFv (P : Program) (w : World) (K : PySem.W.Frag) (mg : Str → Option Value) (base : Heap) (CX : CXT) (k : Nat) (E : L2.St → XK) (tf : TE) (t : TA) : TE := fun σ H Q => tf σ H fun y H1 => ∃ (a : Addr) (sp : Sp), y = V.ref a ∧ DefAt P w K mg base CX k a sp ∧ t σ H1 fun vs H2 => sp vs H2 Q (E σ)
theorem pe_fv {E : L2.St → XK} (hr : Room j X.A) (hj : k ≤ j) (hx : ∀ σ, PassesAt CX X σ (E σ)) (hf : PE X fe tf) (ha : PA X (e :: es) t)
    (ht : eval (.Call fe (e :: es) [] pos) X.env = (do callWith pos (← eval fe X.env) [] (backTo pos (starEach (e :: es) X.env)) (backToKw pos (keywordEach [] X.env))) := by rfl)
    (he : starEach (e :: es) X.env = (false, eval e X.env) :: starEach es X.env := by rfl) (hpl : (backTo pos (starEach es X.env)).any (·.1) = false := by rfl) : PE X (.Call fe (e :: es) [] pos) (tFv X.prog X.w X.K X.mg X.base CX k E tf t) := by
  refine ⟨fun pins s σ H Q I h => ?_⟩
  refine Call_ (thn (hf.run pins s σ H _ I h) fun u s1 ⟨y, H1, I1, ry, a, sp, ey, ok, q⟩ => ?_) ht
  subst ey
  obtain rfl : u = Value.ref a := ry
  refine PySem.W.callWith_K (h₀ := X.base) I1.ok.mod.kin ok.2 (thn (ha.run pos pins s1 σ H1 _ I1 q) fun us s2 ⟨vs, H2, I2, r, q2⟩ => ⟨I2.kIn, ?_⟩) he hpl
  exact run_S (E := E) ok.1 (hr.mono hj) (hx σ) I2 r q2
/-- where nothing is let out -/
theorem pass0S {X : Cx} : ∀ σ : L2.St, PassesAt CX0 X σ E0 := fun σ pins H s e s' I c => c.elim
end
end Ws

namespace Ws
open PySem PySem.Spec PyProof.Rows L2
/-! ### how long the words of a line are together -/
theorem spl_sum (s : Nat) : ∀ (t acc : List Nat), ((TL.spl [s] 0 acc t).map List.length).sum + (TL.spl [s] 0 acc t).length = acc.length + t.length + 1
  | [], acc => by
    rw [TL.spl_nil]
    simp
  | c :: r, acc => by
    show (List.map List.length (if TL.pre [s] (c :: r) = true then acc :: TL.spl [s] 0 [] r else TL.spl [s] 0 (acc ++ [c]) r)).sum + (if TL.pre [s] (c :: r) = true then acc :: TL.spl [s] 0 [] r else TL.spl [s] 0 (acc ++ [c]) r).length = _
    split
    · have := spl_sum s r []
      simp only [List.map_cons, List.sum_cons, List.length_cons, List.length_nil] at this ⊢
      omega
    · have := spl_sum s r (acc ++ [c])
      rw [List.length_append] at this
      simp only [List.length_cons, List.length_nil] at this ⊢
      omega
theorem words_sum (x : Str) : ((Txt.split x " ").map (·.length)).sum + (Txt.split x " ").length = x.length + 1 := by
  by_cases hk : Builtin.Str.strKind x < Builtin.Str.strKind " "
  · have e : Txt.split x " " = [x] := by
      unfold Txt.split
      rw [if_pos (by rw [decide_eq_true hk, Bool.or_true])]
    rw [e]
    simp
  · have h := TL.split_spl x " " (by decide +kernel) hk
    have e : TL.tl " " = [32] := by decide +kernel
    rw [e] at h
    have h2 := spl_sum 32 (TL.tl x) []
    rw [← h, List.map_map, List.length_map] at h2
    have hl : ∀ z : Str, (TL.tl z).length = z.length := fun z => by
      unfold TL.tl
      simp
      rfl
    have e2 : (List.length ∘ TL.tl : Str → Nat) = fun z => z.length := funext hl
    rw [e2, hl, List.length_nil] at h2
    omega
theorem spl_mem (s : Nat) : ∀ (t acc u : List Nat), u ∈ TL.spl [s] 0 acc t → ∀ c ∈ u, c ∈ acc ∨ c ∈ t
  | [], acc, u, h, c, hc => by
    rw [TL.spl_nil, List.mem_singleton] at h
    subst h
    exact .inl hc
  | b :: r, acc, u, h, c, hc => by
    have h' : u ∈ (if TL.pre [s] (b :: r) = true then acc :: TL.spl [s] 0 [] r else TL.spl [s] 0 (acc ++ [b]) r) := h
    split at h'
    · rcases List.mem_cons.mp h' with e | h'
      · subst e; exact .inl hc
      · rcases spl_mem s r [] u h' c hc with z | z
        · cases z
        · exact .inr (List.mem_cons_of_mem _ z)
    · rcases spl_mem s r _ u h' c hc with z | z
      · rcases List.mem_append.mp z with z | z
        · exact .inl z
        · rw [List.mem_singleton.mp z]; exact .inr (List.mem_cons_self ..)
      · exact .inr (List.mem_cons_of_mem _ z)
/-- a word of a line has no sign that the line has not -/
theorem word_signs {x w : Str} (h : w ∈ Txt.split x " ") : ∀ c ∈ TL.tl w, c ∈ TL.tl x := by
  by_cases hk : Builtin.Str.strKind x < Builtin.Str.strKind " "
  · have e : Txt.split x " " = [x] := by
      unfold Txt.split
      rw [if_pos (by rw [decide_eq_true hk, Bool.or_true])]
    rw [e, List.mem_singleton] at h
    subst h
    exact fun c hc => hc
  · have e := TL.split_spl x " " (by decide +kernel) hk
    rw [show TL.tl " " = [32] by decide +kernel] at e
    have hm : TL.tl w ∈ TL.spl [32] 0 [] (TL.tl x) := e ▸ List.mem_map.mpr ⟨w, h, rfl⟩
    intro c hc
    rcases spl_mem 32 _ _ _ hm c hc with z | z
    · cases z
    · exact z
end Ws

/-! texts of lines and stretches -/
namespace Nt
open PySem L2 TL
/-! ### signs that a number has not -/
theorem shN_free {t b : Int} (hb : 0 < b) {c : Nat} (h : c ≠ 45 ∧ c ≠ 47 ∧ (c < 48 ∨ 57 < c)) : c ∉ tl (shN t b) := by
  unfold shN
  split
  · exact int_free h.1 h.2.2
  · rw [tl_append, tl_append]
    intro hm
    rcases List.mem_append.mp hm with hm | hm
    · rcases List.mem_append.mp hm with hm | hm
      · exact int_free h.1 h.2.2 hm
      · have e : tl ("/" : Str) = [47] := by decide +kernel
        rw [e] at hm
        exact h.2.1 (List.mem_singleton.mp hm)
    · exact int_free h.1 h.2.2 hm
theorem shN_ne {t b : Int} : tl (shN t b) ≠ [] := by
  have h1 : tl (nTx t) ≠ [] := by
    rw [tl_int]
    intro h
    exact numL_ne _ (List.append_eq_nil_iff.mp h).2
  unfold shN
  split
  · exact h1
  · rw [tl_append, tl_append]
    intro h
    exact h1 (List.append_eq_nil_iff.mp (List.append_eq_nil_iff.mp h).1).1
theorem shN_inj {t b p q : Int} (h1 : Can t b) (h2 : Can p q) (h : shN t b = shN p q) : t = p ∧ b = q := by
  have a := numQ_iff.mpr ⟨rfl, h1⟩
  have c := numQ_iff.mpr ⟨h, h2⟩
  rw [a] at c
  have := Option.some.inj c
  injection this with e1 e2
  exact ⟨e1, e2⟩
theorem sub_len (x : Str) (i j : Nat) : (Builtin.Str.strSub x i j).length ≤ x.length := by
  rw [len_tl, tl_strSub, List.length_take, List.length_drop, ← len_tl]
  omega
theorem rp_len (x y : Str) : (Txt.removeprefix x y).length ≤ x.length := by
  rw [StrLaws.removeprefix_eq]
  split
  · rw [len_tl, tl_mk, List.length_take, List.length_drop]
    have : x.cps.toList.length = x.length := rfl
    omega
  · exact Nat.le_refl _
theorem rs_len (x y : Str) : (Txt.removesuffix x y).length ≤ x.length := by
  rw [StrLaws.removesuffix_eq]
  split
  · rw [len_tl, tl_mk, List.length_take, List.length_drop]
    have : x.cps.toList.length = x.length := rfl
    omega
  · exact Nat.le_refl _
theorem part_len (x y : Str) : (Txt.partition x y).1.length ≤ x.length ∧ (Txt.partition x y).2.1.length ≤ y.length ∧ (Txt.partition x y).2.2.length ≤ x.length := by
  unfold Txt.partition
  split
  · exact ⟨sub_len _ _ _, Nat.le_refl _, sub_len _ _ _⟩
  · exact ⟨Nat.le_refl _, Nat.zero_le _, Nat.zero_le _⟩
/-! ### the last sign -/
theorem suf_yes (a y : Str) (c : Nat) (hy : tl y = [c]) : Txt.removesuffix (a ++ y) y = a ∧ Txt.endswith (a ++ y) y = true := by
  have hyl : y.length = 1 := by rw [len_tl, hy]; rfl
  have hl : (a ++ y).length = a.length + 1 := by rw [len_tl, tl_append, List.length_append, ← len_tl a, hy]; rfl
  have hs : Builtin.Str.subAt (a ++ y) y ((a ++ y).length - y.length) = true := by
    rw [StrLaws.subAt_eq, hl, hyl]
    show (((tl (a ++ y)).drop (a.length + 1 - 1)).take 1 == tl y) = true
    rw [tl_append, hy, show a.length + 1 - 1 = (tl a).length by rw [← len_tl]; omega, List.drop_left]
    exact beq_self_eq_true _
  refine ⟨?_, ?_⟩
  · rw [StrLaws.removesuffix_eq, if_pos (by rw [hs, hl, hyl, Bool.and_true, decide_eq_true_iff]; omega)]
    refine ext_tl ?_
    show ((tl (a ++ y)).drop 0).take ((a ++ y).length - y.length - 0) = tl a
    rw [hl, hyl, tl_append, List.drop_zero, show a.length + 1 - 1 - 0 = (tl a).length by rw [← len_tl]; omega, List.take_left]
  · unfold Txt.endswith
    rw [hs, hl, hyl, Bool.and_true, decide_eq_true_iff]
    omega
theorem suf_no {a y : Str} {c : Nat} (hy : tl y = [c]) (h : c ∉ tl a) : Txt.endswith a y = false := by
  have hyl : y.length = 1 := by rw [len_tl, hy]; rfl
  cases e : Txt.endswith a y with
  | false => rfl
  | true =>
    exfalso
    unfold Txt.endswith at e
    rw [Bool.and_eq_true, StrLaws.subAt_eq, hyl] at e
    have e2 : ((tl a).drop (a.length - 1)).take 1 = tl y := eq_of_beq e.2
    rw [hy] at e2
    have : c ∈ ((tl a).drop (a.length - 1)).take 1 := by rw [e2]; exact List.mem_singleton.mpr rfl
    exact h (List.mem_of_mem_drop (List.mem_of_mem_take this))
theorem split_one {x : Str} (h : 32 ∉ tl x) : Txt.split x " " = [x] := by
  have := TL.split_join (y := " ") (s := 32) (S := []) (by decide +kernel) (by decide +kernel) (parts := [x]) (by simp) (fun p hp => by rw [List.mem_singleton.mp hp]; exact h)
  rw [join_eq] at this
  exact this
theorem split_two {a b : Str} (h1 : 32 ∉ tl a) (h2 : 32 ∉ tl b) : Txt.split (a ++ " " ++ b) " " = [a, b] := by
  have := TL.split_join (y := " ") (s := 32) (S := []) (by decide +kernel) (by decide +kernel) (parts := [a, b]) (by simp) (fun p hp => by
    simp only [List.mem_cons, List.not_mem_nil, or_false] at hp
    rcases hp with rfl | rfl
    · exact h1
    · exact h2)
  rw [join_eq] at this
  exact this
theorem split_three {a b c : Str} (h1 : 32 ∉ tl a) (h2 : 32 ∉ tl b) (h3 : 32 ∉ tl c) : Txt.split (a ++ " " ++ b ++ " " ++ c) " " = [a, b, c] := by
  have := TL.split_join (y := " ") (s := 32) (S := []) (by decide +kernel) (by decide +kernel) (parts := [a, b, c]) (by simp) (fun p hp => by
    simp only [List.mem_cons, List.not_mem_nil, or_false] at hp
    rcases hp with rfl | rfl | rfl
    · exact h1
    · exact h2
    · exact h3)
  rw [join_eq] at this
  rw [show a ++ " " ++ b ++ " " ++ c = Str.join " " [a, b, c] from ?_]
  · exact this
  · show _ = a ++ " " ++ (b ++ " " ++ c)
    simp only [str_app_assoc]
/-! ### lines -/
noncomputable def shL (t b p q : Int) : Str := if p = 0 then shN t b else if t = 0 then shN p q ++ "s" else shN t b ++ " " ++ (if p < 0 then ("-" : Str) else "+") ++ " " ++ shN (p.natAbs : Int) q ++ "s"
noncomputable def lineW (x : Str) : List Str := if (Txt.split x " ").length = 1 then (if Txt.endswith x "s" = true then ["0", "+", x] else [x, "+", "0s"]) else Txt.split x " "
noncomputable def lineQ (x : Str) : Option (Int × Int × Int × Int) :=
  match lineW x with
  | [w0, w1, w2] =>
    match numQ w0, numQ (Txt.removesuffix w2 "s") with
    | some (t, b), some (p, q) => if shL t b (if w1 = "-" then -p else p) q = x then some (t, b, (if w1 = "-" then -p else p), q) else none
    | _, _ => none
  | _ => none
theorem Can.neg {t b : Int} (h : Can t b) : Can (-t) b := ⟨h.pos, by have := h.top; omega, h.bot, by have := h.cop; simpa using this⟩
theorem Can.abs {t b : Int} (h : Can t b) : Can (t.natAbs : Int) b := ⟨h.pos, by have := h.top; omega, h.bot, by have := h.cop; simpa using this⟩
theorem Can.zero {b : Int} (h : Can 0 b) : b = 1 := by
  have h1 := h.cop
  have h2 := h.pos
  simp at h1
  omega
theorem can01 : Can 0 1 := ⟨by decide, by decide +kernel, by decide +kernel, by decide⟩
theorem lineQ_iff {x : Str} {t b p q : Int} : lineQ x = some (t, b, p, q) ↔ x = shL t b p q ∧ Can t b ∧ Can p q := by
  constructor
  · intro h
    unfold lineQ at h
    split at h
    · rename_i w0 w1 w2 hw
      split at h
      · rename_i t0 b0 p0 q0 h1 h2
        have a1 := (numQ_iff.mp h1).2
        have a2 := (numQ_iff.mp h2).2
        have a3 : Can (if w1 = "-" then -p0 else p0) q0 := by
          split
          · exact a2.neg
          · exact a2
        generalize (if w1 = "-" then -p0 else p0) = p1 at h a3
        split at h
        · rename_i he
          have e := Option.some.inj h
          injection e with e1 e
          injection e with e2 e
          injection e with e3 e4
          subst e1 e2 e3 e4
          exact ⟨he.symm, a1, a3⟩
        · cases h
      · cases h
    · cases h
  · rintro ⟨rfl, c1, c2⟩
    have s0 : tl ("s" : Str) = [115] := by decide +kernel
    have f1 : 32 ∉ tl (shN t b) := shN_free c1.pos (by decide)
    have f2 : 32 ∉ tl (shN p q) := shN_free c2.pos (by decide)
    have f3 : 32 ∉ tl (shN (p.natAbs : Int) q) := shN_free c2.pos (by decide)
    have n01 : numQ "0" = some (0, 1) := numQ_iff.mpr ⟨by decide +kernel, can01⟩
    have n1 : numQ (shN t b) = some (t, b) := numQ_iff.mpr ⟨rfl, c1⟩
    have n2 : numQ (shN p q) = some (p, q) := numQ_iff.mpr ⟨rfl, c2⟩
    have n3 : numQ (shN (p.natAbs : Int) q) = some ((p.natAbs : Int), q) := numQ_iff.mpr ⟨rfl, c2.abs⟩
    by_cases hp : p = 0
    · subst hp
      have hq := c2.zero
      subst hq
      have e : shL t b 0 1 = shN t b := if_pos rfl
      have ew : lineW (shN t b) = [shN t b, "+", "0s"] := by
        unfold lineW
        rw [split_one f1, if_pos (show [shN t b].length = 1 from rfl), suf_no s0 (shN_free c1.pos (by decide)), if_neg (by simp)]
      have es : Txt.removesuffix "0s" "s" = "0" := (suf_yes "0" "s" 115 s0).1
      unfold lineQ
      rw [e, ew]
      dsimp only
      rw [n1, es, n01]
      dsimp only
      rw [if_neg (show ("+" : Str) ≠ "-" by decide +kernel), if_pos e]
    · by_cases ht : t = 0
      · subst ht
        have hb := c1.zero
        subst hb
        have e : shL 0 1 p q = shN p q ++ "s" := (if_neg hp).trans (if_pos rfl)
        have hf : 32 ∉ tl (shN p q ++ "s") := by
          rw [tl_append, s0]
          intro hm
          rcases List.mem_append.mp hm with hm | hm
          · exact f2 hm
          · simp at hm
        have ew : lineW (shN p q ++ "s") = [("0" : Str), "+", shN p q ++ "s"] := by
          unfold lineW
          rw [split_one hf, if_pos (show [shN p q ++ "s"].length = 1 from rfl), (suf_yes (shN p q) "s" 115 s0).2, if_pos rfl]
        unfold lineQ
        rw [e, ew]
        dsimp only
        rw [n01, (suf_yes (shN p q) "s" 115 s0).1, n2]
        dsimp only
        rw [if_neg (show ("+" : Str) ≠ "-" by decide +kernel), if_pos e]
      · have e : shL t b p q = shN t b ++ " " ++ (if p < 0 then ("-" : Str) else "+") ++ " " ++ shN (p.natAbs : Int) q ++ "s" := (if_neg hp).trans (if_neg ht)
        have e2 : shN t b ++ " " ++ (if p < 0 then ("-" : Str) else "+") ++ " " ++ shN (p.natAbs : Int) q ++ "s" = shN t b ++ " " ++ (if p < 0 then ("-" : Str) else "+") ++ " " ++ (shN (p.natAbs : Int) q ++ "s") := str_app_assoc _ _ _
        have fs : 32 ∉ tl (if p < 0 then ("-" : Str) else "+") := by
          split <;> decide +kernel
        have hf : 32 ∉ tl (shN (p.natAbs : Int) q ++ "s") := by
          rw [tl_append, s0]
          intro hm
          rcases List.mem_append.mp hm with hm | hm
          · exact f3 hm
          · simp at hm
        have ew : lineW (shL t b p q) = [shN t b, (if p < 0 then ("-" : Str) else "+"), shN (p.natAbs : Int) q ++ "s"] := by
          unfold lineW
          rw [e, e2, split_three f1 fs hf, if_neg (by simp)]
        unfold lineQ
        rw [ew]
        dsimp only
        rw [n1, (suf_yes (shN (p.natAbs : Int) q) "s" 115 s0).1, n3]
        dsimp only
        have es : (if (if p < 0 then ("-" : Str) else "+") = "-" then -((p.natAbs : Nat) : Int) else ((p.natAbs : Nat) : Int)) = p := by
          by_cases h : p < 0
          · rw [if_pos h, if_pos rfl]; omega
          · rw [if_neg h, if_neg (by decide +kernel)]; omega
        rw [es, if_pos rfl]
/-! ### stretches -/
noncomputable def shS (t b p q : Int) (hl hh : Bool) : Str := (if hl then ("[" : Str) else "(") ++ shN t b ++ " " ++ shN p q ++ (if hh then ("]" : Str) else ")")
noncomputable def okS (t b p q : Int) (hl hh : Bool) : Bool := decide (t * q < p * b) || (decide (t * q = p * b) && (hl && hh))
noncomputable def strQ (x : Str) : Option (Int × Int × Int × Int × Bool × Bool) :=
  if (cutS x none (some 1) = "[" ∨ cutS x none (some 1) = "(") ∧ (cutS x (some (-1)) none = "]" ∨ cutS x (some (-1)) none = ")") then
    match Txt.split (cutS x (some 1) (some (-1))) " " with
    | [w0, w1] =>
      match numQ w0, numQ w1 with
      | some (t, b), some (p, q) => if okS t b p q (Txt.startswith x "[") (Txt.endswith x "]") = true then some (t, b, p, q, Txt.startswith x "[", Txt.endswith x "]") else none
      | _, _ => none
    | _ => none
  else none
theorem cut_parts {x : Str} {c d : Nat} {m : List Nat} (h : tl x = c :: (m ++ [d])) : tl (cutS x none (some 1)) = [c] ∧ tl (cutS x (some (-1)) none) = [d] ∧ tl (cutS x (some 1) (some (-1))) = m := by
  have hl : x.length = m.length + 2 := by rw [len_tl, h]; simp
  have e : ∀ lo hi, tl (cutS x lo hi) = ((tl x).drop (HT.sIx x.length 0 lo)).take (HT.sIx x.length x.length hi - HT.sIx x.length 0 lo) := fun _ _ => rfl
  have i0 : HT.sIx x.length 0 none = 0 := rfl
  have i9 : HT.sIx x.length x.length none = x.length := rfl
  have i1 : ∀ d, HT.sIx x.length d (some 1) = 1 := fun d => by
    rw [show (1 : Int) = ((1 : Nat) : Int) from rfl, HT.sIx_nat]; omega
  have im : ∀ d, HT.sIx x.length d (some (-1)) = m.length + 1 := fun d => by
    rw [hl]
    unfold HT.sIx
    simp
    omega
  refine ⟨?_, ?_, ?_⟩
  · rw [e, i0, i1, h]; rfl
  · rw [e, im, i9, hl, h, List.drop_succ_cons, List.drop_left]
    show List.take (m.length + 2 - (m.length + 1)) [d] = [d]
    rw [show m.length + 2 - (m.length + 1) = 1 by omega]
    rfl
  · rw [e, i1, im, h, List.drop_succ_cons, List.drop_zero, show m.length + 1 - 1 = m.length by omega, List.take_left]
theorem start_one {x y : Str} {c e : Nat} {m : List Nat} (h : tl x = c :: m) (hy : tl y = [e]) : Txt.startswith x y = decide (c = e) := by
  have hyl : y.length = 1 := by rw [len_tl, hy]; rfl
  have hl : x.length = m.length + 1 := by rw [len_tl, h]; simp
  unfold Txt.startswith
  rw [StrLaws.subAt_eq, hyl, hl]
  have : (List.take 1 (List.drop 0 x.cps.toList) == y.cps.toList) = decide (c = e) := by
    show (List.take 1 (List.drop 0 (tl x)) == tl y) = _
    rw [h, hy]
    show ([c] == [e]) = _
    by_cases z : c = e
    · subst z; simp
    · rw [decide_eq_false z, beq_eq_false_iff_ne]
      intro q
      exact z (List.cons.inj q).1
  rw [this, decide_eq_true (by omega), Bool.true_and]
theorem end_one {x y : Str} {d e : Nat} {m : List Nat} (h : tl x = m ++ [d]) (hy : tl y = [e]) : Txt.endswith x y = decide (d = e) := by
  have hyl : y.length = 1 := by rw [len_tl, hy]; rfl
  have hl : x.length = m.length + 1 := by rw [len_tl, h]; simp
  unfold Txt.endswith
  rw [StrLaws.subAt_eq, hyl, hl]
  have : (List.take 1 (List.drop (m.length + 1 - 1) x.cps.toList) == y.cps.toList) = decide (d = e) := by
    show (List.take 1 (List.drop (m.length + 1 - 1) (tl x)) == tl y) = _
    rw [h, hy, show m.length + 1 - 1 = m.length by omega, List.drop_left]
    show ([d] == [e]) = _
    by_cases z : d = e
    · subst z; simp
    · rw [decide_eq_false z, beq_eq_false_iff_ne]
      intro q
      exact z (List.cons.inj q).1
  rw [this, decide_eq_true (by omega), Bool.true_and]
theorem shS_tl (t b p q : Int) (hl hh : Bool) : tl (shS t b p q hl hh) = (if hl then 91 else 40) :: (tl (shN t b ++ " " ++ shN p q) ++ [if hh then 93 else 41]) := by
  unfold shS
  rw [tl_append, tl_append, tl_append, tl_append, tl_append, tl_append]
  have e1 : tl (if hl = true then ("[" : Str) else "(") = [if hl then 91 else 40] := by cases hl <;> decide +kernel
  have e2 : tl (if hh = true then ("]" : Str) else ")") = [if hh then 93 else 41] := by cases hh <;> decide +kernel
  rw [e1, e2]
  simp
theorem strQ_of {t b p q : Int} {hl hh : Bool} (c1 : Can t b) (c2 : Can p q) (ok : okS t b p q hl hh = true) : strQ (shS t b p q hl hh) = some (t, b, p, q, hl, hh) := by
  have ht := shS_tl t b p q hl hh
  obtain ⟨k1, k2, k3⟩ := cut_parts ht
  have f1 : 32 ∉ tl (shN t b) := shN_free c1.pos (by decide)
  have f2 : 32 ∉ tl (shN p q) := shN_free c2.pos (by decide)
  have s1 : Txt.startswith (shS t b p q hl hh) "[" = hl := by
    rw [start_one ht (show tl ("[" : Str) = [91] by decide +kernel)]
    cases hl <;> rfl
  have s2 : Txt.endswith (shS t b p q hl hh) "]" = hh := by
    rw [end_one (m := (if hl then 91 else 40) :: tl (shN t b ++ " " ++ shN p q)) ht (show tl ("]" : Str) = [93] by decide +kernel)]
    cases hh <;> rfl
  have g1 : cutS (shS t b p q hl hh) none (some 1) = "[" ∨ cutS (shS t b p q hl hh) none (some 1) = "(" := by
    cases hl
    · exact .inr (ext_tl (k1.trans (by decide +kernel)))
    · exact .inl (ext_tl (k1.trans (by decide +kernel)))
  have g2 : cutS (shS t b p q hl hh) (some (-1)) none = "]" ∨ cutS (shS t b p q hl hh) (some (-1)) none = ")" := by
    cases hh
    · exact .inr (ext_tl (k2.trans (by decide +kernel)))
    · exact .inl (ext_tl (k2.trans (by decide +kernel)))
  unfold strQ
  rw [if_pos ⟨g1, g2⟩, ext_tl k3, split_two f1 f2]
  dsimp only
  rw [numQ_iff.mpr ⟨rfl, c1⟩, numQ_iff.mpr ⟨rfl, c2⟩]
  dsimp only
  rw [s1, s2, if_pos ok]
end Nt

namespace Ws
open PySem PySem.Spec PyProof.Rows L2
noncomputable abbrev sShN : Stmt := (PySem.Challenge.pw_whatspeed_k94_texts_that_are_none.main.body.getD 18 (.Pass ⟨0, 0, 0, 0⟩))
noncomputable abbrev NShN : List Str := ["number"]
noncomputable abbrev PShN : List Str := ["number"]
theorem scShN : FnScope NShN PShN (defScope sShN) := ⟨rfl, rfl, rfl, by decide +kernel, rfl, by decide +kernel, by decide +kernel⟩
noncomputable abbrev sShL : Stmt := (PySem.Challenge.pw_whatspeed_k94_texts_that_are_none.main.body.getD 19 (.Pass ⟨0, 0, 0, 0⟩))
noncomputable abbrev NShL : List Str := ["line", "base", "slope", "sign"]
noncomputable abbrev PShL : List Str := ["line"]
theorem scShL : FnScope NShL PShL (defScope sShL) := ⟨rfl, rfl, rfl, by decide +kernel, rfl, by decide +kernel, by decide +kernel⟩
noncomputable abbrev sShS : Stmt := (PySem.Challenge.pw_whatspeed_k94_texts_that_are_none.main.body.getD 20 (.Pass ⟨0, 0, 0, 0⟩))
noncomputable abbrev NShS : List Str := ["stretch", "opening", "closing"]
noncomputable abbrev PShS : List Str := ["stretch"]
theorem scShS : FnScope NShS PShS (defScope sShS) := ⟨rfl, rfl, rfl, by decide +kernel, rfl, by decide +kernel, by decide +kernel⟩
noncomputable abbrev sNumOf : Stmt := (PySem.Challenge.pw_whatspeed_k94_texts_that_are_none.main.body.getD 24 (.Pass ⟨0, 0, 0, 0⟩))
noncomputable abbrev NNumOf : List Str := ["text", "above", "stroke", "below", "top", "bottom", "number"]
noncomputable abbrev PNumOf : List Str := ["text"]
theorem scNumOf : FnScope NNumOf PNumOf (defScope sNumOf) := ⟨rfl, rfl, rfl, by decide +kernel, rfl, by decide +kernel, by decide +kernel⟩
/-! ### what is written -/
theorem can_sz {t b : Int} (h : Nt.Can t b) : Sz 110 t ∧ Sz 110 b := by
  have e : Nt.G30.toNat = 999999999999999999999999999999 := by decide +kernel
  have e2 : Nt.G30 = 999999999999999999999999999999 := by decide +kernel
  have h1 := h.top
  have h2 := h.bot
  have h3 := h.pos
  rw [e] at h1
  rw [e2] at h2
  have p : (2 : Nat) ^ 110 = 1298074214633706907132624082305024 := by decide +kernel
  unfold Sz
  rw [p]
  constructor <;> omega
theorem sz_log {i : Int} (h : Sz 110 i) : i.natAbs.log2 < 1920 := by
  have : i.natAbs < 2 ^ 1920 := Nat.lt_of_lt_of_le h (Nat.pow_le_pow_right (by decide) (by decide))
  by_cases z : i.natAbs = 0
  · rw [z]; decide
  · exact (Nat.log2_lt z).mpr this
theorem sz_len {i : Int} (h : Sz 110 i) : (Nt.nTx i).length ≤ 41 := Nt.int_len (k := 40) (by decide) (Nat.lt_of_lt_of_le h (by decide +kernel))
theorem len_app (x y : Str) : (x ++ y).length = x.length + y.length := by
  rw [TL.len_tl, TL.tl_append, List.length_append, ← TL.len_tl, ← TL.len_tl]
theorem shN_len {t b : Int} (h : Nt.Can t b) : (Nt.shN t b).length ≤ 83 := by
  obtain ⟨z1, z2⟩ := can_sz h
  have l1 := sz_len z1
  have l2 := sz_len z2
  unfold Nt.shN
  split
  · omega
  · rw [len_app, len_app]
    have : ("/" : Str).length = 1 := rfl
    omega
theorem js {x y : Str} {n m : Nat} (hx : x.length ≤ n) (hy : y.length ≤ m) : (x ++ y).length ≤ n + m := by rw [len_app]; omega
theorem jz {x : Str} {n : Nat} (h : x.length ≤ n) (k : n ≤ 1000) : x.length ≤ sizeLine := Nat.le_trans (Nat.le_trans h k) (by decide)
theorem e0 : Str.empty.length ≤ 0 := Nat.le_refl 0
theorem eb : (" " : Str).length ≤ 1 := by decide +kernel
theorem es1 : ("s" : Str).length ≤ 1 := by decide +kernel
theorem e1 : ("/" : Str).length ≤ 1 := by decide +kernel
theorem absI_eq (p : Int) : absI p = (p.natAbs : Int) := by unfold absI; split <;> omega
noncomputable def spShN (C : Addr) : Sp := fun vs H Q _ => ∃ (a : Addr) (t b : Int), vs = [.ref a] ∧ NumAt C H a t b ∧ Nt.Can t b ∧ Q (.str (Nt.shN t b)) H
noncomputable def spShL (C D : Addr) : Sp := fun vs H Q _ => ∃ (l a c : Addr) (t b p q : Int), vs = [.ref l] ∧ LineAt D H l a c ∧ NumAt C H a t b ∧ NumAt C H c p q ∧ Nt.Can t b ∧ Nt.Can p q ∧ ∀ H', Same H H' → Q (.str (Nt.shL t b p q)) H'
noncomputable def spShS (C D : Addr) : Sp := fun vs H Q _ => ∃ (s a c : Addr) (m : V) (t b p q : Int) (hl hh : Bool), vs = [.ref s] ∧ StrAt D H s (.ref a) (.ref c) (.bl hl) (.bl hh) m ∧ NumAt C H a t b ∧ NumAt C H c p q ∧ Nt.Can t b ∧ Nt.Can p q ∧ Q (.str (Nt.shS t b p q hl hh)) H
noncomputable def spNumOf (C : Addr) : Sp := fun vs H Q _ => ∃ x : Str, vs = [.str x] ∧ x.length ≤ 1000 ∧ (Nt.numQ x = none → ∀ H', Same H H' → Q .non H') ∧ (∀ t b, Nt.numQ x = some (t, b) → ∀ a H', H a = none → NumAt C H' a t b → Same H H' → Q (.ref a) H')
section
variable {P : Program} {w : World} {K : PySem.W.Frag} {mg : Str → Option Value} {base : Heap} {C D f : Addr} {fd : FuncData}
theorem ok_showN (F : L2.Fun K "show_number" "show_number" sShN f fd) (pT : PrpF P w K mg base 1 C "top" (spTop C)) (pB : PrpF P w K mg base 1 C "bottom" (spBot C)) : FnOk P w K mg base CX0 3 f fd PShN (spShN C) := by
  refine F.ok (k := 2) scShN (fun vs H Q E h => ?_) (fun cdv A outer s H vs Q E hr h => ?_)
  · obtain ⟨_, _, _, rfl, _⟩ := h
    rfl
  · have sc := scShN
    obtain ⟨a, t, b, rfl, ⟨dx, ea⟩, hc, q⟩ := h
    obtain ⟨z1, z2⟩ := can_sz hc
    have l1 := sz_len z1
    have l2 := sz_len z2
    refine ⟨_, (pss_one (ps_ret (pe_ifExp (pt_cmpR op_eq (pe_pr pB hr (by decide) (pv 0)) pe_int (nomark _)) (pe_joined1 (pe_fmt (pe_pr pT hr (by decide) (pv 0)))) (pe_joined (PJ.cons (pe_fmt (pe_pr pT hr (by decide) (pv 0))) (PJ.cons pe_str (PJ.cons (pe_fmt (pe_pr pB hr (by decide) (pv 0))) PJ.nil))))))), ?_⟩
    refine ⟨_, rfl, a, dx, _, rfl, ea, a, t, b, rfl, ⟨dx, ea⟩, rfl, _, rfl, if2 (fun hb => ?_) (fun hb => ?_)⟩
    · have hb1 : b = 1 := by have := of_decide_eq_true hb; injection this
      refine ⟨_, rfl, a, dx, _, rfl, ea, a, t, b, rfl, ⟨dx, ea⟩, .inr ⟨t, rfl, sz_log z1, ?_⟩⟩
      rw [show Nt.shN t b = Nt.nTx t from if_pos hb1] at q
      exact q
    · have hb1 : b ≠ 1 := fun z => by rw [z] at hb; cases hb
      refine ⟨_, rfl, a, dx, _, rfl, ea, a, t, b, rfl, ⟨dx, ea⟩, .inr ⟨t, rfl, sz_log z1, ?_⟩⟩
      rw [show Nt.shN t b = Nt.nTx t ++ "/" ++ Nt.nTx b from if_neg hb1] at q
      refine ⟨_, rfl, jz (js e0 l1) (by decide), _, rfl, jz (js (js e0 l1) e1) (by decide), _, rfl, a, dx, _, rfl, ea, a, t, b, rfl, ⟨dx, ea⟩, .inr ⟨b, rfl, sz_log z2, ?_⟩⟩
      refine ⟨_, rfl, jz (js (js (js e0 l1) e1) l2) (by decide), ?_⟩
      show Q (.str (Str.empty ++ Nt.nTx t ++ "/" ++ Nt.nTx b)) H
      rw [Nt.str_empty_app]
      exact q
theorem ok_showS (F : L2.Fun K "show_stretch" "show_stretch" sShS f fd) (p1 : PrpF P w K mg base 1 D "low" (spFld D fun l _ _ _ _ => l)) (p2 : PrpF P w K mg base 1 D "high" (spFld D fun _ h _ _ _ => h)) (p3 : PrpF P w K mg base 1 D "has_low" (spFld D fun _ _ hl _ _ => hl)) (p4 : PrpF P w K mg base 1 D "has_high" (spFld D fun _ _ _ hh _ => hh))
    (cSN : CalF P w K mg base 3 "show_number" (spShN C)) : FnOk P w K mg base CX0 4 f fd PShS (spShS C D) := by
  refine F.ok (k := 3) scShS (fun vs H Q E h => ?_) (fun cdv A outer s H vs Q E hr h => ?_)
  · obtain ⟨_, _, _, _, _, _, _, _, _, _, rfl, _⟩ := h
    rfl
  · have sc := scShS
    obtain ⟨s, a, c, m, t, b, p, q, hl, hh, rfl, ⟨ds, es⟩, ha, hc, c1, c2, k⟩ := h
    have st : StrAt D H s (.ref a) (.ref c) (.bl hl) (.bl hh) m := ⟨ds, es⟩
    have l1 := shN_len c1
    have l2 := shN_len c2
    refine ⟨_, (pss_cons (ps_set (i := 1) sc.nd rfl (Or.inl rfl) (pe_ifExp (pt_val (pe_pr p3 hr (by decide) (pv 0))) pe_str pe_str)) (pss_cons (ps_set (i := 2) sc.nd rfl (Or.inl rfl) (pe_ifExp (pt_val (pe_pr p4 hr (by decide) (pv 0))) pe_str pe_str)) (pss_one (ps_ret (pe_joined (PJ.cons (pe_fmt (pv 1)) (PJ.cons (pe_fmt (pe_f cSN hr (by decide) rfl (pa_cons (pe_pr p1 hr (by decide) (pv 0)) pa_nil))) (PJ.cons pe_str (PJ.cons (pe_fmt (pe_f cSN hr (by decide) rfl (pa_cons (pe_pr p2 hr (by decide) (pv 0)) pa_nil))) (PJ.cons (pe_fmt (pv 2)) PJ.nil)))))))))), ?_⟩
    have lo : ∀ z : Bool, (if z = true then ("[" : Str) else "(").length ≤ 1 := fun z => by cases z <;> decide +kernel
    have lc : ∀ z : Bool, (if z = true then ("]" : Str) else ")").length ≤ 1 := fun z => by cases z <;> decide +kernel
    have fin : ∀ (o cl : Str), o = (if hl = true then ("[" : Str) else "(") → cl = (if hh = true then ("]" : Str) else ")") → tRet (fun σ H Q => tJs [tFmt (tVar 1), tFmt (tF (spShN C) (tCons (tPr D (spFld D fun l x x_1 x_2 x_3 => l) (tVar 0)) tNil)), tC (V.str " "), tFmt (tF (spShN C) (tCons (tPr D (spFld D fun x h x_1 x_2 x_3 => h) (tVar 0)) tNil)), tFmt (tVar 2)] Str.empty σ H fun out H1 => Q (V.str out) H1) { nx := fun x H' => Q V.non H', rt := Q } [some (.ref s), some (.str o), some (.str cl)] H := fun o cl eo ec => by
      have lo1 : o.length ≤ 1 := by rw [eo]; exact lo hl
      have lc1 : cl.length ≤ 1 := by rw [ec]; exact lc hh
      refine ⟨_, rfl, .inl ⟨o, rfl, jz lo1 (by decide), _, rfl, jz (js e0 lo1) (by decide), ?_⟩⟩
      refine ⟨_, rfl, s, ds, _, rfl, es, s, _, _, _, _, _, rfl, st, a, t, b, rfl, ha, c1, .inl ⟨_, rfl, jz l1 (by decide), _, rfl, jz (js (js e0 lo1) l1) (by decide), _, rfl, jz (js (js (js e0 lo1) l1) eb) (by decide), ?_⟩⟩
      refine ⟨_, rfl, s, ds, _, rfl, es, s, _, _, _, _, _, rfl, st, c, p, q, rfl, hc, c2, .inl ⟨_, rfl, jz l2 (by decide), _, rfl, jz (js (js (js (js e0 lo1) l1) eb) l2) (by decide), _, rfl, .inl ⟨_, rfl, jz lc1 (by decide), _, rfl, jz (js (js (js (js (js e0 lo1) l1) eb) l2) lc1) (by decide), ?_⟩⟩⟩
      show Q (.str (Str.empty ++ o ++ Nt.shN t b ++ " " ++ Nt.shN p q ++ cl)) H
      rw [Nt.str_empty_app, eo, ec]
      exact k
    refine ⟨_, rfl, s, ds, _, rfl, es, s, _, _, _, _, _, rfl, st, _, rfl, if2 (fun h1 => ?_) (fun h1 => ?_)⟩
    · refine ⟨_, rfl, s, ds, _, rfl, es, s, _, _, _, _, _, rfl, st, _, rfl, if2 (fun h2 => ?_) (fun h2 => ?_)⟩
      · exact fin _ _ (by rw [h1]; rfl) (by rw [h2]; rfl)
      · exact fin _ _ (by rw [h1]; rfl) (by rw [h2]; rfl)
    · refine ⟨_, rfl, s, ds, _, rfl, es, s, _, _, _, _, _, rfl, st, _, rfl, if2 (fun h2 => ?_) (fun h2 => ?_)⟩
      · exact fin _ _ (by rw [h1]; rfl) (by rw [h2]; rfl)
      · exact fin _ _ (by rw [h1]; rfl) (by rw [h2]; rfl)
theorem ok_showL (F : L2.Fun K "show_line" "show_line" sShL f fd) (pLb : PrpF P w K mg base 1 D "base" (spLBase D)) (pLs : PrpF P w K mg base 1 D "slope" (spLSlope D)) (pT : PrpF P w K mg base 1 C "top" (spTop C)) (oB : OpnF P w K mg base 1 C "__bool__" (spNBool C)) (oAb : OpnF P w K mg base 4 C "__abs__" (spAbs C))
    (B : Bi mg) (cSN : CalF P w K mg base 3 "show_number" (spShN C)) : FnOk P w K mg base CX0 6 f fd PShL (spShL C D) := by
  refine F.ok (k := 5) scShL (fun vs H Q E h => ?_) (fun cdv A outer s H vs Q E hr h => ?_)
  · obtain ⟨_, _, _, _, _, _, _, rfl, _⟩ := h
    rfl
  · have sc := scShL
    obtain ⟨l, a, c, t, b, p, q, rfl, ⟨dl, el⟩, ha, hc, c1, c2, k⟩ := h
    have lt : LineAt D H l a c := ⟨dl, el⟩
    have l1 := shN_len c1
    have l2 := shN_len c2
    have l3 := shN_len c2.abs
    refine ⟨_, (pss_cons (ps_par (i := 1) (j := 2) (by rfl) sc.nd rfl rfl (by decide) rfl rfl (pa_cons (pe_pr pLb hr (by decide) (pv 0)) (pa_cons (pe_pr pLs hr (by decide) (pv 0)) pa_nil)) (by rfl)) (pss_cons (ps_if (pt_not (pt_tru (tru_own oB hr (by decide)) (pv 2))) (pss_one (ps_ret (pe_f cSN hr (by decide) rfl (pa_cons (pv 1) pa_nil)))) pss_nil) (pss_cons (ps_if (pt_not (pt_tru (tru_own oB hr (by decide)) (pv 1))) (pss_one (ps_ret (pe_joined (PJ.cons (pe_fmt (pe_f cSN hr (by decide) rfl (pa_cons (pv 2) pa_nil))) (PJ.cons pe_str PJ.nil))))) pss_nil) (pss_cons (ps_set (i := 3) sc.nd rfl (Or.inl rfl) (pe_ifExp (pt_cmpR op_lt (pe_pr pT hr (by decide) (pv 2)) pe_int (nomark _)) pe_str pe_str)) (pss_one (ps_ret (pe_joined (PJ.cons (pe_fmt (pe_f cSN hr (by decide) rfl (pa_cons (pv 1) pa_nil))) (PJ.cons pe_str (PJ.cons (pe_fmt (pv 3)) (PJ.cons pe_str (PJ.cons (pe_fmt (pe_f cSN hr (by decide) rfl (pa_cons (pe_callB (call_absO oAb hr (by decide)) (by rfl) B.abs (by decide +kernel) (pa_cons (pv 2) pa_nil)) pa_nil))) (PJ.cons pe_str PJ.nil))))))))))))), ?_⟩
    obtain ⟨da, ea⟩ := ha
    obtain ⟨dc, ec⟩ := hc
    have ha : NumAt C H a t b := ⟨da, ea⟩
    have hc : NumAt C H c p q := ⟨dc, ec⟩
    refine ⟨_, rfl, l, dl, _, rfl, el, l, a, c, rfl, lt, _, rfl, l, dl, _, rfl, el, l, a, c, rfl, lt, _, _, rfl, ?_⟩
    refine ⟨_, rfl, c, dc, _, rfl, ec, c, p, q, rfl, hc, _, rfl, if2 (fun h0 => ?_) (fun h0 => ?_)⟩
    · have hp : p = 0 := by simpa using h0
      refine ⟨_, rfl, a, t, b, rfl, ha, c1, ?_⟩
      have := k H (Same.refl H)
      rw [show Nt.shL t b p q = Nt.shN t b from if_pos hp] at this
      exact this
    · have hp : p ≠ 0 := by simpa using h0
      refine ⟨_, rfl, a, da, _, rfl, ea, a, t, b, rfl, ha, _, rfl, if2 (fun h1 => ?_) (fun h1 => ?_)⟩
      · have ht : t = 0 := by simpa using h1
        refine ⟨_, rfl, c, p, q, rfl, hc, c2, .inl ⟨_, rfl, jz l2 (by decide), _, rfl, jz (js e0 l2) (by decide), _, rfl, jz (js (js e0 l2) es1) (by decide), ?_⟩⟩
        have := k H (Same.refl H)
        rw [show Nt.shL t b p q = Nt.shN p q ++ "s" from (if_neg hp).trans (if_pos ht)] at this
        show Q (.str (Str.empty ++ Nt.shN p q ++ "s")) H
        rw [Nt.str_empty_app]
        exact this
      · have ht : t ≠ 0 := by simpa using h1
        have hlow := c2.abs.low
        have esh : Nt.shL t b p q = Nt.shN t b ++ " " ++ (if p < 0 then ("-" : Str) else "+") ++ " " ++ Nt.shN (p.natAbs : Int) q ++ "s" := (if_neg hp).trans (if_neg ht)
        have fin : ∀ sg : Str, sg = (if p < 0 then ("-" : Str) else "+") → ∀ (G : Hp), G = H → tRet (fun σ H Q => tJs [tFmt (tF (spShN C) (tCons (tVar 1) tNil)), tC (V.str " "), tFmt (tVar 3), tC (V.str " "), tFmt (tF (spShN C) (tCons (tCB (fun xs H Q => ∃ a dx fs, xs = [V.ref a] ∧ H a = some (.ins C dx fs) ∧ spAbs C [.ref a] H Q E0) (tCons (tVar 2) tNil)) tNil)), tC (V.str "s")] Str.empty σ H fun out H1 => Q (V.str out) H1) { nx := fun x H' => Q V.non H', rt := Q } [some (.ref l), some (.ref a), some (.ref c), some (.str sg)] G := fun sg esg G eG => by
          subst eG
          have lsg : sg.length ≤ 1 := by rw [esg]; split <;> decide +kernel
          refine ⟨_, rfl, a, t, b, rfl, ha, c1, .inl ⟨_, rfl, jz l1 (by decide), _, rfl, jz (js e0 l1) (by decide), _, rfl, jz (js (js e0 l1) eb) (by decide), _, rfl, .inl ⟨sg, rfl, jz lsg (by decide), _, rfl, jz (js (js (js e0 l1) eb) lsg) (by decide), _, rfl, jz (js (js (js (js e0 l1) eb) lsg) eb) (by decide), ?_⟩⟩⟩
          refine ⟨_, rfl, c, dc, _, rfl, ec, c, p, q, rfl, hc, by have := c2.pos; omega, (can_sz c2).2.mono (by decide), fun x H' nx hx sx => ?_⟩
          have hx2 : NumAt C H' x (p.natAbs : Int) q := by
            have e1 : nT (p.natAbs : Int) q = (p.natAbs : Int) := hlow.1
            have e2 : nB (p.natAbs : Int) q = q := hlow.2
            have e3 : absI p = (p.natAbs : Int) := absI_eq p
            rw [e3, e1, e2] at hx
            exact hx
          refine ⟨x, _, q, rfl, hx2, c2.abs, .inl ⟨_, rfl, jz l3 (by decide), _, rfl, jz (js (js (js (js (js e0 l1) eb) lsg) eb) l3) (by decide), _, rfl, jz (js (js (js (js (js (js e0 l1) eb) lsg) eb) l3) es1) (by decide), ?_⟩⟩
          have := k H' sx
          rw [esh, ← esg] at this
          show Q (.str (Str.empty ++ Nt.shN t b ++ " " ++ sg ++ " " ++ Nt.shN (p.natAbs : Int) q ++ "s")) H'
          rw [Nt.str_empty_app]
          exact this
        refine ⟨_, rfl, c, dc, _, rfl, ec, c, p, q, rfl, hc, _, _, rfl, rfl, _, rfl, if2 (fun h2 => ?_) (fun h2 => ?_)⟩
        · exact fin _ (by rw [if_pos (of_decide_eq_true h2)]) _ rfl
        · exact fin _ (by rw [if_neg (of_decide_eq_false h2)]) _ rfl
theorem ok_numof (F : L2.Fun K "number_of" "number_of" sNumOf f fd) (b : Binds K fd PNumOf []) (gGr : ∃ t, mg "GREATEST" = some (.int Nt.G30 t)) (cRw : CalF P w K mg base 2 "read_whole" spRWh) (mN : MakF P w K mg base 2 "Number" C (spNum C)) (cSN : CalF P w K mg base 3 "show_number" (spShN C)) : FnR P w K mg base CX0 4 f (spNumOf C) := by
  refine fnR_of (k := 3) F b scNumOf (fun vs H Q E h => ?_) (fun cdv A outer s H vs Q E hr h => ?_)
  · obtain ⟨_, rfl, _⟩ := h
    rfl
  · have sc := scNumOf
    obtain ⟨x, rfl, hx, k0, k1⟩ := h
    obtain ⟨tG, gGr⟩ := gGr
    refine ⟨_, (pss_cons (ps_asg (pe_partition (pe_m1 PySem.F.slot_str_removeprefix PySem.F.type_str_removeprefix mt_removeprefix (pv 0) pe_str) pe_str) (pg_tup rfl (pgs_cons (pg_name (i := 1) sc.nd rfl (Or.inl rfl)) (pgs_cons (pg_name (i := 2) sc.nd rfl (Or.inl rfl)) (pgs_cons (pg_name (i := 3) sc.nd rfl (Or.inl rfl)) pgs_nil))))) (pss_cons (ps_set (i := 4) sc.nd rfl (Or.inl rfl) (pe_f cRw hr (by decide) rfl (pa_cons (pv 1) (pa_cons pe_int (pa_cons (pe_glob (v := .int Nt.G30) rfl gGr ⟨_, rfl⟩) pa_nil))))) (pss_cons (ps_set (i := 5) sc.nd rfl (Or.inl rfl) (pe_ifExp (pt_tru tru_ok (pv 2)) (pe_f cRw hr (by decide) rfl (pa_cons (pv 3) (pa_cons pe_int (pa_cons (pe_glob (v := .int Nt.G30) rfl gGr ⟨_, rfl⟩) pa_nil)))) pe_int)) (pss_cons (ps_if (PW.pt (pw_or (pt_cmpR op_isN (pv 4) pe_non (nomark _)) (pw_or1 (pt_cmpR op_isN (pv 5) pe_non (nomark _))))) (pss_one (ps_ret pe_non)) pss_nil) (pss_cons (ps_set (i := 6) sc.nd rfl (Or.inl rfl) (pe_mk mN hr (by decide) rfl (pa_cons (pe_ifExp (pt_val (pe_m1 PySem.F.slot_str_startswith PySem.F.type_str_startswith mt_startswith (pv 0) pe_str)) (pe_un un_neg (pv 4)) (pv 4)) (pa_cons (pv 5) pa_nil)))) (pss_one (ps_ret (pe_ifExp (pt_cmpR op_eq (pe_f cSN hr (by decide) rfl (pa_cons (pv 6) pa_nil)) (pv 0) (nomark _)) (pv 6) pe_non)))))))), ?_⟩
    have ly := Nt.rp_len x "-"
    refine ⟨_, rfl, ⟨_, rfl⟩, x, "-", rfl, rfl, Nat.le_trans hx (by decide), ⟨_, rfl⟩, Txt.removeprefix x "-", "/", rfl, rfl, rfl, Nat.le_trans ly (Nat.le_trans hx (by decide)), fun T nT => ?_⟩
    have lp := Nt.part_len (Txt.removeprefix x "-") "/"
    have s1 := Same.new (o := .tup [V.str (Txt.partition (Txt.removeprefix x "-") "/").1, V.str (Txt.partition (Txt.removeprefix x "-") "/").2.1, V.str (Txt.partition (Txt.removeprefix x "-") "/").2.2]) nT
    have hq0 : Nt.numQ x = (let pr := Txt.partition (Txt.removeprefix x "-") "/"; match Nt.whQ pr.1 0 Nt.G30, (if pr.2.1 = Str.empty then some 1 else Nt.whQ pr.2.2 1 Nt.G30) with
      | some t, some b => if Nt.shN (Ws.nT (if Txt.startswith x "-" = true then -t else t) b) (nB (if Txt.startswith x "-" = true then -t else t) b) = x then some (Ws.nT (if Txt.startswith x "-" = true then -t else t) b, nB (if Txt.startswith x "-" = true then -t else t) b) else none
      | _, _ => none) := rfl
    have lp1 : (Txt.partition (Txt.removeprefix x "-") "/").1.length ≤ 1000 := by omega
    have lp2 : (Txt.partition (Txt.removeprefix x "-") "/").2.1.length ≤ 1000 := Nat.le_trans lp.2.1 (by decide)
    have lp3 : (Txt.partition (Txt.removeprefix x "-") "/").2.2.length ≤ 1000 := by omega
    refine ⟨T, _, rfl, .inl (.inl upd_same), rfl, _, _, rfl, _, _, rfl, _, _, rfl, rfl, ?_⟩
    generalize Txt.partition (Txt.removeprefix x "-") "/" = pr at s1 hq0 lp1 lp2 lp3 ⊢
    generalize upd H T _ = H1 at s1 ⊢
    dsimp only at hq0
    have G0 : (0 : Int) ≤ Nt.G30 := by decide +kernel
    have G0b : (1 : Int) ≤ Nt.G30 := by decide +kernel
    have G1 : Nt.G30.natAbs < 10 ^ 40 := by decide +kernel
    refine ⟨_, rfl, pr.1, 0, Nt.G30, rfl, Nat.le_trans lp1 (by decide), by decide, G0, G1, fun H2 s2 => ?_⟩
    generalize hw1 : Nt.whQ pr.1 0 Nt.G30 = w1 at hq0 ⊢
    generalize hst : (if pr.2.1 = Str.empty then some 1 else Nt.whQ pr.2.2 1 Nt.G30) = w2 at hq0
    have fin : ∀ (G : Hp), Same H G → tSeq (tIfS (tOr (tTest (tOp (fun x y H Q => y = V.non ∧ Q (V.bl (decide (x = V.non))) H) (tVar 4) (tC V.non))) (tTest (tOp (fun x y H Q => y = V.non ∧ Q (V.bl (decide (x = V.non))) H) (tVar 5) (tC V.non)))) (tRet (tC V.non)) tNext)
        (tSeq (tAsg (tMk C (spNum C) (tCons (tIf (tB (tM1 (fun x xs H Q => ∃ a b, x = V.str a ∧ xs = [V.str b] ∧ Q (V.bl (Txt.startswith a b)) H) (tVar 0) (tC (V.str "-")))) (tUn (rU fun i => V.int (-i)) (tVar 4)) (tVar 4)) (tCons (tVar 5) tNil))) (gName 6))
          (tRet (tIf (tTest (tOp rEq (tF (spShN C) (tCons (tVar 6) tNil)) (tVar 0))) (tVar 6) (tC V.non)))) { nx := fun x H' => Q V.non H', rt := Q }
        [some (.str x), some (.str pr.1), some (.str pr.2.1), some (.str pr.2.2), some (oI w1), some (oI w2), none] G := fun G sG => by
      cases w1 with
      | none =>
        refine ⟨_, rfl, rfl, _, rfl, ifT rfl (ifT rfl ?_)⟩
        exact k0 (by rw [hq0]) G sG
      | some t0 =>
        have a1 := (Nt.whQ_iff (by decide)).mp hw1
        refine ⟨_, rfl, rfl, _, rfl, ifF rfl ?_⟩
        cases w2 with
        | none =>
          refine ⟨_, rfl, rfl, _, rfl, ifT rfl ?_⟩
          exact k0 (by rw [hq0]) G sG
        | some b0 =>
          have a2 : 1 ≤ b0 ∧ b0 ≤ Nt.G30 := by
            split at hst
            · cases hst; decide +kernel
            · exact ((Nt.whQ_iff (by decide)).mp hst).2
          refine ⟨_, rfl, rfl, _, rfl, ifF rfl ?_⟩
          dsimp only at hq0
          have fin2 : ∀ s0 : Int, s0 = (if Txt.startswith x "-" = true then -t0 else t0) → ∀ u du, G u = none → G du = none → du ≠ u → spNum C [.ref u, .int s0, .int b0] (upd (upd G du (.own u)) u (.ins C du [])) (fun v H2 => v = .non ∧ tRet (tIf (tTest (tOp rEq (tF (spShN C) (tCons (tVar 6) tNil)) (tVar 0))) (tVar 6) (tC V.non)) { nx := fun x H' => Q V.non H', rt := Q }
              [some (.str x), some (.str pr.1), some (.str pr.2.1), some (.str pr.2.2), some (.int t0), some (.int b0), some (.ref u)] H2) E0 := fun s0 es u du nu ndu hne => by
            rw [← es] at hq0
            have hsn : s0.natAbs ≤ Nt.G30.toNat := by rw [es]; split <;> omega
            have hcan := Nt.can_of hsn a2.1 a2.2
            have hc1 : Nt.Can b0 1 := ⟨by decide, by omega, G0b, by simp⟩
            refine ⟨u, du, s0, b0, rfl, by omega, (can_sz hc1).1.mono (by decide), upd_same, fun H7 h7 k7 => ⟨rfl, ?_⟩⟩
            have j7 : Same G H7 := Same.mk nu ndu k7
            have nuH : H u = none := by
              cases e : H u with
              | none => rfl
              | some o => rw [sG _ _ e] at nu; cases nu
            refine ⟨_, rfl, u, _, _, rfl, h7, hcan, _, rfl, rfl, _, rfl, if2 (fun hz => ?_) (fun hz => ?_)⟩
            · have hz : Nt.shN (Ws.nT s0 b0) (nB s0 b0) = x := by have := of_decide_eq_true hz; injection this
              rw [if_pos hz] at hq0
              exact ⟨_, rfl, k1 _ _ hq0 u H7 nuH h7 (sG.trans j7)⟩
            · have hz : ¬ Nt.shN (Ws.nT s0 b0) (nB s0 b0) = x := fun z => of_decide_eq_false hz (congrArg V.str z)
              rw [if_neg hz] at hq0
              exact k0 hq0 H7 (sG.trans j7)
          refine ⟨_, rfl, ⟨_, rfl⟩, x, "-", rfl, rfl, _, rfl, if2 (fun hz => ?_) (fun hz => ?_)⟩
          · exact ⟨_, rfl, t0, rfl, _, rfl, fin2 (-t0) (by rw [if_pos hz])⟩
          · exact ⟨_, rfl, _, rfl, fin2 t0 (by rw [hz]; rfl)⟩
    refine ⟨_, rfl, _, ⟨Nat.le_trans lp2 (by decide), rfl⟩, if2 (fun hz => ?_) (fun hz => ?_)⟩
    · have hne : pr.2.1 ≠ Str.empty := fun z => by rw [z] at hz; cases hz
      rw [if_neg hne] at hst
      refine ⟨_, rfl, pr.2.2, 1, Nt.G30, rfl, Nat.le_trans lp3 (by decide), by decide, G0, G1, fun H3 s3 => ?_⟩
      rw [hst]
      exact fin H3 ((s1.trans s2).trans s3)
    · have he : pr.2.1 = Str.empty := by
        have h0 : pr.2.1.length = 0 := by simpa using hz
        exact TL.ext_tl ((TL.len0_tl _).mp h0)
      rw [if_pos he] at hst
      subst hst
      exact fin H2 (s1.trans s2)
end
end Ws

namespace Ws
open PySem PySem.Spec PyProof.Rows L2
noncomputable abbrev sLineOf : Stmt := (PySem.Challenge.pw_whatspeed_k94_texts_that_are_none.main.body.getD 26 (.Pass ⟨0, 0, 0, 0⟩))
noncomputable abbrev NLineOf : List Str := ["text", "words", "base", "slope", "line"]
noncomputable abbrev PLineOf : List Str := ["text"]
theorem scLineOf : FnScope NLineOf PLineOf (defScope sLineOf) := ⟨rfl, rfl, rfl, by decide +kernel, rfl, by decide +kernel, by decide +kernel⟩
noncomputable abbrev sStrOf : Stmt := (PySem.Challenge.pw_whatspeed_k94_texts_that_are_none.main.body.getD 27 (.Pass ⟨0, 0, 0, 0⟩))
noncomputable abbrev NStrOf : List Str := ["text", "words", "low", "high"]
noncomputable abbrev PStrOf : List Str := ["text"]
theorem scStrOf : FnScope NStrOf PStrOf (defScope sStrOf) := ⟨rfl, rfl, rfl, by decide +kernel, rfl, by decide +kernel, by decide +kernel⟩
/-! ### what is read -/
noncomputable def spLineOf (C D : Addr) : Sp := fun vs H Q _ => ∃ x : Str, vs = [.str x] ∧ x.length ≤ 900 ∧ (Nt.lineQ x = none → ∀ H', Same H H' → Q .non H') ∧
  (∀ t b p q, Nt.lineQ x = some (t, b, p, q) → ∀ l a c H', H l = none → LineAt D H' l a c → NumAt C H' a t b → NumAt C H' c p q → Same H H' → Q (.ref l) H')
noncomputable def spStrOf (C D : Addr) : Sp := fun vs H Q _ => ∃ x : Str, vs = [.str x] ∧ x.length ≤ 900 ∧ (Nt.strQ x = none → ∀ H', Same H H' → Q .non H') ∧
  (∀ t b p q hl hh, Nt.strQ x = some (t, b, p, q, hl, hh) → ∀ s a c m H', H s = none → StrAt D H' s (.ref a) (.ref c) (.bl hl) (.bl hh) m → NumAt C H' a t b → NumAt C H' c p q → Same H H' → Q (.ref s) H')
theorem in_strs (x : Str) (l : List Str) : inV (.str x) (l.map V.str) = decide (x ∈ l) := by
  unfold inV
  rw [List.any_map, Bool.eq_iff_iff, List.any_eq_true, decide_eq_true_iff]
  constructor
  · rintro ⟨y, hy, e⟩
    have e' : y = x := by simpa [eqV] using e
    exact e' ▸ hy
  · exact fun h => ⟨x, h, by simp [eqV]⟩
theorem EndIs.ne {K : PySem.W.Frag} {C u : Addr} {H : Hp} {v : V} (n : H u = none) : ∀ {A : EndK}, EndIs K C H v A → v ≠ .ref u
  | .num p q, ⟨a, e, ⟨dx, h⟩, _⟩, z => by
    rw [e] at z
    injection z with z
    rw [z, n] at h
    cases h
  | .odd, ⟨_, h⟩, z => by
    subst z
    rcases h with h | ⟨a, o, e, h⟩
    · cases h
    · injection e with e
      rw [← e, n] at h
      cases h
theorem free_same {H G : Hp} {a : Addr} (s : Same H G) (n : G a = none) : H a = none := by
  cases e : H a with
  | none => rfl
  | some o => rw [s _ _ e] at n; cases n
section
variable {P : Program} {w : World} {K : PySem.W.Frag} {mg : Str → Option Value} {base : Heap} {C D Cs f : Addr} {fd : FuncData}
theorem ok_lineof (F : L2.Fun K "_line_of" "_line_of" sLineOf f fd) (b : Binds K fd PLineOf []) (B : Bi mg) (cNo : CalF P w K mg base 4 "number_of" (spNumOf C)) (oN : OpnF P w K mg base 4 C "__neg__" (spNeg C)) (mL : MakF P w K mg base 1 "Line" D (spLine D)) (cSL : CalF P w K mg base 6 "show_line" (spShL C D)) : FnR P w K mg base CX0 7 f (spLineOf C D) := by
  refine fnR_of (k := 6) F b scLineOf (fun vs H Q E h => ?_) (fun cdv A outer s H vs Q E hr h => ?_)
  · obtain ⟨_, rfl, _⟩ := h
    rfl
  · have sc := scLineOf
    obtain ⟨x, rfl, hx, k0, k1⟩ := h
    have rest : ∃ t, PSs (cxOf CX0 P w K mg base NLineOf "_line_of" (defScope sLineOf) f cdv A outer s H E).nox (List.drop 2 (defBody sLineOf)) t ∧ ∀ (ws : List Str) (wp : Addr) (G : Hp), Same H G → G wp = some (.lst (ws.map V.str)) → (∀ z ∈ ws, z.length ≤ 900) → Nt.lineW x = ws →
        t { nx := fun _ H' => Q .non H', rt := Q } [some (.str x), some (.ref wp), none, none, none] G := by
      refine ⟨_, (pss_cons (ps_if (pt_cmpR op_ne (pe_callB call_len_seq (by rfl) B.len PySem.boot_len (pa_cons (pv 1) pa_nil)) pe_int (nomark _)) (pss_one (ps_ret pe_non)) pss_nil) (pss_cons (ps_par (i := 2) (j := 3) (by rfl) sc.nd rfl rfl (by decide) rfl rfl (pa_cons (pe_f cNo hr (by decide) rfl (pa_cons (pe_ix ix_list (pv 1) pe_int (fun _ _ => rfl)) pa_nil)) (pa_cons (pe_f cNo hr (by decide) rfl (pa_cons (pe_m1 PySem.F.slot_str_removesuffix PySem.F.type_str_removesuffix mt_removesuffix (pe_ix ix_list (pv 1) pe_int (fun _ _ => rfl)) pe_str) pa_nil)) pa_nil)) (by rfl)) (pss_cons (ps_if (PW.pt (pw_or (pt_cmpR op_isN (pv 2) pe_non (nomark _)) (pw_or1 (pt_cmpR op_isN (pv 3) pe_non (nomark _))))) (pss_one (ps_ret pe_non)) pss_nil) (pss_cons (ps_set (i := 4) sc.nd rfl (Or.inl rfl) (pe_mk mL hr (by decide) rfl (pa_cons (pv 2) (pa_cons (pe_ifExp (pt_cmpR op_eq (pe_ix ix_list (pv 1) pe_int (fun _ _ => rfl)) pe_str (nomark _)) (pe_un (un_negO oN hr (by decide)) (pv 3)) (pv 3)) pa_nil)))) (pss_one (ps_ret (pe_ifExp (pt_cmpR op_eq (pe_f cSL hr (by decide) rfl (pa_cons (pv 4) pa_nil)) (pv 0) (nomark _)) (pv 4) pe_non))))))), ?_⟩
      intro ws wp G sG hw hwl hW
      refine ⟨_, rfl, wp, _, rfl, .inl (SqL.of hw), rfl, _, rfl, if2 (fun hz => ?_) (fun hz => ?_)⟩
      · refine k0 ?_ G sG
        unfold Nt.lineQ
        rw [hW]
        split
        · cases hz
        · rfl
      · have hl : ws.length = 3 := by
          have h1 : ((ws.length : Nat) : Int) = 3 := by simpa using hz
          omega
        obtain ⟨w0, w1, w2, rfl⟩ : ∃ w0 w1 w2, ws = [w0, w1, w2] := by
          match ws, hl with
          | [a, b, c], _ => exact ⟨a, b, c, rfl⟩
        have hq : Nt.lineQ x = (match Nt.numQ w0, Nt.numQ (Txt.removesuffix w2 "s") with
          | some (t, b), some (p, q) => if Nt.shL t b (if w1 = "-" then -p else p) q = x then some (t, b, (if w1 = "-" then -p else p), q) else none
          | _, _ => none) := by
          unfold Nt.lineQ
          rw [hW] <;> rfl
        have l0 := hwl w0 (by simp)
        have l2 := hwl w2 (by simp)
        have l3 := Nat.le_trans (Nt.rs_len w2 "s") l2
        refine ⟨_, rfl, wp, _, 0, .str w0, rfl, rfl, SqL.of hw, rfl, w0, rfl, by omega, fun n0 H1 s1 => ?_, fun t b n0 a H1 na ha s1 => ?_⟩
        · rw [n0] at hq
          refine ⟨_, rfl, wp, _, 2, .str w2, rfl, rfl, SqL.of (s1 _ _ hw), rfl, ⟨_, rfl⟩, w2, "s", rfl, rfl, Nat.le_trans l2 (by decide), _, rfl, by omega, fun n1 H2 s2 => ?_, fun p q n1 c H2 nc hc s2 => ?_⟩
          · refine ⟨_, _, rfl, _, rfl, rfl, _, rfl, ifT rfl (ifT rfl ?_)⟩
            exact k0 hq H2 ((sG.trans s1).trans s2)
          · refine ⟨_, _, rfl, _, rfl, rfl, _, rfl, ifT rfl (ifT rfl ?_)⟩
            exact k0 hq H2 ((sG.trans s1).trans s2)
        · rw [n0] at hq
          refine ⟨_, rfl, wp, _, 2, .str w2, rfl, rfl, SqL.of (s1 _ _ hw), rfl, ⟨_, rfl⟩, w2, "s", rfl, rfl, Nat.le_trans l2 (by decide), _, rfl, by omega, fun n1 H2 s2 => ?_, fun p q n1 c H2 nc hc s2 => ?_⟩
          · rw [n1] at hq
            refine ⟨_, _, rfl, _, rfl, rfl, _, rfl, ifF rfl ⟨_, rfl, rfl, _, rfl, ifT rfl ?_⟩⟩
            exact k0 hq H2 ((sG.trans s1).trans s2)
          · rw [n1] at hq
            dsimp only at hq
            refine ⟨_, _, rfl, _, rfl, rfl, _, rfl, ifF rfl ⟨_, rfl, rfl, _, rfl, ifF rfl ?_⟩⟩
            have c1 := (Nt.numQ_iff.mp n0).2
            have c2 := (Nt.numQ_iff.mp n1).2
            have fin : ∀ (p' : Int) (c' : Addr) (G' : Hp), Same H G' → NumAt C G' a t b → NumAt C G' c' p' q → p' = (if w1 = "-" then -p else p) → ∀ l dl, G' l = none → G' dl = none → dl ≠ l → spLine D [.ref l, .ref a, .ref c'] (upd (upd G' dl (.own l)) l (.ins D dl [])) (fun v H2 => v = .non ∧ tRet (tIf (tTest (tOp rEq (tF (spShL C D) (tCons (tVar 4) tNil)) (tVar 0))) (tVar 4) (tC V.non)) { nx := fun x H' => Q V.non H', rt := Q }
                [some (.str x), some (.ref wp), some (.ref a), some (.ref c), some (.ref l)] H2) E0 := fun p' c' G' sG' ha hc' ep l dl nl ndl hne => by
              rw [← ep] at hq
              have c3 : Nt.Can p' q := by
                rw [ep]
                split
                · exact c2.neg
                · exact c2
              refine ⟨l, dl, a, c', rfl, upd_same, fun H4 h4 k4 => ⟨rfl, ?_⟩⟩
              have j4 : Same G' H4 := Same.mk nl ndl k4
              have lA := ha.same j4
              have lC := hc'.same j4
              refine ⟨_, rfl, l, a, c', t, b, p', q, rfl, h4, lA, lC, c1, c3, fun H5 s5 => ⟨_, rfl, rfl, _, rfl, if2 (fun hy => ?_) (fun hy => ?_)⟩⟩
              · have hy : Nt.shL t b p' q = x := by have := of_decide_eq_true hy; injection this
                rw [if_pos hy] at hq
                exact ⟨_, rfl, k1 _ _ _ _ hq l a c' H5 (free_same sG' nl) (let ⟨dx, e⟩ := h4; ⟨dx, s5 _ _ e⟩) (lA.same s5) (lC.same s5) ((sG'.trans j4).trans s5)⟩
              · have hy : ¬ Nt.shL t b p' q = x := fun z => of_decide_eq_false hy (congrArg V.str z)
                rw [if_neg hy] at hq
                exact k0 hq H5 ((sG'.trans j4).trans s5)
            have sH2 := (sG.trans s1).trans s2
            refine ⟨_, rfl, _, rfl, wp, _, 1, .str w1, rfl, rfl, SqL.of (s2 _ _ (s1 _ _ hw)), rfl, rfl, _, rfl, if2 (fun hy => ?_) (fun hy => ?_)⟩
            · have hy : w1 = "-" := by have := of_decide_eq_true hy; injection this
              obtain ⟨dc, ec⟩ := hc
              refine ⟨_, rfl, c, dc, _, rfl, ec, c, p, q, rfl, ⟨dc, ec⟩, by have := c2.pos; omega, (can_sz c2).2.mono (by decide), fun y H3 ny hy3 s3 => ?_⟩
              have e1 : nT (-p) q = -p := c2.neg.low.1
              have e2 : nB (-p) q = q := c2.neg.low.2
              rw [e1, e2] at hy3
              exact fin (-p) y H3 (sH2.trans s3) ((ha.same s2).same s3) hy3 (by rw [if_pos hy])
            · have hy : ¬ w1 = "-" := fun z => of_decide_eq_false hy (congrArg V.str z)
              exact ⟨_, rfl, fin p c H2 sH2 (ha.same s2) hc (by rw [if_neg hy])⟩
    obtain ⟨t, hbody, ht⟩ := rest
    refine ⟨_, (pss_cons (ps_set (i := 1) sc.nd rfl (Or.inl rfl) (pe_split (pv 0) pe_str)) (pss_cons (ps_if (pt_cmpR op_eq (pe_callB call_len_seq (by rfl) B.len PySem.boot_len (pa_cons (pv 1) pa_nil)) pe_int (nomark _)) (pss_one (ps_set (i := 1) sc.nd rfl (Or.inl rfl) (pe_ifExp (pt_val (pe_m1 PySem.F.slot_str_endswith PySem.F.type_str_endswith mt_endswith (pv 0) pe_str)) (pe_lst (pa_cons pe_str (pa_cons pe_str (pa_cons (pv 0) pa_nil)))) (pe_lst (pa_cons (pv 0) (pa_cons pe_str (pa_cons pe_str pa_nil))))))) pss_nil) hbody)), ?_⟩
    refine ⟨_, rfl, ⟨_, rfl⟩, x, " ", rfl, rfl, rfl, by have := Nat.add_le_add_right hx 2; exact Nat.le_trans this (by decide), fun wp nwp => ?_⟩
    have s1 := Same.new (o := .lst ((Txt.split x " ").map V.str)) nwp
    have e1 := upd_same (H := H) (a := wp) (o := .lst ((Txt.split x " ").map V.str))
    generalize upd H wp (.lst ((Txt.split x " ").map V.str)) = H1 at s1 e1 ⊢
    refine ⟨_, rfl, wp, _, rfl, .inl (SqL.of e1), rfl, _, rfl, if2 (fun hz => ?_) (fun hz => ?_)⟩
    · have hl : (Txt.split x " ").length = 1 := by
        have h1 : (((Txt.split x " ").length : Nat) : Int) = 1 := by simpa using hz
        omega
      refine ⟨_, rfl, ⟨_, rfl⟩, x, "s", rfl, rfl, _, rfl, if2 (fun hy => ?_) (fun hy => ?_)⟩
      · refine ⟨_, rfl, by show 3 ≤ sizeLine; decide, fun l2 n2 => ?_⟩
        refine ht ["0", "+", x] l2 _ (s1.trans (Same.new n2)) upd_same (fun z hz => ?_) ?_
        · simp only [List.mem_cons, List.not_mem_nil, or_false] at hz
          rcases hz with rfl | rfl | rfl
          · decide +kernel
          · decide +kernel
          · exact hx
        · unfold Nt.lineW
          rw [if_pos hl, if_pos hy]
      · refine ⟨_, rfl, by show 3 ≤ sizeLine; decide, fun l2 n2 => ?_⟩
        refine ht [x, "+", "0s"] l2 _ (s1.trans (Same.new n2)) upd_same (fun z hz => ?_) ?_
        · simp only [List.mem_cons, List.not_mem_nil, or_false] at hz
          rcases hz with rfl | rfl | rfl
          · exact hx
          · decide +kernel
          · decide +kernel
        · unfold Nt.lineW
          rw [if_pos hl, hy, if_neg (by simp)]
    · refine ht (Txt.split x " ") wp H1 s1 e1 (fun z hz => Nat.le_trans (split_len x " " z hz) hx) ?_
      unfold Nt.lineW
      rw [if_neg (fun z => by rw [List.length_map, z] at hz; simp at hz)]
theorem ok_strof (F : L2.Fun K "_stretch_of" "_stretch_of" sStrOf f fd) (b : Binds K fd PStrOf []) (B : Bi mg) (cNo : CalF P w K mg base 4 "number_of" (spNumOf C)) (gD : mg "Stretch" = some (.ref D)) (gS : mg "BadStretch" = some (.ref Cs)) {fI : Addr} {fdI : FuncData} {gI : List Value → List Value → List Value} (MI : Mk K D fI) (GI : FnOk P w K mg base (L2.CX P w) 5 fI fdI PSInit (spStr K C D Cs))
    (bK : KBn K fdI PSInit 3 ["has_low", "has_high"] gI (fun vs zs => vs ++ zs)) (exS : PySem.W.exmOne K (.ref Cs) (.ref Cs) = some true) (hNon : ∀ H, OddV K C H .non) : FnR P w K mg base CX0 7 f (spStrOf C D) := by
  refine fnR_of (k := 6) F b scStrOf (fun vs H Q E h => ?_) (fun cdv A outer s H vs Q E hr h => ?_)
  · obtain ⟨_, rfl, _⟩ := h
    rfl
  · have sc := scStrOf
    obtain ⟨x, rfl, hx, k0, k1⟩ := h
    have hz : x.length ≤ sizeLine := Nat.le_trans hx (by decide)
    let g : Prop := (cutS x none (some 1) = "[" ∨ cutS x none (some 1) = "(") ∧ (cutS x (some (-1)) none = "]" ∨ cutS x (some (-1)) none = ")")
    have rest : ∃ t, PSs (cxOf CX0 P w K mg base NStrOf "_stretch_of" (defScope sStrOf) f cdv A outer s H E).nox (List.drop 1 (defBody sStrOf)) t ∧ ∀ (G : Hp), Same H G → g →
        t { nx := fun _ H' => Q .non H', rt := Q } [some (.str x), none, none, none] G := by
      refine ⟨_, (pss_cons (ps_set (i := 1) sc.nd rfl (Or.inl rfl) (pe_split (pe_slice sl_str (pv 0) (po_some pe_int) (po_some (pe_un un_neg pe_int))) pe_str)) (pss_cons (ps_if (pt_cmpR op_ne (pe_callB call_len_seq (by rfl) B.len PySem.boot_len (pa_cons (pv 1) pa_nil)) pe_int (nomark _)) (pss_one (ps_ret pe_non)) pss_nil) (pss_cons (ps_par (i := 2) (j := 3) (by rfl) sc.nd rfl rfl (by decide) rfl rfl (pa_cons (pe_f cNo hr (by decide) rfl (pa_cons (pe_ix ix_list (pv 1) pe_int (fun _ _ => rfl)) pa_nil)) (pa_cons (pe_f cNo hr (by decide) rfl (pa_cons (pe_ix ix_list (pv 1) pe_int (fun _ _ => rfl)) pa_nil)) pa_nil)) (by rfl)) (pss_one (ps_try_only rfl rfl ⟨rfl, by decide, .inl gS⟩ LamX.takes0 (fun W pn xe tk _ => by exact (pss_one (ps_ret (pe_mkKS MI GI (hr.mono (by decide)) rfl gD bK (fun σ => passAt tk σ) (pa_cons (pv 2) (pa_cons (pv 3) pa_nil)) (pk_cons (pe_m1 PySem.F.slot_str_startswith PySem.F.type_str_startswith mt_startswith (pv 0) pe_str) (pk_cons (pe_m1 PySem.F.slot_str_endswith PySem.F.type_str_endswith mt_endswith (pv 0) pe_str) pk_nil)))))) (fun a oe cls d pn hz hf => by exact (pss_one (ps_ret pe_non)))))))), ?_⟩
      intro G sG hg
      have hq0 : Nt.strQ x = (match Txt.split (cutS x (some 1) (some (-1))) " " with
        | [w0, w1] => (match Nt.numQ w0, Nt.numQ w1 with
          | some (t, b), some (p, q) => if Nt.okS t b p q (Txt.startswith x "[") (Txt.endswith x "]") = true then some (t, b, p, q, Txt.startswith x "[", Txt.endswith x "]") else none
          | _, _ => none)
        | _ => none) := if_pos hg
      have lm := cutS_length x (some 1) (some (-1))
      have hws : ∀ z ∈ Txt.split (cutS x (some 1) (some (-1))) " ", z.length ≤ 900 := fun z hz => Nat.le_trans (split_len _ " " z hz) (Nat.le_trans lm hx)
      refine ⟨_, rfl, _, rfl, _, rfl, _, rfl, x, rfl, hz, ⟨_, rfl⟩, cutS x (some 1) (some (-1)), " ", rfl, rfl, rfl, by have := Nat.add_le_add_right (Nat.le_trans lm hx) 2; exact Nat.le_trans this (by decide), fun wp nwp => ?_⟩
      generalize Txt.split (cutS x (some 1) (some (-1))) " " = ws at hq0 hws ⊢
      have s1 := Same.new (o := .lst (ws.map V.str)) nwp
      have hw := upd_same (H := G) (a := wp) (o := .lst (ws.map V.str))
      generalize upd G wp (.lst (ws.map V.str)) = H1 at s1 hw ⊢
      have s1 := sG.trans s1
      refine ⟨_, rfl, wp, _, rfl, .inl (SqL.of hw), rfl, _, rfl, if2 (fun hy => ?_) (fun hy => ?_)⟩
      · refine k0 ?_ H1 s1
        rw [hq0]
        split
        · cases hy
        · rfl
      · have hl : ws.length = 2 := by
          have h1 : ((ws.length : Nat) : Int) = 2 := by simpa using hy
          omega
        obtain ⟨w0, w1, rfl⟩ : ∃ w0 w1, ws = [w0, w1] := by
          match ws, hl with
          | [a, b], _ => exact ⟨a, b, rfl⟩
        have l0 := hws w0 (by simp)
        have l1 := hws w1 (by simp)
        dsimp only at hq0
        -- the last statement, for ends of any kind
        have fin : ∀ (lo hi : V) (A B : EndK) (G' : Hp), Same H G' → EndIs K C G' lo A → EndIs K C G' hi B → (fineB A B (.flag (Txt.startswith x "[")) (.flag (Txt.endswith x "]")) = false → Nt.strQ x = none) →
            (∀ t b p q, A = .num t b → B = .num p q → fineB A B (.flag (Txt.startswith x "[")) (.flag (Txt.endswith x "]")) = true → Nt.strQ x = some (t, b, p, q, Txt.startswith x "[", Txt.endswith x "]")) →
            (fun D_1 σ H_1 => tRet (tMkKS D 2 [("has_low" : Str), "has_high"].length (spStr K C D Cs) (fun vs zs => vs ++ zs) (WE (wOnly K (Value.ref Cs) (fun a cls d => tRet (tC V.non)) (fun x x_3 x_4 x_5 => False) D_1)) (tCons (tVar 2) (tCons (tVar 3) tNil))
              (tCons (tM1 (fun x xs H Q => ∃ a b, x = V.str a ∧ xs = [V.str b] ∧ Q (V.bl (Txt.startswith a b)) H) (tVar 0) (tC (V.str "["))) (tCons (tM1 (fun x xs H Q => ∃ a b, x = V.str a ∧ xs = [V.str b] ∧ Q (V.bl (Txt.endswith a b)) H) (tVar 0) (tC (V.str "]"))) tNil))) D_1 σ H_1 : TS)
              { nx := fun x H' => Q V.non H', rt := Q } [some (.str x), some (.ref wp), some lo, some hi] G' := fun lo hi A B G' sG' iA iB f0 f1 => by
          refine ⟨_, rfl, _, rfl, _, rfl, ⟨_, rfl⟩, x, "[", rfl, rfl, _, rfl, ⟨_, rfl⟩, x, "]", rfl, rfl, rfl, rfl, fun u du nu ndu hne => ?_⟩
          have su : Same G' (upd (upd G' du (.own u)) u (.ins D du [])) := fun b o e => (upd_ne (ne_of_none e nu)).trans ((upd_ne (ne_of_none e ndu)).trans e)
          refine ⟨u, du, lo, hi, .bl _, .bl _, A, B, .flag (Txt.startswith x "["), .flag (Txt.endswith x "]"), rfl, upd_same, EndIs.ne nu iA, EndIs.ne nu iB, (fun z => by cases z), (fun z => by cases z), iA.same su, iB.same su, rfl, rfl, fun fine m H3 st mid k3 => ⟨rfl, ?_⟩, fun nf y d H3 ey ed s3 => ?_⟩
          · have s3 : Same G' H3 := fun b o e => k3 b o (su b o e) (ne_of_none e nu)
            cases A with
            | odd => cases fine
            | num t b =>
              cases B with
              | odd => cases fine
              | num p q =>
                obtain ⟨a, rfl, ha, _⟩ := iA
                obtain ⟨c, rfl, hc, _⟩ := iB
                exact k1 t b p q _ _ (f1 t b p q rfl rfl fine) u a c m H3 (free_same sG' nu) st (ha.same s3) (hc.same s3) (sG'.trans s3)
          · exact ⟨true, exS, fun _ a na => k0 (f0 nf) _ ((sG'.trans su).trans s3), fun h => by cases h⟩
        have low : ∀ {t b : Int}, Nt.Can t b → Low t b t b := fun h => ⟨h.pos, rfl, h.cop⟩
        refine ⟨_, rfl, wp, _, 0, .str w0, rfl, rfl, SqL.of hw, rfl, w0, rfl, by omega, fun n0 H2 s2 => ?_, fun t b n0 a H2 na ha s2 => ?_⟩
        · rw [n0] at hq0
          refine ⟨_, rfl, wp, _, 1, .str w1, rfl, rfl, SqL.of (s2 _ _ hw), rfl, w1, rfl, by omega, fun n1 H3 s3 => ?_, fun p q n1 c H3 nc hc s3 => ?_⟩
          · exact ⟨_, _, rfl, fin .non .non .odd .odd H3 ((s1.trans s2).trans s3) (hNon _) (hNon _) (fun _ => hq0) (fun _ _ _ _ z => by cases z)⟩
          · have c2 := (Nt.numQ_iff.mp n1).2
            exact ⟨_, _, rfl, fin .non (.ref c) .odd (.num p q) H3 ((s1.trans s2).trans s3) (hNon _) ⟨c, rfl, hc, low c2, (can_sz c2).1, (can_sz c2).2⟩ (fun _ => hq0) (fun _ _ _ _ z => by cases z)⟩
        · rw [n0] at hq0
          have c1 := (Nt.numQ_iff.mp n0).2
          refine ⟨_, rfl, wp, _, 1, .str w1, rfl, rfl, SqL.of (s2 _ _ hw), rfl, w1, rfl, by omega, fun n1 H3 s3 => ?_, fun p q n1 c H3 nc hc s3 => ?_⟩
          · rw [n1] at hq0
            exact ⟨_, _, rfl, fin (.ref a) .non (.num t b) .odd H3 ((s1.trans s2).trans s3) ⟨a, rfl, ha.same s3, low c1, (can_sz c1).1, (can_sz c1).2⟩ (hNon _) (fun _ => hq0) (fun _ _ _ _ _ z => by cases z)⟩
          · rw [n1] at hq0
            dsimp only at hq0
            have c2 := (Nt.numQ_iff.mp n1).2
            refine ⟨_, _, rfl, fin (.ref a) (.ref c) (.num t b) (.num p q) H3 ((s1.trans s2).trans s3) ⟨a, rfl, ha.same s3, low c1, (can_sz c1).1, (can_sz c1).2⟩ ⟨c, rfl, hc, low c2, (can_sz c2).1, (can_sz c2).2⟩ (fun z => ?_) (fun t' b' p' q' e1 e2 z => ?_)⟩
            · have z : Nt.okS t b p q (Txt.startswith x "[") (Txt.endswith x "]") = false := z
              rw [z] at hq0
              exact hq0
            · have z : Nt.okS t b p q (Txt.startswith x "[") (Txt.endswith x "]") = true := by cases e1; cases e2; exact z
              cases e1
              cases e2
              rw [if_pos z] at hq0
              exact hq0
    obtain ⟨t, hbody, ht⟩ := rest
    refine ⟨_, (pss_cons (ps_if (PW.pt (pw_or (pt_cmpR op_notIn_seq (pe_slice sl_str (pv 0) po_none (po_some pe_int)) (pe_tup (pa_cons pe_str (pa_cons pe_str pa_nil))) rfl) (pw_or1 (pt_cmpR op_notIn_seq (pe_slice sl_str (pv 0) (po_some (pe_un un_neg pe_int)) po_none) (pe_tup (pa_cons pe_str (pa_cons pe_str pa_nil))) rfl)))) (pss_one (ps_ret pe_non)) pss_nil) hbody), ?_⟩
    have hno : ¬ g → Nt.strQ x = none := fun h => if_neg h
    refine ⟨_, rfl, _, rfl, x, rfl, hz, by show 2 ≤ sizeLine; decide, fun t1 n1 => ?_⟩
    refine ⟨t1, (["[", "("] : List Str).map V.str, rfl, .inr (.inl (.inl upd_same)), rfl, rfl, _, rfl, ?_⟩
    show if (!inV (.str (cutS x none (some 1))) ((["[", "("] : List Str).map V.str)) = true then _ else _
    rw [in_strs]
    have s1 := Same.new (o := .tup [V.str "[", V.str "("]) n1
    refine if2 (fun hy => ?_) (fun hy => ?_)
    · refine ifT rfl ?_
      refine k0 (hno fun z => ?_) _ s1
      have : cutS x none (some 1) ∉ (["[", "("] : List Str) := by simpa using hy
      exact this (by rcases z.1 with z | z <;> rw [z] <;> simp)
    · have hy : cutS x none (some 1) ∈ (["[", "("] : List Str) := Decidable.byContradiction fun n => by rw [decide_eq_false n] at hy; cases hy
      refine ⟨_, rfl, _, rfl, _, rfl, x, rfl, hz, by show 2 ≤ sizeLine; decide, fun t2 n2 => ?_⟩
      refine ⟨t2, (["]", ")"] : List Str).map V.str, rfl, .inr (.inl (.inl upd_same)), rfl, rfl, _, rfl, ?_⟩
      show if (!inV (.str (cutS x (some (-1)) none)) ((["]", ")"] : List Str).map V.str)) = true then _ else _
      rw [in_strs]
      have s2 := s1.trans (Same.new (o := .tup [V.str "]", V.str ")"]) n2)
      refine if2 (fun hy2 => ?_) (fun hy2 => ?_)
      · refine k0 (hno fun z => ?_) _ s2
        have : cutS x (some (-1)) none ∉ (["]", ")"] : List Str) := by simpa using hy2
        exact this (by rcases z.2 with z | z <;> rw [z] <;> simp)
      · have hy2 : cutS x (some (-1)) none ∈ (["]", ")"] : List Str) := Decidable.byContradiction fun n => by rw [decide_eq_false n] at hy2; cases hy2
        exact ht _ s2 ⟨by simpa using hy, by simpa using hy2⟩
end
end Ws

namespace Ws
open PySem PySem.Spec PyProof.Rows L2
section
variable {K : PySem.W.Frag} {a : Addr} {xs : List V} {g : TG} {te : TE} {vs : List Nat} {σ : L2.St} {H1 : Hp} {D : Addr} {Qd : Hp → Prop}
/-- a comprehension without a test: what is made so far stands at D, J tells of it -/
noncomputable def PvJ (D : Addr) (J : Nat → List V → Hp → Prop) : Nat → Hp → Prop := fun i H => ∃ acc, acc.length = i ∧ H D = some (.lst acc) ∧ J i acc H
theorem step_J {J : Nat → List V → Hp → Prop} {i : Nat} {x : V} {H : Hp} (hz : i < sizeLine) (h : PvJ D J i H)
    (hs : ∀ acc, J i acc H → H D = some (.lst acc) → acc.length = i → ∀ Qn : VK, (∀ y H4, H4 D = some (.lst acc) → J (i + 1) (acc ++ [y]) (upd H4 D (.lst (acc ++ [y]))) → Qn y H4) → g x (wipe σ vs) H fun σ2 H2 => wipe σ2 vs = wipe σ vs ∧ te σ2 H2 Qn) :
    g x (wipe σ vs) H fun σ2 H2 => wipe σ2 vs = wipe σ vs ∧ tYes σ2 H2 fun b H3 => if b = true then te σ2 H3 fun y H4 => ∃ acc, H4 D = some (.lst acc) ∧ acc.length < sizeLine ∧ PvJ D J (i + 1) (upd H4 D (.lst (acc ++ [y]))) else PvJ D J (i + 1) H3 := by
  obtain ⟨acc, hl, hD, j⟩ := h
  have := hs acc j hD hl (fun y H4 => ∃ acc, H4 D = some (.lst acc) ∧ acc.length < sizeLine ∧ PvJ D J (i + 1) (upd H4 D (.lst (acc ++ [y])))) fun y H4 e jj => ⟨acc, e, by rw [hl]; exact hz, acc ++ [y], by rw [List.length_append, hl] <;> rfl, upd_same, jj⟩
  have e : (fun (σ2 : L2.St) (H2 : Hp) => wipe σ2 vs = wipe σ vs ∧ tYes σ2 H2 fun b H3 => if b = true then te σ2 H3 fun y H4 => ∃ acc, H4 D = some (.lst acc) ∧ acc.length < sizeLine ∧ PvJ D J (i + 1) (upd H4 D (.lst (acc ++ [y]))) else PvJ D J (i + 1) H3)
      = fun σ2 H2 => wipe σ2 vs = wipe σ vs ∧ te σ2 H2 fun y H4 => ∃ acc, H4 D = some (.lst acc) ∧ acc.length < sizeLine ∧ PvJ D J (i + 1) (upd H4 D (.lst (acc ++ [y]))) := by
    funext σ2 H2
    show (wipe σ2 vs = wipe σ vs ∧ (if true = true then (te σ2 H2 fun y H4 => ∃ acc, H4 D = some (.lst acc) ∧ acc.length < sizeLine ∧ PvJ D J (i + 1) (upd H4 D (.lst (acc ++ [y])))) else PvJ D J (i + 1) H2)) = _
    rw [if_pos rfl]
  rw [e]
  exact this
theorem lcT (J : Nat → List V → Hp → Prop) (h0 : J 0 [] (upd H1 D (.lst []))) (hl : ∀ i acc H, J i acc H → SqT K H a xs) (hz : xs.length < sizeLine)
    (hs : ∀ i x H acc, xs[i]? = some x → J i acc H → H D = some (.lst acc) → acc.length = i → ∀ Qn : VK, (∀ y H4, H4 D = some (.lst acc) → J (i + 1) (acc ++ [y]) (upd H4 D (.lst (acc ++ [y]))) → Qn y H4) → g x (wipe σ vs) H fun σ2 H2 => wipe σ2 vs = wipe σ vs ∧ te σ2 H2 Qn)
    (hd : ∀ ys H, J xs.length ys H → H D = some (.lst ys) → ys.length = xs.length → Qd H) :
    ∃ W : Nat → Nat → Hp → Prop, (∃ m, W 0 m (upd H1 D (.lst []))) ∧ ∀ i m H, W i m H →
      ((Itt K a).stop i H ∧ Qd H) ∨ ((Itt K a).go i H ∧ ∃ Nx : Hp → Prop, (∀ H', Nx H' → ∃ m', m' < m ∧ W (i + 1) m' H') ∧ ∀ x H', (Itt K a).yld i H x H' → g x (wipe σ vs) H' fun σ2 H2 => wipe σ2 vs = wipe σ vs ∧ tYes σ2 H2 fun b H3 =>
        if b = true then te σ2 H3 fun y H4 => ∃ acc, H4 D = some (.lst acc) ∧ acc.length < sizeLine ∧ Nx (upd H4 D (.lst (acc ++ [y]))) else Nx H3) :=
  lc_tup (K := K) (a := a) (xs := xs) (PvJ D J) ⟨[], rfl, upd_same, h0⟩ (fun i H _ h => let ⟨acc, _, _, j⟩ := h; hl i acc H j)
    (fun i x H hx h => step_J (Nat.lt_trans (List.getElem?_eq_some_iff.mp hx).1 hz) h fun acc j e l => hs i x H acc hx j e l) fun H h => let ⟨ys, l, e, j⟩ := h; hd ys H j e l
theorem lcL (J : Nat → List V → Hp → Prop) (h0 : J 0 [] (upd H1 D (.lst []))) (hl : ∀ i acc H, J i acc H → SqL K H a xs) (hz : xs.length < sizeLine)
    (hs : ∀ i x H acc, xs[i]? = some x → J i acc H → H D = some (.lst acc) → acc.length = i → ∀ Qn : VK, (∀ y H4, H4 D = some (.lst acc) → J (i + 1) (acc ++ [y]) (upd H4 D (.lst (acc ++ [y]))) → Qn y H4) → g x (wipe σ vs) H fun σ2 H2 => wipe σ2 vs = wipe σ vs ∧ te σ2 H2 Qn)
    (hd : ∀ ys H, J xs.length ys H → H D = some (.lst ys) → ys.length = xs.length → Qd H) :
    ∃ W : Nat → Nat → Hp → Prop, (∃ m, W 0 m (upd H1 D (.lst []))) ∧ ∀ i m H, W i m H →
      ((Itl K a).stop i H ∧ Qd H) ∨ ((Itl K a).go i H ∧ ∃ Nx : Hp → Prop, (∀ H', Nx H' → ∃ m', m' < m ∧ W (i + 1) m' H') ∧ ∀ x H', (Itl K a).yld i H x H' → g x (wipe σ vs) H' fun σ2 H2 => wipe σ2 vs = wipe σ vs ∧ tYes σ2 H2 fun b H3 =>
        if b = true then te σ2 H3 fun y H4 => ∃ acc, H4 D = some (.lst acc) ∧ acc.length < sizeLine ∧ Nx (upd H4 D (.lst (acc ++ [y]))) else Nx H3) :=
  lc_list (K := K) (a := a) (xs := xs) (PvJ D J) ⟨[], rfl, upd_same, h0⟩ (fun i H _ h => let ⟨acc, _, _, j⟩ := h; hl i acc H j)
    (fun i x H hx h => step_J (Nat.lt_trans (List.getElem?_eq_some_iff.mp hx).1 hz) h fun acc j e l => hs i x H acc hx j e l) fun H h => let ⟨ys, l, e, j⟩ := h; hd ys H j e l
theorem lcR {lo : Int} {n : Nat} (J : Nat → List V → Hp → Prop) (h0 : J 0 [] (upd H1 D (.lst []))) (hz : n < sizeLine)
    (hs : ∀ i H acc, i < n → J i acc H → H D = some (.lst acc) → acc.length = i → ∀ Qn : VK, (∀ y H4, H4 D = some (.lst acc) → J (i + 1) (acc ++ [y]) (upd H4 D (.lst (acc ++ [y]))) → Qn y H4) → g (.int (lo + i)) (wipe σ vs) H fun σ2 H2 => wipe σ2 vs = wipe σ vs ∧ te σ2 H2 Qn)
    (hd : ∀ ys H, J n ys H → H D = some (.lst ys) → ys.length = n → Qd H) :
    ∃ W : Nat → Nat → Hp → Prop, (∃ m, W 0 m (upd H1 D (.lst []))) ∧ ∀ i m H, W i m H →
      ((Itr lo n).stop i H ∧ Qd H) ∨ ((Itr lo n).go i H ∧ ∃ Nx : Hp → Prop, (∀ H', Nx H' → ∃ m', m' < m ∧ W (i + 1) m' H') ∧ ∀ x H', (Itr lo n).yld i H x H' → g x (wipe σ vs) H' fun σ2 H2 => wipe σ2 vs = wipe σ vs ∧ tYes σ2 H2 fun b H3 =>
        if b = true then te σ2 H3 fun y H4 => ∃ acc, H4 D = some (.lst acc) ∧ acc.length < sizeLine ∧ Nx (upd H4 D (.lst (acc ++ [y]))) else Nx H3) :=
  lc_range (PvJ D J) ⟨[], rfl, upd_same, h0⟩ (fun i H hi h => step_J (Nat.lt_trans hi hz) h fun acc j e l => hs i H acc hi j e l) fun H h => let ⟨ys, l, e, j⟩ := h; hd ys H j e l
end
end Ws

namespace Ws
open PySem PySem.Spec PyProof.Rows L2
noncomputable abbrev sDig : Stmt := (PySem.Challenge.pw_whatspeed_k94_texts_that_are_none.main.body.getD 32 (.Pass ⟨0, 0, 0, 0⟩))
noncomputable abbrev NDig : List Str := ["pot", "way"]
noncomputable abbrev PDig : List Str := ["pot"]
theorem scDig : FnScope NDig PDig (defScope sDig) := ⟨rfl, rfl, rfl, by decide +kernel, rfl, by decide +kernel, by decide +kernel⟩
noncomputable abbrev sLowest : Stmt := (PySem.Challenge.pw_whatspeed_k94_texts_that_are_none.main.body.getD 33 (.Pass ⟨0, 0, 0, 0⟩))
noncomputable abbrev NLowest : List Str := ["top", "bottom", "one", "other"]
noncomputable abbrev PLowest : List Str := ["top", "bottom"]
theorem scLowest : FnScope NLowest PLowest (defScope sLowest) := ⟨rfl, rfl, rfl, by decide +kernel, rfl, by decide +kernel, by decide +kernel⟩
noncomputable abbrev sPair : Stmt := (PySem.Challenge.pw_whatspeed_k94_texts_that_are_none.main.body.getD 34 (.Pass ⟨0, 0, 0, 0⟩))
noncomputable abbrev NPair : List Str := ["pot", "top", "bottom"]
noncomputable abbrev PPair : List Str := ["pot"]
theorem scPair : FnScope NPair PPair (defScope sPair) := ⟨rfl, rfl, rfl, by decide +kernel, rfl, by decide +kernel, by decide +kernel⟩
noncomputable abbrev sNTx : Stmt := (PySem.Challenge.pw_whatspeed_k94_texts_that_are_none.main.body.getD 35 (.Pass ⟨0, 0, 0, 0⟩))
noncomputable abbrev NNTx : List Str := ["pair"]
noncomputable abbrev PNTx : List Str := ["pair"]
theorem scNTx : FnScope NNTx PNTx (defScope sNTx) := ⟨rfl, rfl, rfl, by decide +kernel, rfl, by decide +kernel, by decide +kernel⟩
noncomputable abbrev sLTx : Stmt := (PySem.Challenge.pw_whatspeed_k94_texts_that_are_none.main.body.getD 36 (.Pass ⟨0, 0, 0, 0⟩))
noncomputable abbrev NLTx : List Str := ["base", "slope", "sign"]
noncomputable abbrev PLTx : List Str := ["base", "slope"]
theorem scLTx : FnScope NLTx PLTx (defScope sLTx) := ⟨rfl, rfl, rfl, by decide +kernel, rfl, by decide +kernel, by decide +kernel⟩
/-! ### what the law draws -/
theorem szl {n : Nat} (h : n ≤ 20000) : n ≤ sizeLine := Nat.le_trans h (by decide)
theorem PotAt.ne {H : Hp} {p l : Addr} {m : Int} (h : PotAt H p m) (n : H l = none) : p ≠ l := by
  obtain ⟨_, _, _, e, _⟩ := h
  exact ne_of_none e n
theorem mem_int {l : List Int} {v : V} (h : v ∈ l.map V.int) (hl : l.all (fun i => decide (0 ≤ i ∧ i ≤ 999)) = true) : ∃ i, v = .int i ∧ 0 ≤ i ∧ i ≤ 999 := by
  obtain ⟨x, hx, rfl⟩ := List.mem_map.mp h
  have := of_decide_eq_true (List.all_eq_true.mp hl x hx)
  exact ⟨x, rfl, this.1, this.2⟩
theorem p29 : (10 : Int) ^ (29 : Int).toNat = 100000000000000000000000000000 := by decide +kernel
theorem p20 : (10 : Int) ^ (20 : Int).toNat = 100000000000000000000 := by decide +kernel
theorem p9 : (10 : Int) ^ (9 : Int).toNat = 1000000000 := by decide +kernel
noncomputable def spDig : Sp := fun vs H Q _ => ∃ (p : Addr) (m : Int), vs = [.ref p] ∧ PotAt H p m ∧ m ≤ 100000000000 ∧ ∀ d H', 0 ≤ d → d < 200000000000000000000000000000 → PotAt H' p (m + 2) → Ch p H H' → Q (.int d) H'
noncomputable def spLowest : Sp := fun vs H Q _ => ∃ t b : Int, vs = [.int t, .int b] ∧ 0 < b ∧ Sz 8000 b ∧ ∀ p H', H p = none → H' p = some (.tup [.int (nT t b), .int (nB t b)]) → Same H H' → Q (.ref p) H'
noncomputable def spPair : Sp := fun vs H Q _ => ∃ (p : Addr) (m : Int), vs = [.ref p] ∧ PotAt H p m ∧ m ≤ 90000000000 ∧ ∀ r t b H', Nt.Can t b → H r = none → H' r = some (.tup [.int t, .int b]) → PotAt H' p (m + 8) → Ch p H H' → Q (.ref r) H'
noncomputable def spNTx : Sp := fun vs H Q _ => ∃ (r : Addr) (t b : Int), vs = [.ref r] ∧ H r = some (.tup [.int t, .int b]) ∧ Nt.Can t b ∧ Q (.str (Nt.shN t b)) H
noncomputable def spLTx : Sp := fun vs H Q _ => ∃ (r u : Addr) (t b p q : Int), vs = [.ref r, .ref u] ∧ H r = some (.tup [.int t, .int b]) ∧ H u = some (.tup [.int p, .int q]) ∧ Nt.Can t b ∧ Nt.Can p q ∧ ∀ H', Same H H' → Q (.str (Nt.shL t b p q)) H'
section
variable {P : Program} {w : World} {K : PySem.W.Frag} {mg : Str → Option Value} {base : Heap} {C D f : Addr} {fd : FuncData}
theorem ok_dig (F : L2.Fun K "_law_digits" "_law_digits" sDig f fd) (b : Binds K fd PDig []) (B : Bi mg) (cT : CalF P w K mg base 1 "_law_take" spTake) (cO : CalF P w K mg base 2 "_law_of" spOf) : FnR P w K mg base CX0 3 f spDig := by
  refine fnR_of (k := 2) F b scDig (fun vs H Q E h => ?_) (fun cdv A outer s H vs Q E hr h => ?_)
  · obtain ⟨_, _, rfl, _⟩ := h
    rfl
  · have sc := scDig
    obtain ⟨p, m, rfl, hp, hm, q⟩ := h
    refine ⟨_, (pss_cons (ps_set (i := 1) sc.nd rfl (Or.inl rfl) (pe_f cT hr (by decide) rfl (pa_cons (pv 0) (pa_cons pe_int pa_nil)))) (pss_cons (ps_if (pt_cmpR op_lt (pv 1) pe_int (nomark _)) (pss_one (ps_ret (pe_f cO hr (by decide) rfl (pa_cons (pv 0) (pa_cons (pe_lst (pa_cons pe_int (pa_cons pe_int (pa_cons pe_int (pa_cons pe_int (pa_cons pe_int (pa_cons pe_int (pa_cons pe_int (pa_cons pe_int (pa_cons pe_int (pa_cons pe_int (pa_cons pe_int pa_nil)))))))))))) pa_nil))))) pss_nil) (pss_one (ps_ret (pe_ifExp (pt_cmpR op_eq (pv 1) pe_int (nomark _)) (pe_op op_add (pe_op op_powW pe_int pe_int) (pe_f cT hr (by decide) rfl (pa_cons (pv 0) (pa_cons (pe_op op_powW pe_int pe_int) pa_nil)))) (pe_f cT hr (by decide) rfl (pa_cons (pv 0) (pa_cons (pe_op op_powW pe_int pe_int) pa_nil)))))))), ?_⟩
    refine ⟨_, rfl, p, 6, m, rfl, hp, by omega, by decide, by decide, fun t H1 t0 t1 hp1 c1 => ⟨_, rfl, _, _, rfl, rfl, _, rfl, if2 (fun hz => ?_) (fun hz => ?_)⟩⟩
    · refine ⟨_, rfl, by show 11 ≤ sizeLine; decide, fun l n => ?_⟩
      refine ⟨p, l, _, m + 1, rfl, hp1.same (Same.new n), by omega, upd_same, Ne.symm (hp1.ne n), by show 1 ≤ 11; decide, by show 11 ≤ 1000; decide, fun v H2 hv hp2 c2 => ?_⟩
      have hv2 : ∃ i : Int, v = .int i ∧ 0 ≤ i ∧ i ≤ 999 := mem_int (l := [0, 1, 2, 3, 4, 6, 9, 10, 12, 100, 999]) hv (by decide +kernel)
      obtain ⟨i, rfl, i0, i1⟩ := hv2
      exact q i H2 i0 (by omega) (hp2.mono (by omega)) ((c1.trans (Ch.new n)).trans c2)
    · refine ⟨_, rfl, rfl, _, rfl, if2 (fun hy => ?_) (fun hy => ?_)⟩
      · refine ⟨10, 29, rfl, rfl, ⟨by decide, by decide +kernel⟩, _, rfl, 10, 20, rfl, rfl, ⟨by decide, by decide +kernel⟩, p, _, m + 1, rfl, hp1, by omega, by decide +kernel, by decide +kernel, fun d H2 d0 d1 hp2 c2 => ⟨_, _, rfl, rfl, ?_⟩⟩
        rw [p20] at d1
        rw [p29]
        exact q _ H2 (by omega) (by omega) (hp2.mono (by omega)) (c1.trans c2)
      · refine ⟨_, rfl, 10, 9, rfl, rfl, ⟨by decide, by decide +kernel⟩, p, _, m + 1, rfl, hp1, by omega, by decide +kernel, by decide +kernel, fun d H2 d0 d1 hp2 c2 => ?_⟩
        rw [p9] at d1
        exact q _ H2 d0 (by omega) (hp2.mono (by omega)) (c1.trans c2)
theorem ok_lowest (F : L2.Fun K "_law_lowest" "_law_lowest" sLowest f fd) (b : Binds K fd PLowest []) (B : Bi mg) : FnR P w K mg base CX0 1 f spLowest := by
  refine fnR_of F b scLowest (fun vs H Q E h => ?_) (fun cdv A outer s H vs Q E hr h => ?_)
  · obtain ⟨t, b, rfl, _⟩ := h
    rfl
  · have sc := scLowest
    obtain ⟨t, b, rfl, hb0, zb, q⟩ := h
    have hb : b ≠ 0 := by omega
    refine ⟨_, (pss_cons (ps_par (i := 2) (j := 3) (by rfl) sc.nd rfl rfl (by decide) rfl rfl (pa_cons (pe_callB call_abs (by rfl) B.abs (by decide +kernel) (pa_cons (pv 0) pa_nil)) (pa_cons (pv 1) pa_nil)) (by rfl)) (pss_cons (ps_while PassesOwn.never (pt_cmpR op_ne (pv 3) pe_int (nomark _)) (pss_one (ps_par (i := 2) (j := 3) (by rfl) sc.nd rfl rfl (by decide) rfl rfl (pa_cons (pv 3) (pa_cons (pe_op op_mod (pe_callTy call_int1 (by rfl) B.int (by decide +kernel) (pa_cons (pv 2) pa_nil)) (pv 3)) pa_nil)) (by rfl)))) (pss_one (ps_ret (pe_tup (pa_cons (pe_op op_fdivW (pv 0) (pv 2)) (pa_cons (pe_op op_fdivW (pv 1) (pv 2)) pa_nil))))))), ?_⟩
    refine ⟨_, rfl, _, rfl, _, rfl, _, _, rfl, ?_⟩
    refine while_by (fun σ H' => H' = H ∧ ∃ x y : Int, σ = [some (.int t), some (.int b), some (.int x), some (.int y)] ∧ 0 ≤ x ∧ 0 ≤ y ∧ Nat.gcd x.natAbs y.natAbs = Nat.gcd t.natAbs b.natAbs) (fun σ _ => match σ with | [_, _, _, some (.int y)] => y.toNat | _ => 0) ?_ ?_ ?_
    · refine ⟨rfl, _, _, rfl, by split <;> omega, by omega, ?_⟩
      have e : ∀ z : Int, (if z < 0 then -z else z).natAbs = z.natAbs := fun z => by split <;> omega
      rw [e]
    · rintro σ H' ⟨rfl, x, y, rfl, hx, hy, hg⟩
      refine ⟨_, rfl, rfl, _, rfl, ?_⟩
      by_cases h0 : y = 0
      · subst h0
        refine ifF rfl ?_
        have hxg : x = gI t b := by
          unfold gI
          rw [← hg]
          simp
          omega
        subst hxg
        have zg : Sz 8000 (gI t b) := Sz.gI hb zb
        have l9 : (gI t b).natAbs < 2 ^ 8000 := zg
        have nl := nf_least (t := t) hb
        have hn : ¬ b < 0 := by omega
        rw [if_neg hn, if_neg hn, Int.one_mul] at nl
        refine ⟨_, rfl, _, rfl, _, _, rfl, rfl, wide_div (gI_pos hb) l9 (by decide) (by decide), ?_⟩
        refine ⟨_, rfl, _, rfl, _, _, rfl, rfl, wide_div (gI_pos hb) l9 (by decide) (by decide), by show 2 ≤ sizeLine; decide, fun p hp => ?_⟩
        refine q p _ hp (upd_same.trans ?_) (Same.new hp)
        show some (HO.tup [V.int (t / gI t b), V.int (b / gI t b)]) = _
        rw [nl.1, nl.2]
      · refine ifT (by simpa using h0) ?_
        refine ⟨_, rfl, _, rfl, .inl ⟨_, rfl, _, rfl, _, _, rfl, rfl, by omega, _, _, rfl, ?_⟩⟩
        have hy0 : 0 < y := by omega
        have := emod_lt (a := x) hy0
        have := emod_nn (a := x) hy0
        refine ⟨⟨rfl, y, x % y, rfl, hy, by omega, by rw [gcd_turn hx hy0, hg]⟩, ?_⟩
        show (x % y).toNat < y.toNat
        omega
    · rintro σ H Q Q' i ⟨v, e, h1, k, e2, h2⟩
      exact ⟨v, e, h1, k, e2, i _ _ h2⟩
theorem ok_pair (F : L2.Fun K "_law_pair" "_law_pair" sPair f fd) (b : Binds K fd PPair []) (B : Bi mg) (cO : CalF P w K mg base 2 "_law_of" spOf) (cDg : CalF P w K mg base 3 "_law_digits" spDig) (cLw : CalF P w K mg base 1 "_law_lowest" spLowest) : FnR P w K mg base CX0 4 f spPair := by
  refine fnR_of (k := 3) F b scPair (fun vs H Q E h => ?_) (fun cdv A outer s H vs Q E hr h => ?_)
  · obtain ⟨_, _, rfl, _⟩ := h
    rfl
  · have sc := scPair
    obtain ⟨p, m, rfl, hp, hm, q⟩ := h
    refine ⟨_, (pss_cons (ps_par (i := 1) (j := 2) (by rfl) sc.nd rfl rfl (by decide) rfl rfl (pa_cons (pe_f cDg hr (by decide) rfl (pa_cons (pv 0) pa_nil)) (pa_cons (pe_f cO hr (by decide) rfl (pa_cons (pv 0) (pa_cons (pe_lst (pa_cons pe_int (pa_cons pe_int (pa_cons pe_int (pa_cons pe_int (pa_cons pe_int (pa_cons pe_int (pa_cons (pe_op op_add (pe_op op_powW pe_int pe_int) pe_int) (pa_cons (pe_op op_add pe_int (pe_f cDg hr (by decide) rfl (pa_cons (pv 0) pa_nil))) pa_nil))))))))) pa_nil))) pa_nil)) (by rfl)) (pss_one (ps_ret (pe_f cLw hr (by decide) rfl (pa_cons (pe_op op_mulW (pv 1) (pe_f cO hr (by decide) rfl (pa_cons (pv 0) (pa_cons (pe_lst (pa_cons pe_int (pa_cons (pe_un un_neg pe_int) pa_nil))) pa_nil)))) (pa_cons (pv 2) pa_nil)))))), ?_⟩
    refine ⟨_, rfl, p, m, rfl, hp, by omega, fun t H1 t0 t1 hp1 c1 => ?_⟩
    refine ⟨_, rfl, 10, 29, rfl, rfl, ⟨by decide, by decide +kernel⟩, _, _, rfl, rfl, _, rfl, p, _, rfl, hp1, by omega, fun d H2 d0 d1 hp2 c2 => ⟨_, _, rfl, rfl, by show 8 ≤ sizeLine; decide, fun l n => ?_⟩⟩
    refine ⟨p, l, _, m + 4, rfl, (hp2.same (Same.new n)).mono (by omega), by omega, upd_same, Ne.symm (hp2.ne n), by show 1 ≤ 8; decide, by show 8 ≤ 1000; decide, fun v H3 hv hp3 c3 => ?_⟩
    have hv2 : ∃ b : Int, v = .int b ∧ 1 ≤ b ∧ b ≤ 200000000000000000000000000000 := by
      simp only [List.mem_cons, List.not_mem_nil, or_false] at hv
      rcases hv with rfl | rfl | rfl | rfl | rfl | rfl | rfl | rfl
      · exact ⟨1, rfl, by decide, by decide⟩
      · exact ⟨1, rfl, by decide, by decide⟩
      · exact ⟨2, rfl, by decide, by decide⟩
      · exact ⟨3, rfl, by decide, by decide⟩
      · exact ⟨4, rfl, by decide, by decide⟩
      · exact ⟨7, rfl, by decide, by decide⟩
      · exact ⟨_, rfl, by decide +kernel, by decide +kernel⟩
      · exact ⟨_, rfl, by omega, by omega⟩
    obtain ⟨b, rfl, b1, b2⟩ := hv2
    have G : Nt.G30 = 999999999999999999999999999999 := by decide +kernel
    have cb : Nt.Can b 1 := ⟨by decide, by rw [G]; omega, by rw [G]; decide, by simp⟩
    have ct : Nt.Can t 1 := ⟨by decide, by rw [G]; omega, by rw [G]; decide, by simp⟩
    refine ⟨_, _, rfl, _, rfl, _, rfl, _, rfl, by show 2 ≤ sizeLine; decide, fun l2 n2 => ?_⟩
    refine ⟨p, l2, _, m + 5, rfl, (hp3.same (Same.new n2)).mono (by omega), by omega, upd_same, Ne.symm (hp3.ne n2), by show 1 ≤ 2; decide, by show 2 ≤ 1000; decide, fun v H4 hv hp4 c4 => ?_⟩
    have hv2 : ∃ s : Int, v = .int s ∧ s.natAbs = 1 := by
      simp only [List.mem_cons, List.not_mem_nil, or_false] at hv
      rcases hv with rfl | rfl
      · exact ⟨1, rfl, rfl⟩
      · exact ⟨-1, rfl, rfl⟩
    obtain ⟨sg, rfl, hsg⟩ := hv2
    have hts : (t * sg).natAbs = t.natAbs := by rw [Int.natAbs_mul, hsg, Nat.mul_one]
    refine ⟨_, _, rfl, rfl, wide_mul (a := 110) (b := 2) (can_sz ct).1 (by rw [hsg]; decide) (by decide) (by decide) (by decide), _, rfl, t * sg, b, rfl, by omega, (can_sz cb).1.mono (by decide), fun r H5 nr er s5 => ?_⟩
    have hcan : Nt.Can (nT (t * sg) b) (nB (t * sg) b) := Nt.can_of (by rw [hts]; exact ct.top) b1 (by rw [G]; omega)
    have ch := (((c1.trans c2).trans (Ch.new n)).trans c3).trans ((Ch.new n2).trans c4)
    have npr : r ≠ p := Ne.symm (hp4.ne nr)
    exact q r _ _ H5 hcan (ch.free npr nr) er ((hp4.same s5).mono (by omega)) (ch.trans (Ch.of s5))
theorem ok_ntx (F : L2.Fun K "_law_number_text" "_law_number_text" sNTx f fd) (b : Binds K fd PNTx []) (gSt : mg "str" = none) : FnR P w K mg base CX0 1 f spNTx := by
  refine fnR_of F b scNTx (fun vs H Q E h => ?_) (fun cdv A outer s H vs Q E hr h => ?_)
  · obtain ⟨_, _, _, rfl, _⟩ := h
    rfl
  · have sc := scNTx
    obtain ⟨r, t, b, rfl, hr0, hc, q⟩ := h
    obtain ⟨z1, z2⟩ := can_sz hc
    refine ⟨_, (pss_one (ps_ret (pe_ifExp (pt_cmpR op_eq (pe_ix ix_tup (pv 0) pe_int (fun _ _ => rfl)) pe_int (nomark _)) (pe_callTy call_str_int (by rfl) gSt (by decide +kernel) (pa_cons (pe_ix ix_tup (pv 0) pe_int (fun _ _ => rfl)) pa_nil)) (pe_op op_add_str (pe_op op_add_str (pe_callTy call_str_int (by rfl) gSt (by decide +kernel) (pa_cons (pe_ix ix_tup (pv 0) pe_int (fun _ _ => rfl)) pa_nil)) pe_str) (pe_callTy call_str_int (by rfl) gSt (by decide +kernel) (pa_cons (pe_ix ix_tup (pv 0) pe_int (fun _ _ => rfl)) pa_nil)))))), ?_⟩
    have l1 := sz_len z1
    have l2 := sz_len z2
    have T : SqT K H r [.int t, .int b] := SqT.of hr0
    refine ⟨_, rfl, r, _, 1, _, rfl, rfl, T, rfl, rfl, _, rfl, if2 (fun hy => ?_) (fun hy => ?_)⟩
    · have hb : b = 1 := by have := of_decide_eq_true hy; injection this
      refine ⟨_, rfl, r, _, 0, _, rfl, rfl, T, rfl, t, rfl, sz_log z1, ?_⟩
      rw [show Nt.shN t b = Nt.nTx t from if_pos hb] at q
      exact q
    · have hb : b ≠ 1 := fun z => of_decide_eq_false hy (congrArg V.int z)
      refine ⟨_, rfl, r, _, 0, _, rfl, rfl, T, rfl, t, rfl, sz_log z1, _, _, rfl, rfl, szl (show (Nt.nTx t).length + ("/" : Str).length ≤ 20000 by have := e1; omega), _, rfl, r, _, 1, _, rfl, rfl, T, rfl, b, rfl, sz_log z2, _, _, rfl, rfl, szl (show (Nt.nTx t ++ "/").length + (Nt.nTx b).length ≤ 20000 by have := js l1 e1; omega), ?_⟩
      rw [show Nt.shN t b = Nt.nTx t ++ "/" ++ Nt.nTx b from if_neg hb] at q
      exact q
theorem ok_ltx (F : L2.Fun K "_law_line_text" "_law_line_text" sLTx f fd) (b : Binds K fd PLTx []) (B : Bi mg) (cNT : CalF P w K mg base 1 "_law_number_text" spNTx) : FnR P w K mg base CX0 2 f spLTx := by
  refine fnR_of (k := 1) F b scLTx (fun vs H Q E h => ?_) (fun cdv A outer s H vs Q E hr h => ?_)
  · obtain ⟨_, _, _, _, _, _, rfl, _⟩ := h
    rfl
  · have sc := scLTx
    obtain ⟨r, u, t, b, p, q, rfl, hr0, hu0, c1, c2, k⟩ := h
    have T : SqT K H r [.int t, .int b] := SqT.of hr0
    have U : SqT K H u [.int p, .int q] := SqT.of hu0
    have l1 := shN_len c1
    have l2 := shN_len c2
    have l3 := shN_len c2.abs
    have rest : ∃ tt, PSs (cxOf CX0 P w K mg base NLTx "_law_line_text" (defScope sLTx) f cdv A outer s H E).nox (List.drop 3 (defBody sLTx)) tt ∧ ∀ sg : Str, sg = (if p < 0 then (" - " : Str) else " + ") → p ≠ 0 → t ≠ 0 →
        tt { nx := fun _ H' => Q .non H', rt := Q } [some (.ref r), some (.ref u), some (.str sg)] H := by
      refine ⟨_, (pss_one (ps_ret (pe_op op_add_str (pe_op op_add_str (pe_op op_add_str (pe_f cNT hr (by decide) rfl (pa_cons (pv 0) pa_nil)) (pv 2)) (pe_f cNT hr (by decide) rfl (pa_cons (pe_tup (pa_cons (pe_callB call_abs (by rfl) B.abs (by decide +kernel) (pa_cons (pe_ix ix_tup (pv 1) pe_int (fun _ _ => rfl)) pa_nil)) (pa_cons (pe_ix ix_tup (pv 1) pe_int (fun _ _ => rfl)) pa_nil))) pa_nil))) pe_str))), ?_⟩
      intro sg esg hp ht
      have esh : Nt.shL t b p q = Nt.shN t b ++ " " ++ (if p < 0 then ("-" : Str) else "+") ++ " " ++ Nt.shN (p.natAbs : Int) q ++ "s" := (if_neg hp).trans (if_neg ht)
      have e2 : Nt.shN t b ++ sg ++ Nt.shN (p.natAbs : Int) q ++ "s" = Nt.shL t b p q := by
        rw [esh, esg]
        split
        · rw [show (" - " : Str) = " " ++ "-" ++ " " by decide +kernel]
          simp only [Nt.str_app_assoc]
        · rw [show (" + " : Str) = " " ++ "+" ++ " " by decide +kernel]
          simp only [Nt.str_app_assoc]
      have lsg : sg.length ≤ 3 := by rw [esg]; split <;> decide +kernel
      have la : (if p < 0 then -p else p) = (p.natAbs : Int) := by split <;> omega
      refine ⟨_, rfl, r, t, b, rfl, hr0, c1, _, rfl, _, _, rfl, rfl, szl (by omega), ?_⟩
      refine ⟨_, rfl, u, _, 0, _, rfl, rfl, U, rfl, _, rfl, _, rfl, u, _, 1, _, rfl, rfl, U, rfl, by show 2 ≤ sizeLine; decide, fun z nz => ?_⟩
      rw [la]
      have sz := Same.new (o := .tup [V.int (p.natAbs : Int), V.int q]) nz
      refine ⟨z, _, q, rfl, upd_same, c2.abs, _, _, rfl, rfl, szl (by have := js l1 lsg; omega), _, _, rfl, rfl, szl (by have := js (js l1 lsg) l3; have := es1; omega), ?_⟩
      rw [e2]
      exact k _ sz
    obtain ⟨tt, hbody, ht3⟩ := rest
    refine ⟨_, (pss_cons (ps_if (pt_cmpR op_eq (pe_ix ix_tup (pv 1) pe_int (fun _ _ => rfl)) pe_int (nomark _)) (pss_one (ps_ret (pe_f cNT hr (by decide) rfl (pa_cons (pv 0) pa_nil)))) pss_nil) (pss_cons (ps_if (pt_cmpR op_eq (pe_ix ix_tup (pv 0) pe_int (fun _ _ => rfl)) pe_int (nomark _)) (pss_one (ps_ret (pe_op op_add_str (pe_f cNT hr (by decide) rfl (pa_cons (pv 1) pa_nil)) pe_str))) pss_nil) (pss_cons (ps_set (i := 2) sc.nd rfl (Or.inl rfl) (pe_ifExp (pt_cmpR op_gt (pe_ix ix_tup (pv 1) pe_int (fun _ _ => rfl)) pe_int (nomark _)) pe_str pe_str)) hbody))), ?_⟩
    refine ⟨_, rfl, u, _, 0, _, rfl, rfl, U, rfl, rfl, _, rfl, if2 (fun hy => ?_) (fun hy => ?_)⟩
    · have hp : p = 0 := by have := of_decide_eq_true hy; injection this
      refine ⟨_, rfl, r, t, b, rfl, hr0, c1, ?_⟩
      have := k H (Same.refl H)
      rw [show Nt.shL t b p q = Nt.shN t b from if_pos hp] at this
      exact this
    · have hp : p ≠ 0 := fun z => of_decide_eq_false hy (congrArg V.int z)
      refine ⟨_, rfl, r, _, 0, _, rfl, rfl, T, rfl, rfl, _, rfl, if2 (fun hy => ?_) (fun hy => ?_)⟩
      · have ht : t = 0 := by have := of_decide_eq_true hy; injection this
        refine ⟨_, rfl, u, p, q, rfl, hu0, c2, _, _, rfl, rfl, szl (show (Nt.shN p q).length + ("s" : Str).length ≤ 20000 by have := es1; omega), ?_⟩
        have := k H (Same.refl H)
        rw [show Nt.shL t b p q = Nt.shN p q ++ "s" from (if_neg hp).trans (if_pos ht)] at this
        exact this
      · have ht : t ≠ 0 := fun z => of_decide_eq_false hy (congrArg V.int z)
        refine ⟨_, rfl, u, _, 0, _, rfl, rfl, U, rfl, _, _, rfl, rfl, _, rfl, if2 (fun hy => ?_) (fun hy => ?_)⟩
        · have h0 : 0 < p := of_decide_eq_true hy
          exact ht3 _ (by rw [if_neg (by omega)]) hp ht
        · have h0 : ¬ 0 < p := of_decide_eq_false hy
          exact ht3 _ (by rw [if_pos (by omega)]) hp ht
end
end Ws

/-! texts of numbers, lines, stretches as the law reads them -/
namespace Nt
open PySem L2 TL
/-! ### a text that was split, joined -/
theorem spl_ne (s : Nat) : ∀ (t acc : List Nat), spl [s] 0 acc t ≠ []
  | [], acc => by rw [spl_nil]; simp
  | c :: r, acc => by
    by_cases h : pre [s] (c :: r) = true
    · rw [spl_hit h]; simp
    · rw [spl_miss (by simpa using h)]
      exact spl_ne s r _
theorem joinL_cons {S p : List Nat} {r : List (List Nat)} (h : r ≠ []) : joinL S (p :: r) = p ++ (S ++ joinL S r) := by
  obtain ⟨q, r, rfl⟩ := List.exists_cons_of_ne_nil h
  rfl
theorem spl_back (s : Nat) : ∀ (t acc : List Nat), joinL [s] (spl [s] 0 acc t) = acc ++ t
  | [], acc => by rw [spl_nil]; exact (List.append_nil _).symm
  | c :: r, acc => by
    by_cases h : pre [s] (c :: r) = true
    · rw [spl_hit h]
      have hc : c = s := by
        have h2 : (([c] : List Nat) == [s]) = true := h
        exact (List.cons.inj (eq_of_beq h2)).1
      show joinL [s] (acc :: spl [s] 0 [] r) = _
      rw [joinL_cons (spl_ne s r []), spl_back s r [], hc]
      rfl
    · rw [spl_miss (by simpa using h), spl_back s r _, List.append_assoc]
      rfl
theorem split_back (x y : Str) (s : Nat) (hy : tl y = [s]) : Str.join y (Txt.split x y) = x := by
  by_cases hk : Builtin.Str.strKind x < Builtin.Str.strKind y
  · have e : Txt.split x y = [x] := by
      unfold Txt.split
      rw [if_pos (by rw [decide_eq_true hk, Bool.or_true])]
    rw [e]
    rfl
  · refine ext_tl ?_
    rw [tl_join, split_spl x y (by rw [hy]; simp) hk, hy, spl_back]
    rfl
/-! ### digits -/
noncomputable def isDg (w : Str) : Bool := (decide (1 ≤ w.length) && decide (w.length ≤ 30)) && (Mi.allIn w Mi.DIGITS && (decide (w = "0") || decide ((tl w).head? ≠ some 48)))
theorem isDg_iff {w : Str} : isDg w = true ↔ ∃ n : Nat, n < 10 ^ 30 ∧ w = nTx (n : Int) := by
  unfold isDg
  simp only [Bool.and_eq_true, Bool.or_eq_true, decide_eq_true_iff]
  constructor
  · rintro ⟨⟨h1, h2⟩, h3, h4⟩
    have hd := allIn_digits.mp h3
    have hne : tl w ≠ [] := fun z => by rw [len_tl, z] at h1; simp at h1
    have hb := numL_back hd hne (fun z => by
      rcases h4 with h4 | h4
      · rw [h4]; decide +kernel
      · exact absurd z h4)
    refine ⟨dv (tl w), ?_, ext_tl ?_⟩
    · rw [← numL_len_iff (by decide), ← hb, ← len_tl]
      exact h2
    · rw [tl_pos (by omega)]
      exact hb
  · rintro ⟨n, hn, rfl⟩
    have ht := tl_pos (t := (n : Int)) (by omega)
    rw [show (n : Int).toNat = n by omega] at ht
    have hl : (nTx (n : Int)).length = (numL n).length := by rw [len_tl, ht]
    refine ⟨⟨?_, ?_⟩, allIn_digits.mpr (by rw [ht]; exact numL_digits _), ?_⟩
    · rw [hl]; exact List.length_pos_iff.mpr (numL_ne _)
    · rw [hl]; exact (numL_len_iff (by decide)).mpr hn
    · by_cases h : (tl (nTx (n : Int))).head? = some 48
      · rw [ht] at h
        have := numL_head h
        subst this
        exact .inl (by decide +kernel)
      · exact .inr h
theorem dig_nTx (n : Nat) : Mi.dig (nTx (n : Int)) = (n : Int) := by
  have ht := tl_pos (t := (n : Int)) (by omega)
  rw [dig_dv (by rw [ht]; exact numL_digits _), ht]
  show ((dv (numL (n : Int).toNat) : Nat) : Int) = _
  rw [show dv (numL (n : Int).toNat) = (n : Int).toNat from numL_val _]
  omega
/-! ### fractions -/
noncomputable def isNeg (x : Str) : Bool := decide ((tl x).head? = some 45)
noncomputable def bareL (x : Str) : Str := if isNeg x = true then cutS x (some 1) none else x
noncomputable def badF (ps : List Str) (t b : Int) : Bool := decide (b = 0) || (decide (ps.length = 2) && (decide (b = 1) || !(decide (Ws.nT t b = t ∧ Ws.nB t b = b))))
noncomputable def botL (ps : List Str) : Int := match ps with
  | [_, w] => Mi.dig w
  | _ => 1
noncomputable def topL (ps : List Str) : Int := match ps with
  | w :: _ => Mi.dig w
  | _ => 0
noncomputable def lawN (x : Str) : Option (Int × Int) :=
  if (decide (2 < (Txt.split (bareL x) "/").length) || !((Txt.split (bareL x) "/").all isDg)) = true then none
  else if badF (Txt.split (bareL x) "/") (topL (Txt.split (bareL x) "/")) (botL (Txt.split (bareL x) "/")) = true then none
  else if (decide (topL (Txt.split (bareL x) "/") = 0) && decide (x ≠ "0")) = true then none
  else some (if isNeg x = true then -(topL (Txt.split (bareL x) "/")) else topL (Txt.split (bareL x) "/"), botL (Txt.split (bareL x) "/"))
theorem cut_rest {x : Str} {c : Nat} {r : List Nat} (h : tl x = c :: r) : tl (cutS x (some 1) none) = r := by
  have hl : x.length = r.length + 1 := by rw [len_tl, h]; rfl
  have e : tl (cutS x (some 1) none) = ((tl x).drop (HT.sIx x.length 0 (some 1))).take (HT.sIx x.length x.length none - HT.sIx x.length 0 (some 1)) := rfl
  have i9 : HT.sIx x.length x.length none = x.length := rfl
  have i1 : HT.sIx x.length 0 (some 1) = 1 := by
    rw [show (1 : Int) = ((1 : Nat) : Int) from rfl, HT.sIx_nat]; omega
  rw [e, i9, i1, h, List.drop_succ_cons, List.drop_zero, hl, show r.length + 1 - 1 = r.length by omega, List.take_length]
theorem bare_eq (x : Str) : x = (if isNeg x = true then ("-" : Str) else "") ++ bareL x := by
  unfold bareL
  by_cases h : isNeg x = true
  · rw [if_pos h, if_pos h]
    have h2 : (tl x).head? = some 45 := of_decide_eq_true h
    cases e : tl x with
    | nil => rw [e] at h2; cases h2
    | cons c r =>
      rw [e] at h2
      have hc : c = 45 := Option.some.inj h2
      refine ext_tl ?_
      rw [tl_append, cut_rest e, e, hc]
      rfl
  · rw [if_neg h, if_neg h]
    exact ext_tl (by rw [tl_append]; rfl)
theorem free_split {x : Str} (h : 47 ∉ tl x) : Txt.split x "/" = [x] := by
  have := TL.split_join (y := "/") (s := 47) (S := []) (by decide +kernel) (by decide +kernel) (parts := [x]) (by simp) (fun p hp => by rw [List.mem_singleton.mp hp]; exact h)
  rw [join_eq] at this
  exact this
theorem free_split2 {a b : Str} (h1 : 47 ∉ tl a) (h2 : 47 ∉ tl b) : Txt.split (a ++ "/" ++ b) "/" = [a, b] := by
  have := TL.split_join (y := "/") (s := 47) (S := []) (by decide +kernel) (by decide +kernel) (parts := [a, b]) (by simp) (fun p hp => by
    simp only [List.mem_cons, List.not_mem_nil, or_false] at hp
    rcases hp with rfl | rfl
    · exact h1
    · exact h2)
  rw [join_eq] at this
  exact this
theorem head_shN {t b : Int} : (tl (shN t b)).head? = some 45 ↔ t < 0 := by
  by_cases h : t < 0
  · rw [shN_neg h, tl_append]
    exact ⟨fun _ => h, fun _ => rfl⟩
  · constructor
    · intro z
      exfalso
      unfold shN at z
      split at z
      · have := num_head (t := t) (by omega) []
        rw [List.append_nil] at this
        exact this z
      · rw [tl_append, tl_append, List.append_assoc] at z
        exact num_head (t := t) (by omega) _ z
    · exact fun z => absurd z h
theorem bare_shN {t b : Int} : isNeg (shN t b) = decide (t < 0) ∧ bareL (shN t b) = shN (t.natAbs : Int) b := by
  have h1 : isNeg (shN t b) = decide (t < 0) := by
    unfold isNeg
    exact decide_eq_decide.mpr head_shN
  refine ⟨h1, ?_⟩
  unfold bareL
  rw [h1]
  by_cases h : t < 0
  · rw [if_pos (decide_eq_true h), shN_neg h, show ((t.natAbs : Nat) : Int) = -t by omega]
    refine ext_tl ?_
    exact cut_rest (c := 45) (by rw [tl_append]; rfl)
  · rw [if_neg (by simpa using h), show ((t.natAbs : Nat) : Int) = t by omega]
theorem G30v : G30 = 999999999999999999999999999999 := by decide +kernel
theorem p30 : (10 : Nat) ^ 30 = 1000000000000000000000000000000 := by decide +kernel
theorem lawN_iff {x : Str} {t b : Int} : lawN x = some (t, b) ↔ x = shN t b ∧ Can t b := by
  constructor
  · intro h
    unfold lawN at h
    have hx := bare_eq x
    have hj := split_back (bareL x) "/" 47 (by decide +kernel)
    generalize bareL x = y at h hx hj
    generalize hps : Txt.split y "/" = ps at h hj
    split at h
    · cases h
    · rename_i h1
      split at h
      · cases h
      · rename_i h2
        split at h
        · cases h
        · rename_i h3
          have h1 : ¬ (2 < ps.length) ∧ ps.all isDg = true := by
            simp only [Bool.or_eq_true, decide_eq_true_iff, Bool.not_eq_true', not_or] at h1
            exact ⟨h1.1, by simpa using h1.2⟩
          have hne : ps ≠ [] := by rw [← hps]; exact Ws.split_ne y "/"
          have hall := List.all_eq_true.mp h1.2
          match ps, h1.1, hne with
          | [w0], _, _ =>
            obtain ⟨n, hn, rfl⟩ := isDg_iff.mp (hall w0 (by simp))
            have hy : y = nTx (n : Int) := hj.symm
            have e := Option.some.inj h
            have e1 : (if isNeg x = true then -(n : Int) else (n : Int)) = t := by
              rw [← dig_nTx n]
              exact congrArg Prod.fst e
            have e2 : (1 : Int) = b := congrArg Prod.snd e
            subst e2
            rw [p30] at hn
            have hcan : Can t 1 := ⟨by decide, by rw [G30v, ← e1]; split <;> omega, by rw [G30v]; decide, by simp⟩
            refine ⟨?_, hcan⟩
            have e3 : shN t 1 = nTx t := if_pos rfl
            rw [e3, ← e1]
            by_cases hneg : isNeg x = true
            · rw [if_pos hneg] at hx ⊢
              rw [hx, hy]
              by_cases h0 : n = 0
              · exfalso
                subst h0
                have h3 : ¬ ((decide (Mi.dig (nTx ((0 : Nat) : Int)) = 0) && decide (x ≠ "0")) = true) := h3
                rw [dig_nTx] at h3
                simp at h3
                rw [h3] at hneg
                revert hneg
                decide +kernel
              · have e5 := neg_txt (t := -(n : Int)) (by omega)
                rw [Int.neg_neg] at e5
                exact e5.symm
            · rw [if_neg hneg] at hx ⊢
              rw [hx, hy]
              exact ext_tl (by rw [tl_append]; rfl)
          | [w0, w1], _, _ =>
            obtain ⟨n, hn, rfl⟩ := isDg_iff.mp (hall w0 (by simp))
            obtain ⟨m, hm, rfl⟩ := isDg_iff.mp (hall w1 (by simp))
            have hy : y = nTx (n : Int) ++ "/" ++ nTx (m : Int) := hj.symm
            have e := Option.some.inj h
            have e1 : (if isNeg x = true then -(n : Int) else (n : Int)) = t := by
              rw [← dig_nTx n]
              exact congrArg Prod.fst e
            have e2 : (m : Int) = b := by
              rw [← dig_nTx m]
              exact congrArg Prod.snd e
            subst e2
            have h2 : ¬ (badF [nTx (n : Int), nTx (m : Int)] (Mi.dig (nTx (n : Int))) (Mi.dig (nTx (m : Int))) = true) := h2
            rw [dig_nTx, dig_nTx] at h2
            unfold badF at h2
            simp only [Bool.or_eq_true, Bool.and_eq_true, decide_eq_true_iff, Bool.not_eq_true', not_or, decide_eq_false_iff_not, List.length_cons, List.length_nil] at h2
            obtain ⟨hb0, h2⟩ := h2
            have h2 : ¬ ((m : Int) = 1) ∧ (Ws.nT (n : Int) (m : Int) = (n : Int) ∧ Ws.nB (n : Int) (m : Int) = (m : Int)) := by
              constructor
              · exact fun z => h2 ⟨by simp, .inl z⟩
              · exact Decidable.byContradiction fun z => h2 ⟨by simp, .inr z⟩
            have hlow := Ws.nf_low (t := (n : Int)) (b := (m : Int)) hb0
            rw [h2.2.1, h2.2.2] at hlow
            rw [p30] at hn hm
            have hcop : Nat.gcd n m = 1 := by simpa using hlow.cop
            have hcan : Can t (m : Int) := ⟨by omega, by rw [G30v, ← e1]; split <;> omega, by rw [G30v]; omega, by rw [← e1]; split <;> simpa using hcop⟩
            refine ⟨?_, hcan⟩
            have n0 : n ≠ 0 := fun z => by
              subst z
              have : m = 1 := by simpa using hcop
              exact h2.1 (by omega)
            have e3 : shN t (m : Int) = nTx t ++ "/" ++ nTx (m : Int) := if_neg h2.1
            rw [e3, ← e1]
            by_cases hneg : isNeg x = true
            · rw [if_pos hneg] at hx ⊢
              have e5 := neg_txt (t := -(n : Int)) (by omega)
              rw [Int.neg_neg] at e5
              rw [hx, hy, e5]
              simp only [str_app_assoc]
            · rw [if_neg hneg] at hx ⊢
              rw [hx, hy]
              exact ext_tl (by rw [tl_append]; rfl)
          | _ :: _ :: _ :: _, h, _ => exact absurd (by simp) h
  · rintro ⟨rfl, c⟩
    have hlow := c.low
    obtain ⟨cp, ct, cb, cc⟩ := c
    rw [G30v] at ct cb
    have ct : t.natAbs < 10 ^ 30 := by rw [p30]; omega
    obtain ⟨hn, hbr⟩ := bare_shN (t := t) (b := b)
    have hnT : nTx (t.natAbs : Int) = nTx ((t.natAbs : Nat) : Int) := rfl
    have d0 : isDg (nTx (t.natAbs : Int)) = true := isDg_iff.mpr ⟨_, ct, rfl⟩
    have hres : (if isNeg (shN t b) = true then -((t.natAbs : Nat) : Int) else ((t.natAbs : Nat) : Int)) = t := by
      rw [hn]
      split
      · rename_i h; have := of_decide_eq_true h; omega
      · rename_i h; have : ¬ t < 0 := fun z => h (decide_eq_true z); omega
    unfold lawN
    rw [hbr]
    by_cases hb : b = 1
    · subst hb
      have e : shN (t.natAbs : Int) 1 = nTx (t.natAbs : Int) := if_pos rfl
      rw [e, free_split (pos_free (by omega) (by decide))]
      have et : topL [nTx (t.natAbs : Int)] = (t.natAbs : Int) := dig_nTx _
      have eb : botL [nTx (t.natAbs : Int)] = 1 := rfl
      rw [et, eb, if_neg (by simp [d0]), if_neg (by simp [badF]), if_neg ?_, hres]
      intro z
      simp only [Bool.and_eq_true, decide_eq_true_iff] at z
      have t0 : t = 0 := by omega
      exact z.2 (by rw [t0]; decide +kernel)
    · have e : shN (t.natAbs : Int) b = nTx (t.natAbs : Int) ++ "/" ++ nTx b := if_neg hb
      obtain ⟨m, rfl⟩ : ∃ m : Nat, b = (m : Int) := ⟨b.toNat, by omega⟩
      have d1 : isDg (nTx (m : Int)) = true := isDg_iff.mpr ⟨m, by rw [p30]; omega, rfl⟩
      rw [e, free_split2 (pos_free (by omega) (by decide)) (pos_free (by omega) (by decide))]
      have et : topL [nTx (t.natAbs : Int), nTx (m : Int)] = (t.natAbs : Int) := dig_nTx _
      have eb : botL [nTx (t.natAbs : Int), nTx (m : Int)] = (m : Int) := dig_nTx _
      have hl2 := (Can.low (t := (t.natAbs : Int)) (b := (m : Int)) ⟨cp, by rw [G30v]; rw [p30] at ct; omega, by rw [G30v]; exact cb, by simpa using cc⟩)
      rw [et, eb, if_neg (by simp [d0, d1]), if_neg ?_, if_neg ?_, hres]
      · intro z
        simp only [Bool.and_eq_true, decide_eq_true_iff] at z
        have t0 : t = 0 := by omega
        subst t0
        have : m = 1 := by simpa using cc
        exact hb (by omega)
      · unfold badF
        rw [hl2.1, hl2.2]
        simp [hb]
        omega
theorem lawN_eq (x : Str) : lawN x = numQ x := by
  cases h : numQ x with
  | none =>
    cases h2 : lawN x with
    | none => rfl
    | some p =>
      obtain ⟨t, b⟩ := p
      rw [numQ_iff.mpr (lawN_iff.mp h2)] at h
      cases h
  | some p =>
    obtain ⟨t, b⟩ := p
    exact lawN_iff.mpr (numQ_iff.mp h)
/-! ### lines -/
theorem cut_last {x : Str} {d : Nat} {m : List Nat} (h : tl x = m ++ [d]) : tl (cutS x (some (-1)) none) = [d] ∧ tl (cutS x none (some (-1))) = m := by
  have hl : x.length = m.length + 1 := by rw [len_tl, h]; simp
  have e : ∀ lo hi, tl (cutS x lo hi) = ((tl x).drop (HT.sIx x.length 0 lo)).take (HT.sIx x.length x.length hi - HT.sIx x.length 0 lo) := fun _ _ => rfl
  have i0 : HT.sIx x.length 0 none = 0 := rfl
  have i9 : HT.sIx x.length x.length none = x.length := rfl
  have im : ∀ d, HT.sIx x.length d (some (-1)) = m.length := fun d => by
    rw [hl]
    unfold HT.sIx
    simp
    omega
  refine ⟨?_, ?_⟩
  · rw [e, im, i9, hl, h, List.drop_left]
    show List.take (m.length + 1 - m.length) [d] = [d]
    rw [show m.length + 1 - m.length = 1 by omega]
    rfl
  · rw [e, i0, im, h, List.drop_zero, Nat.sub_zero, List.take_left]
theorem tl_s : tl ("s" : Str) = [115] := by decide +kernel
theorem last_iff {x : Str} : cutS x (some (-1)) none = "s" ↔ ∃ y, x = y ++ "s" ∧ cutS x none (some (-1)) = y := by
  constructor
  · intro h
    have h0 : tl x ≠ [] := fun z => by
      have e : tl (cutS x (some (-1)) none) = [] := by
        have : tl (cutS x (some (-1)) none) = ((tl x).drop (HT.sIx x.length 0 (some (-1)))).take (HT.sIx x.length x.length none - HT.sIx x.length 0 (some (-1))) := rfl
        rw [this, z]
        simp
      rw [h, tl_s] at e
      cases e
    have e := (List.dropLast_concat_getLast h0).symm
    obtain ⟨k1, k2⟩ := cut_last e
    rw [h, tl_s] at k1
    have e2 := (List.cons.inj k1).1
    refine ⟨cutS x none (some (-1)), ext_tl ?_, rfl⟩
    rw [tl_append, k2, tl_s, e2]
    exact e
  · rintro ⟨y, rfl, _⟩
    exact ext_tl ((cut_last (x := y ++ "s") (m := tl y) (d := 115) (by rw [tl_append, tl_s])).1.trans tl_s.symm)
noncomputable def lineW3 (ws : List Str) : Bool := match ws with
  | [w0, w1, w2] => if w1 ∈ (["+", "-"] : List Str) ∧ cutS w2 (some (-1)) none = "s" then (match lawN w0, lawN (cutS w2 none (some (-1))) with
    | some (t, _), some (p, _) => decide (t ≠ 0) && decide (0 < p)
    | _, _ => false) else false
  | _ => false
noncomputable def lawL (x : Str) : Bool :=
  if (Txt.split x " ").length = 1 ∧ cutS x (some (-1)) none = "s" then (match lawN (cutS x none (some (-1))) with | some (p, _) => decide (p ≠ 0) | none => false)
  else if (Txt.split x " ").length = 1 then (lawN x).isSome
  else lineW3 (Txt.split x " ")
theorem join3 (a b c : Str) : Str.join " " [a, b, c] = a ++ " " ++ b ++ " " ++ c := by
  show a ++ " " ++ (b ++ " " ++ c) = _
  simp only [str_app_assoc]
theorem lawL_eq (x : Str) : lawL x = (lineQ x).isSome := by
  have hb : tl (" " : Str) = [32] := by decide +kernel
  have hj := split_back x " " 32 hb
  have up : lawL x = true → (lineQ x).isSome = true := by
    intro h
    unfold lawL at h
    split at h
    · rename_i hc
      obtain ⟨y, hy, hc2⟩ := last_iff.mp hc.2
      rw [hc2, lawN_eq] at h
      split at h
      · rename_i p q hq
        obtain ⟨ey, cy⟩ := numQ_iff.mp hq
        have hp : p ≠ 0 := of_decide_eq_true h
        have e : x = shL 0 1 p q := by
          rw [hy, ey]
          exact ((if_neg hp).trans (if_pos rfl)).symm
        rw [lineQ_iff.mpr ⟨e, can01, cy⟩]
        rfl
      · cases h
    · split at h
      · rw [lawN_eq] at h
        cases hq : numQ x with
        | none => rw [hq] at h; cases h
        | some r =>
          obtain ⟨t, b⟩ := r
          obtain ⟨ex, cx⟩ := numQ_iff.mp hq
          rw [lineQ_iff.mpr ⟨ex.trans (if_pos rfl).symm, cx, can01⟩]
          rfl
      · unfold lineW3 at h
        split at h
        · rename_i w0 w1 w2 hw
          split at h
          · rename_i hc
            obtain ⟨y, hy, hc2⟩ := last_iff.mp hc.2
            rw [hc2, lawN_eq, lawN_eq] at h
            split at h
            · rename_i t b p q h1 h2
              rw [Bool.and_eq_true, decide_eq_true_iff, decide_eq_true_iff] at h
              obtain ⟨e0, c0⟩ := numQ_iff.mp h1
              obtain ⟨e1, c1⟩ := numQ_iff.mp h2
              rw [hw, join3, hy, e0, e1] at hj
              have hm : w1 = "+" ∨ w1 = "-" := by simpa using hc.1
              rcases hm with rfl | rfl
              · have e : x = shL t b p q := by
                  rw [← hj]
                  have e2 : shL t b p q = shN t b ++ " " ++ (if p < 0 then ("-" : Str) else "+") ++ " " ++ shN (p.natAbs : Int) q ++ "s" := (if_neg (by omega)).trans (if_neg h.1)
                  rw [e2, if_neg (by omega), show ((p.natAbs : Nat) : Int) = p by omega]
                  simp only [str_app_assoc]
                rw [lineQ_iff.mpr ⟨e, c0, c1⟩]
                rfl
              · have e : x = shL t b (-p) q := by
                  rw [← hj]
                  have e2 : shL t b (-p) q = shN t b ++ " " ++ (if -p < 0 then ("-" : Str) else "+") ++ " " ++ shN ((-p).natAbs : Int) q ++ "s" := (if_neg (by omega)).trans (if_neg h.1)
                  rw [e2, if_pos (by omega), show (((-p).natAbs : Nat) : Int) = p by omega]
                  simp only [str_app_assoc]
                rw [lineQ_iff.mpr ⟨e, c0, c1.neg⟩]
                rfl
            · cases h
          · cases h
        · cases h
  have down : (lineQ x).isSome = true → lawL x = true := by
    intro h
    cases hq : lineQ x with
    | none => rw [hq] at h; cases h
    | some r =>
      obtain ⟨t, b, p, q⟩ := r
      obtain ⟨rfl, c1, c2⟩ := lineQ_iff.mp hq
      have f1 : 32 ∉ tl (shN t b) := shN_free c1.pos (by decide)
      have f2 : 32 ∉ tl (shN p q) := shN_free c2.pos (by decide)
      have f3 : 32 ∉ tl (shN (p.natAbs : Int) q) := shN_free c2.pos (by decide)
      have no_s : ∀ {t b : Int}, Can t b → cutS (shN t b) (some (-1)) none ≠ "s" := fun {t b} c z => by
        obtain ⟨y, hy, _⟩ := last_iff.mp z
        exact shN_free (c := 115) c.pos (by decide) (by rw [hy, tl_append, tl_s]; simp)
      have with_s : ∀ y : Str, cutS (y ++ "s") (some (-1)) none = "s" ∧ cutS (y ++ "s") none (some (-1)) = y := fun y => by
        have k := cut_last (x := y ++ "s") (m := tl y) (d := 115) (by rw [tl_append, tl_s])
        exact ⟨ext_tl (k.1.trans tl_s.symm), ext_tl k.2⟩
      by_cases hp : p = 0
      · have e : shL t b p q = shN t b := if_pos hp
        rw [e]
        unfold lawL
        rw [split_one f1, if_neg (fun z => no_s c1 z.2), if_pos (show [shN t b].length = 1 from rfl), lawN_eq, numQ_iff.mpr ⟨rfl, c1⟩]
        rfl
      · by_cases ht : t = 0
        · have e : shL t b p q = shN p q ++ "s" := (if_neg hp).trans (if_pos ht)
          have hf : 32 ∉ tl (shN p q ++ "s") := by
            rw [tl_append, tl_s]
            intro hm
            rcases List.mem_append.mp hm with hm | hm
            · exact f2 hm
            · simp at hm
          rw [e]
          unfold lawL
          rw [split_one hf, if_pos ⟨rfl, (with_s _).1⟩, (with_s _).2, lawN_eq, numQ_iff.mpr ⟨rfl, c2⟩]
          exact decide_eq_true hp
        · have e : shL t b p q = shN t b ++ " " ++ (if p < 0 then ("-" : Str) else "+") ++ " " ++ (shN (p.natAbs : Int) q ++ "s") := ((if_neg hp).trans (if_neg ht)).trans (str_app_assoc _ _ _)
          have fs : 32 ∉ tl (if p < 0 then ("-" : Str) else "+") := by split <;> decide +kernel
          have hf : 32 ∉ tl (shN (p.natAbs : Int) q ++ "s") := by
            rw [tl_append, tl_s]
            intro hm
            rcases List.mem_append.mp hm with hm | hm
            · exact f3 hm
            · simp at hm
          rw [e]
          unfold lawL
          rw [split_three f1 fs hf, if_neg (fun z => by simp at z), if_neg (by simp)]
          unfold lineW3
          dsimp only
          rw [if_pos ⟨by split <;> simp, (with_s _).1⟩, (with_s _).2, lawN_eq, lawN_eq, numQ_iff.mpr ⟨rfl, c1⟩, numQ_iff.mpr ⟨rfl, c2.abs⟩]
          dsimp only
          rw [decide_eq_true ht, decide_eq_true (by omega)]
          rfl
  cases h : (lineQ x).isSome with
  | true => exact down h
  | false =>
    cases h2 : lawL x with
    | false => rfl
    | true => rw [up h2] at h; cases h
/-! ### stretches -/
theorem ends_form {x : Str} {c d : Nat} {m : List Nat} (h : tl x = c :: (m ++ [d])) (hc : c = 91 ∨ c = 40) (hd : d = 93 ∨ d = 41) : strQ x = (match Txt.split ⟨m.toArray⟩ " " with
    | [w0, w1] => (match numQ w0, numQ w1 with
      | some (t, b), some (p, q) => if okS t b p q (decide (c = 91)) (decide (d = 93)) = true then some (t, b, p, q, decide (c = 91), decide (d = 93)) else none
      | _, _ => none)
    | _ => none) := by
  obtain ⟨k1, k2, k3⟩ := cut_parts h
  have g1 : cutS x none (some 1) = "[" ∨ cutS x none (some 1) = "(" := by
    rcases hc with rfl | rfl
    · exact .inl (ext_tl (k1.trans (by decide +kernel)))
    · exact .inr (ext_tl (k1.trans (by decide +kernel)))
  have g2 : cutS x (some (-1)) none = "]" ∨ cutS x (some (-1)) none = ")" := by
    rcases hd with rfl | rfl
    · exact .inl (ext_tl (k2.trans (by decide +kernel)))
    · exact .inr (ext_tl (k2.trans (by decide +kernel)))
  have e3 : cutS x (some 1) (some (-1)) = ⟨m.toArray⟩ := ext_tl k3
  unfold strQ
  rw [if_pos ⟨g1, g2⟩, e3, start_one h (show tl ("[" : Str) = [91] by decide +kernel), end_one (m := c :: m) h (show tl ("]" : Str) = [93] by decide +kernel)] <;> rfl
theorem ends_of {x : Str} (h : strQ x ≠ none) : ∃ c m d, tl x = c :: (m ++ [d]) ∧ (c = 91 ∨ c = 40) ∧ (d = 93 ∨ d = 41) := by
  have g : (cutS x none (some 1) = "[" ∨ cutS x none (some 1) = "(") ∧ (cutS x (some (-1)) none = "]" ∨ cutS x (some (-1)) none = ")") := Decidable.byContradiction fun n => h (if_neg n)
  have h0 : tl x ≠ [] := fun z => by
    have e : tl (cutS x none (some 1)) = [] := by
      have : tl (cutS x none (some 1)) = ((tl x).drop (HT.sIx x.length 0 none)).take (HT.sIx x.length x.length (some 1) - HT.sIx x.length 0 none) := rfl
      rw [this, z]
      simp
    rcases g.1 with q | q <;> (rw [q] at e; revert e; decide +kernel)
  have e := (List.dropLast_concat_getLast h0).symm
  generalize (tl x).getLast h0 = d at e
  generalize (tl x).dropLast = l at e
  have k2 := (cut_last e).1
  have hd : d = 93 ∨ d = 41 := by
    rcases g.2 with q | q
    · rw [q, show tl ("]" : Str) = [93] by decide +kernel] at k2
      exact .inl (List.cons.inj k2).1.symm
    · rw [q, show tl (")" : Str) = [41] by decide +kernel] at k2
      exact .inr (List.cons.inj k2).1.symm
  cases l with
  | nil =>
    exfalso
    have hl : x.length = 1 := by rw [len_tl, e]; rfl
    have k1 : tl (cutS x none (some 1)) = [d] := by
      have : tl (cutS x none (some 1)) = ((tl x).drop (HT.sIx x.length 0 none)).take (HT.sIx x.length x.length (some 1) - HT.sIx x.length 0 none) := rfl
      rw [this, e, hl]
      rfl
    rcases g.1 with q | q
    · rw [q, show tl ("[" : Str) = [91] by decide +kernel] at k1
      have := (List.cons.inj k1).1
      omega
    · rw [q, show tl ("(" : Str) = [40] by decide +kernel] at k1
      have := (List.cons.inj k1).1
      omega
  | cons c m =>
    have k1 := (cut_parts e).1
    refine ⟨c, m, d, e, ?_, hd⟩
    rcases g.1 with q | q
    · rw [q, show tl ("[" : Str) = [91] by decide +kernel] at k1
      exact .inl (List.cons.inj k1).1.symm
    · rw [q, show tl ("(" : Str) = [40] by decide +kernel] at k1
      exact .inr (List.cons.inj k1).1.symm
theorem strQ_back {x : Str} {t b p q : Int} {hl hh : Bool} (h : strQ x = some (t, b, p, q, hl, hh)) : x = shS t b p q hl hh ∧ Can t b ∧ Can p q ∧ okS t b p q hl hh = true := by
  obtain ⟨c, m, d, ex, hc, hd⟩ := ends_of (x := x) (by rw [h]; simp)
  rw [ends_form ex hc hd] at h
  have hb : tl (" " : Str) = [32] := by decide +kernel
  have hj := split_back ⟨m.toArray⟩ " " 32 hb
  split at h
  · rename_i w0 w1 hw
    rw [hw] at hj
    split at h
    · rename_i t' b' p' q' h1 h2
      obtain ⟨e0, c0⟩ := numQ_iff.mp h1
      obtain ⟨e1, c1⟩ := numQ_iff.mp h2
      split at h
      · rename_i ok
        have e := Option.some.inj h
        injection e with a1 e
        injection e with a2 e
        injection e with a3 e
        injection e with a4 e
        injection e with a5 a6
        subst a1 a2 a3 a4
        rw [a5, a6] at ok
        refine ⟨ext_tl ?_, c0, c1, ok⟩
        have hm : m = tl (shN t' b' ++ " " ++ shN p' q') := by
          rw [← e0, ← e1]
          have := congrArg tl hj
          exact this.symm
        rw [ex, shS_tl, ← a5, ← a6, hm]
        have z1 : c = (if decide (c = 91) = true then 91 else 40) := by rcases hc with rfl | rfl <;> rfl
        have z2 : d = (if decide (d = 93) = true then 93 else 41) := by rcases hd with rfl | rfl <;> rfl
        rw [← z1, ← z2]
      · cases h
    · cases h
  · cases h
end Nt

namespace Ws
open PySem PySem.Spec PyProof.Rows L2
noncomputable abbrev sIsDg : Stmt := (PySem.Challenge.pw_whatspeed_k94_texts_that_are_none.main.body.getD 37 (.Pass ⟨0, 0, 0, 0⟩))
noncomputable abbrev NIsDg : List Str := ["word", "figures", "sign"]
noncomputable abbrev PIsDg : List Str := ["word"]
theorem scIsDg : FnScope NIsDg PIsDg (defScope sIsDg) := ⟨rfl, rfl, rfl, by decide +kernel, rfl, by decide +kernel, by decide +kernel⟩
noncomputable abbrev sLNum : Stmt := (PySem.Challenge.pw_whatspeed_k94_texts_that_are_none.main.body.getD 38 (.Pass ⟨0, 0, 0, 0⟩))
noncomputable abbrev NLNum : List Str := ["word", "bare", "parts", "top", "bottom", "part"]
noncomputable abbrev PLNum : List Str := ["word"]
theorem scLNum : FnScope NLNum PLNum (defScope sLNum) := ⟨rfl, rfl, rfl, by decide +kernel, rfl, by decide +kernel, by decide +kernel⟩
/-! ### the law's reader -/
noncomputable def spIsDg : Sp := fun vs H Q _ => ∃ x : Str, vs = [.str x] ∧ x.length ≤ 1000 ∧ ∀ H', Same H H' → Q (.bl (Nt.isDg x)) H'
noncomputable def spLNum : Sp := fun vs H Q _ => ∃ x : Str, vs = [.str x] ∧ x.length ≤ 900 ∧ (Nt.numQ x = none → ∀ H', Same H H' → Q .non H') ∧ (∀ t b, Nt.numQ x = some (t, b) → ∀ r H', H r = none → H' r = some (.tup [.int t, .int b]) → Same H H' → Q (.ref r) H')
theorem dp2 {K : PySem.W.Frag} {H : Hp} (a b : Int) : DpAll K H [.int a, .int b] [.int a, .int b] := .cons (.int _) (.cons (.int _) .nil)
theorem eqvD (a b c d : Int) : PyData.eqv (.tuple [.int a, .int b]) (.tuple [.int c, .int d]) = decide (a = c ∧ b = d) := by
  simp only [PyData.eqv, PyData.eqvAll, Bool.and_true]
  by_cases h1 : a = c <;> by_cases h2 : b = d <;> simp [h1, h2]
theorem split_cnt {x y : Str} {c : Nat} (hy : TL.tl y = [c]) : (Txt.split x y).length ≤ x.length + 1 := by
  by_cases hk : Builtin.Str.strKind x < Builtin.Str.strKind y
  · have e : Txt.split x y = [x] := by
      unfold Txt.split
      rw [if_pos (by rw [decide_eq_true hk, Bool.or_true])]
    rw [e]
    simp
  · have h := TL.split_spl x y (by rw [hy]; simp) hk
    rw [hy] at h
    have h2 := spl_sum c (TL.tl x) []
    rw [← h, List.length_map] at h2
    rw [TL.len_tl]
    simp only [List.length_nil] at h2
    omega
theorem cut_first (x : Str) : TL.tl (cutS x none (some 1)) = (TL.tl x).take 1 := by
  have e : TL.tl (cutS x none (some 1)) = ((TL.tl x).drop (HT.sIx x.length 0 none)).take (HT.sIx x.length x.length (some 1) - HT.sIx x.length 0 none) := rfl
  have i0 : HT.sIx x.length 0 none = 0 := rfl
  have i1 : HT.sIx x.length x.length (some 1) = min 1 x.length := by
    rw [show (1 : Int) = ((1 : Nat) : Int) from rfl, HT.sIx_nat]
  rw [e, i0, i1, List.drop_zero, Nat.sub_zero, TL.len_tl]
  cases TL.tl x with
  | nil => rfl
  | cons c r =>
    rw [show min 1 (c :: r).length = 1 by simp]
theorem first_iff {x : Str} : decide (V.str (cutS x none (some 1)) = V.str "-") = Nt.isNeg x := by
  unfold Nt.isNeg
  refine decide_eq_decide.mpr ?_
  have h := cut_first x
  have e : TL.tl ("-" : Str) = [45] := by decide +kernel
  constructor
  · intro z
    injection z with z
    rw [z, e] at h
    cases hx : TL.tl x with
    | nil => rw [hx] at h; cases h
    | cons c r =>
      rw [hx] at h
      rw [← (List.cons.inj h).1]
      rfl
  · intro z
    refine congrArg V.str (TL.ext_tl ?_)
    rw [h, e]
    cases hx : TL.tl x with
    | nil => rw [hx] at z; cases z
    | cons c r =>
      rw [hx] at z
      rw [Option.some.inj z]
      rfl
theorem lawN_ps {x : Str} {ps : List Str} (h : Txt.split (Nt.bareL x) "/" = ps) : Nt.lawN x = if (decide (2 < ps.length) || !(ps.all Nt.isDg)) = true then none
    else if Nt.badF ps (Nt.topL ps) (Nt.botL ps) = true then none else if (decide (Nt.topL ps = 0) && decide (x ≠ "0")) = true then none else some (if Nt.isNeg x = true then -(Nt.topL ps) else Nt.topL ps, Nt.botL ps) := by
  subst h
  rfl
theorem n12 : decide (V.int ((1 : Nat) : Int) = V.int 2) = false := by decide +kernel
theorem n22 : decide (V.int ((2 : Nat) : Int) = V.int 2) = true := by decide +kernel
theorem filt_len {p : Nat → Bool} : ∀ l : List Nat, decide (((l.filter p).length : Int) = (l.length : Int)) = l.all p
  | [] => rfl
  | c :: r => by
    have ih := filt_len (p := p) r
    have hle := List.length_filter_le p r
    rw [List.all_cons, List.filter_cons]
    cases h : p c with
    | true =>
      rw [if_pos rfl, Bool.true_and, ← ih, List.length_cons, List.length_cons]
      exact decide_eq_decide.mpr ⟨fun z => by omega, fun z => by omega⟩
    | false =>
      rw [if_neg (by simp), Bool.false_and, List.length_cons]
      exact decide_eq_false (by omega)
section
variable {P : Program} {w : World} {K : PySem.W.Frag} {mg : Str → Option Value} {base : Heap} {C D f : Addr} {fd : FuncData}
theorem ok_isdg (F : L2.Fun K "_law_is_digits" "_law_is_digits" sIsDg f fd) (b : Binds K fd PIsDg []) (B : Bi mg) : FnR P w K mg base CX0 1 f spIsDg := by
  refine fnR_of F b scIsDg (fun vs H Q E h => ?_) (fun cdv A outer s H vs Q E hr h => ?_)
  · obtain ⟨_, rfl, _⟩ := h
    rfl
  · have sc := scIsDg
    obtain ⟨x, rfl, hx, k⟩ := h
    refine ⟨_, (pss_cons (ps_setLc (i := 1) (own := [("sign", 2)]) rfl sc.nd rfl rfl (sw_true rfl rfl rfl (by decide +kernel)) (pi_str (pv 0)) (blkOk_by (N := NIsDg) (sc := defScope sIsDg) (by decide +kernel)) (fun _ _ _ _ _ => by exact (pg_name (i := 2) sc.nd rfl (Or.inl rfl))) (fun _ _ _ _ _ => by exact (pts_one (pt_cmpR op_in_sign (pv 2) pe_str rfl))) (fun _ _ _ _ _ => by exact (pv 2))) (pss_one (ps_ret (pe_and (pe_chain op_le op_le pe_int (pe_callB call_len_str (by rfl) B.len PySem.boot_len (pa_cons (pv 0) pa_nil)) pe_int) (pe_and (pe_cmpR op_eq (pe_callB call_len_seq (by rfl) B.len PySem.boot_len (pa_cons (pv 1) pa_nil)) (pe_callB call_len_str (by rfl) B.len PySem.boot_len (pa_cons (pv 0) pa_nil)) (nomark _)) (pe_one (pe_or (pe_cmpR op_eq (pv 0) pe_str (nomark _)) (pe_one (pe_cmpR op_ne (pe_ix ix_str (pv 0) pe_int (fun _ _ => rfl)) pe_str (nomark _)))))))))), ?_⟩
    refine ⟨_, rfl, x, rfl, fun D nD => ?_⟩
    refine lc_str (fun i G => G D = some (.lst (((x.cps.toList.take i).filter fun c => decide (c ∈ Mi.DIGITS.cps.toList)).map fun c => V.str ⟨#[c]⟩)) ∧ Same H G) ⟨upd_same, Same.new nD⟩ (fun i c G hc hp => ?_) (fun G hp => ?_)
    · have e2 : x.cps.toList[i]? = some c := by rw [Array.getElem?_toList]; exact hc
      have il : i < x.cps.size := (Array.getElem?_eq_some_iff.mp hc).1
      have et : x.cps.toList.take (i + 1) = x.cps.toList.take i ++ [c] := by rw [List.take_add_one, e2]; rfl
      refine ⟨rfl, ?_⟩
      refine ⟨_, rfl, c, Mi.DIGITS, rfl, rfl, _, rfl, if2 (fun hy => ?_) (fun hy => ?_)⟩
      · refine ⟨_, rfl, _, hp.1, ?_, ?_, fun b o h => (upd_ne (ne_of_none h nD)).trans (hp.2 b o h)⟩
        · have hx' : x.cps.size ≤ 1000 := hx
          have h1 := List.length_filter_le (fun c => decide (c ∈ Mi.DIGITS.cps.toList)) (x.cps.toList.take i)
          rw [List.length_take] at h1
          rw [List.length_map]
          exact Nat.lt_of_le_of_lt (show _ ≤ 1000 by omega) (by decide)
        · rw [et, List.filter_append, List.filter_cons, if_pos hy, List.map_append]
          exact upd_same
      · refine ⟨?_, hp.2⟩
        rw [et, List.filter_append, List.filter_cons, hy, if_neg (by simp), List.filter_nil, List.append_nil]
        exact hp.1
    · have hsz : x.cps.size = x.cps.toList.length := rfl
      rw [hsz, List.take_length] at hp
      have hk := k G hp.2
      have e : Nt.isDg x = ((decide (1 ≤ x.length) && decide (x.length ≤ 30)) && (Mi.allIn x Mi.DIGITS && (decide (x = "0") || decide ((TL.tl x).head? ≠ some 48)))) := rfl
      have hz : x.length ≤ sizeLine := Nat.le_trans hx (by decide)
      have isF : Nt.isDg x = false → Q (.bl false) G := fun h => by rw [h] at hk; exact hk
      have isT : Nt.isDg x = true → Q (.bl true) G := fun h => by rw [h] at hk; exact hk
      refine ⟨_, rfl, x, rfl, hz, _, _, rfl, rfl, _, rfl, if2 (fun h1 => ?_) (fun h1 => ?_)⟩
      · have a1 : 1 ≤ x.length := by have := of_decide_eq_true h1; omega
        refine ⟨_, _, rfl, rfl, _, rfl, if2 (fun h2 => ?_) (fun h2 => ?_)⟩
        · have a2 : x.length ≤ 30 := by have := of_decide_eq_true h2; omega
          refine ⟨_, rfl, D, _, rfl, .inl (SqL.of hp.1), _, rfl, x, rfl, hz, rfl, _, rfl, ?_⟩
          have e3 : decide (V.int (((((x.cps.toList.filter fun c => decide (c ∈ Mi.DIGITS.cps.toList)).map fun c => V.str ⟨#[c]⟩).length : Nat)) : Int) = V.int ((x.length : Nat) : Int)) = Mi.allIn x Mi.DIGITS := by
            unfold Mi.allIn
            rw [← filt_len, List.length_map]
            exact decide_eq_decide.mpr ⟨fun z => by injection z, fun z => congrArg V.int z⟩
          refine if2 (fun h3 => ?_) (fun h3 => ?_)
          · have a3 : Mi.allIn x Mi.DIGITS = true := e3.symm.trans h3
            refine ⟨_, rfl, rfl, _, rfl, if2 (fun h4 => ?_) (fun h4 => ?_)⟩
            · have a4 : x = "0" := by have := of_decide_eq_true h4; injection this
              exact isT (by rw [e, decide_eq_true a1, decide_eq_true a2, a3, decide_eq_true a4]; rfl)
            · have a4 : ¬ x = "0" := fun z => of_decide_eq_false h4 (congrArg V.str z)
              cases hc : x.cps.toList with
              | nil =>
                exfalso
                have : x.cps.toList.length = x.cps.size := rfl
                rw [hc] at this
                have : (0 : Nat) = x.length := this
                omega
              | cons c r =>
                have hat : atI x.cps.toList 0 = some c := by rw [hc]; simp [atI, ixN]
                refine ⟨_, rfl, x, 0, c, rfl, rfl, hz, hat, rfl, ?_⟩
                have hh : (TL.tl x).head? = some c := by show x.cps.toList.head? = _; rw [hc]; rfl
                have e5 : (!decide (V.str ⟨#[c]⟩ = V.str "0")) = decide ((TL.tl x).head? ≠ some 48) := by
                  rw [hh]
                  by_cases h : c = 48
                  · subst h; decide +kernel
                  · rw [decide_eq_true (show some c ≠ some 48 from fun z => h (Option.some.inj z)), decide_eq_false]
                    · rfl
                    · intro z
                      injection z with z
                      have e2 : (#[c] : Array Nat) = #[48] := congrArg Str.cps z
                      simp at e2
                      exact h e2
                show Q (.bl (!decide (V.str ⟨#[c]⟩ = V.str "0"))) G
                rw [e5]
                rw [e, decide_eq_true a1, decide_eq_true a2, a3, decide_eq_false a4] at hk
                exact hk
          · have a3 : Mi.allIn x Mi.DIGITS = false := e3.symm.trans h3
            exact isF (by rw [e, a3, Bool.false_and, Bool.and_false])
        · have a2 : ¬ x.length ≤ 30 := fun z => of_decide_eq_false h2 (by omega)
          exact isF (by rw [e, decide_eq_false a2, Bool.and_false, Bool.false_and])
      · have a1 : ¬ 1 ≤ x.length := fun z => of_decide_eq_false h1 (by omega)
        refine ⟨_, rfl, ?_⟩
        exact isF (by rw [e, decide_eq_false a1, Bool.false_and, Bool.false_and])
theorem ok_lnum (F : L2.Fun K "_law_number_of" "_law_number_of" sLNum f fd) (b : Binds K fd PLNum []) (B : Bi mg) (cDg : CalF P w K mg base 1 "_law_is_digits" spIsDg) (cLw : CalF P w K mg base 1 "_law_lowest" spLowest) : FnR P w K mg base CX0 2 f spLNum := by
  refine fnR_of (k := 1) F b scLNum (fun vs H Q E h => ?_) (fun cdv A outer s H vs Q E hr h => ?_)
  · obtain ⟨_, rfl, _⟩ := h
    rfl
  · have sc := scLNum
    obtain ⟨x, rfl, hx, k0, k1⟩ := h
    rw [← Nt.lawN_eq] at k0
    have rest : ∃ tt, PSs (cxOf CX0 P w K mg base NLNum "_law_number_of" (defScope sLNum) f cdv A outer s H E).nox (List.drop 1 (defBody sLNum)) tt ∧ ∀ (G : Hp), Same H G →
        tt { nx := fun _ H' => Q .non H', rt := Q } [some (.str x), some (.str (Nt.bareL x)), none, none, none, none] G := by
      refine ⟨_, (pss_cons (ps_set (i := 2) sc.nd rfl (Or.inl rfl) (pe_split (pv 1) pe_str)) (pss_cons (ps_if (PW.pt (pw_or (pt_cmpR op_gt (pe_callB call_len_seq (by rfl) B.len PySem.boot_len (pa_cons (pv 2) pa_nil)) pe_int (nomark _)) (pw_or1 (pt_not (pt_val (pe_callB (cr_all rfl) (by rfl) B.all (by decide +kernel) (pa_cons (pe_lc (own := [("part", 5)]) rfl sc.nd (pi_list (pv 2)) (blkOk_by (N := NLNum) (sc := defScope sLNum) (by decide +kernel)) (fun _ _ _ _ _ => by exact (pg_name (i := 5) sc.nd rfl (Or.inl rfl))) (fun _ _ _ _ _ => by exact pts_nil) (fun _ _ _ _ _ => by exact (pe_f cDg hr (by decide) rfl (pa_cons (pv 5) pa_nil)))) pa_nil))))))) (pss_one (ps_ret pe_non)) pss_nil) (pss_cons (ps_par (i := 3) (j := 4) (by rfl) sc.nd rfl rfl (by decide) rfl rfl (pa_cons (pe_callTy call_int_str (by rfl) B.int (by decide +kernel) (pa_cons (pe_ix ix_list (pv 2) pe_int (fun _ _ => rfl)) pa_nil)) (pa_cons (pe_ifExp (pt_cmpR op_eq (pe_callB call_len_seq (by rfl) B.len PySem.boot_len (pa_cons (pv 2) pa_nil)) pe_int (nomark _)) (pe_callTy call_int_str (by rfl) B.int (by decide +kernel) (pa_cons (pe_ix ix_list (pv 2) pe_int (fun _ _ => rfl)) pa_nil)) pe_int) pa_nil)) (by rfl)) (pss_cons (ps_if (PW.pt (pw_or (pt_cmpR op_eq (pv 4) pe_int (nomark _)) (pw_or1 (PW.pt (pw_and (pt_cmpR op_eq (pe_callB call_len_seq (by rfl) B.len PySem.boot_len (pa_cons (pv 2) pa_nil)) pe_int (nomark _)) (pw_and1 (PW.pt (pw_or (pt_cmpR op_eq (pv 4) pe_int (nomark _)) (pw_or1 (pt_cmpR (op_neD hr.units) (pe_f cLw hr (by decide) rfl (pa_cons (pv 3) (pa_cons (pv 4) pa_nil))) (pe_tup (pa_cons (pv 3) (pa_cons (pv 4) pa_nil))) (nomark _))))))))))) (pss_one (ps_ret pe_non)) pss_nil) (pss_cons (ps_if (PW.pt (pw_and (pt_cmpR op_eq (pv 3) pe_int (nomark _)) (pw_and1 (pt_cmpR op_ne (pv 0) pe_str (nomark _))))) (pss_one (ps_ret pe_non)) pss_nil) (pss_one (ps_ret (pe_tup (pa_cons (pe_ifExp (pt_cmpR op_eq (pe_slice sl_str (pv 0) po_none (po_some pe_int)) pe_str (nomark _)) (pe_un un_neg (pv 3)) (pv 3)) (pa_cons (pv 4) pa_nil)))))))))), ?_⟩
      intro G sG
      have lb : (Nt.bareL x).length ≤ 900 := Nat.le_trans (by unfold Nt.bareL; split; exact cutS_length _ _ _; exact Nat.le_refl _) hx
      refine ⟨_, rfl, ⟨_, rfl⟩, Nt.bareL x, "/", rfl, rfl, rfl, by have := Nat.add_le_add_right lb 2; exact Nat.le_trans this (by decide), fun wp nwp => ?_⟩
      have hl := lawN_ps (x := x) rfl
      have hne := split_ne (Nt.bareL x) "/"
      have hwl : ∀ z ∈ Txt.split (Nt.bareL x) "/", z.length ≤ 900 := fun z hz => Nat.le_trans (split_len _ "/" z hz) lb
      have s1 := Same.new (o := .lst ((Txt.split (Nt.bareL x) "/").map V.str)) nwp
      have hw := upd_same (H := G) (a := wp) (o := .lst ((Txt.split (Nt.bareL x) "/").map V.str))
      have hps : (Txt.split (Nt.bareL x) "/").length ≤ 1000 := Nat.le_trans (split_cnt (c := 47) (by decide +kernel)) (by omega)
      generalize Txt.split (Nt.bareL x) "/" = ps at hl hne hwl s1 hw hps ⊢
      generalize upd G wp (.lst (ps.map V.str)) = H1 at s1 hw ⊢
      have s1 := sG.trans s1
      refine ⟨_, rfl, wp, _, rfl, .inl (SqL.of hw), _, _, rfl, rfl, _, rfl, if2 (fun h1 => ?_) (fun h1 => ?_)⟩
      · have a1 : 2 < ps.length := by have := of_decide_eq_true h1; rw [List.length_map] at this; omega
        refine ifT rfl (k0 ?_ H1 s1)
        rw [hl, if_pos (by rw [decide_eq_true a1]; rfl)]
      have a1 : ¬ 2 < ps.length := fun z => of_decide_eq_false h1 (by rw [List.length_map]; omega)
      refine ⟨_, rfl, wp, rfl, ⟨_, SqL.of hw⟩, fun D nD => ?_⟩
      refine lcL (xs := ps.map V.str) (fun i acc G' => acc = (ps.take i).map (fun w => V.bl (Nt.isDg w)) ∧ Same H1 G') ⟨rfl, Same.new nD⟩ (fun i acc G' h => SqL.of (h.2 _ _ hw)) (by rw [List.length_map]; exact Nat.lt_of_le_of_lt hps (by decide)) ?_ ?_
      · rintro i v G' acc hv ⟨rfl, sj⟩ eD hlen Qn kQ
        rw [List.getElem?_map] at hv
        obtain ⟨z, hz, rfl⟩ := Option.map_eq_some_iff.mp hv
        refine ⟨rfl, _, rfl, z, rfl, Nat.le_trans (hwl z (List.mem_of_getElem? hz)) (by decide), fun H2 s2 => kQ _ _ (s2 _ _ eD) ⟨?_, fun b o h => (upd_ne (ne_of_none h nD)).trans (s2 _ _ (sj _ _ h))⟩⟩
        rw [List.take_add_one, hz, List.map_append]
        rfl
      · rintro ys G' ⟨hy, sj⟩ eD hlen
        rw [List.length_map, List.take_length] at hy
        refine ⟨D, ps.map Nt.isDg, rfl, SqL.of (by rw [eD, hy, List.map_map]; rfl), _, rfl, ?_⟩
        have eall : (ps.map Nt.isDg).all id = ps.all Nt.isDg := by rw [List.all_map]; rfl
        rw [eall]
        have s3 := s1.trans sj
        have hw := sj _ _ hw
        cases ha : ps.all Nt.isDg with
        | false =>
          refine ifT rfl (k0 ?_ G' s3)
          rw [hl, ha, if_pos (by simp)]
        | true =>
          refine ifF rfl ?_
          rw [ha, decide_eq_false a1, if_neg (by simp)] at hl
          have hall := List.all_eq_true.mp ha
          have fin : ∀ (Gf : Hp), Same H Gf → ∀ (top bot : Int), Nt.topL ps = top → Nt.botL ps = bot → Nt.badF ps top bot = false → tSeq (tIfS (tAnd (tTest (tOp rEq (tVar 3) (tC (V.int 0)))) (tTest (tOp rNe (tVar 0) (tC (V.str "0"))))) (tRet (tC V.non)) tNext)
              (tRet (tTup (tCons (tIf (tTest (tOp rEq (tSl rSlS (tVar 0) tNoPart (tPart (tC (V.int 1)))) (tC (V.str "-")))) (tUn (rU fun i => V.int (-i)) (tVar 3)) (tVar 3)) (tCons (tVar 4) tNil)))) { nx := fun x H' => Q V.non H', rt := Q }
              [some (.str x), some (.str (Nt.bareL x)), some (.ref wp), some (.int top), some (.int bot), none] Gf := fun Gf s3 top bot et eb hbad => by
            rw [et, eb, hbad, if_neg (by simp)] at hl
            have last : ¬ (top = 0 ∧ x ≠ "0") → tRet (tTup (tCons (tIf (tTest (tOp rEq (tSl rSlS (tVar 0) tNoPart (tPart (tC (V.int 1)))) (tC (V.str "-")))) (tUn (rU fun i => V.int (-i)) (tVar 3)) (tVar 3)) (tCons (tVar 4) tNil))) { nx := fun x H' => Q V.non H', rt := Q }
              [some (.str x), some (.str (Nt.bareL x)), some (.ref wp), some (.int top), some (.int bot), none] Gf := fun hn => by
              rw [if_neg (by simpa using hn), Nt.lawN_eq] at hl
              have hz : x.length ≤ sizeLine := Nat.le_trans hx (by decide)
              refine ⟨_, rfl, _, rfl, x, rfl, hz, rfl, _, rfl, ?_⟩
              rw [first_iff]
              cases hneg : Nt.isNeg x with
              | true =>
                rw [hneg] at hl
                exact ifT rfl ⟨_, rfl, _, rfl, _, rfl, by show 2 ≤ sizeLine; decide, fun r nr => k1 _ _ hl r _ (free_same s3 nr) upd_same (s3.trans (Same.new nr))⟩
              | false =>
                rw [hneg] at hl
                exact ifF rfl ⟨_, rfl, _, rfl, by show 2 ≤ sizeLine; decide, fun r nr => k1 _ _ hl r _ (free_same s3 nr) upd_same (s3.trans (Same.new nr))⟩
            refine ⟨_, rfl, rfl, _, rfl, if2 (fun h3 => ?_) (fun h3 => ?_)⟩
            · have h3 : top = 0 := by have := of_decide_eq_true h3; injection this
              refine ⟨_, rfl, rfl, _, rfl, ?_⟩
              by_cases h4 : x = "0"
              · refine ifF (by rw [h4]; decide +kernel) (last fun z => z.2 h4)
              · refine ifT (by show (!decide (V.str x = V.str "0")) = true; rw [decide_eq_false (fun z => h4 (by injection z))]; rfl) (k0 ?_ Gf s3)
                rw [hl, if_pos (by rw [decide_eq_true h3, decide_eq_true h4]; rfl)]
            · have h3 : ¬ top = 0 := fun z => of_decide_eq_false h3 (congrArg V.int z)
              exact ifF rfl (last fun z => h3 z.1)
          have bad : ∀ (Gf : Hp), Same H Gf → ∀ (top bot : Int), Nt.topL ps = top → Nt.botL ps = bot → Nt.badF ps top bot = true → Q .non Gf := fun Gf sf top bot et eb hb => k0 (by rw [hl, et, eb, if_pos hb]) Gf sf
          clear hl
          match ps, hne, a1, hall, hw, fin, bad with
          | [w0], _, _, hall, hw, fin, bad =>
            obtain ⟨n, hn, rfl⟩ := Nt.isDg_iff.mp (hall w0 (by simp))
            have hi : intText? (Nt.nTx (n : Int)) = some (n : Int) := TL.int_num (Nat.le_trans ((Nt.numL_len_iff (by decide)).mpr hn) (by decide))
            have hil : (Nt.nTx (n : Int)).length ≤ 640 := Nat.le_trans (Nt.int_len (k := 30) (by decide) (by omega)) (by decide)
            refine ⟨_, rfl, wp, _, 0, .str (Nt.nTx (n : Int)), rfl, rfl, SqL.of hw, rfl, _, _, rfl, hi, hil, ?_⟩
            refine ⟨_, rfl, wp, _, rfl, .inl (SqL.of hw), rfl, _, rfl, ifF n12 ⟨_, _, rfl, ?_⟩⟩
            refine ⟨_, rfl, rfl, _, rfl, ifF (by decide +kernel) ⟨_, rfl, wp, _, rfl, .inl (SqL.of hw), rfl, _, rfl, ifF n12 (ifF rfl ?_)⟩⟩
            exact fin G' s3 (n : Int) 1 (Nt.dig_nTx n) rfl (by simp [Nt.badF])
          | [w0, w1], _, _, hall, hw, fin, bad =>
            obtain ⟨n, hn, rfl⟩ := Nt.isDg_iff.mp (hall w0 (by simp))
            obtain ⟨m, hm, rfl⟩ := Nt.isDg_iff.mp (hall w1 (by simp))
            have hi : ∀ n : Nat, n < 10 ^ 30 → intText? (Nt.nTx (n : Int)) = some (n : Int) ∧ (Nt.nTx (n : Int)).length ≤ 640 := fun n hn => ⟨TL.int_num (Nat.le_trans ((Nt.numL_len_iff (by decide)).mpr hn) (by decide)), Nat.le_trans (Nt.int_len (k := 30) (by decide) (by omega)) (by decide)⟩
            refine ⟨_, rfl, wp, _, 0, .str (Nt.nTx (n : Int)), rfl, rfl, SqL.of hw, rfl, _, _, rfl, (hi n hn).1, (hi n hn).2, ?_⟩
            refine ⟨_, rfl, wp, _, rfl, .inl (SqL.of hw), rfl, _, rfl, ifT n22 ⟨_, rfl, wp, _, 1, .str (Nt.nTx (m : Int)), rfl, rfl, SqL.of hw, rfl, _, _, rfl, (hi m hm).1, (hi m hm).2, _, _, rfl, ?_⟩⟩
            have et : Nt.topL [Nt.nTx (n : Int), Nt.nTx (m : Int)] = (n : Int) := Nt.dig_nTx n
            have eb : Nt.botL [Nt.nTx (n : Int), Nt.nTx (m : Int)] = (m : Int) := Nt.dig_nTx m
            refine ⟨_, rfl, rfl, _, rfl, if2 (fun h3 => ?_) (fun h3 => ?_)⟩
            · have h3 : (m : Int) = 0 := by have := of_decide_eq_true h3; injection this
              exact ifT rfl (bad _ s3 _ _ et eb (by simp [Nt.badF, h3]))
            · have h3 : ¬ (m : Int) = 0 := fun z => of_decide_eq_false h3 (congrArg V.int z)
              refine ⟨_, rfl, wp, _, rfl, .inl (SqL.of hw), rfl, _, rfl, ifT n22 ?_⟩
              refine ⟨_, rfl, rfl, _, rfl, if2 (fun h4 => ?_) (fun h4 => ?_)⟩
              · have h4 : (m : Int) = 1 := by have := of_decide_eq_true h4; injection this
                exact ifT rfl (bad _ s3 _ _ et eb (by simp [Nt.badF, h4]))
              · have h4 : ¬ (m : Int) = 1 := fun z => of_decide_eq_false h4 (congrArg V.int z)
                have zm : Sz 8000 (m : Int) := by
                  unfold Sz
                  exact Nat.lt_of_lt_of_le (show ((m : Nat) : Int).natAbs < 10 ^ 30 by omega) (Nat.le_trans (show (10 : Nat) ^ 30 ≤ 2 ^ 100 by decide +kernel) (Nat.pow_le_pow_right (by decide) (by decide)))
                refine ⟨_, rfl, _, rfl, (n : Int), (m : Int), rfl, by omega, zm, fun r H2 nr er s4 => ?_⟩
                refine ⟨_, rfl, _, rfl, by show 2 ≤ sizeLine; decide, fun r2 nr2 => ?_⟩
                have s5 := Same.new (o := .tup [V.int (n : Int), V.int (m : Int)]) nr2
                refine ⟨.tuple [.int (nT (n : Int) (m : Int)), .int (nB (n : Int) (m : Int))], .tuple [.int (n : Int), .int (m : Int)], .tup (SqT.of (s5 _ _ er)) (dp2 _ _), .tup (SqT.of upd_same) (dp2 _ _), rfl, rfl, ?_⟩
                rw [eqvD]
                have sF := (s3.trans s4).trans s5
                refine ⟨_, rfl, if2 (fun h5 => ?_) (fun h5 => ?_)⟩
                · have h6 : decide (nT (n : Int) (m : Int) = (n : Int) ∧ nB (n : Int) (m : Int) = (m : Int)) = false := by simpa only [Bool.not_eq_true'] using h5
                  refine bad _ sF _ _ et eb ?_
                  unfold Nt.badF
                  rw [h6]
                  simp
                · have h6 : decide (nT (n : Int) (m : Int) = (n : Int) ∧ nB (n : Int) (m : Int) = (m : Int)) = true := by simpa only [Bool.not_eq_false'] using h5
                  refine fin _ sF _ _ et eb ?_
                  unfold Nt.badF
                  rw [h6, decide_eq_false h3, decide_eq_false h4]
                  simp
          | _ :: _ :: _ :: _, _, a1, _, _, _, _ => exact absurd (by simp) a1
    obtain ⟨tt, hbody, ht⟩ := rest
    refine ⟨_, (pss_cons (ps_set (i := 1) sc.nd rfl (Or.inl rfl) (pe_ifExp (pt_cmpR op_eq (pe_slice sl_str (pv 0) po_none (po_some pe_int)) pe_str (nomark _)) (pe_slice sl_str (pv 0) (po_some pe_int) po_none) (pv 0))) hbody), ?_⟩
    have hz : x.length ≤ sizeLine := Nat.le_trans hx (by decide)
    refine ⟨_, rfl, _, rfl, x, rfl, hz, rfl, _, rfl, if2 (fun hy => ?_) (fun hy => ?_)⟩
    · refine ⟨_, rfl, _, rfl, x, rfl, hz, ?_⟩
      have := ht H (Same.refl H)
      rw [show Nt.bareL x = cutS x (some 1) none from if_pos (first_iff.symm.trans hy)] at this
      exact this
    · refine ⟨_, rfl, ?_⟩
      have := ht H (Same.refl H)
      rw [show Nt.bareL x = x from if_neg (by rw [← first_iff, hy]; simp)] at this
      exact this
end
end Ws

namespace Ws
open PySem PySem.Spec PyProof.Rows L2
noncomputable abbrev sLLine : Stmt := (PySem.Challenge.pw_whatspeed_k94_texts_that_are_none.main.body.getD 39 (.Pass ⟨0, 0, 0, 0⟩))
noncomputable abbrev NLLine : List Str := ["text", "words", "slope", "base"]
noncomputable abbrev PLLine : List Str := ["text"]
theorem scLLine : FnScope NLLine PLLine (defScope sLLine) := ⟨rfl, rfl, rfl, by decide +kernel, rfl, by decide +kernel, by decide +kernel⟩
noncomputable abbrev sLStr : Stmt := (PySem.Challenge.pw_whatspeed_k94_texts_that_are_none.main.body.getD 40 (.Pass ⟨0, 0, 0, 0⟩))
noncomputable abbrev NLStr : List Str := ["text", "words", "low", "high", "gap"]
noncomputable abbrev PLStr : List Str := ["text"]
theorem scLStr : FnScope NLStr PLStr (defScope sLStr) := ⟨rfl, rfl, rfl, by decide +kernel, rfl, by decide +kernel, by decide +kernel⟩
theorem ne0 (p : Int) : (!decide (V.int p = V.int 0)) = decide (p ≠ 0) := by
  by_cases z : p = 0
  · subst z; rfl
  · rw [decide_eq_true z, decide_eq_false (fun y => z (by injection y))]; rfl
theorem len_dec (ws : List Str) (n : Nat) : decide (V.int (((ws.map V.str).length : Nat) : Int) = V.int (n : Int)) = decide (ws.length = n) := by
  rw [List.length_map]
  exact decide_eq_decide.mpr ⟨fun z => by injection z with z; omega, fun z => by rw [z]⟩
noncomputable def spLLine : Sp := fun vs H Q _ => ∃ x : Str, vs = [.str x] ∧ x.length ≤ 900 ∧ ∀ H', Same H H' → Q (.bl (Nt.lineQ x).isSome) H'
noncomputable def spLStr : Sp := fun vs H Q _ => ∃ x : Str, vs = [.str x] ∧ x.length ≤ 900 ∧ ∀ H', Same H H' → Q (.bl (Nt.strQ x).isSome) H'
section
variable {P : Program} {w : World} {K : PySem.W.Frag} {mg : Str → Option Value} {base : Heap} {C D f : Addr} {fd : FuncData}
theorem ok_lline (F : L2.Fun K "_law_is_line" "_law_is_line" sLLine f fd) (b : Binds K fd PLLine []) (B : Bi mg) (cLN : CalF P w K mg base 2 "_law_number_of" spLNum) : FnR P w K mg base CX0 3 f spLLine := by
  refine fnR_of (k := 2) F b scLLine (fun vs H Q E h => ?_) (fun cdv A outer s H vs Q E hr h => ?_)
  · obtain ⟨_, rfl, _⟩ := h
    rfl
  · have sc := scLLine
    obtain ⟨x, rfl, hx, k⟩ := h
    have hz : x.length ≤ sizeLine := Nat.le_trans hx (by decide)
    rw [← Nt.lawL_eq] at k
    unfold Nt.lawL at k
    simp only [Nt.lawN_eq] at k
    refine ⟨_, (pss_cons (ps_set (i := 1) sc.nd rfl (Or.inl rfl) (pe_split (pv 0) pe_str)) (pss_cons (ps_if (PW.pt (pw_and (pt_cmpR op_eq (pe_callB call_len_seq (by rfl) B.len PySem.boot_len (pa_cons (pv 1) pa_nil)) pe_int (nomark _)) (pw_and1 (pt_cmpR op_eq (pe_slice sl_str (pv 0) (po_some (pe_un un_neg pe_int)) po_none) pe_str (nomark _))))) (pss_cons (ps_set (i := 2) sc.nd rfl (Or.inl rfl) (pe_f cLN hr (by decide) rfl (pa_cons (pe_slice sl_str (pv 0) po_none (po_some (pe_un un_neg pe_int))) pa_nil))) (pss_one (ps_ret (pe_and (pe_cmpR op_notN (pv 2) pe_non (nomark _)) (pe_one (pe_cmpR op_ne (pe_ix ix_tup (pv 2) pe_int (fun _ _ => rfl)) pe_int (nomark _))))))) pss_nil) (pss_cons (ps_if (pt_cmpR op_eq (pe_callB call_len_seq (by rfl) B.len PySem.boot_len (pa_cons (pv 1) pa_nil)) pe_int (nomark _)) (pss_one (ps_ret (pe_cmpR op_notN (pe_f cLN hr (by decide) rfl (pa_cons (pv 0) pa_nil)) pe_non (nomark _)))) pss_nil) (pss_cons (ps_if (PW.pt (pw_or (pt_cmpR op_ne (pe_callB call_len_seq (by rfl) B.len PySem.boot_len (pa_cons (pv 1) pa_nil)) pe_int (nomark _)) (pw_or (pt_cmpR op_notIn_seq (pe_ix ix_list (pv 1) pe_int (fun _ _ => rfl)) (pe_tup (pa_cons pe_str (pa_cons pe_str pa_nil))) rfl) (pw_or1 (pt_cmpR op_ne (pe_slice sl_str (pe_ix ix_list (pv 1) pe_int (fun _ _ => rfl)) (po_some (pe_un un_neg pe_int)) po_none) pe_str (nomark _)))))) (pss_one (ps_ret pe_bl)) pss_nil) (pss_cons (ps_par (i := 3) (j := 2) (by rfl) sc.nd rfl rfl (by decide) rfl rfl (pa_cons (pe_f cLN hr (by decide) rfl (pa_cons (pe_ix ix_list (pv 1) pe_int (fun _ _ => rfl)) pa_nil)) (pa_cons (pe_f cLN hr (by decide) rfl (pa_cons (pe_slice sl_str (pe_ix ix_list (pv 1) pe_int (fun _ _ => rfl)) po_none (po_some (pe_un un_neg pe_int))) pa_nil)) pa_nil)) (by rfl)) (pss_one (ps_ret (pe_and (pe_cmpR op_notN (pv 3) pe_non (nomark _)) (pe_and (pe_cmpR op_notN (pv 2) pe_non (nomark _)) (pe_and (pe_cmpR op_ne (pe_ix ix_tup (pv 3) pe_int (fun _ _ => rfl)) pe_int (nomark _)) (pe_one (pe_cmpR op_gt (pe_ix ix_tup (pv 2) pe_int (fun _ _ => rfl)) pe_int (nomark _))))))))))))), ?_⟩
    refine ⟨_, rfl, ⟨_, rfl⟩, x, " ", rfl, rfl, rfl, by have := Nat.add_le_add_right hx 2; exact Nat.le_trans this (by decide), fun wp nwp => ?_⟩
    have hwl : ∀ z ∈ Txt.split x " ", z.length ≤ 900 := fun z hz => Nat.le_trans (split_len x " " z hz) hx
    have s1 := Same.new (o := .lst ((Txt.split x " ").map V.str)) nwp
    have hw := upd_same (H := H) (a := wp) (o := .lst ((Txt.split x " ").map V.str))
    generalize Txt.split x " " = ws at k hwl s1 hw ⊢
    generalize upd H wp (.lst (ws.map V.str)) = H1 at s1 hw ⊢
    refine ⟨_, rfl, wp, _, rfl, .inl (SqL.of hw), rfl, _, rfl, ?_⟩
    have e1 : decide (V.int (((ws.map V.str).length : Nat) : Int) = V.int 1) = decide (ws.length = 1) := by
      rw [List.length_map]
      exact decide_eq_decide.mpr ⟨fun z => by injection z with z; omega, fun z => by rw [z]; rfl⟩
    rw [e1]
    by_cases h1 : ws.length = 1
    · refine ifT (decide_eq_true h1) ⟨_, rfl, _, rfl, _, rfl, x, rfl, hz, rfl, _, rfl, if2 (fun h2 => ?_) (fun h2 => ?_)⟩
      · have h2 : cutS x (some (-1)) none = "s" := by have := of_decide_eq_true h2; injection this
        rw [if_pos ⟨h1, h2⟩] at k
        refine ⟨_, rfl, _, rfl, _, rfl, x, rfl, hz, _, rfl, Nat.le_trans (cutS_length _ _ _) hx, fun n0 H2 s2 => ?_, fun p q n0 r H2 nr er s2 => ?_⟩
        · rw [n0] at k
          exact ⟨_, rfl, rfl, _, rfl, ifF rfl (k _ (s1.trans s2))⟩
        · rw [n0] at k
          refine ⟨_, rfl, rfl, _, rfl, ifT rfl ⟨_, rfl, r, _, 0, _, rfl, rfl, SqT.of er, rfl, rfl, ?_⟩⟩
          have := k _ (s1.trans s2)
          have e2 : (!decide (V.int p = V.int 0)) = decide (p ≠ 0) := by
            by_cases z : p = 0
            · subst z; rfl
            · rw [decide_eq_true z, decide_eq_false (fun y => z (by injection y))]; rfl
          show Q (.bl (!decide (V.int p = V.int 0))) H2
          rw [e2]
          exact this
      · have h2 : ¬ cutS x (some (-1)) none = "s" := fun z => of_decide_eq_false h2 (congrArg V.str z)
        rw [if_neg (fun z => h2 z.2), if_pos h1] at k
        refine ⟨_, rfl, wp, _, rfl, .inl (SqL.of hw), rfl, _, rfl, ?_⟩
        rw [e1]
        refine ifT (decide_eq_true h1) ⟨_, rfl, x, rfl, hx, fun n0 H2 s2 => ?_, fun p q n0 r H2 nr er s2 => ?_⟩
        · rw [n0] at k
          exact ⟨rfl, k _ (s1.trans s2)⟩
        · rw [n0] at k
          exact ⟨rfl, k _ (s1.trans s2)⟩
    · rw [if_neg (fun z => h1 z.1), if_neg h1] at k
      refine ifF (decide_eq_false h1) ⟨_, rfl, wp, _, rfl, .inl (SqL.of hw), rfl, _, rfl, ?_⟩
      rw [e1]
      refine ifF (decide_eq_false h1) ⟨_, rfl, wp, _, rfl, .inl (SqL.of hw), rfl, _, rfl, ?_⟩
      have e3 := len_dec ws 3
      show if (!decide (V.int (((ws.map V.str).length : Nat) : Int) = V.int ((3 : Nat) : Int))) = true then _ else _
      rw [e3]
      by_cases h3 : ws.length = 3
      · refine ifF (by rw [decide_eq_true h3]; rfl) ?_
        obtain ⟨w0, w1, w2, rfl⟩ : ∃ w0 w1 w2, ws = [w0, w1, w2] := by
          match ws, h3 with
          | [a, b, c], _ => exact ⟨a, b, c, rfl⟩
        have l0 := hwl w0 (by simp)
        have l2 := hwl w2 (by simp)
        unfold Nt.lineW3 at k
        dsimp only at k
        simp only [Nt.lawN_eq] at k
        refine ⟨_, rfl, wp, _, 1, .str w1, rfl, rfl, SqL.of hw, rfl, by show 2 ≤ sizeLine; decide, fun t1 n1 => ⟨t1, (["+", "-"] : List Str).map V.str, rfl, .inr (.inl (.inl upd_same)), rfl, rfl, _, rfl, ?_⟩⟩
        have s2 := Same.new (o := .tup [V.str "+", V.str "-"]) n1
        have hw := s2 _ _ hw
        have s2 := s1.trans s2
        generalize upd H1 t1 (.tup [V.str "+", V.str "-"]) = H2 at s2 hw ⊢
        show if (!inV (.str w1) ((["+", "-"] : List Str).map V.str)) = true then _ else _
        rw [in_strs]
        by_cases h4 : w1 ∈ (["+", "-"] : List Str)
        · refine ifF (by rw [decide_eq_true h4]; rfl) ⟨_, rfl, wp, _, 2, .str w2, rfl, rfl, SqL.of hw, rfl, _, rfl, _, rfl, w2, rfl, Nat.le_trans l2 (by decide), rfl, _, rfl, if2 (fun h5 => ?_) (fun h5 => ?_)⟩
          · have h5 : ¬ cutS w2 (some (-1)) none = "s" := fun z => by
              rw [z] at h5
              revert h5
              decide +kernel
            rw [if_neg (fun z => h5 z.2)] at k
            exact k _ s2
          · have h5 : cutS w2 (some (-1)) none = "s" := Decidable.byContradiction fun n => by
              have : (!decide (V.str (cutS w2 (some (-1)) none) = V.str "s")) = false := h5
              rw [decide_eq_false (fun z => n (by injection z))] at this
              cases this
            rw [if_pos ⟨h4, h5⟩] at k
            refine ⟨_, rfl, wp, _, 0, .str w0, rfl, rfl, SqL.of hw, rfl, w0, rfl, by omega, fun n0 H3 s3 => ?_, fun t b n0 r H3 nr er s3 => ?_⟩
            · rw [n0] at k
              refine ⟨_, rfl, wp, _, 2, .str w2, rfl, rfl, SqL.of (s3 _ _ hw), rfl, _, rfl, _, rfl, w2, rfl, Nat.le_trans l2 (by decide), _, rfl, Nat.le_trans (cutS_length _ _ _) l2, fun n1 H4 s4 => ?_, fun p q n1 r2 H4 nr2 er2 s4 => ?_⟩
              · exact ⟨_, _, rfl, _, rfl, rfl, _, rfl, ifF rfl (k _ ((s2.trans s3).trans s4))⟩
              · exact ⟨_, _, rfl, _, rfl, rfl, _, rfl, ifF rfl (k _ ((s2.trans s3).trans s4))⟩
            · rw [n0] at k
              refine ⟨_, rfl, wp, _, 2, .str w2, rfl, rfl, SqL.of (s3 _ _ hw), rfl, _, rfl, _, rfl, w2, rfl, Nat.le_trans l2 (by decide), _, rfl, Nat.le_trans (cutS_length _ _ _) l2, fun n1 H4 s4 => ?_, fun p q n1 r2 H4 nr2 er2 s4 => ?_⟩
              · rw [n1] at k
                exact ⟨_, _, rfl, _, rfl, rfl, _, rfl, ifT rfl ⟨_, rfl, rfl, _, rfl, ifF rfl (k _ ((s2.trans s3).trans s4))⟩⟩
              · rw [n1] at k
                dsimp only at k
                refine ⟨_, _, rfl, _, rfl, rfl, _, rfl, ifT rfl ⟨_, rfl, rfl, _, rfl, ifT rfl ⟨_, rfl, r, _, 0, _, rfl, rfl, SqT.of (s4 _ _ er), rfl, rfl, _, rfl, ?_⟩⟩⟩
                show if (!decide (V.int t = V.int 0)) = true then _ else _
                rw [ne0]
                have kk := k _ ((s2.trans s3).trans s4)
                by_cases h6 : t = 0
                · rw [h6] at kk
                  refine ifF (decide_eq_false fun z => z h6) ?_
                  exact kk
                · refine ifT (decide_eq_true h6) ⟨_, rfl, r2, _, 0, _, rfl, rfl, SqT.of er2, rfl, _, _, rfl, rfl, ?_⟩
                  rw [decide_eq_true h6, Bool.true_and] at kk
                  exact kk
        · rw [if_neg (fun z => h4 z.1)] at k
          exact ifT (by rw [decide_eq_false h4]; rfl) (k _ s2)
      · refine ifT (by rw [decide_eq_false h3]; rfl) ?_
        have : Nt.lineW3 ws = false := by
          unfold Nt.lineW3
          split
          · exact absurd rfl h3
          · rfl
        rw [this] at k
        exact k _ s1
theorem ok_lstr (F : L2.Fun K "_law_is_stretch" "_law_is_stretch" sLStr f fd) (b : Binds K fd PLStr []) (B : Bi mg) (cLN : CalF P w K mg base 2 "_law_number_of" spLNum) : FnR P w K mg base CX0 3 f spLStr := by
  refine fnR_of (k := 2) F b scLStr (fun vs H Q E h => ?_) (fun cdv A outer s H vs Q E hr h => ?_)
  · obtain ⟨_, rfl, _⟩ := h
    rfl
  · have sc := scLStr
    obtain ⟨x, rfl, hx, k⟩ := h
    have hz : x.length ≤ sizeLine := Nat.le_trans hx (by decide)
    refine ⟨_, (pss_cons (ps_set (i := 1) sc.nd rfl (Or.inl rfl) (pe_split (pe_slice sl_str (pv 0) (po_some pe_int) (po_some (pe_un un_neg pe_int))) pe_str)) (pss_cons (ps_if (PW.pt (pw_or (pt_cmpR op_lt (pe_callB call_len_str (by rfl) B.len PySem.boot_len (pa_cons (pv 0) pa_nil)) pe_int (nomark _)) (pw_or (pt_cmpR op_notIn_sign (pe_ix ix_str (pv 0) pe_int (fun _ _ => rfl)) pe_str rfl) (pw_or (pt_cmpR op_notIn_sign (pe_ix ix_str (pv 0) (pe_un un_neg pe_int) (fun _ _ => rfl)) pe_str rfl) (pw_or1 (pt_cmpR op_ne (pe_callB call_len_seq (by rfl) B.len PySem.boot_len (pa_cons (pv 1) pa_nil)) pe_int (nomark _))))))) (pss_one (ps_ret pe_bl)) pss_nil) (pss_cons (ps_par (i := 2) (j := 3) (by rfl) sc.nd rfl rfl (by decide) rfl rfl (pa_cons (pe_f cLN hr (by decide) rfl (pa_cons (pe_ix ix_list (pv 1) pe_int (fun _ _ => rfl)) pa_nil)) (pa_cons (pe_f cLN hr (by decide) rfl (pa_cons (pe_ix ix_list (pv 1) pe_int (fun _ _ => rfl)) pa_nil)) pa_nil)) (by rfl)) (pss_cons (ps_if (PW.pt (pw_or (pt_cmpR op_isN (pv 2) pe_non (nomark _)) (pw_or1 (pt_cmpR op_isN (pv 3) pe_non (nomark _))))) (pss_one (ps_ret pe_bl)) pss_nil) (pss_cons (ps_set (i := 4) sc.nd rfl (Or.inl rfl) (pe_op op_sub (pe_op op_mulW (pe_ix ix_tup (pv 3) pe_int (fun _ _ => rfl)) (pe_ix ix_tup (pv 2) pe_int (fun _ _ => rfl))) (pe_op op_mulW (pe_ix ix_tup (pv 2) pe_int (fun _ _ => rfl)) (pe_ix ix_tup (pv 3) pe_int (fun _ _ => rfl))))) (pss_one (ps_ret (pe_or (pe_cmpR op_gt (pv 4) pe_int (nomark _)) (pe_one (pe_and (pe_cmpR op_eq (pv 4) pe_int (nomark _)) (pe_and (pe_cmpR op_eq (pe_ix ix_str (pv 0) pe_int (fun _ _ => rfl)) pe_str (nomark _)) (pe_one (pe_cmpR op_eq (pe_ix ix_str (pv 0) (pe_un un_neg pe_int) (fun _ _ => rfl)) pe_str (nomark _)))))))))))))), ?_⟩
    have lm := cutS_length x (some 1) (some (-1))
    have lm2 : (cutS x (some 1) (some (-1))).length ≤ 900 := Nat.le_trans lm hx
    refine ⟨_, rfl, _, rfl, _, rfl, _, rfl, x, rfl, hz, ⟨_, rfl⟩, cutS x (some 1) (some (-1)), " ", rfl, rfl, rfl, by have := Nat.add_le_add_right lm2 2; exact Nat.le_trans this (by decide), fun wp nwp => ?_⟩
    have hwl : ∀ z ∈ Txt.split (cutS x (some 1) (some (-1))) " ", z.length ≤ 900 := fun z hz => Nat.le_trans (split_len _ " " z hz) lm2
    have s1 := Same.new (o := .lst ((Txt.split (cutS x (some 1) (some (-1))) " ").map V.str)) nwp
    have hw := upd_same (H := H) (a := wp) (o := .lst ((Txt.split (cutS x (some 1) (some (-1))) " ").map V.str))
    have no : (∀ c m d, TL.tl x = c :: (m ++ [d]) → ¬ ((c = 91 ∨ c = 40) ∧ (d = 93 ∨ d = 41))) → (Nt.strQ x).isSome = false := fun h => by
      cases hq : Nt.strQ x with
      | none => rfl
      | some r =>
        obtain ⟨c, m, d, e, hc, hd⟩ := Nt.ends_of (x := x) (by rw [hq]; simp)
        exact absurd ⟨hc, hd⟩ (h c m d e)
    have form := fun c m d (h : TL.tl x = c :: (m ++ [d])) => Nt.ends_form (c := c) (d := d) (m := m) h
    have emid : ∀ c m d, TL.tl x = c :: (m ++ [d]) → (⟨m.toArray⟩ : Str) = cutS x (some 1) (some (-1)) := fun c m d h => (TL.ext_tl (Nt.cut_parts h).2.2).symm
    generalize hws : Txt.split (cutS x (some 1) (some (-1))) " " = ws at hwl s1 hw ⊢
    generalize upd H wp (.lst (ws.map V.str)) = H1 at s1 hw ⊢
    have isF : (Nt.strQ x).isSome = false → ∀ G, Same H G → Q (.bl false) G := fun h G s => by have := k G s; rw [h] at this; exact this
    have hsz : x.length = (TL.tl x).length := TL.len_tl x
    refine ⟨_, rfl, x, rfl, hz, _, _, rfl, rfl, _, rfl, if2 (fun h1 => ?_) (fun h1 => ?_)⟩
    · refine ifT rfl (isF (no fun c m d h => ?_) H1 s1)
      have h1 := of_decide_eq_true h1
      rw [h, List.length_cons, List.length_append, List.length_cons] at hsz
      omega
    have h1 : ¬ (x.length : Int) < 2 := of_decide_eq_false h1
    obtain ⟨c, m, d, hx3⟩ : ∃ c m d, TL.tl x = c :: (m ++ [d]) := by
      match hx4 : TL.tl x with
      | [] => rw [hx4] at hsz; simp at hsz; omega
      | [a] => rw [hx4] at hsz; simp at hsz; omega
      | a :: b :: r => exact ⟨a, (b :: r).dropLast, (b :: r).getLast (by simp), by rw [List.dropLast_concat_getLast]⟩
    have hat : atI x.cps.toList 0 = some c := by
      show atI (TL.tl x) 0 = _
      rw [hx3]
      exact (show atI (c :: (m ++ [d])) ((0 : Nat) : Int) = some c from atI_nat rfl)
    have hat2 : atI x.cps.toList (-1) = some d := by
      show atI (TL.tl x) (-1) = _
      rw [hx3]
      unfold atI
      have : ixN (c :: (m ++ [d])).length (-1) = some (m.length + 1) := by
        unfold ixN
        rw [if_neg (by omega)]
        simp
        omega
      rw [this]
      show (c :: (m ++ [d]))[m.length + 1]? = some d
      rw [List.getElem?_cons_succ, List.getElem?_append_right (Nat.le_refl _), Nat.sub_self]
      rfl
    have w2 : ∀ z, z ∈ ("[(" : Str).cps.toList ↔ z = 91 ∨ z = 40 := fun z => by
      rw [show ("[(" : Str).cps.toList = [91, 40] by decide +kernel]
      simp
    have w3 : ∀ z, z ∈ ("])" : Str).cps.toList ↔ z = 93 ∨ z = 41 := fun z => by
      rw [show ("])" : Str).cps.toList = [93, 41] by decide +kernel]
      simp
    have uniq : ∀ {c' m' d'}, TL.tl x = c' :: (m' ++ [d']) → c' = c ∧ d' = d := fun {c' m' d'} h => by
      rw [hx3] at h
      have h1 := List.cons.inj h
      have h2 := List.append_inj' h1.2 rfl
      exact ⟨h1.1.symm, (List.cons.inj h2.2).1.symm⟩
    refine ⟨_, rfl, x, 0, c, rfl, rfl, hz, hat, c, "[(", rfl, rfl, _, rfl, if2 (fun h2 => ?_) (fun h2 => ?_)⟩
    · refine ifT rfl (isF (no fun c' m' d' h z => ?_) H1 s1)
      have : decide (c ∈ ("[(" : Str).cps.toList) = true := decide_eq_true ((w2 c).mpr ((uniq h).1 ▸ z.1))
      rw [this] at h2
      cases h2
    have hc : c = 91 ∨ c = 40 := (w2 c).mp (Decidable.byContradiction fun n => by rw [decide_eq_false n] at h2; cases h2)
    refine ⟨_, rfl, _, rfl, x, -1, d, rfl, rfl, hz, hat2, d, "])", rfl, rfl, _, rfl, if2 (fun h3 => ?_) (fun h3 => ?_)⟩
    · refine ifT rfl (isF (no fun c' m' d' h z => ?_) H1 s1)
      have : decide (d ∈ ("])" : Str).cps.toList) = true := decide_eq_true ((w3 d).mpr ((uniq h).2 ▸ z.2))
      rw [this] at h3
      cases h3
    have hd : d = 93 ∨ d = 41 := (w3 d).mp (Decidable.byContradiction fun n => by rw [decide_eq_false n] at h3; cases h3)
    have hq := form c m d hx3 hc hd
    rw [emid c m d hx3, hws] at hq
    refine ⟨_, rfl, wp, _, rfl, .inl (SqL.of hw), rfl, _, rfl, ?_⟩
    show if (!decide (V.int (((ws.map V.str).length : Nat) : Int) = V.int ((2 : Nat) : Int))) = true then _ else _
    rw [len_dec ws 2]
    by_cases h4 : ws.length = 2
    · refine ifF (by rw [decide_eq_true h4]; rfl) ?_
      obtain ⟨w0, w1, rfl⟩ : ∃ w0 w1, ws = [w0, w1] := by
        match ws, h4 with
        | [a, b], _ => exact ⟨a, b, rfl⟩
      have l0 := hwl w0 (by simp)
      have l1 := hwl w1 (by simp)
      dsimp only at hq
      refine ⟨_, rfl, wp, _, 0, .str w0, rfl, rfl, SqL.of hw, rfl, w0, rfl, by omega, fun n0 H3 s3 => ?_, fun t b n0 r H3 nr er s3 => ?_⟩
      · rw [n0] at hq
        refine ⟨_, rfl, wp, _, 1, .str w1, rfl, rfl, SqL.of (s3 _ _ hw), rfl, w1, rfl, by omega, fun n1 H4 s4 => ?_, fun p q n1 r2 H4 nr2 er2 s4 => ?_⟩
        · exact ⟨_, _, rfl, _, rfl, rfl, _, rfl, ifT rfl (ifT rfl (isF (by rw [hq]; rfl) _ ((s1.trans s3).trans s4)))⟩
        · exact ⟨_, _, rfl, _, rfl, rfl, _, rfl, ifT rfl (ifT rfl (isF (by rw [hq]; rfl) _ ((s1.trans s3).trans s4)))⟩
      · rw [n0] at hq
        refine ⟨_, rfl, wp, _, 1, .str w1, rfl, rfl, SqL.of (s3 _ _ hw), rfl, w1, rfl, by omega, fun n1 H4 s4 => ?_, fun p q n1 r2 H4 nr2 er2 s4 => ?_⟩
        · rw [n1] at hq
          exact ⟨_, _, rfl, _, rfl, rfl, _, rfl, ifF rfl ⟨_, rfl, rfl, _, rfl, ifT rfl (isF (by rw [hq]; rfl) _ ((s1.trans s3).trans s4))⟩⟩
        · rw [n1] at hq
          dsimp only at hq
          have sF := (s1.trans s3).trans s4
          have c1 := (Nt.numQ_iff.mp n0).2
          have c2 := (Nt.numQ_iff.mp n1).2
          have T1 : SqT K H4 r [.int t, .int b] := SqT.of (s4 _ _ er)
          have T2 : SqT K H4 r2 [.int p, .int q] := SqT.of er2
          refine ⟨_, _, rfl, _, rfl, rfl, _, rfl, ifF rfl ⟨_, rfl, rfl, _, rfl, ifF rfl ?_⟩⟩
          refine ⟨_, rfl, r2, _, 0, _, rfl, rfl, T2, rfl, _, rfl, r, _, 1, _, rfl, rfl, T1, rfl, _, _, rfl, rfl, wide_mul (can_sz c2).1 (can_sz c1).2 (by decide) (by decide) (by decide), _, rfl, r, _, 0, _, rfl, rfl, T1, rfl, _, rfl, r2, _, 1, _, rfl, rfl, T2, rfl, _, _, rfl, rfl, wide_mul (can_sz c1).1 (can_sz c2).2 (by decide) (by decide) (by decide), _, _, rfl, rfl, ?_⟩
          have kk := k H4 sF
          have eok : (Nt.strQ x).isSome = Nt.okS t b p q (decide (c = 91)) (decide (d = 93)) := by
            rw [hq]
            split
            · rename_i h; rw [h]; rfl
            · rename_i h
              have : Nt.okS t b p q (decide (c = 91)) (decide (d = 93)) = false := by simpa using h
              rw [this]; rfl
          rw [eok] at kk
          unfold Nt.okS at kk
          have es : ∀ (z e : Nat) (y : Str), y = ⟨#[e]⟩ → decide (V.str ⟨#[z]⟩ = V.str y) = decide (z = e) := fun z e y hy => by
            subst hy
            exact decide_eq_decide.mpr ⟨fun h => by injection h with h; have e2 : (#[z] : Array Nat) = #[e] := congrArg Str.cps h; simpa using e2, fun h => by rw [h]⟩
          refine ⟨_, rfl, _, _, rfl, rfl, _, rfl, ?_⟩
          by_cases g1 : t * q < p * b
          · rw [decide_eq_true g1, Bool.true_or] at kk
            exact ifT (decide_eq_true (by omega)) kk
          · rw [decide_eq_false g1, Bool.false_or] at kk
            refine ifF (decide_eq_false (by omega)) ⟨_, rfl, rfl, _, rfl, ?_⟩
            by_cases g2 : t * q = p * b
            · rw [decide_eq_true g2, Bool.true_and] at kk
              refine ifT (decide_eq_true (show V.int (p * b - t * q) = V.int 0 from congrArg V.int (by omega))) ⟨_, rfl, x, 0, c, rfl, rfl, hz, hat, rfl, _, rfl, ?_⟩
              rw [es c 91 "[" (by decide +kernel)]
              by_cases g3 : c = 91
              · rw [decide_eq_true g3, Bool.true_and] at kk
                refine ifT (decide_eq_true g3) ⟨_, rfl, _, rfl, x, -1, d, rfl, rfl, hz, hat2, rfl, ?_⟩
                rw [es d 93 "]" (by decide +kernel)]
                exact kk
              · rw [decide_eq_false g3, Bool.false_and] at kk
                exact ifF (decide_eq_false g3) kk
            · rw [decide_eq_false g2, Bool.false_and] at kk
              exact ifF (decide_eq_false (fun z => by have z : V.int (p * b - t * q) = V.int 0 := z; injection z with z; omega)) kk
    · refine ifT (by rw [decide_eq_false h4]; rfl) (isF ?_ H1 s1)
      rw [hq]
      split
      · exact absurd rfl h4
      · rfl
end
end Ws

namespace Ws
open PySem PySem.Spec PyProof.Rows L2
/-! ### data of any nesting, dicts among it, apart from the object at p -/
noncomputable def kD : Key → PyData
  | .inl i => .int i
  | .inr x => .str x
mutual
inductive Da (p : Addr) (H : Hp) : V → PyData → Prop
  | non : Da p H .non .none
  | bl (b : Bool) : Da p H (.bl b) (.bool b)
  | int (i : Int) : Da p H (.int i) (.int i)
  | str (x : Str) : Da p H (.str x) (.str x)
  | lst {a : Addr} {xs : List V} {ds : List PyData} : H a = some (.lst xs) → a ≠ p → a ≠ sysModules → DaAll p H xs ds → Da p H (.ref a) (.list ds)
  | tup {a : Addr} {xs : List V} {ds : List PyData} : H a = some (.tup xs) → a ≠ p → DaAll p H xs ds → Da p H (.ref a) (.tuple ds)
  | dct {a : Addr} {kvs : List (Key × V)} {ds : List PyData} : H a = some (.dK kvs) → a ≠ p → DaAll p H (kvs.map (·.2)) ds → Da p H (.ref a) (.dict ((kvs.map fun e => kD e.1).zip ds))
inductive DaAll (p : Addr) (H : Hp) : List V → List PyData → Prop
  | nil : DaAll p H [] []
  | cons {v : V} {vs : List V} {d : PyData} {ds : List PyData} : Da p H v d → DaAll p H vs ds → DaAll p H (v :: vs) (d :: ds)
end
theorem DaAll.len {p : Addr} {H : Hp} : ∀ {vs : List V} {ds : List PyData}, DaAll p H vs ds → vs.length = ds.length
  | _, _, .nil => rfl
  | _, _, .cons _ t => congrArg (· + 1) t.len
mutual
theorem Da.ch {p : Addr} {H H' : Hp} (c : Ch p H H') : ∀ {v : V} {d : PyData}, Da p H v d → Da p H' v d
  | _, _, .non => .non
  | _, _, .bl b => .bl b
  | _, _, .int i => .int i
  | _, _, .str x => .str x
  | _, _, .lst e n s t => .lst (c _ _ n e) n s (DaAll.ch c t)
  | _, _, .tup e n t => .tup (c _ _ n e) n (DaAll.ch c t)
  | _, _, .dct e n t => .dct (c _ _ n e) n (DaAll.ch c t)
theorem DaAll.ch {p : Addr} {H H' : Hp} (c : Ch p H H') : ∀ {vs : List V} {ds : List PyData}, DaAll p H vs ds → DaAll p H' vs ds
  | _, _, .nil => .nil
  | _, _, .cons h t => .cons (Da.ch c h) (DaAll.ch c t)
end
theorem Da.same {p : Addr} {H H' : Hp} (s : Same H H') {v : V} {d : PyData} (h : Da p H v d) : Da p H' v d := h.ch (Ch.of s)
section
variable {X : Cx} {pins : List (Addr × Obj)} {σ : L2.St} {H : Hp} {s : Shared} {p : Addr}
theorem pairs_reads {P : Program} {w : World} {h : Heap} : ∀ {es : List DictEntry} {kvs : List (Key × V)} {vs : List (Key × Value)}, PySem.Pairs (mixKind P w) es vs → KV kvs vs → ReadsAll h (es.map (·.key)) (kvs.map fun e => kD e.1) [] ∧ Vals (kvs.map (·.2)) (es.map (·.val))
  | [], _, _, .nil, .nil => ⟨.nil, .nil⟩
  | e :: es, _, _, .cons hk hv t, .cons r q => by
    obtain ⟨h1, h2⟩ := pairs_reads (h := h) t q
    refine ⟨?_, .cons (by show L2.RelV _ e.val; rw [hv]; exact r.2) h2⟩
    have hk' := hk
    rw [← r.1] at hk'
    rcases keyIs_shape (show keyIs _ e.key = true from hk') with ⟨i, tk, e1, e2⟩ | ⟨x, tk, e1, e2⟩
    · show ReadsAll h (e.key :: _) (kD _ :: _) []
      rw [e1, e2]
      exact ReadsAll.cons (as := []) (bs := []) (Reads.int i tk) h1
    · show ReadsAll h (e.key :: _) (kD _ :: _) []
      rw [e1, e2]
      exact ReadsAll.cons (as := []) (bs := []) (Reads.str x tk) h1
mutual
theorem Da.reads (I : Inv X pins σ H s) : ∀ {v : V} {d : PyData}, Da p H v d → ∀ u, RelV v u → ∃ as, Reads s.heap u d as ∧ sysModules ∉ as
  | _, _, .non, u, r => by
    cases (show u = Value.none from r)
    exact ⟨[], .none, by simp⟩
  | _, _, .bl b, u, r => by
    cases (show u = Value.bool b from r)
    exact ⟨[], .bool b, by simp⟩
  | _, _, .int i, u, r => by
    obtain ⟨t, e⟩ := (show ∃ t, u = Value.int i t from r)
    subst e
    exact ⟨[], .int i t, by simp⟩
  | _, _, .str x, u, r => by
    obtain ⟨t, e⟩ := (show ∃ t, u = Value.str x t from r)
    subst e
    exact ⟨[], .str x t, by simp⟩
  | _, _, .lst (a := a) e n z t, u, r => by
    cases (show u = Value.ref a from r)
    obtain ⟨_, its, k, rv, ho⟩ := (show ObjOk X.prog X.w H s.heap a (.lst _) from I.hok a _ e)
    obtain ⟨as, R, ns⟩ := DaAll.reads I t its rv
    exact ⟨_, .list ho rfl rfl (by simpa using R), by simp only [List.mem_cons, not_or]; exact ⟨fun q => z q.symm, ns⟩⟩
  | _, _, .tup (a := a) e n t, u, r => by
    cases (show u = Value.ref a from r)
    obtain ⟨_, its, rv, ob, ho, hc, k, hd⟩ := (show ObjOk X.prog X.w H s.heap a (.tup _) from I.hok a _ e)
    obtain ⟨as, R, ns⟩ := DaAll.reads I t its rv
    exact ⟨_, .tuple ho hc hd (by simpa using R), ns⟩
  | _, _, .dct (a := a) (kvs := kvs) (ds := ds) e n t, u, r => by
    cases (show u = Value.ref a from r)
    obtain ⟨_, hs, vs, rel, ob, es, ep, ho, hx, hd, _, hp, _⟩ := (show ObjOk X.prog X.w H s.heap a (.dK _) from I.hok a _ e)
    obtain ⟨h1, h2⟩ := pairs_reads (h := s.heap) hp rel
    obtain ⟨as, R, ns⟩ := DaAll.reads I t _ h2
    have hl : (kvs.map fun e => kD e.1).length = ds.length := by have := t.len; rw [List.length_map] at this ⊢; exact this
    refine ⟨[a] ++ [] ++ as, .dict (as := []) (bs := as) ho hx.1 hd ?_ ?_, ?_⟩
    · rw [List.map_fst_zip (Nat.le_of_eq hl)]
      exact h1
    · rw [List.map_snd_zip (Nat.le_of_eq hl.symm)]
      exact R
    · simp only [List.append_nil, List.cons_append, List.nil_append, List.mem_cons, not_or]
      exact ⟨fun q => by rw [q] at hs; simp at hs, ns⟩
theorem DaAll.reads (I : Inv X pins σ H s) : ∀ {vs : List V} {ds : List PyData}, DaAll p H vs ds → ∀ us, Vals vs us → ∃ as, ReadsAll s.heap us ds as ∧ sysModules ∉ as
  | _, _, .nil, _, .nil => ⟨[], .nil, by simp⟩
  | _, _, .cons h t, _, .cons r q => by
    obtain ⟨as, R, n1⟩ := Da.reads I h _ r
    obtain ⟨bs, T, n2⟩ := DaAll.reads I t _ q
    exact ⟨_, .cons R T, by simp only [List.mem_append, not_or]; exact ⟨n1, n2⟩⟩
end
end
/-- data that may be shown, at most n deep -/
structure Ok (n : Nat) (d : PyData) : Prop where
  sh : d.showable = true
  ls : d.leavesShort 1901 = true
  dp : d.depth ≤ n
  bk : d.bulk ≤ 40 * (n + 1)
structure OkA (n : Nat) (ds : List PyData) : Prop where
  sh : PyData.showableAll ds = true
  ls : PyData.leavesShortAll 1901 ds = true
  dp : PyData.depthAll ds ≤ n
theorem Ok.mono {n m : Nat} {d : PyData} (h : Ok n d) (l : n ≤ m) : Ok m d := ⟨h.sh, h.ls, Nat.le_trans h.dp l, Nat.le_trans h.bk (Nat.mul_le_mul_left _ (by omega))⟩
theorem ok_int {i : Int} (h : i.natAbs < 2 ^ 1800) : Ok 0 (.int i) := by
  have h' : i.natAbs.log2 < 1900 := Nat.lt_of_lt_of_le (PySem.Flt.log2_lt_of (by decide) h) (by decide)
  refine ⟨by simp only [PyData.showable, decide_eq_true_eq]; omega, ?_, Nat.le_refl _, Nat.zero_le _⟩
  show decide ((Str.ofString (toString i)).length ≤ 1901) = true
  rw [decide_eq_true_eq, PySem.ofString_length]
  exact int_text_length_le (by decide) h'
theorem ok_none : Ok 0 .none := ⟨rfl, rfl, Nat.le_refl _, Nat.zero_le _⟩
theorem ok_bool (b : Bool) : Ok 0 (.bool b) := ⟨rfl, rfl, Nat.le_refl _, Nat.zero_le _⟩
theorem ok_tup1 {n : Nat} {d : PyData} (h : Ok n d) : Ok (n + 1) (.tuple [d]) := by
  obtain ⟨h1, h2, h3, h4⟩ := h
  refine ⟨by simp only [PyData.showable, PyData.showableAll, h1, Bool.and_self], by simp only [PyData.leavesShort, PyData.leavesShortAll, h2, Bool.and_self], ?_, ?_⟩
  · simp only [PyData.depth, PyData.depthAll]; omega
  · simp only [PyData.bulk, PyData.bulkAll]; omega
theorem ok_lst1 {n : Nat} {d : PyData} (h : Ok n d) : Ok (n + 1) (.list [d]) := by
  obtain ⟨h1, h2, h3, h4⟩ := h
  refine ⟨by simp only [PyData.showable, PyData.showableAll, h1, Bool.and_self], by simp only [PyData.leavesShort, PyData.leavesShortAll, h2, Bool.and_self], ?_, ?_⟩
  · simp only [PyData.depth, PyData.depthAll]; omega
  · simp only [PyData.bulk, PyData.bulkAll]; omega
theorem ok_dct1 {n : Nat} {x : Str} {d : PyData} (hx : x.cps.toList.all (fun c => decide (c < 16 ^ 8)) = true) (hz : x.cps.size ≤ 20) (h : Ok n d) : Ok (n + 1) (.dict [(.str x, d)]) := by
  obtain ⟨h1, h2, h3, h4⟩ := h
  refine ⟨by simp only [PyData.showable, PyData.showableKv, h1, Bool.and_self], by simp only [PyData.leavesShort, PyData.leavesShortKv, h2, hx, Bool.and_self], ?_, ?_⟩
  · simp only [PyData.depth, PyData.depthKv]; omega
  · simp only [PyData.bulk, PyData.bulkKv]; omega
section
variable {X : Cx}
/-- repr(x) of data -/
noncomputable def rRepD : List V → Hp → VK → Prop := fun xs H Q => ∃ (a p : Addr) (d : PyData), xs = [V.ref a] ∧ Da p H (.ref a) d ∧ d.showable = true ∧ d.leavesShort 1901 = true ∧ d.bulk ≤ 8000 ∧ d.depth ≤ 60 ∧ Q (.str d.shown) H
theorem call_repD {j : Nat} (cl : X.A.guards = some []) (hr : Room j X.A) : CallR X (.builtin "repr") rRepD := by
  intro pins s σ H xs us Q I r h
  obtain ⟨a, p, d, rfl, da, sh, sl, bk, de, q⟩ := h
  obtain ⟨u, rfl, ru⟩ := vals1 r
  cases (show u = Value.ref a from ru)
  obtain ⟨as, rd, ns⟩ := Da.reads I da _ rfl
  have sz := PyData.shown_le_bulk 1901 (by decide) d sl
  have sz2 : d.shown.length ≤ sizeLine := by
    have : sizeLine = 16777216 := by decide
    have : (1901 + 2) * d.bulk ≤ 1903 * 8000 := Nat.mul_le_mul (by decide) bk
    omega
  refine repr_of_reads' rd sh (fun _ => ns) cl ?_ (fun _ _ e => e) (fun h' u tk hk => ⟨.str d.shown, H, I.kept hk, ⟨u, rfl⟩, q⟩) sz2
  have := hr.un
  omega
/-- a list display, its place told not to be that of sys.modules -/
noncomputable def tLstS (ta : TA) : TE := fun σ H Q => ta σ H fun xs H1 => xs.length ≤ sizeLine ∧ ∀ p, H1 p = none → p ≠ sysModules → Q (.ref p) (upd H1 p (.lst xs))
theorem pe_lstS {es : List Expr} {t : TA} {pos : Pos} (h : PA X es t) : PE X (.List es pos) (tLstS t) := ⟨fun pins s σ H Q I hq =>
  wpAny_List_spliced (thn (h.run pos pins s σ H _ I hq) fun us s1 ⟨xs, G, J, r, z, q⟩ => ⟨r.length ▸ z, ⟨.ref s1.heap.objs.size, upd G s1.heap.objs.size (.lst xs),
    J.laid (t' := s1.toks) (fun b u e => Heap.get?_push_of_some _ e) (Nat.le_refl _) ⟨z, us, 0, r, Heap.get?_push_size _ rfl⟩, rfl, q _ (J.hok.fresh (Nat.le_refl _)) (Nat.ne_of_gt J.big)⟩⟩)⟩
end
end Ws

namespace Ws
open PySem PySem.Spec PyProof.Rows L2
/-! ### data of any kind: its type, and how it is shown -/
noncomputable def tyD : PyData → String
  | .none => "NoneType"
  | .bool _ => "bool"
  | .int _ => "int"
  | .str _ => "str"
  | .list _ => "list"
  | .tuple _ => "tuple"
  | .dict _ => "dict"
noncomputable def isS : PyData → Bool
  | .str _ => true
  | _ => false
theorem Da.tyd {K : PySem.W.Frag} {p : Addr} {H : Hp} {v : V} {d : PyData} (h : Da p H v d) : TyX K H v (.type (tyD d)) := by
  cases h with
  | non => exact .base .non
  | bl b => exact .base (.bl b)
  | int i => exact .base (.int i)
  | str x => exact .base (.str x)
  | lst e _ _ _ => exact .base (.lst e)
  | tup e _ _ => exact .base (.tup e)
  | dct e _ _ => exact .base (.dK e)
theorem kit_noS {K : PySem.W.Frag} (d : PyData) (h : isS d = false) : PySem.W.kitOne K (.type (tyD d)) (.type "str") = some false := by
  cases d with
  | none => exact (show PySem.W.kitOne K (.type "NoneType") (.type "str") = some false from kit_ty (by decide +kernel))
  | bool x => exact (show PySem.W.kitOne K (.type "bool") (.type "str") = some false from kit_ty (by decide +kernel))
  | int i => exact (show PySem.W.kitOne K (.type "int") (.type "str") = some false from kit_ty (by decide +kernel))
  | str x => cases h
  | list x => exact (show PySem.W.kitOne K (.type "list") (.type "str") = some false from kit_ty (by decide +kernel))
  | tuple x => exact (show PySem.W.kitOne K (.type "tuple") (.type "str") = some false from kit_ty (by decide +kernel))
  | dict x => exact (show PySem.W.kitOne K (.type "dict") (.type "str") = some false from kit_ty (by decide +kernel))
theorem ok_text (x : Str) (hx : PyData.strOk x = true) (hz : x.length ≤ 1200) : Ok 30 (.str x) := by
  refine ⟨rfl, ?_, Nat.zero_le _, by exact Nat.le_trans hz (by decide)⟩
  show x.cps.toList.all (fun c => decide (c < 16 ^ 8)) = true
  unfold PyData.strOk at hx
  rw [List.all_eq_true]
  rw [Array.all_eq_true_iff_forall_mem] at hx
  intro c hc
  have := hx c (Array.mem_toList_iff.mp hc)
  simp only [decide_eq_true_eq] at this ⊢
  exact Nat.lt_of_lt_of_le this (by decide)
section
variable {X : Cx}
/-- repr(x) of data of any kind -/
noncomputable def rRepA : List V → Hp → VK → Prop := fun xs H Q => ∃ (v : V) (p : Addr) (d : PyData), xs = [v] ∧ Da p H v d ∧ Ok 30 d ∧ Q (.str d.shown) H
theorem call_repA {j : Nat} (cl : X.A.guards = some []) (hr : Room j X.A) : CallR X (.builtin "repr") rRepA := by
  intro pins s σ H xs us Q I r h
  obtain ⟨v, p, d, rfl, da, ok, q⟩ := h
  obtain ⟨sh, ls, dp, bk⟩ := id ok
  have D := da
  have ref : (∃ a, v = .ref a) → wpAny (model X.prog X.w) X.A (call (.builtin "repr") us) (EP X pins σ Q) X.xe s := by
    rintro ⟨a, rfl⟩
    exact call_repD cl hr pins s σ H _ us Q I r ⟨a, p, d, rfl, D, sh, ls, by omega, by omega, q⟩
  have sz := PyData.shown_le_bulk 1901 (by decide) d ls
  have sz2 : d.shown.length ≤ sizeLine := by
    have : sizeLine = 16777216 := by decide
    have : (1901 + 2) * d.bulk ≤ 1903 * 1240 := Nat.mul_le_mul (by decide) (by omega)
    omega
  obtain ⟨u, rfl, ru⟩ := vals1 r
  cases da with
  | non =>
    cases (show u = Value.none from ru)
    exact PySem.P.repr_of_none ⟨.str _, H, I.tok _, ⟨_, rfl⟩, q⟩
  | bl b =>
    cases (show u = Value.bool b from ru)
    exact PySem.P.repr_of_bool ⟨.str _, H, I.tok _, ⟨_, rfl⟩, q⟩
  | int i =>
    obtain ⟨t, rfl⟩ := (show ∃ t, u = Value.int i t from ru)
    exact PySem.P.repr_of_int (by simpa [PyData.showable] using sh) ⟨.str _, H, I.tok _, ⟨_, rfl⟩, q⟩
  | str x =>
    obtain ⟨t, rfl⟩ := (show ∃ t, u = Value.str x t from ru)
    exact PySem.P.repr_of_str ⟨.str _, H, I.tok _, ⟨_, rfl⟩, q⟩ sz2
  | lst _ _ _ _ => exact ref ⟨_, rfl⟩
  | tup _ _ _ => exact ref ⟨_, rfl⟩
  | dct _ _ _ => exact ref ⟨_, rfl⟩
end
/-- two promises of one def -/
theorem fnR_or {P : Program} {w : World} {K : PySem.W.Frag} {mg : Str → Option Value} {base : Heap} {CX : CXT} {k : Nat} {f : Addr} {sp1 sp2 sp : Sp} (h1 : FnR P w K mg base CX k f sp1) (h2 : FnR P w K mg base CX k f sp2) (h : ∀ vs H Q E, sp vs H Q E → sp1 vs H Q E ∨ sp2 vs H Q E) : FnR P w K mg base CX k f sp :=
  fun A outer s H us vs Q E hr e0 r q => (h vs H Q E q).elim (fun q => h1 A outer s H us vs Q E hr e0 r q) (fun q => h2 A outer s H us vs Q E hr e0 r q)
end Ws

namespace Ws
open PySem PySem.Spec PyProof.Rows L2
noncomputable abbrev sLDue : Stmt := (PySem.Challenge.pw_whatspeed_k94_texts_that_are_none.main.body.getD 41 (.Pass ⟨0, 0, 0, 0⟩))
noncomputable abbrev NLDue : List Str := ["way", "value"]
noncomputable abbrev PLDue : List Str := ["way", "value"]
theorem scLDue : FnScope NLDue PLDue (defScope sLDue) := ⟨rfl, rfl, rfl, by decide +kernel, rfl, by decide +kernel, by decide +kernel⟩
noncomputable abbrev sRd : Stmt := (PySem.Challenge.pw_whatspeed_k94_texts_that_are_none.main.body.getD 25 (.Pass ⟨0, 0, 0, 0⟩))
noncomputable abbrev NRd : List Str := ["text", "reader", "found"]
noncomputable abbrev PRd : List Str := ["text", "reader"]
theorem scRd : FnScope NRd PRd (defScope sRd) := ⟨rfl, rfl, rfl, by decide +kernel, rfl, by decide +kernel, by decide +kernel⟩
noncomputable abbrev sRN : Stmt := (PySem.Challenge.pw_whatspeed_k94_texts_that_are_none.main.body.getD 21 (.Pass ⟨0, 0, 0, 0⟩))
noncomputable abbrev NRN : List Str := ["text"]
noncomputable abbrev PRN : List Str := ["text"]
theorem scRN : FnScope NRN PRN (defScope sRN) := ⟨rfl, rfl, rfl, by decide +kernel, rfl, by decide +kernel, by decide +kernel⟩
noncomputable abbrev sRL : Stmt := (PySem.Challenge.pw_whatspeed_k94_texts_that_are_none.main.body.getD 22 (.Pass ⟨0, 0, 0, 0⟩))
noncomputable abbrev NRL : List Str := ["text"]
noncomputable abbrev PRL : List Str := ["text"]
theorem scRL : FnScope NRL PRL (defScope sRL) := ⟨rfl, rfl, rfl, by decide +kernel, rfl, by decide +kernel, by decide +kernel⟩
noncomputable abbrev sRS : Stmt := (PySem.Challenge.pw_whatspeed_k94_texts_that_are_none.main.body.getD 23 (.Pass ⟨0, 0, 0, 0⟩))
noncomputable abbrev NRS : List Str := ["text"]
noncomputable abbrev PRS : List Str := ["text"]
theorem scRS : FnScope NRS PRS (defScope sRS) := ⟨rfl, rfl, rfl, by decide +kernel, rfl, by decide +kernel, by decide +kernel⟩
noncomputable abbrev sErrT : Stmt := (inClass (PySem.Challenge.pw_whatspeed_k94_texts_that_are_none.main.body.getD 6 (.Pass ⟨0, 0, 0, 0⟩)) 0)
noncomputable abbrev NErrT : List Str := ["self", "value"]
noncomputable abbrev PErrT : List Str := ["self", "value"]
theorem scErrT : FnScope NErrT PErrT (defScope sErrT) := ⟨rfl, rfl, rfl, by decide +kernel, rfl, by decide +kernel, by decide +kernel⟩
/-! ### values of any kind -/
/-- a value that is no text: its type, whether it is a truth, and == with itself -/
noncomputable def OddT (K : PySem.W.Frag) (H : Hp) (v : V) : Prop := (∃ t b, TyX K H v t ∧ PySem.W.kitOne K t (.type "str") = some false ∧ PySem.W.kitOne K t (.type "bool") = some b) ∧ ((∃ d, Dp K H v d ∧ SeqAt.shaped d = true ∧ PyData.eqv d d = true) ∨ ∃ a, v = .ref a ∧ H a = some (.dK []))
inductive ValT (K : PySem.W.Frag) (H : Hp) : V → Prop where
  | str (x : Str) (h : x.length ≤ 900) : ValT K H (.str x)
  | odd {v : V} (h : OddT K H v) : ValT K H v
theorem sqL_same {K : PySem.W.Frag} {H H' : Hp} {l : Addr} {ws : List V} (s : Same H H') (h : SqL K H l ws) : SqL K H' l ws := by
  rcases h with (h | ⟨o, h⟩) | h
  · exact .inl (.inl (s _ _ h))
  · exact .inl (.inr ⟨o, s _ _ h⟩)
  · exact .inr h
theorem sqT_same {K : PySem.W.Frag} {H H' : Hp} {l : Addr} {ws : List V} (s : Same H H') (h : SqT K H l ws) : SqT K H' l ws := by
  rcases h with (h | ⟨o, h⟩) | h
  · exact .inl (.inl (s _ _ h))
  · exact .inl (.inr ⟨o, s _ _ h⟩)
  · exact .inr h
mutual
theorem dp_same {K : PySem.W.Frag} {H H' : Hp} (s : Same H H') : ∀ {v : V} {d : PyData}, Dp K H v d → Dp K H' v d
  | _, _, .non => .non
  | _, _, .bl b => .bl b
  | _, _, .int i => .int i
  | _, _, .str x => .str x
  | _, _, .lst h r => .lst (sqL_same s h) (dpAll_same s r)
  | _, _, .tup h r => .tup (sqT_same s h) (dpAll_same s r)
theorem dpAll_same {K : PySem.W.Frag} {H H' : Hp} (s : Same H H') : ∀ {vs : List V} {ds : List PyData}, DpAll K H vs ds → DpAll K H' vs ds
  | _, _, .nil => .nil
  | _, _, .cons h r => .cons (dp_same s h) (dpAll_same s r)
end
theorem OddT.same {K : PySem.W.Frag} {H H' : Hp} {v : V} (h : OddT K H v) (s : Same H H') : OddT K H' v := by
  obtain ⟨⟨t, b, h1, h2, h3⟩, h4⟩ := h
  refine ⟨⟨t, b, tyx_same h1 fun a o _ e => s a o e, h2, h3⟩, ?_⟩
  rcases h4 with ⟨d, h5, h6⟩ | ⟨a, e, h5⟩
  · exact .inl ⟨d, dp_same s h5, h6⟩
  · exact .inr ⟨a, e, s _ _ h5⟩
theorem ValT.same {K : PySem.W.Frag} {H H' : Hp} {v : V} (h : ValT K H v) (s : Same H H') : ValT K H' v := by
  cases h with
  | str x h => exact .str x h
  | odd h => exact .odd (h.same s)
/-- whether a value is due -/
noncomputable def dueB (way : Int) (x : Str) : Bool := if way = 0 then (Nt.numQ x).isSome else if way = 1 then (Nt.lineQ x).isSome else (Nt.strQ x).isSome
noncomputable def dueV (way : Int) : V → Bool
  | .str x => dueB way x
  | _ => false
theorem OddT.noStr {K : PySem.W.Frag} {H : Hp} {v : V} (h : OddT K H v) : ∀ x, v ≠ .str x := fun x e => by
  subst e
  obtain ⟨⟨t, b, h1, h2, _⟩, _⟩ := h
  cases h1 with
  | base h => cases h; cases h2
theorem OddT.due {K : PySem.W.Frag} {H : Hp} {v : V} (h : OddT K H v) (way : Int) : dueV way v = false := by
  cases v with
  | str x => exact absurd rfl (h.noStr x)
  | _ => rfl
noncomputable def spLDueT (K : PySem.W.Frag) : Sp := fun vs H Q _ => ∃ (way : Int) (v : V), vs = [.int way, v] ∧ ValT K H v ∧ ∀ H', Same H H' → Q (.bl (dueV way v)) H'
section
variable {P : Program} {w : World} {K : PySem.W.Frag} {mg : Str → Option Value} {base : Heap} {C L D Ct f fNo fB : Addr} {fd fdB : FuncData}
theorem ok_ldueT (F : L2.Fun K "_law_due" "_law_due" sLDue f fd) (b : Binds K fd PLDue []) (B : Bi mg) (gSt : mg "str" = none) (cLN : CalF P w K mg base 2 "_law_number_of" spLNum) (cLL : CalF P w K mg base 3 "_law_is_line" spLLine) (cLS : CalF P w K mg base 3 "_law_is_stretch" spLStr) : FnR P w K mg base CX0 4 f (spLDueT K) := by
  refine fnR_of (k := 3) F b scLDue (fun vs H Q E h => ?_) (fun cdv A outer s H vs Q E hr h => ?_)
  · obtain ⟨_, _, rfl, _⟩ := h
    rfl
  · have sc := scLDue
    obtain ⟨way, v, rfl, hv, k⟩ := h
    refine ⟨_, (pss_cons (ps_if (pt_not (pt_val (pe_callB (show CallR _ (.builtin "isinstance") (rIsi K) from call_isi) (by rfl) B.isinstance (by decide +kernel) (pa_cons (pv 1) (pa_cons (pe_bltn (v := .ty "str") (by rfl) gSt (by decide +kernel) rfl) pa_nil))))) (pss_one (ps_ret pe_bl)) pss_nil) (pss_cons (ps_if (pt_cmpR op_eq (pv 0) pe_int (nomark _)) (pss_one (ps_ret (pe_cmpR op_notN (pe_f cLN hr (by decide) rfl (pa_cons (pv 1) pa_nil)) pe_non (nomark _)))) pss_nil) (pss_one (ps_ret (pe_ifExp (pt_cmpR op_eq (pv 0) pe_int (nomark _)) (pe_f cLL hr (by decide) rfl (pa_cons (pv 1) pa_nil)) (pe_f cLS hr (by decide) rfl (pa_cons (pv 1) pa_nil))))))), ?_⟩
    cases hv with
    | odd h =>
      obtain ⟨⟨t, b, h1, h2, h3⟩, h4⟩ := id h
      refine ⟨_, rfl, _, _, _, _, false, rfl, .ty _, h1, h2, false, rfl, iteT ?_⟩
      have := k H (Same.refl H)
      rw [h.due way] at this
      exact this
    | str x hx =>
      refine ⟨_, rfl, _, _, _, _, true, rfl, .ty _, .base (.str _), kit_ty (by decide +kernel), true, rfl, iteF ?_⟩
      have k2 : ∀ H', Same H H' → Q (.bl (dueB way x)) H' := k
      unfold dueB at k2
      refine ⟨_, rfl, rfl, _, rfl, if2 (fun hy => ?_) (fun hy => ?_)⟩
      · have hw : way = 0 := by have := of_decide_eq_true hy; injection this
        rw [if_pos hw] at k2
        refine ⟨_, rfl, x, rfl, hx, fun n0 H2 s2 => ?_, fun t b n0 r H2 nr er s2 => ?_⟩
        · rw [n0] at k2
          exact ⟨rfl, k2 _ s2⟩
        · rw [n0] at k2
          exact ⟨rfl, k2 _ s2⟩
      · have hw : ¬ way = 0 := fun z => of_decide_eq_false hy (congrArg V.int z)
        rw [if_neg hw] at k2
        refine ⟨_, rfl, rfl, _, rfl, if2 (fun hy2 => ?_) (fun hy2 => ?_)⟩
        · have hw : way = 1 := by have := of_decide_eq_true hy2; injection this
          rw [if_pos hw] at k2
          exact ⟨_, rfl, x, rfl, hx, k2⟩
        · have hw : ¬ way = 1 := fun z => of_decide_eq_false hy2 (congrArg V.int z)
          rw [if_neg hw] at k2
          exact ⟨_, rfl, x, rfl, hx, k2⟩
end
end Ws

namespace Ws
open PySem PySem.Spec PyProof.Rows L2
noncomputable abbrev sLRd : Stmt := (PySem.Challenge.pw_whatspeed_k94_texts_that_are_none.main.body.getD 42 (.Pass ⟨0, 0, 0, 0⟩))
noncomputable abbrev NLRd : List Str := ["way", "value", "found", "e"]
noncomputable abbrev PLRd : List Str := ["way", "value"]
theorem scLRd : FnScope NLRd PLRd (defScope sLRd) := ⟨rfl, rfl, rfl, by decide +kernel, rfl, by decide +kernel, by decide +kernel⟩
/-! ### reading any value -/
noncomputable def RaisesV (Ct : Addr) (H : Hp) (v : V) (E : XK) : Prop := ∀ d H', H' d = some (.xd [("value", v)]) → Same H H' → E (.ref Ct) (some d) H'
theorem RaisesV.same {C : Addr} {H H1 : Hp} {v : V} {E : XK} (h : RaisesV C H v E) (s : Same H H1) : RaisesV C H1 v E := fun d H' e s' => h d H' e (s.trans s')
noncomputable def spRdX (P : Program) (w : World) (K : PySem.W.Frag) (mg : Str → Option Value) (base : Heap) (Ct : Addr) : Sp := fun vs H Q E => ∃ (v : V) (f : Addr) (sp : Sp), vs = [v, .ref f] ∧ ValT K H v ∧ DefAt P w K mg base CX0 7 f sp ∧ (OddT K H v → RaisesV Ct H v E) ∧
  (∀ x, v = .str x → x.length ≤ 900 → ∀ Q' : VK, (∀ a H', Q (.ref a) H' → Q' (.ref a) H') → (∀ H', RaisesV Ct H' v E → Q' .non H') → sp [.str x] H Q' E0)
noncomputable def spRNX (K : PySem.W.Frag) (C Ct : Addr) : Sp := fun vs H Q E => ∃ v : V, vs = [v] ∧ ValT K H v ∧ (dueV 0 v = false → RaisesV Ct H v E) ∧ (∀ x t b, v = .str x → Nt.numQ x = some (t, b) → ∀ a H', NumAt C H' a t b → Same H H' → Q (.ref a) H')
noncomputable def spRLX (K : PySem.W.Frag) (C D Ct : Addr) : Sp := fun vs H Q E => ∃ v : V, vs = [v] ∧ ValT K H v ∧ (dueV 1 v = false → RaisesV Ct H v E) ∧ (∀ x t b p q, v = .str x → Nt.lineQ x = some (t, b, p, q) → ∀ l a c H', LineAt D H' l a c → NumAt C H' a t b → NumAt C H' c p q → Same H H' → Q (.ref l) H')
noncomputable def spRSX (K : PySem.W.Frag) (C D Ct : Addr) : Sp := fun vs H Q E => ∃ v : V, vs = [v] ∧ ValT K H v ∧ (dueV 2 v = false → RaisesV Ct H v E) ∧ (∀ x t b p q hl hh, v = .str x → Nt.strQ x = some (t, b, p, q, hl, hh) → ∀ s a c m H', StrAt D H' s (.ref a) (.ref c) (.bl hl) (.bl hh) m → NumAt C H' a t b → NumAt C H' c p q → Same H H' → Q (.ref s) H')
noncomputable def spLRead (K : PySem.W.Frag) (C L D Ct : Addr) : Sp := fun vs H Q _ => ∃ (way : Int) (v : V), vs = [.int way, v] ∧ ValT K H v ∧ (way = 0 ∨ way = 1 ∨ way = 2) ∧
  (dueV way v = false → ∀ er d H', H' er = some (Kx (.ref Ct) (some d) er) → H' d = some (.xd [("value", v)]) → Same H H' → Q (.ref er) H') ∧
  (way = 0 → ∀ x t b, v = .str x → Nt.numQ x = some (t, b) → ∀ a H', NumAt C H' a t b → Same H H' → Q (.ref a) H') ∧
  (way = 1 → ∀ x t b p q, v = .str x → Nt.lineQ x = some (t, b, p, q) → ∀ l a c H', LineAt L H' l a c → NumAt C H' a t b → NumAt C H' c p q → Same H H' → Q (.ref l) H') ∧
  (way = 2 → ∀ x t b p q hl hh, v = .str x → Nt.strQ x = some (t, b, p, q, hl, hh) → ∀ s a c m H', StrAt D H' s (.ref a) (.ref c) (.bl hl) (.bl hh) m → NumAt C H' a t b → NumAt C H' c p q → Same H H' → Q (.ref s) H')
section
variable {P : Program} {w : World} {K : PySem.W.Frag} {mg : Str → Option Value} {base : Heap} {C L D Ct Ce f fNo fB : Addr} {fd fdB : FuncData}
theorem due_0 {x : Str} : dueV 0 (.str x) = (Nt.numQ x).isSome := by
  unfold dueV dueB
  exact if_pos rfl
theorem due_1 {x : Str} : dueV 1 (.str x) = (Nt.lineQ x).isSome := by
  unfold dueV dueB
  exact (if_neg (by decide)).trans (if_pos rfl)
theorem due_2 {x : Str} : dueV 2 (.str x) = (Nt.strQ x).isSome := by
  unfold dueV dueB
  exact (if_neg (by decide)).trans (if_neg (by decide))
theorem ok_errt (F : L2.Fun K "__init__" "BadText.__init__" sErrT f fd) (T : OexC K C) (hno : PySem.W.findIn K (.ref C) "value" = some none) : FnOk P w K mg base CX0 1 f fd PErrT (spErr C) := by
  refine F.ok scErrT (fun vs H Q E h => ?_) (fun cdv A outer s H vs Q E hr h => ?_)
  · obtain ⟨a, v, rfl, _⟩ := h
    rfl
  · have sc := scErrT
    obtain ⟨a, v, rfl, e, k⟩ := h
    refine ⟨_, (pss_one (ps_ost (pv 0) (pv 1))), ?_⟩
    refine ⟨_, rfl, _, rfl, a, C, rfl, T, hno, .inl ⟨e, fun d nd ne => ?_⟩⟩
    exact k d nd ne
theorem raise_val {C : Addr} {H : Hp} {v : V} {W : XK} (k : RaisesV C H v W) :
    ([v] : List V).length ≤ 1000 ∧ ∀ a, H a = none → spErr C (.ref a :: ([v] ++ [])) (upd H a (exo a C none)) (fun v' H2 => v' = .non ∧ ∃ (d : Addr) (fs : List (Str × V)), H2 a = some (exo a C (some d)) ∧ H2 d = some (exd d fs) ∧ H d = none ∧ W (.ref C) (some d) (upd (del H2 a) d (.xd fs))) (fun _ _ _ => False) := by
  refine ⟨by show 1 ≤ 1000; decide, fun a na => ⟨a, v, rfl, upd_same, fun d nd hda => ?_⟩⟩
  have nd1 : H d = none := by rw [upd_ne hda] at nd; exact nd
  refine ⟨rfl, d, _, upd_same, (upd_ne hda).trans upd_same, nd1, ?_⟩
  exact k d _ upd_same (err_same na nd1)
theorem ok_rdx (F : L2.Fun K "_read" "_read" sRd f fd) (b : Binds K fd PRd []) (B : Bi mg) (gSt : mg "str" = none) (TE : OexC K Ct) (iB : PySem.W.findIn K (.ref Ct) "__init__" = some (some (.ref fB))) (tB : PySem.W.typeIn K (.ref fB) = some (.type "function")) (GB : FnOk P w K mg base CX0 1 fB fdB PErrT (spErr Ct)) (bB : Binds K fdB PErrT []) (gT : mg "BadText" = some (.ref Ct)) : FnR P w K mg base (L2.CX P w) 8 f (spRdX P w K mg base Ct) := by
  refine ((F.okX (k := 7) scRd (fun vs H Q E h => ?_) (fun cdv A outer s H vs Q E hr h => ?_)).raw b .nil).imp fun vs H Q E h => by rw [List.append_nil]; exact h
  · obtain ⟨_, _, _, rfl, _⟩ := h
    rfl
  · have sc := scRd
    obtain ⟨v, fa, sp, rfl, hv, hd, k1, k2⟩ := h
    refine ⟨_, (pss_cons (ps_set (i := 2) sc.nd rfl (Or.inl rfl) (pe_ifExp (pt_val (pe_callB (show CallR _ (.builtin "isinstance") (rIsi K) from call_isi) (by rfl) B.isinstance (by decide +kernel) (pa_cons (pv 0) (pa_cons (pe_bltn (v := .ty "str") (by rfl) gSt (by decide +kernel) rfl) pa_nil)))) (pe_fv (k := 7) (E := fun _ => E0) hr (by decide) pass0S (pv 1) (pa_cons (pv 0) pa_nil)) pe_non)) (pss_cons (ps_if (pt_cmpR op_isN (pv 2) pe_non (nomark _)) (pss_one (ps_raise rfl (takes_of rfl rfl rfl rfl) (pmk_oex TE iB tB GB (hr.mono (by decide)) bB .nil pass0 rfl gT (pa_cons (pv 0) pa_nil)))) pss_nil) (pss_one (ps_ret (pv 2))))), ?_⟩
    cases hv with
    | odd h =>
      obtain ⟨⟨t, b, h1, h2, h3⟩, h4⟩ := id h
      refine ⟨_, rfl, _, _, _, _, false, rfl, .ty _, h1, h2, false, rfl, iteF ?_⟩
      exact ⟨_, rfl, rfl, _, rfl, ifT rfl ⟨_, rfl, raise_val (k1 h)⟩⟩
    | str x hx =>
      refine ⟨_, rfl, _, _, _, _, true, rfl, .ty _, .base (.str _), kit_ty (by decide +kernel), true, rfl, iteT ?_⟩
      refine ⟨_, rfl, fa, sp, rfl, hd, _, rfl, k2 x rfl hx _ (fun a H' h => ?_) (fun H' h => ?_)⟩
      · exact ⟨_, rfl, rfl, _, rfl, ifF rfl ⟨_, rfl, h⟩⟩
      · exact ⟨_, rfl, rfl, _, rfl, ifT rfl ⟨_, rfl, raise_val h⟩⟩
theorem ok_rnx (F : L2.Fun K "read_number" "read_number" sRN f fd) (b : Binds K fd PRN []) (gNo : mg "number_of" = some (.ref fNo)) (cRd : CalE P w K mg base (L2.CX P w) 8 "_read" (spRdX P w K mg base Ct)) (d : DefAt P w K mg base CX0 7 fNo (spNumOf C)) : FnR P w K mg base (L2.CX P w) 9 f (spRNX K C Ct) := by
  refine ((F.okX (k := 8) scRN (fun vs H Q E h => ?_) (fun cdv A outer s H vs Q E hr h => ?_)).raw b .nil).imp fun vs H Q E h => by rw [List.append_nil]; exact h
  · obtain ⟨_, rfl, _⟩ := h
    rfl
  · have sc := scRN
    obtain ⟨v, rfl, hv, k1, k2⟩ := h
    refine ⟨_, (pss_one (ps_ret (pe_fS cRd hr (by decide) (fun σ => passAt (takes_of rfl rfl rfl rfl) σ) rfl (pa_cons (pv 0) (pa_cons (pe_glob (v := .ref fNo) rfl gNo rfl) pa_nil))))), ?_⟩
    refine ⟨_, rfl, v, fNo, spNumOf C, rfl, hv, d, fun ho => k1 (ho.due 0), fun x ex hx Q' hQ hN => ⟨x, rfl, by omega, fun n0 H' s1 => ?_, fun t b n0 a H' na ha s1 => ?_⟩⟩
    · refine hN H' ((k1 ?_).same s1)
      rw [ex]
      rw [due_0, n0]
      rfl
    · exact hQ _ _ (k2 x t b ex n0 a H' ha s1)
theorem ok_rlx (F : L2.Fun K "read_line" "read_line" sRL f fd) (b : Binds K fd PRL []) (gNo : mg "_line_of" = some (.ref fNo)) (cRd : CalE P w K mg base (L2.CX P w) 8 "_read" (spRdX P w K mg base Ct)) (d : DefAt P w K mg base CX0 7 fNo (spLineOf C L)) : FnR P w K mg base (L2.CX P w) 9 f (spRLX K C L Ct) := by
  refine ((F.okX (k := 8) scRL (fun vs H Q E h => ?_) (fun cdv A outer s H vs Q E hr h => ?_)).raw b .nil).imp fun vs H Q E h => by rw [List.append_nil]; exact h
  · obtain ⟨_, rfl, _⟩ := h
    rfl
  · have sc := scRL
    obtain ⟨v, rfl, hv, k1, k2⟩ := h
    refine ⟨_, (pss_one (ps_ret (pe_fS cRd hr (by decide) (fun σ => passAt (takes_of rfl rfl rfl rfl) σ) rfl (pa_cons (pv 0) (pa_cons (pe_glob (v := .ref fNo) rfl gNo rfl) pa_nil))))), ?_⟩
    refine ⟨_, rfl, v, fNo, spLineOf C L, rfl, hv, d, fun ho => k1 (ho.due 1), fun x ex hx Q' hQ hN => ⟨x, rfl, hx, fun n0 H' s1 => ?_, fun t b p q n0 l a c H' nl hl ha hc s1 => ?_⟩⟩
    · refine hN H' ((k1 ?_).same s1)
      rw [ex]
      rw [due_1, n0]
      rfl
    · exact hQ _ _ (k2 x t b p q ex n0 l a c H' hl ha hc s1)
theorem ok_rsx (F : L2.Fun K "read_stretch" "read_stretch" sRS f fd) (b : Binds K fd PRS []) (gNo : mg "_stretch_of" = some (.ref fNo)) (cRd : CalE P w K mg base (L2.CX P w) 8 "_read" (spRdX P w K mg base Ct)) (d : DefAt P w K mg base CX0 7 fNo (spStrOf C D)) : FnR P w K mg base (L2.CX P w) 9 f (spRSX K C D Ct) := by
  refine ((F.okX (k := 8) scRS (fun vs H Q E h => ?_) (fun cdv A outer s H vs Q E hr h => ?_)).raw b .nil).imp fun vs H Q E h => by rw [List.append_nil]; exact h
  · obtain ⟨_, rfl, _⟩ := h
    rfl
  · have sc := scRS
    obtain ⟨v, rfl, hv, k1, k2⟩ := h
    refine ⟨_, (pss_one (ps_ret (pe_fS cRd hr (by decide) (fun σ => passAt (takes_of rfl rfl rfl rfl) σ) rfl (pa_cons (pv 0) (pa_cons (pe_glob (v := .ref fNo) rfl gNo rfl) pa_nil))))), ?_⟩
    refine ⟨_, rfl, v, fNo, spStrOf C D, rfl, hv, d, fun ho => k1 (ho.due 2), fun x ex hx Q' hQ hN => ⟨x, rfl, hx, fun n0 H' s1 => ?_, fun t b p q hl hh n0 s' a c m H' ns hs ha hc s1 => ?_⟩⟩
    · refine hN H' ((k1 ?_).same s1)
      rw [ex]
      rw [due_2, n0]
      rfl
    · exact hQ _ _ (k2 x t b p q hl hh ex n0 s' a c m H' hs ha hc s1)
theorem ok_lread (F : L2.Fun K "_law_read" "_law_read" sLRd f fd) (b : Binds K fd PLRd []) (gE : mg "SpeedError" = some (.ref Ce)) (xE : PySem.W.exmOne K (.ref Ct) (.ref Ce) = some true) (cRN : CalE P w K mg base (L2.CX P w) 9 "read_number" (spRNX K C Ct)) (cRL : CalE P w K mg base (L2.CX P w) 9 "read_line" (spRLX K C L Ct)) (cRS : CalE P w K mg base (L2.CX P w) 9 "read_stretch" (spRSX K C D Ct)) : FnR P w K mg base CX0 10 f (spLRead K C L D Ct) := by
  refine fnR_of (k := 9) F b scLRd (fun vs H Q E h => ?_) (fun cdv A outer s H vs Q E hr h => ?_)
  · obtain ⟨_, _, rfl, _⟩ := h
    rfl
  · have sc := scLRd
    obtain ⟨way, v, rfl, hv, hw, k0, k1, k2, k3⟩ := h
    refine ⟨_, (pss_cons (ps_keep (i := 3) rfl rfl rfl sc.nd rfl rfl ⟨rfl, by decide, .inl gE⟩ (fun W pn xe tk _ => by exact (pss_one (ps_set (i := 2) sc.nd rfl (Or.inl rfl) (pe_ifExp (pt_cmpR op_eq (pv 0) pe_int (nomark _)) (pe_fS cRN hr (by decide) (fun σ => passAt tk σ) rfl (pa_cons (pv 1) pa_nil)) (pe_ifExp (pt_cmpR op_eq (pv 0) pe_int (nomark _)) (pe_fS cRL hr (by decide) (fun σ => passAt tk σ) rfl (pa_cons (pv 1) pa_nil)) (pe_fS cRS hr (by decide) (fun σ => passAt tk σ) rfl (pa_cons (pv 1) pa_nil))))))) (fun a oe cls d pn hz hf => by exact (pss_one (ps_set (i := 2) sc.nd rfl (Or.inl rfl) (pv 3))))) (pss_one (ps_ret (pv 2)))), ?_⟩
    rcases hw with rfl | rfl | rfl
    · refine ⟨_, rfl, rfl, _, rfl, iteT ?_⟩
      refine ⟨_, rfl, v, rfl, hv, fun hd d G1 ed s1 => ⟨xE, fun er na => ?_⟩, fun x t b ex n0 a H' ha s1 => ?_⟩
      · have j2 := Same.new (o := Kx (.ref Ct) (some d) er) na
        exact ⟨_, rfl, _, rfl, k0 hd er d _ upd_same (j2 _ _ ed) (s1.trans j2)⟩
      · exact ⟨_, rfl, k1 rfl x t b ex n0 a H' ha s1⟩
    · refine ⟨_, rfl, rfl, _, rfl, iteF ⟨_, rfl, rfl, _, rfl, iteT ?_⟩⟩
      refine ⟨_, rfl, v, rfl, hv, fun hd d G1 ed s1 => ⟨xE, fun er na => ?_⟩, fun x t b p q ex n0 l a c H' hl ha hc s1 => ?_⟩
      · have j2 := Same.new (o := Kx (.ref Ct) (some d) er) na
        exact ⟨_, rfl, _, rfl, k0 hd er d _ upd_same (j2 _ _ ed) (s1.trans j2)⟩
      · exact ⟨_, rfl, k2 rfl x t b p q ex n0 l a c H' hl ha hc s1⟩
    · refine ⟨_, rfl, rfl, _, rfl, iteF ⟨_, rfl, rfl, _, rfl, iteF ?_⟩⟩
      refine ⟨_, rfl, v, rfl, hv, fun hd d G1 ed s1 => ⟨xE, fun er na => ?_⟩, fun x t b p q hl hh ex n0 s' a c m H' hs ha hc s1 => ?_⟩
      · have j2 := Same.new (o := Kx (.ref Ct) (some d) er) na
        exact ⟨_, rfl, _, rfl, k0 hd er d _ upd_same (j2 _ _ ed) (s1.trans j2)⟩
      · exact ⟨_, rfl, k3 rfl x t b p q hl hh ex n0 s' a c m H' hs ha hc s1⟩
end
end Ws

namespace Ws
open PySem PySem.Spec PyProof.Rows L2
noncomputable abbrev sIsR : Stmt := (PySem.Challenge.pw_whatspeed_k94_texts_that_are_none.main.body.getD 43 (.Pass ⟨0, 0, 0, 0⟩))
noncomputable abbrev NIsR : List Str := ["way", "value", "found"]
noncomputable abbrev PIsR : List Str := ["way", "value"]
theorem scIsR : FnScope NIsR PIsR (defScope sIsR) := ⟨rfl, rfl, rfl, by decide +kernel, rfl, by decide +kernel, by decide +kernel⟩
/-! ### a value is read or refused as it is due -/
noncomputable def spIsR (K : PySem.W.Frag) : Sp := fun vs H Q _ => ∃ (way : Int) (v : V), vs = [.int way, v] ∧ ValT K H v ∧ (way = 0 ∨ way = 1 ∨ way = 2) ∧ ∀ H', Same H H' → Q (.bl true) H'
theorem ValT.bool {K : PySem.W.Frag} {H : Hp} {v : V} (h : ValT K H v) : ∃ t b, TyX K H v t ∧ PySem.W.kitOne K t (.type "bool") = some b := by
  cases h with
  | str x _ => exact ⟨_, false, .base (.str x), kit_ty (by decide +kernel)⟩
  | odd h =>
    obtain ⟨⟨t, b, h1, _, h3⟩, _⟩ := h
    exact ⟨t, b, h1, h3⟩
theorem ValT.eq {K : PySem.W.Frag} {H : Hp} {v : V} {Q : VK} (h : ValT K H v) (q : Q (.bl true) H) : rEq v v H Q ∨ rEqD K v v H Q ∨ rEqDA v v H Q := by
  cases h with
  | str x _ =>
    refine .inl ⟨rfl, ?_⟩
    rw [show decide (V.str x = V.str x) = true from decide_eq_true rfl]
    exact q
  | odd h =>
    obtain ⟨_, ⟨d, h1, h2, h3⟩ | ⟨a, rfl, h1⟩⟩ := h
    · exact .inr (.inl ⟨d, d, h1, h1, h2, h2, by rw [h3]; exact q⟩)
    · exact .inr (.inr ⟨a, a, [], [], rfl, rfl, h1, h1, rfl, fun p hp => absurd hp List.not_mem_nil, q⟩)
section
variable {P : Program} {w : World} {K : PySem.W.Frag} {mg : Str → Option Value} {base : Heap} {C L D Ct f : Addr} {fd : FuncData}
theorem ok_isr (F : L2.Fun K "_law_is_right" "_law_is_right" sIsR f fd) (b : Binds K fd PIsR []) (B : Bi mg) (NC : NumC K C) (LC : LineC K L) (LT : LineT K L) (SC : StrC K D) (ST : LineT K D) (gN : mg "Number" = some (.ref C)) (gL : mg "Line" = some (.ref L)) (gD : mg "Stretch" = some (.ref D)) (gT : mg "BadText" = some (.ref Ct)) (TT : ErrC K Ct) (hno : PySem.W.findIn K (.ref Ct) "value" = some none) (kt : PySem.W.kitOne K (.ref Ct) (.ref Ct) = some true)
    (cLRd : CalF P w K mg base 10 "_law_read" (spLRead K C L D Ct)) (cDu : CalF P w K mg base 4 "_law_due" (spLDueT K)) (cSN : CalF P w K mg base 3 "show_number" (spShN C)) (cSL : CalF P w K mg base 6 "show_line" (spShL C L)) (cSS : CalF P w K mg base 4 "show_stretch" (spShS C D)) : FnR P w K mg base CX0 11 f (spIsR K) := by
  refine fnR_of (k := 10) F b scIsR (fun vs H Q E h => ?_) (fun cdv A outer s H vs Q E hr h => ?_)
  · obtain ⟨_, _, rfl, _⟩ := h
    rfl
  · have sc := scIsR
    obtain ⟨way, v, rfl, hv, hw, k⟩ := h
    refine ⟨_, (pss_cons (ps_set (i := 2) sc.nd rfl (Or.inl rfl) (pe_f cLRd hr (by decide) rfl (pa_cons (pv 0) (pa_cons (pv 1) pa_nil)))) (pss_cons (ps_if (pt_not (pt_val (pe_f cDu hr (by decide) rfl (pa_cons (pv 0) (pa_cons (pv 1) pa_nil))))) (pss_cons (ps_if (PW.pt (pw_or (pt_not (pt_val (pe_callB call_kisV (by rfl) B.isinstance (by decide +kernel) (pa_cons (pv 2) (pa_cons (pe_glob (v := .ref Ct) rfl gT rfl) pa_nil))))) (pw_or1 (pt_cmpR op_ne (pe_callB (show CallR _ (.builtin "isinstance") (rIsi K) from call_isi) (by rfl) B.isinstance (by decide +kernel) (pa_cons (pe_kx TT hno (pv 2)) (pa_cons (pe_bltn (v := .ty "bool") (by rfl) B.bool (by decide +kernel) rfl) pa_nil))) (pe_callB (show CallR _ (.builtin "isinstance") (rIsi K) from call_isi) (by rfl) B.isinstance (by decide +kernel) (pa_cons (pv 1) (pa_cons (pe_bltn (v := .ty "bool") (by rfl) B.bool (by decide +kernel) rfl) pa_nil))) (nomark _))))) (pss_one (ps_ret pe_bl)) pss_nil) (pss_one (ps_ret (pe_cmpR (show OpR _ _ (fun x y H Q => rEq x y H Q ∨ rEqD K x y H Q ∨ rEqDA x y H Q) from OpR.or op_eq (OpR.or (op_eqD hr.units) (op_eq_dictA (Nat.lt_of_succ_lt (hu_of hr))))) (pe_kx TT hno (pv 2)) (pv 1) (nomark _))))) pss_nil) (pss_cons (ps_if (pt_cmpR op_eq (pv 0) pe_int (nomark _)) (pss_one (ps_ret (pe_and (pe_callB (show CallR _ (.builtin "isinstance") (rIsi K) from call_isi) (by rfl) B.isinstance (by decide +kernel) (pa_cons (pv 2) (pa_cons (pe_glob (v := .ref C) rfl gN rfl) pa_nil))) (pe_one (pe_cmpR op_eq (pe_f cSN hr (by decide) rfl (pa_cons (pv 2) pa_nil)) (pv 1) (nomark _)))))) pss_nil) (pss_cons (ps_if (pt_cmpR op_eq (pv 0) pe_int (nomark _)) (pss_one (ps_ret (pe_and (pe_callB (show CallR _ (.builtin "isinstance") (rIsi K) from call_isi) (by rfl) B.isinstance (by decide +kernel) (pa_cons (pv 2) (pa_cons (pe_glob (v := .ref L) rfl gL rfl) pa_nil))) (pe_one (pe_cmpR op_eq (pe_f cSL hr (by decide) rfl (pa_cons (pv 2) pa_nil)) (pv 1) (nomark _)))))) pss_nil) (pss_one (ps_ret (pe_and (pe_callB (show CallR _ (.builtin "isinstance") (rIsi K) from call_isi) (by rfl) B.isinstance (by decide +kernel) (pa_cons (pv 2) (pa_cons (pe_glob (v := .ref D) rfl gD rfl) pa_nil))) (pe_one (pe_cmpR op_eq (pe_f cSS hr (by decide) rfl (pa_cons (pv 2) pa_nil)) (pv 1) (nomark _)))))))))), ?_⟩
    refine ⟨_, rfl, _, rfl, way, v, rfl, hv, hw, fun hd er d H1 e1 e2 s1 => ?_, fun w0 x t b ex n0 a H1 ha s1 => ?_, fun w0 x t b p q ex n0 l a c H1 hl ha hc s1 => ?_, fun w0 x t b p q hl hh ex n0 s' a c m H1 hs ha hc s1 => ?_⟩
    · refine ⟨_, rfl, _, rfl, way, v, rfl, hv.same s1, fun H2 s2 => ⟨false, by rw [hd], iteT ?_⟩⟩
      have e1 := s2 _ _ e1
      have e2 := s2 _ _ e2
      have hv2 := (hv.same s1).same s2
      obtain ⟨t, b, h1, h2⟩ := hv2.bool
      refine ⟨_, rfl, er, d, Ct, _, _, _, true, rfl, .own Ct, e1, e2, TT, kt, true, rfl, iteF ?_⟩
      refine ⟨_, rfl, er, d, _, _, rfl, e1, e2, lk_here, _, _, _, _, b, rfl, .ty _, h1, h2, _, rfl, _, _, _, _, b, rfl, .ty _, h1, h2, rfl, _, rfl, ifF (by cases b <;> rfl) ?_⟩
      refine ⟨_, rfl, er, d, _, _, rfl, e1, e2, lk_here, _, rfl, hv2.eq ?_⟩
      exact k _ (s1.trans s2)
    · have hd : dueV way v = true := by rw [w0, ex, due_0, n0]; rfl
      refine ⟨_, rfl, _, rfl, way, v, rfl, hv.same s1, fun H2 s2 => ⟨true, by rw [hd], iteF ?_⟩⟩
      obtain ⟨rfl, hc⟩ := Nt.numQ_iff.mp n0
      obtain ⟨dx, ea⟩ := ha.same s2
      subst w0
      refine ⟨_, rfl, rfl, _, rfl, ifT rfl ?_⟩
      refine ⟨_, rfl, _, _, _, _, true, rfl, .own C, NC.ty ea, NC.kk, true, rfl, ?_⟩
      refine ⟨_, rfl, a, t, b, rfl, ⟨dx, ea⟩, hc, ?_⟩
      subst ex
      refine ⟨_, rfl, rfl, ?_⟩
      rw [show decide (V.str (Nt.shN t b) = V.str (Nt.shN t b)) = true from decide_eq_true rfl]
      exact k _ (s1.trans s2)
    · have hd : dueV way v = true := by rw [w0, ex, due_1, n0]; rfl
      refine ⟨_, rfl, _, rfl, way, v, rfl, hv.same s1, fun H2 s2 => ⟨true, by rw [hd], iteF ?_⟩⟩
      obtain ⟨rfl, hc1, hc2⟩ := Nt.lineQ_iff.mp n0
      obtain ⟨dx, ea⟩ := hl.same s2
      subst w0
      refine ⟨_, rfl, rfl, _, rfl, ifF rfl ⟨_, rfl, rfl, _, rfl, ifT rfl ?_⟩⟩
      refine ⟨_, rfl, _, _, _, _, true, rfl, .own L, LC.ty LT ea, kit_self _, true, rfl, ?_⟩
      refine ⟨_, rfl, l, a, c, t, b, p, q, rfl, ⟨dx, ea⟩, ha.same s2, hc.same s2, hc1, hc2, fun H3 s3 => ?_⟩
      subst ex
      refine ⟨_, rfl, rfl, ?_⟩
      rw [show decide (V.str (Nt.shL t b p q) = V.str (Nt.shL t b p q)) = true from decide_eq_true rfl]
      exact k _ ((s1.trans s2).trans s3)
    · have hd : dueV way v = true := by rw [w0, ex, due_2, n0]; rfl
      refine ⟨_, rfl, _, rfl, way, v, rfl, hv.same s1, fun H2 s2 => ⟨true, by rw [hd], iteF ?_⟩⟩
      obtain ⟨rfl, hc1, hc2, ok⟩ := Nt.strQ_back n0
      obtain ⟨dx, ea⟩ := hs.same s2
      subst w0
      refine ⟨_, rfl, rfl, _, rfl, ifF rfl ⟨_, rfl, rfl, _, rfl, ifF rfl ?_⟩⟩
      refine ⟨_, rfl, _, _, _, _, true, rfl, .own D, .base (.ins ea SC.cl ST.ha ST.hn ST.htk ST.hm), kit_self _, true, rfl, ?_⟩
      refine ⟨_, rfl, s', a, c, m, t, b, p, q, hl, hh, rfl, ⟨dx, ea⟩, ha.same s2, hc.same s2, hc1, hc2, ?_⟩
      subst ex
      refine ⟨_, rfl, rfl, ?_⟩
      rw [show decide (V.str (Nt.shS t b p q hl hh) = V.str (Nt.shS t b p q hl hh)) = true from decide_eq_true rfl]
      exact k _ (s1.trans s2)
end
end Ws

namespace Ws
open PySem PySem.Spec PyProof.Rows L2
noncomputable abbrev sBent : Stmt := (PySem.Challenge.pw_whatspeed_k94_texts_that_are_none.main.body.getD 44 (.Pass ⟨0, 0, 0, 0⟩))
noncomputable abbrev NBent : List Str := ["pot", "text", "at", "way", "sign"]
noncomputable abbrev PBent : List Str := ["pot", "text"]
theorem scBent : FnScope NBent PBent (defScope sBent) := ⟨rfl, rfl, rfl, by decide +kernel, rfl, by decide +kernel, by decide +kernel⟩
noncomputable abbrev sDrawn : Stmt := (PySem.Challenge.pw_whatspeed_k94_texts_that_are_none.main.body.getD 45 (.Pass ⟨0, 0, 0, 0⟩))
noncomputable abbrev NDrawn : List Str := ["pot", "way", "one", "other"]
noncomputable abbrev PDrawn : List Str := ["pot", "way"]
theorem scDrawn : FnScope NDrawn PDrawn (defScope sDrawn) := ⟨rfl, rfl, rfl, by decide +kernel, rfl, by decide +kernel, by decide +kernel⟩
/-! ### the texts that are drawn -/
noncomputable def spBent : Sp := fun vs H Q _ => ∃ (p : Addr) (m : Int) (x : Str), vs = [.ref p, .str x] ∧ PotAt H p m ∧ m ≤ 90000000000 ∧ x.length ≤ 400 ∧ ∀ (y : Str) H', y.length ≤ 2 * x.length + 1 → PotAt H' p (m + 3) → Ch p H H' → Q (.str y) H'
noncomputable def spDrawn : Sp := fun vs H Q _ => ∃ (p : Addr) (m way : Int), vs = [.ref p, .int way] ∧ PotAt H p m ∧ m ≤ 80000000000 ∧ ∀ (y : Str) H', y.length ≤ 180 → PotAt H' p (m + 20) → Ch p H H' → Q (.str y) H'
theorem mem_strL {l : List Str} {v : V} (h : v ∈ l.map V.str) (hl : l.all (fun i => decide (i.length ≤ 1)) = true) : ∃ i : Str, v = .str i ∧ i.length ≤ 1 := by
  obtain ⟨x, hx, rfl⟩ := List.mem_map.mp h
  exact ⟨x, rfl, of_decide_eq_true (List.all_eq_true.mp hl x hx)⟩
theorem shL_len2 {t b p q : Int} (c1 : Nt.Can t b) (c2 : Nt.Can p q) : (Nt.shL t b p q).length ≤ 180 := by
  have l1 := shN_len c1
  have l2 := shN_len c2
  have l3 := shN_len c2.abs
  have e : ∀ z : Prop, [Decidable z] → (if z then ("-" : Str) else "+").length ≤ 1 := fun z _ => by split <;> decide +kernel
  unfold Nt.shL
  split
  · omega
  · split
    · exact Nat.le_trans (js l2 es1) (by decide)
    · exact Nat.le_trans (js (js (js (js (js l1 eb) (e _)) eb) l3) es1) (by decide)
section
variable {P : Program} {w : World} {K : PySem.W.Frag} {mg : Str → Option Value} {base : Heap} {f : Addr} {fd : FuncData}
theorem ok_bent (F : L2.Fun K "_law_bent" "_law_bent" sBent f fd) (b : Binds K fd PBent []) (B : Bi mg) (cT : CalF P w K mg base 1 "_law_take" spTake) (cO : CalF P w K mg base 2 "_law_of" spOf) : FnR P w K mg base CX0 3 f spBent := by
  refine fnR_of (k := 2) F b scBent (fun vs H Q E h => ?_) (fun cdv A outer s H vs Q E hr h => ?_)
  · obtain ⟨_, _, _, rfl, _⟩ := h
    rfl
  · have sc := scBent
    obtain ⟨p, m, x, rfl, hp, hm, hx, q⟩ := h
    refine ⟨_, (pss_cons (ps_par (i := 2) (j := 3) (by rfl) sc.nd rfl rfl (by decide) rfl rfl (pa_cons (pe_f cT hr (by decide) rfl (pa_cons (pv 0) (pa_cons (pe_op op_add (pe_callB call_len_str (by rfl) B.len PySem.boot_len (pa_cons (pv 1) pa_nil)) pe_int) pa_nil))) (pa_cons (pe_f cT hr (by decide) rfl (pa_cons (pv 0) (pa_cons pe_int pa_nil))) pa_nil)) (by rfl)) (pss_cons (ps_set (i := 4) sc.nd rfl (Or.inl rfl) (pe_f cO hr (by decide) rfl (pa_cons (pv 0) (pa_cons (pe_lst (pa_cons pe_str (pa_cons pe_str (pa_cons pe_str (pa_cons pe_str (pa_cons pe_str (pa_cons pe_str (pa_cons pe_str (pa_cons pe_str (pa_cons pe_str (pa_cons pe_str (pa_cons pe_str (pa_cons pe_str (pa_cons pe_str (pa_cons pe_str pa_nil))))))))))))))) pa_nil)))) (pss_cons (ps_if (pt_cmpR op_eq (pv 3) pe_int (nomark _)) (pss_one (ps_ret (pe_op op_add_str (pe_slice sl_str (pv 1) po_none (po_some (pv 2))) (pe_slice sl_str (pv 1) (po_some (pe_op op_add (pv 2) pe_int)) po_none)))) pss_nil) (pss_one (ps_ret (pe_op op_add_str (pe_op op_add_str (pe_slice sl_str (pv 1) po_none (po_some (pv 2))) (pv 4)) (pe_slice sl_str (pv 1) (po_some (pe_op op_add (pv 2) (pe_callTy call_int1 (by rfl) B.int (by decide +kernel) (pa_cons (pe_cmpR op_gt (pv 3) pe_int (nomark _)) pa_nil)))) po_none))))))), ?_⟩
    have hzx : x.length ≤ sizeLine := szl (by omega)
    refine ⟨_, rfl, _, rfl, x, rfl, hzx, _, _, rfl, rfl, p, _, m, rfl, hp, by omega, by omega, by omega, fun a0 H1 a00 a01 hp1 c1 => ⟨_, rfl, p, 4, _, rfl, hp1, by omega, by decide, by decide, fun way H2 w0 w1 hp2 c2 => ⟨_, _, rfl, ?_⟩⟩⟩
    refine ⟨_, rfl, by show 14 ≤ sizeLine; decide, fun l n => ?_⟩
    refine ⟨p, l, _, m + 1 + 1, rfl, hp2.same (Same.new n), by omega, upd_same, Ne.symm (hp2.ne n), by show 1 ≤ 14; decide, by show 14 ≤ 1000; decide, fun v H3 hv hp3 c3 => ?_⟩
    have hv2 : ∃ i : Str, v = .str i ∧ i.length ≤ 1 := mem_strL (l := ["0", "1", "-", "+", "/", "s", " ", "[", "]", "(", ")", "2", ".", "x"]) hv (by decide +kernel)
    obtain ⟨sg, rfl, hsg⟩ := hv2
    have ch := ((c1.trans c2).trans (Ch.new n)).trans c3
    refine ⟨_, rfl, rfl, _, rfl, if2 (fun hz => ?_) (fun hz => ?_)⟩
    · have l1 := cutS_length x none (some a0)
      have l2 := cutS_length x (some (a0 + 1)) none
      refine ⟨_, rfl, _, rfl, _, rfl, x, rfl, hzx, _, rfl, _, rfl, _, _, rfl, rfl, _, rfl, x, rfl, hzx, _, _, rfl, rfl, szl (by omega), ?_⟩
      exact q _ H3 (by rw [len_app]; omega) (hp3.mono (by omega)) ch
    · have l1 := cutS_length x none (some a0)
      refine ⟨_, rfl, _, rfl, _, rfl, x, rfl, hzx, _, rfl, _, _, rfl, rfl, szl (by omega), _, rfl, _, rfl, _, rfl, _, _, rfl, rfl, .inr ⟨_, rfl, _, _, rfl, rfl, _, rfl, x, rfl, hzx, _, _, rfl, rfl, ?_, ?_⟩⟩
      · have l2 := cutS_length x (some (a0 + (if decide ((1 : Int) < way) = true then 1 else 0))) none
        exact szl (by rw [len_app]; omega)
      · have l2 := cutS_length x (some (a0 + (if decide ((1 : Int) < way) = true then 1 else 0))) none
        exact q _ H3 (by rw [len_app, len_app]; omega) (hp3.mono (by omega)) ch
theorem ok_drawn (F : L2.Fun K "_law_drawn" "_law_drawn" sDrawn f fd) (b : Binds K fd PDrawn []) (B : Bi mg) (cO : CalF P w K mg base 2 "_law_of" spOf) (cPr : CalF P w K mg base 4 "_law_pair" spPair) (cNT : CalF P w K mg base 1 "_law_number_text" spNTx) (cLT : CalF P w K mg base 2 "_law_line_text" spLTx) : FnR P w K mg base CX0 5 f spDrawn := by
  refine fnR_of (k := 4) F b scDrawn (fun vs H Q E h => ?_) (fun cdv A outer s H vs Q E hr h => ?_)
  · obtain ⟨_, _, _, rfl, _⟩ := h
    rfl
  · have sc := scDrawn
    obtain ⟨p, m, way, rfl, hp, hm, q⟩ := h
    refine ⟨_, (pss_cons (ps_par (i := 2) (j := 3) (by rfl) sc.nd rfl rfl (by decide) rfl rfl (pa_cons (pe_f cPr hr (by decide) rfl (pa_cons (pv 0) pa_nil)) (pa_cons (pe_f cPr hr (by decide) rfl (pa_cons (pv 0) pa_nil)) pa_nil)) (by rfl)) (pss_cons (ps_if (pt_cmpR op_eq (pv 1) pe_int (nomark _)) (pss_one (ps_ret (pe_f cNT hr (by decide) rfl (pa_cons (pv 2) pa_nil)))) pss_nil) (pss_cons (ps_if (pt_cmpR op_eq (pv 1) pe_int (nomark _)) (pss_one (ps_ret (pe_f cLT hr (by decide) rfl (pa_cons (pv 2) (pa_cons (pv 3) pa_nil))))) pss_nil) (pss_one (ps_ret (pe_op op_add_str (pe_op op_add_str (pe_op op_add_str (pe_op op_add_str (pe_f cO hr (by decide) rfl (pa_cons (pv 0) (pa_cons (pe_lst (pa_cons pe_str (pa_cons pe_str pa_nil))) pa_nil))) (pe_f cNT hr (by decide) rfl (pa_cons (pv 2) pa_nil))) pe_str) (pe_f cNT hr (by decide) rfl (pa_cons (pv 3) pa_nil))) (pe_f cO hr (by decide) rfl (pa_cons (pv 0) (pa_cons (pe_lst (pa_cons pe_str (pa_cons pe_str pa_nil))) pa_nil))))))))), ?_⟩
    refine ⟨_, rfl, p, m, rfl, hp, by omega, fun r t b H1 hc1 nr er hp1 c1 => ⟨_, rfl, p, m + 8, rfl, hp1, by omega, fun u t' b' H2 hc2 nu eu hp2 c2 => ⟨_, _, rfl, ?_⟩⟩⟩
    have er := c2 r _ (Ne.symm (hp.ne nr)) er
    have l1 := shN_len hc1
    have l2 := shN_len hc2
    have ch := c1.trans c2
    refine ⟨_, rfl, rfl, _, rfl, if2 (fun hz => ?_) (fun hz => ?_)⟩
    · exact ⟨_, rfl, r, t, b, rfl, er, hc1, q _ H2 (by omega) (hp2.mono (by omega)) ch⟩
    refine ⟨_, rfl, rfl, _, rfl, if2 (fun hz => ?_) (fun hz => ?_)⟩
    · exact ⟨_, rfl, _, rfl, r, u, t, b, t', b', rfl, er, eu, hc1, hc2, fun H3 s3 => q _ H3 (shL_len2 hc1 hc2) ((hp2.same s3).mono (by omega)) (ch.trans (Ch.of s3))⟩
    · refine ⟨_, rfl, by show 2 ≤ sizeLine; decide, fun l n => ?_⟩
      refine ⟨p, l, _, m + 8 + 8, rfl, hp2.same (Same.new n), by omega, upd_same, Ne.symm (hp2.ne n), by show 1 ≤ 2; decide, by show 2 ≤ 1000; decide, fun v H3 hv hp3 c3 => ?_⟩
      have hv2 : ∃ i : Str, v = .str i ∧ i.length ≤ 1 := mem_strL (l := ["[", "("]) hv (by decide +kernel)
      obtain ⟨s1, rfl, hs1⟩ := hv2
      have c23 : Ch p H2 H3 := (Ch.new n).trans c3
      have er := c23 r _ (Ne.symm (hp.ne nr)) er
      have eu := c23 u _ (Ne.symm (hp1.ne nu)) eu
      refine ⟨_, rfl, r, t, b, rfl, er, hc1, _, _, rfl, rfl, szl (by omega), _, _, rfl, rfl, szl (by rw [len_app]; have := eb; omega), _, rfl, u, t', b', rfl, eu, hc2, _, _, rfl, rfl, szl (by rw [len_app, len_app]; have := eb; omega), _, rfl, by show 2 ≤ sizeLine; decide, fun l2 n2 => ?_⟩
      refine ⟨p, l2, _, m + 8 + 8 + 1, rfl, hp3.same (Same.new n2), by omega, upd_same, Ne.symm (hp3.ne n2), by show 1 ≤ 2; decide, by show 2 ≤ 1000; decide, fun v H4 hv hp4 c4 => ?_⟩
      have hv2 : ∃ i : Str, v = .str i ∧ i.length ≤ 1 := mem_strL (l := ["]", ")"]) hv (by decide +kernel)
      obtain ⟨s2, rfl, hs2⟩ := hv2
      refine ⟨_, _, rfl, rfl, szl (by rw [len_app, len_app, len_app]; have := eb; omega), ?_⟩
      exact q _ H4 (by rw [len_app, len_app, len_app, len_app]; have := eb; omega) (hp4.mono (by omega)) ((ch.trans c23).trans ((Ch.new n2).trans c4))
end
end Ws

/-! a text some times over -/
namespace Ws
open PySem PySem.Spec PyProof.Rows L2
noncomputable def rMulS : R2 := fun x y H Q => ∃ (a : Str) (n : Int), x = .str a ∧ y = .int n ∧ MulOk a n ∧ Q (.str (Txt.mul a n)) H
theorem op_mulS {X : Cx} : OpR X (binaryOp .Mult) rMulS := by
  intro pi st σ G x y v u Q J rx ry hq
  obtain ⟨a, n, rfl, rfl, ok, q⟩ := hq
  obtain ⟨t, rfl⟩ := rx
  obtain ⟨t', rfl⟩ := ry
  exact PySem.SB.mul ok fun t2 k => ⟨.str _, G, J.tok _, ⟨_, rfl⟩, q⟩
end Ws

namespace Ws
open PySem PySem.Spec PyProof.Rows L2
noncomputable abbrev sLaw : Stmt := (PySem.Challenge.pw_whatspeed_k94_texts_that_are_none.main.body.getD 46 (.Pass ⟨0, 0, 0, 0⟩))
noncomputable abbrev NLaw : List Str := ["script", "odd", "value", "way", "k", "pot", "turn", "text"]
noncomputable abbrev PLaw : List Str := ["script"]
theorem scLaw : FnScope NLaw PLaw (defScope sLaw) := ⟨rfl, rfl, rfl, by decide +kernel, rfl, by decide +kernel, by decide +kernel⟩
theorem SqL.same {K : PySem.W.Frag} {H H' : Hp} {l : Addr} {ws : List V} (h : SqL K H l ws) (s : Same H H') : SqL K H' l ws := sqL_same s h
noncomputable def spLaw (K : PySem.W.Frag) : Sp := fun vs H Q _ => ∃ (a : Addr) (ns : List Int), vs = [.ref a] ∧ SqL K H a (ns.map V.int) ∧ ns.length ≤ 63 ∧ ∀ H', Q (.bl true) H'
noncomputable def OddL (K : PySem.W.Frag) (a : Addr) (ns : List Int) (H : Hp) (L : Addr) (ys : List V) : Prop := H L = some (.lst ys) ∧ (∀ v ∈ ys, ValT K H v) ∧ SqL K H a (ns.map V.int)
theorem OddL.same {K : PySem.W.Frag} {a : Addr} {ns : List Int} {H H' : Hp} {L : Addr} {ys : List V} (h : OddL K a ns H L ys) (s : Same H H') : OddL K a ns H' L ys := ⟨s _ _ h.1, fun v hv => (h.2.1 v hv).same s, sqL_same s h.2.2⟩
theorem OddL.add {K : PySem.W.Frag} {a : Addr} {ns : List Int} {H : Hp} {L l3 : Addr} {ys zs : List V} (h : OddL K a ns H L ys) (hz : ∀ v ∈ zs, ValT K H v) (n3 : H l3 = none) : OddL K a ns (upd H l3 (.lst (ys ++ zs))) l3 (ys ++ zs) := ⟨upd_same, fun v hv => (by
  have s := Same.new (o := .lst (ys ++ zs)) n3
  rcases List.mem_append.mp hv with hv | hv
  · exact (h.2.1 v hv).same s
  · exact (hz v hv).same s), sqL_same (Same.new n3) h.2.2⟩
theorem val_strs {K : PySem.W.Frag} {H : Hp} {l : List Str} (hl : l.all (fun i => decide (i.length ≤ 900)) = true) : ∀ v ∈ l.map V.str, ValT K H v := fun v hv => by
  obtain ⟨x, hx, rfl⟩ := List.mem_map.mp hv
  exact .str x (of_decide_eq_true (List.all_eq_true.mp hl x hx))
theorem val_odd {K : PySem.W.Frag} {H : Hp} {a1 a2 a3 a4 a5 : Addr} (e1 : H a1 = some (.tup [])) (e2 : H a2 = some (.lst [])) (e3 : H a3 = some (.dK [])) (e4 : H a4 = some (.tup [.str "1"])) (e5 : H a5 = some (.lst [.str "1"])) : ∀ v ∈ [V.non, V.bl true, V.int 0, V.ref a1, V.ref a2, V.ref a3, V.ref a4, V.ref a5], ValT K H v := by
  have d1 : DpAll K H [.str "1"] [.str "1"] := .cons (.str _) .nil
  intro v hv
  simp only [List.mem_cons, List.not_mem_nil, or_false] at hv
  rcases hv with rfl | rfl | rfl | rfl | rfl | rfl | rfl | rfl
  · exact .odd ⟨⟨_, false, .base .non, kit_ty (by decide +kernel), kit_ty (by decide +kernel)⟩, .inl ⟨_, .non, by decide +kernel, by simp [PyData.eqv]⟩⟩
  · exact .odd ⟨⟨_, _, .base (.bl _), kit_ty (by decide +kernel), kit_self _⟩, .inl ⟨_, .bl _, by decide +kernel, by simp [PyData.eqv]⟩⟩
  · exact .odd ⟨⟨_, false, .base (.int _), kit_ty (by decide +kernel), kit_ty (by decide +kernel)⟩, .inl ⟨_, .int _, by decide +kernel, by simp [PyData.eqv]⟩⟩
  · exact .odd ⟨⟨_, false, .base (.tup e1), kit_ty (by decide +kernel), kit_ty (by decide +kernel)⟩, .inl ⟨_, .tup (SqT.of e1) .nil, by decide +kernel, by simp [PyData.eqv, PyData.eqvAll]⟩⟩
  · exact .odd ⟨⟨_, false, .base (.lst e2), kit_ty (by decide +kernel), kit_ty (by decide +kernel)⟩, .inl ⟨_, .lst (SqL.of e2) .nil, by decide +kernel, by simp [PyData.eqv, PyData.eqvAll]⟩⟩
  · exact .odd ⟨⟨_, false, .base (.dK e3), kit_ty (by decide +kernel), kit_ty (by decide +kernel)⟩, .inr ⟨_, rfl, e3⟩⟩
  · exact .odd ⟨⟨_, false, .base (.tup e4), kit_ty (by decide +kernel), kit_ty (by decide +kernel)⟩, .inl ⟨_, .tup (SqT.of e4) d1, by decide +kernel, by simp [PyData.eqv, PyData.eqvAll]⟩⟩
  · exact .odd ⟨⟨_, false, .base (.lst e5), kit_ty (by decide +kernel), kit_ty (by decide +kernel)⟩, .inl ⟨_, .lst (SqL.of e5) d1, by decide +kernel, by simp [PyData.eqv, PyData.eqvAll]⟩⟩
section
variable {P : Program} {w : World} {K : PySem.W.Frag} {mg : Str → Option Value} {base : Heap} {f : Addr} {fd : FuncData}
theorem ok_law (F : L2.Fun K "law" "law" sLaw f fd) (b : Binds K fd PLaw []) (B : Bi mg) (cP : CalF P w K mg base 1 "_law_pot" (spPot K)) (cT : CalF P w K mg base 1 "_law_take" spTake) (cBe : CalF P w K mg base 3 "_law_bent" spBent) (cDr : CalF P w K mg base 5 "_law_drawn" spDrawn) (cR : CalG P w K mg base CX0 11 "_law_is_right" (spIsR K)) : FnG P w K mg base CX0 12 f (spLaw K) := by
  refine fnG_of F b scLaw (fun vs H Q E h => ?_) (fun cdv A outer s H vs Q E cl hr h => ?_)
  · obtain ⟨a, ns, rfl, _⟩ := h
    rfl
  · have sc := scLaw
    obtain ⟨a, ns, rfl, hS, hlen, q⟩ := h
    have rest : ∃ t, PSs (cxOf CX0 P w K mg base NLaw "law" (defScope sLaw) f cdv A outer s H E).nox (List.drop 5 (defBody sLaw)) t ∧ ∀ (G : Hp) (L : Addr) (ys : List V), OddL K a ns G L ys → t { nx := fun _ H' => Q .non H', rt := Q } [some (.ref a), some (.ref L), none, none, none, none, none, none] G := by
      refine ⟨_, (pss_cons (ps_for PassesOwn.never rfl (pi_list (pv 1)) (pg_name (i := 2) sc.nd rfl (Or.inr rfl)) (pss_one (ps_if (pt_not (pt_val (pe_callB (cr_all rfl) (by rfl) B.all (by decide +kernel) (pa_cons (pe_lc (own := [("way", 3)]) rfl sc.nd (pi_range1 (by rfl) B.range (pa_cons pe_int pa_nil)) (blkOk_by (N := NLaw) (sc := defScope sLaw) (by decide +kernel)) (fun _ _ _ _ _ => by exact (pg_name (i := 3) sc.nd rfl (Or.inl rfl))) (fun _ _ _ _ _ => by exact pts_nil) (fun _ _ _ _ _ => by exact (pe_g cR cl hr (by decide) rfl (pa_cons (pv 3) (pa_cons (pv 2) pa_nil))))) pa_nil)))) (pss_one (ps_ret pe_bl)) pss_nil))) (pss_cons (ps_for PassesOwn.never rfl (pi_range1 (by rfl) B.range (pa_cons (pe_callB (call_max2 rfl) (by rfl) B.max (by decide +kernel) (pa_cons pe_int (pa_cons (pe_callB (call_min2 rfl) (by rfl) B.min (by decide +kernel) (pa_cons pe_int (pa_cons (pe_callB call_len_seq (by rfl) B.len PySem.boot_len (pa_cons (pv 0) pa_nil)) pa_nil))) pa_nil))) pa_nil)) (pg_name (i := 4) sc.nd rfl (Or.inl rfl)) (pss_cons (ps_set (i := 5) sc.nd rfl (Or.inl rfl) (pe_f cP hr (by decide) rfl (pa_cons (pv 0) (pa_cons (pv 4) pa_nil)))) (pss_one (ps_for PassesOwn.never rfl (pi_range1 (by rfl) B.range (pa_cons pe_int pa_nil)) (pg_name (i := 6) sc.nd rfl (Or.inl rfl)) (pss_cons (ps_set (i := 3) sc.nd rfl (Or.inl rfl) (pe_f cT hr (by decide) rfl (pa_cons (pv 5) (pa_cons pe_int pa_nil)))) (pss_cons (ps_set (i := 7) sc.nd rfl (Or.inl rfl) (pe_f cBe hr (by decide) rfl (pa_cons (pv 5) (pa_cons (pe_f cDr hr (by decide) rfl (pa_cons (pv 5) (pa_cons (pv 3) pa_nil))) pa_nil)))) (pss_cons (ps_set (i := 7) sc.nd rfl (Or.inl rfl) (pe_ifExp (pt_cmpR op_eq (pe_f cT hr (by decide) rfl (pa_cons (pv 5) (pa_cons pe_int pa_nil))) pe_int (nomark _)) (pe_f cBe hr (by decide) rfl (pa_cons (pv 5) (pa_cons (pv 7) pa_nil))) (pv 7))) (pss_one (ps_if (pt_not (pt_val (pe_g cR cl hr (by decide) rfl (pa_cons (pv 3) (pa_cons (pv 7) pa_nil))))) (pss_one (ps_ret pe_bl)) pss_nil))))))))) (pss_one (ps_ret pe_bl)))), ?_⟩
      intro G L ys O
      have hSG := O.2.2
      refine ⟨_, rfl, L, rfl, ⟨_, SqL.of O.1⟩, for_list (K := K) (a := L) (xs := ys) (fun i σ H' => ∃ x, σ = [some (.ref a), some (.ref L), x, none, none, none, none, none] ∧ Same G H') ⟨_, rfl, Same.refl G⟩ (fun i σ H' hi ⟨_, _, s⟩ => SqL.of (s _ _ O.1)) ?_ ?_⟩
      · rintro i v σ H0 hv ⟨_, rfl, s0⟩
        have hval := O.2.1 v (List.mem_of_getElem? hv)
        refine ⟨3, rfl, by decide, by decide, fun D hD => ?_⟩
        refine lcR (lo := 0) (n := 3) (fun j acc H' => acc = List.replicate j (V.bl true) ∧ Same H0 H') ⟨rfl, Same.new hD⟩ (by decide) ?_ ?_
        · rintro j H acc hj ⟨ha, sj⟩ hDj hl Qn kQ
          refine ⟨rfl, _, rfl, _, rfl, _, v, rfl, hval.same (s0.trans sj), by omega, fun H' s' => kQ _ _ (s' _ _ hDj) ⟨?_, fun b o e => ?_⟩⟩
          · rw [ha, List.replicate_succ']
          · exact (upd_ne (ne_of_none e hD)).trans (s' _ _ (sj _ _ e))
        · rintro zs H2 ⟨hy, s2⟩ hD2 hl
          subst hy
          refine ⟨D, List.replicate 3 true, rfl, SqL.of hD2, true, rfl, ifF rfl ?_⟩
          exact ⟨_, rfl, s0.trans s2⟩
      · rintro σ H1 ⟨x2, rfl, s0⟩
        have hS1 := Ws.SqL.same hSG s0
        refine ⟨_, rfl, a, _, rfl, .inl hS1, _, _, rfl, _, _, rfl, ?_⟩
        generalize hn : (if (if ((ns.map V.int).length : Int) < 3 then ((ns.map V.int).length : Int) else 3) > 1 then (if ((ns.map V.int).length : Int) < 3 then ((ns.map V.int).length : Int) else 3) else 1) = n
        have hn3 : n ≤ 3 ∧ 0 ≤ n := by
          rw [← hn]
          split <;> split <;> omega
        refine ⟨n, rfl, by omega, by omega, for_range (n := n.toNat) (fun i σ H' => ∃ y2 y3 y4 y5 y6 y7, σ = [some (.ref a), some (.ref L), y2, y3, y4, y5, y6, y7] ∧ SqL K H' a (ns.map V.int)) ⟨_, _, _, _, _, _, rfl, hS1⟩ ?_ ?_⟩
        · rintro i σ H0 hi ⟨y2, y3, _, _, y6, y7, rfl, hS0⟩
          rw [Int.zero_add]
          refine ⟨_, rfl, _, rfl, a, ns, i, rfl, hS0, by omega, fun p H1 np hp s1 => ?_⟩
          refine ⟨20, rfl, by decide, by decide, for_range (n := 20) (fun j σ H' => ∃ y3 y6 y7, σ = [some (.ref a), some (.ref L), y2, y3, some (.int i), some (.ref p), y6, y7] ∧ PotAt H' p (60 * j) ∧ Same H0 H') ⟨_, _, _, rfl, hp.mono (by omega), s1⟩ ?_ ?_⟩
          · rintro j σ H2 hj ⟨_, _, _, rfl, hpj, sj⟩
            have toS : ∀ {H'}, Ch p H2 H' → Same H0 H' := fun c b o e => c _ _ (ne_of_none e np) (sj _ _ e)
            refine ⟨_, rfl, p, 3, _, rfl, hpj, by omega, by decide, by decide, fun way H3 w0 w1 hp3 c3 => ?_⟩
            refine ⟨_, rfl, _, rfl, _, rfl, p, _, way, rfl, hp3, by omega, fun y H4 hy hp4 c4 => ⟨p, _, y, rfl, hp4, by omega, by omega, fun z H5 hz hp5 c5 => ?_⟩⟩
            refine ⟨_, rfl, p, 3, _, rfl, hp5, by omega, by decide, by decide, fun d H6 d0 d1 hp6 c6 => ⟨rfl, _, rfl, if2 (fun hd => ?_) (fun hd => ?_)⟩⟩
            · refine ⟨_, rfl, _, rfl, p, _, z, rfl, hp6, by omega, by omega, fun u H7 hu hp7 c7 => ?_⟩
              refine ⟨_, rfl, _, rfl, way, _, rfl, .str u (by omega), by omega, fun H8 s8 => ⟨true, rfl, iteF ?_⟩⟩
              exact ⟨_, _, _, rfl, (hp7.same s8).mono (by omega), (toS ((((c3.trans c4).trans c5).trans c6).trans c7)).trans s8⟩
            · refine ⟨_, rfl, ?_⟩
              refine ⟨_, rfl, _, rfl, way, _, rfl, .str z (by omega), by omega, fun H8 s8 => ⟨true, rfl, iteF ?_⟩⟩
              exact ⟨_, _, _, rfl, (hp6.same s8).mono (by omega), (toS (((c3.trans c4).trans c5).trans c6)).trans s8⟩
          · rintro σ H' ⟨_, _, _, rfl, _, s9⟩
            exact ⟨_, _, _, _, _, _, rfl, Ws.SqL.same hS0 s9⟩
        · rintro σ H' ⟨_, _, _, _, _, _, rfl, _⟩
          exact q H'
    obtain ⟨t, hbody, ht⟩ := rest
    refine ⟨_, (pss_cons (ps_set (i := 1) sc.nd rfl (Or.inl rfl) (pe_lst (pa_cons pe_str (pa_cons pe_str (pa_cons pe_str (pa_cons pe_str (pa_cons pe_str (pa_cons pe_str (pa_cons pe_str (pa_cons pe_str (pa_cons pe_str (pa_cons pe_str (pa_cons pe_str (pa_cons pe_str (pa_cons pe_str (pa_cons pe_str (pa_cons pe_str (pa_cons pe_str pa_nil)))))))))))))))))) (pss_cons (ps_set (i := 1) sc.nd rfl (Or.inl rfl) (pe_op op_cat (pv 1) (pe_lst (pa_cons pe_str (pa_cons pe_str (pa_cons pe_str (pa_cons pe_str (pa_cons pe_str pa_nil)))))))) (pss_cons (ps_set (i := 1) sc.nd rfl (Or.inl rfl) (pe_op op_cat (pv 1) (pe_lst (pa_cons pe_str (pa_cons pe_str (pa_cons pe_str (pa_cons pe_str (pa_cons pe_str (pa_cons pe_str (pa_cons pe_str pa_nil)))))))))) (pss_cons (ps_set (i := 1) sc.nd rfl (Or.inl rfl) (pe_op op_cat (pv 1) (pe_lst (pa_cons (pe_op op_mulS pe_str pe_int) (pa_cons (pe_op op_mulS pe_str pe_int) (pa_cons (pe_op op_add_str pe_str (pe_op op_mulS pe_str pe_int)) (pa_cons (pe_op op_add_str pe_str (pe_op op_mulS pe_str pe_int)) (pa_cons pe_str pa_nil)))))))) (pss_cons (ps_set (i := 1) sc.nd rfl (Or.inl rfl) (pe_op op_cat (pv 1) (pe_lst (pa_cons pe_non (pa_cons pe_bl (pa_cons pe_int (pa_cons (pe_tup pa_nil) (pa_cons (pe_lst pa_nil) (pa_cons pe_dnewK (pa_cons (pe_tup (pa_cons pe_str pa_nil)) (pa_cons (pe_lst (pa_cons pe_str pa_nil)) pa_nil))))))))))) hbody))))), ?_⟩
    refine ⟨by show 16 ≤ sizeLine; decide, fun l0 n0 => ?_⟩
    have s0 := Same.new (o := .lst (List.map V.str ["", "0", "-0", "00", "01", "7/1", "2/4", "3/0", "0/5", "-1/2", "1/-2", "+1", "1s", "0s", "-1s", "s"])) n0
    have O0 : OddL K a ns (upd H l0 (.lst (List.map V.str ["", "0", "-0", "00", "01", "7/1", "2/4", "3/0", "0/5", "-1/2", "1/-2", "+1", "1s", "0s", "-1s", "s"]))) l0 (List.map V.str ["", "0", "-0", "00", "01", "7/1", "2/4", "3/0", "0/5", "-1/2", "1/-2", "+1", "1s", "0s", "-1s", "s"]) := ⟨upd_same, val_strs (by decide +kernel), sqL_same s0 hS⟩
    refine ⟨_, rfl, by show 5 ≤ sizeLine; decide, fun l1 n1 => ⟨l0, l1, _, _, rfl, rfl, (Same.new n1) _ _ O0.1, upd_same, by show 16 + 5 ≤ sizeLine; decide, fun l2 n2 => ?_⟩⟩
    have s1 := Same.new (o := .lst (List.map V.str ["2 + 0s", "0 + 1s", "1 - 1s", "1 + -1s", "1 +1s"])) n1
    have O1 := (O0.same s1).add (val_strs (l := ["2 + 0s", "0 + 1s", "1 - 1s", "1 + -1s", "1 +1s"]) (by decide +kernel)) n2
    clear O0 s0 s1
    refine ⟨_, rfl, by show 7 ≤ sizeLine; decide, fun l3 n3 => ⟨l2, l3, _, _, rfl, rfl, (Same.new n3) _ _ O1.1, upd_same, by show 21 + 7 ≤ sizeLine; decide, fun l4 n4 => ?_⟩⟩
    have s3 := Same.new (o := .lst (List.map V.str ["[0 1]", "[1 0]", "(1 1]", "[1 1]", "[0  1]", "[0 1", "0 1]"])) n3
    have O2 := (O1.same s3).add (val_strs (l := ["[0 1]", "[1 0]", "(1 1]", "[1 1]", "[0  1]", "[0 1", "0 1]"]) (by decide +kernel)) n4
    clear O1 s3
    have ok : ∀ {x : Str} {n : Int}, (x = "1" ∨ x = "3") → (n = 30 ∨ n = 31) → MulOk x n := fun {x n} hx hn => by
      rcases hx with rfl | rfl <;> rcases hn with rfl | rfl <;> exact ⟨by decide +kernel, fun _ _ => by decide +kernel, fun _ _ => by decide +kernel⟩
    refine ⟨_, rfl, _, _, rfl, rfl, ok (.inl rfl) (.inl rfl), _, _, rfl, rfl, ok (.inl rfl) (.inr rfl), _, _, rfl, rfl, ok (.inr rfl) (.inl rfl), _, _, rfl, rfl, szl (by decide +kernel), _, _, rfl, rfl, ok (.inr rfl) (.inr rfl), _, _, rfl, rfl, szl (by decide +kernel), ?_⟩
    refine ⟨by show 5 ≤ sizeLine; decide, fun l5 n5 => ⟨l4, l5, _, _, rfl, rfl, (Same.new n5) _ _ O2.1, upd_same, by show 28 + 5 ≤ sizeLine; decide, fun l6 n6 => ?_⟩⟩
    have s5 := Same.new (o := .lst (List.map V.str [Txt.mul "1" 30, Txt.mul "1" 31, "1/" ++ Txt.mul "3" 30, "1/" ++ Txt.mul "3" 31, " 1"])) n5
    have O3 := (O2.same s5).add (val_strs (l := [Txt.mul "1" 30, Txt.mul "1" 31, "1/" ++ Txt.mul "3" 30, "1/" ++ Txt.mul "3" 31, " 1"]) (by decide +kernel)) n6
    clear O2 s5
    refine ⟨_, rfl, by show 0 ≤ sizeLine; decide, fun a1 m1 => ⟨by show 0 ≤ sizeLine; decide, fun a2 m2 => fun a3 m3 => ⟨by show 1 ≤ sizeLine; decide, fun a4 m4 => ⟨by show 1 ≤ sizeLine; decide, fun a5 m5 => ⟨by show 8 ≤ sizeLine; decide, fun l7 n7 => ?_⟩⟩⟩⟩⟩
    have q7 := Same.new (o := .lst [V.non, V.bl true, V.int 0, V.ref a1, V.ref a2, V.ref a3, V.ref a4, V.ref a5]) n7
    have q5 := (Same.new (o := .lst [.str "1"]) m5).trans q7
    have q4 := (Same.new (o := .tup [.str "1"]) m4).trans q5
    have q3 := (Same.new (o := .dK []) m3).trans q4
    have q2 := (Same.new (o := .lst []) m2).trans q3
    have q1 := (Same.new (o := .tup []) m1).trans q2
    have O4 := O3.same q1
    have hv := val_odd (K := K) (q2 _ _ upd_same) (q3 _ _ upd_same) (q4 _ _ upd_same) (q5 _ _ upd_same) (q7 _ _ upd_same)
    refine ⟨l6, l7, _, _, rfl, rfl, O4.1, upd_same, by show 33 + 8 ≤ sizeLine; decide, fun l8 n8 => ?_⟩
    exact ht _ l8 _ (O4.add hv n8)
end

end Ws

namespace Ws
open PySem PySem.Spec PyProof.Rows L2
theorem all_mk {l : PySem.W.OpenLaw} {w : World} {K : PySem.W.Frag} {h : Heap} {mg : Str → Option Value} {fa : Addr} (X : K.In h) (G : h.Ns mainGlobals mg) (hfa : mg "law" = some (.ref fa)) (c : SaysW hkFa hkFn hkTs w K) :
    ∀ base : Heap, K.In base → base.Ns mainGlobals mg → FnG l.prog w K mg base CX0 12 fa (spLaw K) := by
  have g_C : PySem.W.nsIn K mainGlobals "Number" = some (some (.ref (He.ga K "Number"))) := c.is 0 rfl
  have pg_C : PySem.W.plainGet K (He.ga K "Number") Str.empty = true := c.is 1 rfl
  have hd_C : PySem.W.hasDictIn K (He.ga K "Number") = true := c.is 2 rfl
  have po_C : PySem.W.plainOver K (He.ga K "Number") = true := c.is 3 rfl
  have sa_C : PySem.W.findIn K (.ref (He.ga K "Number")) "__setattr__" = some (some (.builtin "object.__setattr__")) := c.is 4 rfl
  have mk_C : PySem.W.makesIn K (He.ga K "Number") = true := c.is 5 rfl
  have kc_C : PySem.W.keepIn K (.ref (He.ga K "Number")) = true := c.is 6 rfl
  have n_top_C : PySem.W.findIn K (.ref (He.ga K "Number")) "_top" = some none := c.is 7 rfl
  have n_bottom_C : PySem.W.findIn K (.ref (He.ga K "Number")) "_bottom" = some none := c.is 8 rfl
  have ha_C : PySem.W.findIn K (.ref (He.ga K "Number")) "__class__" = some (some (.builtin "object.__class__")) := c.is 9 rfl
  have hn_C : PySem.W.specialIn K (.builtin "object.__class__") "__get__" = some (some (.builtin "getset_descriptor.__get__")) := c.is 10 rfl
  have htk_C : PySem.W.takesIn K (.builtin "object.__class__") = some true := c.is 11 rfl
  have hm_C : PySem.W.mroIn K (He.ga K "Number") (.type "object") = some true := c.is 12 rfl
  have sf_C : PySem.W.selfFirst K (He.ga K "Number") = true := c.is 13 rfl
  have nf_C : PySem.W.notFirst K (He.ga K "Number") (.ref (He.ga K "Number")) = true := c.is 14 rfl
  have g_L : PySem.W.nsIn K mainGlobals "Line" = some (some (.ref (He.ga K "Line"))) := c.is 15 rfl
  have pg_L : PySem.W.plainGet K (He.ga K "Line") Str.empty = true := c.is 16 rfl
  have hd_L : PySem.W.hasDictIn K (He.ga K "Line") = true := c.is 17 rfl
  have po_L : PySem.W.plainOver K (He.ga K "Line") = true := c.is 18 rfl
  have sa_L : PySem.W.findIn K (.ref (He.ga K "Line")) "__setattr__" = some (some (.builtin "object.__setattr__")) := c.is 19 rfl
  have mk_L : PySem.W.makesIn K (He.ga K "Line") = true := c.is 20 rfl
  have kc_L : PySem.W.keepIn K (.ref (He.ga K "Line")) = true := c.is 21 rfl
  have n_base_L : PySem.W.findIn K (.ref (He.ga K "Line")) "_base" = some none := c.is 22 rfl
  have n_slope_L : PySem.W.findIn K (.ref (He.ga K "Line")) "_slope" = some none := c.is 23 rfl
  have ha_L : PySem.W.findIn K (.ref (He.ga K "Line")) "__class__" = some (some (.builtin "object.__class__")) := c.is 24 rfl
  have hn_L : PySem.W.specialIn K (.builtin "object.__class__") "__get__" = some (some (.builtin "getset_descriptor.__get__")) := c.is 25 rfl
  have htk_L : PySem.W.takesIn K (.builtin "object.__class__") = some true := c.is 26 rfl
  have hm_L : PySem.W.mroIn K (He.ga K "Line") (.type "object") = some true := c.is 27 rfl
  have sf_L : PySem.W.selfFirst K (He.ga K "Line") = true := c.is 28 rfl
  have nf_L : PySem.W.notFirst K (He.ga K "Line") (.ref (He.ga K "Line")) = true := c.is 29 rfl
  have g_D : PySem.W.nsIn K mainGlobals "Stretch" = some (some (.ref (He.ga K "Stretch"))) := c.is 30 rfl
  have pg_D : PySem.W.plainGet K (He.ga K "Stretch") Str.empty = true := c.is 31 rfl
  have hd_D : PySem.W.hasDictIn K (He.ga K "Stretch") = true := c.is 32 rfl
  have po_D : PySem.W.plainOver K (He.ga K "Stretch") = true := c.is 33 rfl
  have sa_D : PySem.W.findIn K (.ref (He.ga K "Stretch")) "__setattr__" = some (some (.builtin "object.__setattr__")) := c.is 34 rfl
  have mk_D : PySem.W.makesIn K (He.ga K "Stretch") = true := c.is 35 rfl
  have kc_D : PySem.W.keepIn K (.ref (He.ga K "Stretch")) = true := c.is 36 rfl
  have n_low_D : PySem.W.findIn K (.ref (He.ga K "Stretch")) "_low" = some none := c.is 37 rfl
  have n_high_D : PySem.W.findIn K (.ref (He.ga K "Stretch")) "_high" = some none := c.is 38 rfl
  have n_has_low_D : PySem.W.findIn K (.ref (He.ga K "Stretch")) "_has_low" = some none := c.is 39 rfl
  have n_has_high_D : PySem.W.findIn K (.ref (He.ga K "Stretch")) "_has_high" = some none := c.is 40 rfl
  have n_middle_D : PySem.W.findIn K (.ref (He.ga K "Stretch")) "_middle" = some none := c.is 41 rfl
  have ha_D : PySem.W.findIn K (.ref (He.ga K "Stretch")) "__class__" = some (some (.builtin "object.__class__")) := c.is 42 rfl
  have hn_D : PySem.W.specialIn K (.builtin "object.__class__") "__get__" = some (some (.builtin "getset_descriptor.__get__")) := c.is 43 rfl
  have htk_D : PySem.W.takesIn K (.builtin "object.__class__") = some true := c.is 44 rfl
  have hm_D : PySem.W.mroIn K (He.ga K "Stretch") (.type "object") = some true := c.is 45 rfl
  have sf_D : PySem.W.selfFirst K (He.ga K "Stretch") = true := c.is 46 rfl
  have nf_D : PySem.W.notFirst K (He.ga K "Stretch") (.ref (He.ga K "Stretch")) = true := c.is 47 rfl
  have gcd : PySem.W.nsIn K mainGlobals "gcd" = some (some (.builtin "math.gcd")) := c.is 48 rfl
  have oc_n0 : PySem.W.specialIn K (.builtin "object.__class__") "__get__" = some (some (.builtin "getset_descriptor.__get__")) := c.is 49 rfl
  have ne_C : PySem.W.findIn K (.ref (He.ga K "Number")) "__ne__" = some (some (.builtin "object.__ne__")) := c.is 50 rfl
  have NE_C : NeC K (He.ga K "Number") := neC_of ne_C (c.fact 51 rfl)
  have ne_L : PySem.W.findIn K (.ref (He.ga K "Line")) "__ne__" = some (some (.builtin "object.__ne__")) := c.is 52 rfl
  have NE_L : NeC K (He.ga K "Line") := neC_of ne_L (c.fact 53 rfl)
  have g_Ce : PySem.W.nsIn K mainGlobals "SpeedError" = some (some (.ref (He.ga K "SpeedError"))) := c.is 54 rfl
  have ex_Ce : PySem.W.subIn K (.ref (He.ga K "SpeedError")) (.type "BaseException") = some true := c.is 55 rfl
  have ty_Ce : PySem.W.typeIn K (.ref (He.ga K "SpeedError")) = some (.type "type") := c.is 56 rfl
  have hd_Ce : PySem.W.hasDictIn K (He.ga K "SpeedError") = true := c.is 57 rfl
  have g_Cs : PySem.W.nsIn K mainGlobals "BadStretch" = some (some (.ref (He.ga K "BadStretch"))) := c.is 58 rfl
  have xB_Cs := exB_ok (c.fact 59 rfl)
  have sa_Cs : PySem.W.findIn K (.ref (He.ga K "BadStretch")) "__setattr__" = some (some (.builtin "object.__setattr__")) := c.is 60 rfl
  have ex_Cs : PySem.W.subIn K (.ref (He.ga K "BadStretch")) (.type "BaseException") = some true := c.is 61 rfl
  have ty_Cs : PySem.W.typeIn K (.ref (He.ga K "BadStretch")) = some (.type "type") := c.is 62 rfl
  have kc_Cs : PySem.W.keepIn K (.ref (He.ga K "BadStretch")) = true := c.is 63 rfl
  have ga_Cs : PySem.W.findIn K (.ref (He.ga K "BadStretch")) "__getattribute__" = some (some (.builtin "BaseException.__getattribute__")) := c.is 64 rfl
  have gg_Cs : PySem.W.findIn K (.ref (He.ga K "BadStretch")) "__getattr__" = some none := c.is 65 rfl
  have hd_Cs : PySem.W.hasDictIn K (He.ga K "BadStretch") = true := c.is 66 rfl
  have ca_Cs : PySem.W.findIn K (.ref (He.ga K "BadStretch")) "__class__" = some (some (.builtin "object.__class__")) := c.is 67 rfl
  have hm_Cs : PySem.W.mroIn K (He.ga K "BadStretch") (.type "object") = some true := c.is 68 rfl
  have ic_Cs : PySem.W.isClsIn K (He.ga K "BadStretch") = true := c.is 69 rfl
  have ss_Cs : PySem.W.subIn K (.ref (He.ga K "BadStretch")) (.ref (He.ga K "BadStretch")) = some true := c.is 70 rfl
  have nvalue_Cs : PySem.W.findIn K (.ref (He.ga K "BadStretch")) "value" = some none := c.is 71 rfl
  have a_ErrN : PySem.W.findIn K (.ref (He.ga K "BadStretch")) "__init__" = some (some (.ref (He.ma K (He.ga K "BadStretch") "__init__"))) := c.is 72 rfl
  have i_ErrN : PySem.W.isFn K (.ref (He.ma K (He.ga K "BadStretch") "__init__")) = true := c.is 73 rfl
  obtain ⟨_, DErrN⟩ := c.def_ 0 rfl
  have k_ErrN := DErrN.kp
  have FErrN : L2.Fun K "__init__" "BadStretch.__init__" sErrN (He.ma K (He.ga K "BadStretch") "__init__") _ := fun_of_funD DErrN
  have g_Ct : PySem.W.nsIn K mainGlobals "BadText" = some (some (.ref (He.ga K "BadText"))) := c.is 74 rfl
  have xB_Ct := exB_ok (c.fact 75 rfl)
  have sa_Ct : PySem.W.findIn K (.ref (He.ga K "BadText")) "__setattr__" = some (some (.builtin "object.__setattr__")) := c.is 76 rfl
  have ex_Ct : PySem.W.subIn K (.ref (He.ga K "BadText")) (.type "BaseException") = some true := c.is 77 rfl
  have ty_Ct : PySem.W.typeIn K (.ref (He.ga K "BadText")) = some (.type "type") := c.is 78 rfl
  have kc_Ct : PySem.W.keepIn K (.ref (He.ga K "BadText")) = true := c.is 79 rfl
  have ga_Ct : PySem.W.findIn K (.ref (He.ga K "BadText")) "__getattribute__" = some (some (.builtin "BaseException.__getattribute__")) := c.is 80 rfl
  have gg_Ct : PySem.W.findIn K (.ref (He.ga K "BadText")) "__getattr__" = some none := c.is 81 rfl
  have hd_Ct : PySem.W.hasDictIn K (He.ga K "BadText") = true := c.is 82 rfl
  have ca_Ct : PySem.W.findIn K (.ref (He.ga K "BadText")) "__class__" = some (some (.builtin "object.__class__")) := c.is 83 rfl
  have hm_Ct : PySem.W.mroIn K (He.ga K "BadText") (.type "object") = some true := c.is 84 rfl
  have ic_Ct : PySem.W.isClsIn K (He.ga K "BadText") = true := c.is 85 rfl
  have ss_Ct : PySem.W.subIn K (.ref (He.ga K "BadText")) (.ref (He.ga K "BadText")) = some true := c.is 86 rfl
  have nvalue_Ct : PySem.W.findIn K (.ref (He.ga K "BadText")) "value" = some none := c.is 87 rfl
  have a_ErrT : PySem.W.findIn K (.ref (He.ga K "BadText")) "__init__" = some (some (.ref (He.ma K (He.ga K "BadText") "__init__"))) := c.is 88 rfl
  have i_ErrT : PySem.W.isFn K (.ref (He.ma K (He.ga K "BadText") "__init__")) = true := c.is 89 rfl
  obtain ⟨_, DErrT⟩ := c.def_ 1 rfl
  have k_ErrT := DErrT.kp
  have FErrT : L2.Fun K "__init__" "BadText.__init__" sErrT (He.ma K (He.ga K "BadText") "__init__") _ := fun_of_funD DErrT
  have oc_n : PySem.W.specialIn K (.builtin "object.__class__") "__get__" = some (some (.builtin "getset_descriptor.__get__")) := c.is 90 rfl
  have oc_t : PySem.W.takesIn K (.builtin "object.__class__") = some true := c.is 91 rfl
  have s_Ct_Ce : PySem.W.subIn K (.ref (He.ga K "BadText")) (.ref (He.ga K "SpeedError")) = some true := c.is 92 rfl
  have g_fWhole : PySem.W.nsIn K mainGlobals "is_whole" = some (some (.ref (He.ga K "is_whole"))) := c.is 93 rfl
  obtain ⟨_, DWhole⟩ := c.def_ 2 rfl
  have k_Whole := DWhole.kp
  have FWhole : L2.Fun K "is_whole" "is_whole" sWhole (He.ga K "is_whole") _ := fun_of_funD DWhole
  have g_fMade : PySem.W.nsIn K mainGlobals "_made_of" = some (some (.ref (He.ga K "_made_of"))) := c.is 94 rfl
  obtain ⟨_, DMade⟩ := c.def_ 3 rfl
  have k_Made := DMade.kp
  have FMade : L2.Fun K "_made_of" "_made_of" sMade (He.ga K "_made_of") _ := fun_of_funD DMade
  have g_fRWhole : PySem.W.nsIn K mainGlobals "read_whole" = some (some (.ref (He.ga K "read_whole"))) := c.is 95 rfl
  obtain ⟨_, DRWhole⟩ := c.def_ 4 rfl
  have k_RWhole := DRWhole.kp
  have FRWhole : L2.Fun K "read_whole" "read_whole" sRWhole (He.ga K "read_whole") _ := fun_of_funD DRWhole
  have g_fShN : PySem.W.nsIn K mainGlobals "show_number" = some (some (.ref (He.ga K "show_number"))) := c.is 96 rfl
  obtain ⟨_, DShN⟩ := c.def_ 5 rfl
  have k_ShN := DShN.kp
  have FShN : L2.Fun K "show_number" "show_number" sShN (He.ga K "show_number") _ := fun_of_funD DShN
  have g_fShL : PySem.W.nsIn K mainGlobals "show_line" = some (some (.ref (He.ga K "show_line"))) := c.is 97 rfl
  obtain ⟨_, DShL⟩ := c.def_ 6 rfl
  have k_ShL := DShL.kp
  have FShL : L2.Fun K "show_line" "show_line" sShL (He.ga K "show_line") _ := fun_of_funD DShL
  have g_fShS : PySem.W.nsIn K mainGlobals "show_stretch" = some (some (.ref (He.ga K "show_stretch"))) := c.is 98 rfl
  obtain ⟨_, DShS⟩ := c.def_ 7 rfl
  have k_ShS := DShS.kp
  have FShS : L2.Fun K "show_stretch" "show_stretch" sShS (He.ga K "show_stretch") _ := fun_of_funD DShS
  have g_fNumOf : PySem.W.nsIn K mainGlobals "number_of" = some (some (.ref (He.ga K "number_of"))) := c.is 99 rfl
  obtain ⟨_, DNumOf⟩ := c.def_ 8 rfl
  have k_NumOf := DNumOf.kp
  have FNumOf : L2.Fun K "number_of" "number_of" sNumOf (He.ga K "number_of") _ := fun_of_funD DNumOf
  have g_fLineOf : PySem.W.nsIn K mainGlobals "_line_of" = some (some (.ref (He.ga K "_line_of"))) := c.is 100 rfl
  obtain ⟨_, DLineOf⟩ := c.def_ 9 rfl
  have k_LineOf := DLineOf.kp
  have FLineOf : L2.Fun K "_line_of" "_line_of" sLineOf (He.ga K "_line_of") _ := fun_of_funD DLineOf
  have g_fStrOf : PySem.W.nsIn K mainGlobals "_stretch_of" = some (some (.ref (He.ga K "_stretch_of"))) := c.is 101 rfl
  obtain ⟨_, DStrOf⟩ := c.def_ 10 rfl
  have k_StrOf := DStrOf.kp
  have FStrOf : L2.Fun K "_stretch_of" "_stretch_of" sStrOf (He.ga K "_stretch_of") _ := fun_of_funD DStrOf
  have g_fRd : PySem.W.nsIn K mainGlobals "_read" = some (some (.ref (He.ga K "_read"))) := c.is 102 rfl
  obtain ⟨_, DRd⟩ := c.def_ 11 rfl
  have k_Rd := DRd.kp
  have FRd : L2.Fun K "_read" "_read" sRd (He.ga K "_read") _ := fun_of_funD DRd
  have g_fRN : PySem.W.nsIn K mainGlobals "read_number" = some (some (.ref (He.ga K "read_number"))) := c.is 103 rfl
  obtain ⟨_, DRN⟩ := c.def_ 12 rfl
  have k_RN := DRN.kp
  have FRN : L2.Fun K "read_number" "read_number" sRN (He.ga K "read_number") _ := fun_of_funD DRN
  have g_fRL : PySem.W.nsIn K mainGlobals "read_line" = some (some (.ref (He.ga K "read_line"))) := c.is 104 rfl
  obtain ⟨_, DRL⟩ := c.def_ 13 rfl
  have k_RL := DRL.kp
  have FRL : L2.Fun K "read_line" "read_line" sRL (He.ga K "read_line") _ := fun_of_funD DRL
  have g_fRS : PySem.W.nsIn K mainGlobals "read_stretch" = some (some (.ref (He.ga K "read_stretch"))) := c.is 105 rfl
  obtain ⟨_, DRS⟩ := c.def_ 14 rfl
  have k_RS := DRS.kp
  have FRS : L2.Fun K "read_stretch" "read_stretch" sRS (He.ga K "read_stretch") _ := fun_of_funD DRS
  have g_fPot : PySem.W.nsIn K mainGlobals "_law_pot" = some (some (.ref (He.ga K "_law_pot"))) := c.is 106 rfl
  obtain ⟨_, DPot⟩ := c.def_ 15 rfl
  have k_Pot := DPot.kp
  have FPot : L2.Fun K "_law_pot" "_law_pot" sPot (He.ga K "_law_pot") _ := fun_of_funD DPot
  have g_fTake : PySem.W.nsIn K mainGlobals "_law_take" = some (some (.ref (He.ga K "_law_take"))) := c.is 107 rfl
  obtain ⟨_, DTake⟩ := c.def_ 16 rfl
  have k_Take := DTake.kp
  have FTake : L2.Fun K "_law_take" "_law_take" sTake (He.ga K "_law_take") _ := fun_of_funD DTake
  have g_fOf : PySem.W.nsIn K mainGlobals "_law_of" = some (some (.ref (He.ga K "_law_of"))) := c.is 108 rfl
  obtain ⟨_, DOf⟩ := c.def_ 17 rfl
  have k_Of := DOf.kp
  have FOf : L2.Fun K "_law_of" "_law_of" sOf (He.ga K "_law_of") _ := fun_of_funD DOf
  have g_fDig : PySem.W.nsIn K mainGlobals "_law_digits" = some (some (.ref (He.ga K "_law_digits"))) := c.is 109 rfl
  obtain ⟨_, DDig⟩ := c.def_ 18 rfl
  have k_Dig := DDig.kp
  have FDig : L2.Fun K "_law_digits" "_law_digits" sDig (He.ga K "_law_digits") _ := fun_of_funD DDig
  have g_fLowest : PySem.W.nsIn K mainGlobals "_law_lowest" = some (some (.ref (He.ga K "_law_lowest"))) := c.is 110 rfl
  obtain ⟨_, DLowest⟩ := c.def_ 19 rfl
  have k_Lowest := DLowest.kp
  have FLowest : L2.Fun K "_law_lowest" "_law_lowest" sLowest (He.ga K "_law_lowest") _ := fun_of_funD DLowest
  have g_fPair : PySem.W.nsIn K mainGlobals "_law_pair" = some (some (.ref (He.ga K "_law_pair"))) := c.is 111 rfl
  obtain ⟨_, DPair⟩ := c.def_ 20 rfl
  have k_Pair := DPair.kp
  have FPair : L2.Fun K "_law_pair" "_law_pair" sPair (He.ga K "_law_pair") _ := fun_of_funD DPair
  have g_fNTx : PySem.W.nsIn K mainGlobals "_law_number_text" = some (some (.ref (He.ga K "_law_number_text"))) := c.is 112 rfl
  obtain ⟨_, DNTx⟩ := c.def_ 21 rfl
  have k_NTx := DNTx.kp
  have FNTx : L2.Fun K "_law_number_text" "_law_number_text" sNTx (He.ga K "_law_number_text") _ := fun_of_funD DNTx
  have g_fLTx : PySem.W.nsIn K mainGlobals "_law_line_text" = some (some (.ref (He.ga K "_law_line_text"))) := c.is 113 rfl
  obtain ⟨_, DLTx⟩ := c.def_ 22 rfl
  have k_LTx := DLTx.kp
  have FLTx : L2.Fun K "_law_line_text" "_law_line_text" sLTx (He.ga K "_law_line_text") _ := fun_of_funD DLTx
  have g_fIsDg : PySem.W.nsIn K mainGlobals "_law_is_digits" = some (some (.ref (He.ga K "_law_is_digits"))) := c.is 114 rfl
  obtain ⟨_, DIsDg⟩ := c.def_ 23 rfl
  have k_IsDg := DIsDg.kp
  have FIsDg : L2.Fun K "_law_is_digits" "_law_is_digits" sIsDg (He.ga K "_law_is_digits") _ := fun_of_funD DIsDg
  have g_fLNum : PySem.W.nsIn K mainGlobals "_law_number_of" = some (some (.ref (He.ga K "_law_number_of"))) := c.is 115 rfl
  obtain ⟨_, DLNum⟩ := c.def_ 24 rfl
  have k_LNum := DLNum.kp
  have FLNum : L2.Fun K "_law_number_of" "_law_number_of" sLNum (He.ga K "_law_number_of") _ := fun_of_funD DLNum
  have g_fLLine : PySem.W.nsIn K mainGlobals "_law_is_line" = some (some (.ref (He.ga K "_law_is_line"))) := c.is 116 rfl
  obtain ⟨_, DLLine⟩ := c.def_ 25 rfl
  have k_LLine := DLLine.kp
  have FLLine : L2.Fun K "_law_is_line" "_law_is_line" sLLine (He.ga K "_law_is_line") _ := fun_of_funD DLLine
  have g_fLStr : PySem.W.nsIn K mainGlobals "_law_is_stretch" = some (some (.ref (He.ga K "_law_is_stretch"))) := c.is 117 rfl
  obtain ⟨_, DLStr⟩ := c.def_ 26 rfl
  have k_LStr := DLStr.kp
  have FLStr : L2.Fun K "_law_is_stretch" "_law_is_stretch" sLStr (He.ga K "_law_is_stretch") _ := fun_of_funD DLStr
  have g_fLDue : PySem.W.nsIn K mainGlobals "_law_due" = some (some (.ref (He.ga K "_law_due"))) := c.is 118 rfl
  obtain ⟨_, DLDue⟩ := c.def_ 27 rfl
  have k_LDue := DLDue.kp
  have FLDue : L2.Fun K "_law_due" "_law_due" sLDue (He.ga K "_law_due") _ := fun_of_funD DLDue
  have g_fLRd : PySem.W.nsIn K mainGlobals "_law_read" = some (some (.ref (He.ga K "_law_read"))) := c.is 119 rfl
  obtain ⟨_, DLRd⟩ := c.def_ 28 rfl
  have k_LRd := DLRd.kp
  have FLRd : L2.Fun K "_law_read" "_law_read" sLRd (He.ga K "_law_read") _ := fun_of_funD DLRd
  have g_fIsR : PySem.W.nsIn K mainGlobals "_law_is_right" = some (some (.ref (He.ga K "_law_is_right"))) := c.is 120 rfl
  obtain ⟨_, DIsR⟩ := c.def_ 29 rfl
  have k_IsR := DIsR.kp
  have FIsR : L2.Fun K "_law_is_right" "_law_is_right" sIsR (He.ga K "_law_is_right") _ := fun_of_funD DIsR
  have g_fBent : PySem.W.nsIn K mainGlobals "_law_bent" = some (some (.ref (He.ga K "_law_bent"))) := c.is 121 rfl
  obtain ⟨_, DBent⟩ := c.def_ 30 rfl
  have k_Bent := DBent.kp
  have FBent : L2.Fun K "_law_bent" "_law_bent" sBent (He.ga K "_law_bent") _ := fun_of_funD DBent
  have g_fDrawn : PySem.W.nsIn K mainGlobals "_law_drawn" = some (some (.ref (He.ga K "_law_drawn"))) := c.is 122 rfl
  obtain ⟨_, DDrawn⟩ := c.def_ 31 rfl
  have k_Drawn := DDrawn.kp
  have FDrawn : L2.Fun K "_law_drawn" "_law_drawn" sDrawn (He.ga K "_law_drawn") _ := fun_of_funD DDrawn
  have g_fLaw : PySem.W.nsIn K mainGlobals "law" = some (some (.ref (He.ga K "law"))) := c.is 123 rfl
  obtain ⟨_, DLaw⟩ := c.def_ 32 rfl
  have k_Law := DLaw.kp
  have FLaw : L2.Fun K "law" "law" sLaw (He.ga K "law") _ := fun_of_funD DLaw
  have a_Num : PySem.W.findIn K (.ref (He.ga K "Number")) "__init__" = some (some (.ref (He.ma K (He.ga K "Number") "__init__"))) := c.is 124 rfl
  have i_Num : PySem.W.isFn K (.ref (He.ma K (He.ga K "Number") "__init__")) = true := c.is 125 rfl
  obtain ⟨_, DNum⟩ := c.def_ 33 rfl
  have k_Num := DNum.kp
  have a_SInit : PySem.W.findIn K (.ref (He.ga K "Stretch")) "__init__" = some (some (.ref (He.ma K (He.ga K "Stretch") "__init__"))) := c.is 126 rfl
  have i_SInit : PySem.W.isFn K (.ref (He.ma K (He.ga K "Stretch") "__init__")) = true := c.is 127 rfl
  obtain ⟨_, DSInit⟩ := c.def_ 34 rfl
  have k_SInit := DSInit.kp
  have a_NEq : PySem.W.findIn K (.ref (He.ga K "Number")) "__eq__" = some (some (.ref (He.ma K (He.ga K "Number") "__eq__"))) := c.is 128 rfl
  have i_NEq : PySem.W.isFn K (.ref (He.ma K (He.ga K "Number") "__eq__")) = true := c.is 129 rfl
  obtain ⟨_, DNEq⟩ := c.def_ 35 rfl
  have k_NEq := DNEq.kp
  have FNEq : L2.Fun K "__eq__" "Number.__eq__" sNEq (He.ma K (He.ga K "Number") "__eq__") _ := fun_of_funD DNEq
  have a_NBool : PySem.W.findIn K (.ref (He.ga K "Number")) "__bool__" = some (some (.ref (He.ma K (He.ga K "Number") "__bool__"))) := c.is 130 rfl
  have i_NBool : PySem.W.isFn K (.ref (He.ma K (He.ga K "Number") "__bool__")) = true := c.is 131 rfl
  obtain ⟨_, DNBool⟩ := c.def_ 36 rfl
  have k_NBool := DNBool.kp
  have FNBool : L2.Fun K "__bool__" "Number.__bool__" sNBool (He.ma K (He.ga K "Number") "__bool__") _ := fun_of_funD DNBool
  have a_NAdd : PySem.W.findIn K (.ref (He.ga K "Number")) "__add__" = some (some (.ref (He.ma K (He.ga K "Number") "__add__"))) := c.is 132 rfl
  have i_NAdd : PySem.W.isFn K (.ref (He.ma K (He.ga K "Number") "__add__")) = true := c.is 133 rfl
  obtain ⟨_, DNAdd⟩ := c.def_ 37 rfl
  have k_NAdd := DNAdd.kp
  have FNAdd : L2.Fun K "__add__" "Number.__add__" sNAdd (He.ma K (He.ga K "Number") "__add__") _ := fun_of_funD DNAdd
  have a_NMul : PySem.W.findIn K (.ref (He.ga K "Number")) "__mul__" = some (some (.ref (He.ma K (He.ga K "Number") "__mul__"))) := c.is 134 rfl
  have i_NMul : PySem.W.isFn K (.ref (He.ma K (He.ga K "Number") "__mul__")) = true := c.is 135 rfl
  obtain ⟨_, DNMul⟩ := c.def_ 38 rfl
  have k_NMul := DNMul.kp
  have FNMul : L2.Fun K "__mul__" "Number.__mul__" sNMul (He.ma K (He.ga K "Number") "__mul__") _ := fun_of_funD DNMul
  have a_NNeg : PySem.W.findIn K (.ref (He.ga K "Number")) "__neg__" = some (some (.ref (He.ma K (He.ga K "Number") "__neg__"))) := c.is 136 rfl
  have i_NNeg : PySem.W.isFn K (.ref (He.ma K (He.ga K "Number") "__neg__")) = true := c.is 137 rfl
  obtain ⟨_, DNNeg⟩ := c.def_ 39 rfl
  have k_NNeg := DNNeg.kp
  have FNNeg : L2.Fun K "__neg__" "Number.__neg__" sNNeg (He.ma K (He.ga K "Number") "__neg__") _ := fun_of_funD DNNeg
  have a_NAbs : PySem.W.findIn K (.ref (He.ga K "Number")) "__abs__" = some (some (.ref (He.ma K (He.ga K "Number") "__abs__"))) := c.is 138 rfl
  have i_NAbs : PySem.W.isFn K (.ref (He.ma K (He.ga K "Number") "__abs__")) = true := c.is 139 rfl
  obtain ⟨_, DNAbs⟩ := c.def_ 40 rfl
  have k_NAbs := DNAbs.kp
  have FNAbs : L2.Fun K "__abs__" "Number.__abs__" sNAbs (He.ma K (He.ga K "Number") "__abs__") _ := fun_of_funD DNAbs
  have a_NLess : PySem.W.findIn K (.ref (He.ga K "Number")) "is_less" = some (some (.ref (He.ma K (He.ga K "Number") "is_less"))) := c.is 140 rfl
  have i_NLess : PySem.W.isFn K (.ref (He.ma K (He.ga K "Number") "is_less")) = true := c.is 141 rfl
  obtain ⟨_, DNLess⟩ := c.def_ 41 rfl
  have k_NLess := DNLess.kp
  have FNLess : L2.Fun K "is_less" "Number.is_less" sNLess (He.ma K (He.ga K "Number") "is_less") _ := fun_of_funD DNLess
  have a_Line : PySem.W.findIn K (.ref (He.ga K "Line")) "__init__" = some (some (.ref (He.ma K (He.ga K "Line") "__init__"))) := c.is 142 rfl
  have i_Line : PySem.W.isFn K (.ref (He.ma K (He.ga K "Line") "__init__")) = true := c.is 143 rfl
  obtain ⟨_, DLine⟩ := c.def_ 42 rfl
  have k_Line := DLine.kp
  have FLine : L2.Fun K "__init__" "Line.__init__" sLine (He.ma K (He.ga K "Line") "__init__") _ := fun_of_funD DLine
  have a_NTop : PySem.W.findIn K (.ref (He.ga K "Number")) "top" = some (some (.ref (He.ma K (He.ga K "Number") "top"))) := c.is 144 rfl
  have g_NTop : PySem.W.specialIn K (.ref (He.ma K (He.ga K "Number") "top")) "__get__" = some (some (.builtin "property.__get__")) := c.is 145 rfl
  have t_NTop : PySem.W.takesIn K (.ref (He.ma K (He.ga K "Number") "top")) = some true := c.is 146 rfl
  obtain ⟨_, r_NTop⟩ := prB_ok (c.fact 147 rfl)
  obtain ⟨_, DNTop⟩ := c.def_ 43 rfl
  have k_NTop := DNTop.kp
  have FNTop : L2.Fun K "top" "Number.top" sNTop (prG K (He.ga K "Number") "top") _ := fun_of_funD DNTop
  have a_NBot : PySem.W.findIn K (.ref (He.ga K "Number")) "bottom" = some (some (.ref (He.ma K (He.ga K "Number") "bottom"))) := c.is 148 rfl
  have g_NBot : PySem.W.specialIn K (.ref (He.ma K (He.ga K "Number") "bottom")) "__get__" = some (some (.builtin "property.__get__")) := c.is 149 rfl
  have t_NBot : PySem.W.takesIn K (.ref (He.ma K (He.ga K "Number") "bottom")) = some true := c.is 150 rfl
  obtain ⟨_, r_NBot⟩ := prB_ok (c.fact 151 rfl)
  obtain ⟨_, DNBot⟩ := c.def_ 44 rfl
  have k_NBot := DNBot.kp
  have FNBot : L2.Fun K "bottom" "Number.bottom" sNBot (prG K (He.ga K "Number") "bottom") _ := fun_of_funD DNBot
  have a_LBase : PySem.W.findIn K (.ref (He.ga K "Line")) "base" = some (some (.ref (He.ma K (He.ga K "Line") "base"))) := c.is 152 rfl
  have g_LBase : PySem.W.specialIn K (.ref (He.ma K (He.ga K "Line") "base")) "__get__" = some (some (.builtin "property.__get__")) := c.is 153 rfl
  have t_LBase : PySem.W.takesIn K (.ref (He.ma K (He.ga K "Line") "base")) = some true := c.is 154 rfl
  obtain ⟨_, r_LBase⟩ := prB_ok (c.fact 155 rfl)
  obtain ⟨_, DLBase⟩ := c.def_ 45 rfl
  have k_LBase := DLBase.kp
  have FLBase : L2.Fun K "base" "Line.base" sLBase (prG K (He.ga K "Line") "base") _ := fun_of_funD DLBase
  have a_LSlope : PySem.W.findIn K (.ref (He.ga K "Line")) "slope" = some (some (.ref (He.ma K (He.ga K "Line") "slope"))) := c.is 156 rfl
  have g_LSlope : PySem.W.specialIn K (.ref (He.ma K (He.ga K "Line") "slope")) "__get__" = some (some (.builtin "property.__get__")) := c.is 157 rfl
  have t_LSlope : PySem.W.takesIn K (.ref (He.ma K (He.ga K "Line") "slope")) = some true := c.is 158 rfl
  obtain ⟨_, r_LSlope⟩ := prB_ok (c.fact 159 rfl)
  obtain ⟨_, DLSlope⟩ := c.def_ 46 rfl
  have k_LSlope := DLSlope.kp
  have FLSlope : L2.Fun K "slope" "Line.slope" sLSlope (prG K (He.ga K "Line") "slope") _ := fun_of_funD DLSlope
  have a_SLow : PySem.W.findIn K (.ref (He.ga K "Stretch")) "low" = some (some (.ref (He.ma K (He.ga K "Stretch") "low"))) := c.is 160 rfl
  have g_SLow : PySem.W.specialIn K (.ref (He.ma K (He.ga K "Stretch") "low")) "__get__" = some (some (.builtin "property.__get__")) := c.is 161 rfl
  have t_SLow : PySem.W.takesIn K (.ref (He.ma K (He.ga K "Stretch") "low")) = some true := c.is 162 rfl
  obtain ⟨_, r_SLow⟩ := prB_ok (c.fact 163 rfl)
  obtain ⟨_, DSLow⟩ := c.def_ 47 rfl
  have k_SLow := DSLow.kp
  have FSLow : L2.Fun K "low" "Stretch.low" sSLow (prG K (He.ga K "Stretch") "low") _ := fun_of_funD DSLow
  have a_SHigh : PySem.W.findIn K (.ref (He.ga K "Stretch")) "high" = some (some (.ref (He.ma K (He.ga K "Stretch") "high"))) := c.is 164 rfl
  have g_SHigh : PySem.W.specialIn K (.ref (He.ma K (He.ga K "Stretch") "high")) "__get__" = some (some (.builtin "property.__get__")) := c.is 165 rfl
  have t_SHigh : PySem.W.takesIn K (.ref (He.ma K (He.ga K "Stretch") "high")) = some true := c.is 166 rfl
  obtain ⟨_, r_SHigh⟩ := prB_ok (c.fact 167 rfl)
  obtain ⟨_, DSHigh⟩ := c.def_ 48 rfl
  have k_SHigh := DSHigh.kp
  have FSHigh : L2.Fun K "high" "Stretch.high" sSHigh (prG K (He.ga K "Stretch") "high") _ := fun_of_funD DSHigh
  have a_SHl : PySem.W.findIn K (.ref (He.ga K "Stretch")) "has_low" = some (some (.ref (He.ma K (He.ga K "Stretch") "has_low"))) := c.is 168 rfl
  have g_SHl : PySem.W.specialIn K (.ref (He.ma K (He.ga K "Stretch") "has_low")) "__get__" = some (some (.builtin "property.__get__")) := c.is 169 rfl
  have t_SHl : PySem.W.takesIn K (.ref (He.ma K (He.ga K "Stretch") "has_low")) = some true := c.is 170 rfl
  obtain ⟨_, r_SHl⟩ := prB_ok (c.fact 171 rfl)
  obtain ⟨_, DSHl⟩ := c.def_ 49 rfl
  have k_SHl := DSHl.kp
  have FSHl : L2.Fun K "has_low" "Stretch.has_low" sSHl (prG K (He.ga K "Stretch") "has_low") _ := fun_of_funD DSHl
  have a_SHh : PySem.W.findIn K (.ref (He.ga K "Stretch")) "has_high" = some (some (.ref (He.ma K (He.ga K "Stretch") "has_high"))) := c.is 172 rfl
  have g_SHh : PySem.W.specialIn K (.ref (He.ma K (He.ga K "Stretch") "has_high")) "__get__" = some (some (.builtin "property.__get__")) := c.is 173 rfl
  have t_SHh : PySem.W.takesIn K (.ref (He.ma K (He.ga K "Stretch") "has_high")) = some true := c.is 174 rfl
  obtain ⟨_, r_SHh⟩ := prB_ok (c.fact 175 rfl)
  obtain ⟨_, DSHh⟩ := c.def_ 50 rfl
  have k_SHh := DSHh.kp
  have FSHh : L2.Fun K "has_high" "Stretch.has_high" sSHh (prG K (He.ga K "Stretch") "has_high") _ := fun_of_funD DSHh
  obtain ⟨tkGREATEST, u_GREATEST⟩ := conI_ok (c.fact 176 rfl)
  obtain ⟨tkDIGITS, u_DIGITS⟩ := conS_ok (c.fact 177 rfl)
  have k_non : PySem.W.kitOne K (.type "NoneType") (.ref (He.ga K "Number")) = some false := c.is 178 rfl
  have k_nonb : PySem.W.kitOne K (.type "NoneType") (.type "bool") = some false := c.is 179 rfl
  have ex_s : PySem.W.exmOne K (.ref (He.ga K "BadStretch")) (.ref (He.ga K "BadStretch")) = some true := c.is 180 rfl
  have z_len : PySem.W.nsIn K mainGlobals "len" = some none := c.is 181 rfl
  have z_abs : PySem.W.nsIn K mainGlobals "abs" = some none := c.is 182 rfl
  have z_int : PySem.W.nsIn K mainGlobals "int" = some none := c.is 183 rfl
  have z_bool : PySem.W.nsIn K mainGlobals "bool" = some none := c.is 184 rfl
  have z_max : PySem.W.nsIn K mainGlobals "max" = some none := c.is 185 rfl
  have z_min : PySem.W.nsIn K mainGlobals "min" = some none := c.is 186 rfl
  have z_range : PySem.W.nsIn K mainGlobals "range" = some none := c.is 187 rfl
  have z_all : PySem.W.nsIn K mainGlobals "all" = some none := c.is 188 rfl
  have z_any : PySem.W.nsIn K mainGlobals "any" = some none := c.is 189 rfl
  have z_isinstance : PySem.W.nsIn K mainGlobals "isinstance" = some none := c.is 190 rfl
  have z_str : PySem.W.nsIn K mainGlobals "str" = some none := c.is 191 rfl
  have e := hfa.symm.trans (PySem.W.mg_of X G g_fLaw)
  cases e
  have mgo : ∀ {x : Str} {v : Value}, PySem.W.nsIn K mainGlobals x = some (some v) → mg x = some v := fun e => PySem.W.mg_of X G e
  have B : Bi mg := ⟨PySem.W.mg_none_of X G z_len, PySem.W.mg_none_of X G z_abs, PySem.W.mg_none_of X G z_int, PySem.W.mg_none_of X G z_bool, PySem.W.mg_none_of X G z_max, PySem.W.mg_none_of X G z_min, PySem.W.mg_none_of X G z_range, PySem.W.mg_none_of X G z_all, PySem.W.mg_none_of X G z_any, PySem.W.mg_none_of X G z_isinstance⟩
  have zstr : mg "str" = none := PySem.W.mg_none_of X G z_str
  have clC : Cls K (He.ga K "Number") := ⟨pg_C, hd_C, po_C, sa_C⟩
  have clL : Cls K (He.ga K "Line") := ⟨pg_L, hd_L, po_L, sa_L⟩
  have clD : Cls K (He.ga K "Stretch") := ⟨pg_D, hd_D, po_D, sa_D⟩
  have NC : NumC K (He.ga K "Number") := ⟨clC, n_top_C, n_bottom_C, ha_C, hn_C, htk_C, hm_C, kit_self _, sf_C, nf_C⟩
  have LC : LineC K (He.ga K "Line") := ⟨clL, n_base_L, n_slope_L⟩
  have LT : LineT K (He.ga K "Line") := ⟨ha_L, hn_L, htk_L, hm_L, sf_L, nf_L⟩
  have SC : StrC K (He.ga K "Stretch") := ⟨clD, n_low_D, n_high_D, n_has_low_D, n_has_high_D, n_middle_D⟩
  have ST : LineT K (He.ga K "Stretch") := ⟨ha_D, hn_D, htk_D, hm_D, sf_D, nf_D⟩
  have TE : OexC K (He.ga K "BadStretch") := ⟨xB_Cs, sa_Cs, ex_Cs, ty_Cs, kc_Cs⟩
  have TT : OexC K (He.ga K "BadText") := ⟨xB_Ct, sa_Ct, ex_Ct, ty_Ct, kc_Ct⟩
  have TX : ErrC K (He.ga K "BadText") := ⟨ga_Ct, gg_Ct, ex_Ct, hd_Ct, ca_Ct, oc_n, oc_t, hm_Ct⟩
  have xE : PySem.W.exmOne K (.ref (He.ga K "BadText")) (.ref (He.ga K "SpeedError")) = some true := PySem.W.exm_ref ex_Ce hd_Ce ty_Ce s_Ct_Ce
  have bWhole := FWhole.binds (ps := PWhole) fun _ _ _ _ _ _ us hl => match us, hl with | [_], _ => rfl
  have bMade := FMade.binds (ps := PMade) fun _ _ _ _ _ _ us hl => match us, hl with | [_, _], _ => rfl
  have bRWhole := FRWhole.binds (ps := PRWhole) fun _ _ _ _ _ _ us hl => match us, hl with | [_, _, _], _ => rfl
  have bShN := FShN.binds (ps := PShN) fun _ _ _ _ _ _ us hl => match us, hl with | [_], _ => rfl
  have bShL := FShL.binds (ps := PShL) fun _ _ _ _ _ _ us hl => match us, hl with | [_], _ => rfl
  have bShS := FShS.binds (ps := PShS) fun _ _ _ _ _ _ us hl => match us, hl with | [_], _ => rfl
  have bNumOf := FNumOf.binds (ps := PNumOf) fun _ _ _ _ _ _ us hl => match us, hl with | [_], _ => rfl
  have bLineOf := FLineOf.binds (ps := PLineOf) fun _ _ _ _ _ _ us hl => match us, hl with | [_], _ => rfl
  have bStrOf := FStrOf.binds (ps := PStrOf) fun _ _ _ _ _ _ us hl => match us, hl with | [_], _ => rfl
  have bRd := FRd.binds (ps := PRd) fun _ _ _ _ _ _ us hl => match us, hl with | [_, _], _ => rfl
  have bRN := FRN.binds (ps := PRN) fun _ _ _ _ _ _ us hl => match us, hl with | [_], _ => rfl
  have bRL := FRL.binds (ps := PRL) fun _ _ _ _ _ _ us hl => match us, hl with | [_], _ => rfl
  have bRS := FRS.binds (ps := PRS) fun _ _ _ _ _ _ us hl => match us, hl with | [_], _ => rfl
  have bPot := FPot.binds (ps := PPot) fun _ _ _ _ _ _ us hl => match us, hl with | [_, _], _ => rfl
  have bTake := FTake.binds (ps := PTake) fun _ _ _ _ _ _ us hl => match us, hl with | [_, _], _ => rfl
  have bOf := FOf.binds (ps := POf) fun _ _ _ _ _ _ us hl => match us, hl with | [_, _], _ => rfl
  have bDig := FDig.binds (ps := PDig) fun _ _ _ _ _ _ us hl => match us, hl with | [_], _ => rfl
  have bLowest := FLowest.binds (ps := PLowest) fun _ _ _ _ _ _ us hl => match us, hl with | [_, _], _ => rfl
  have bPair := FPair.binds (ps := PPair) fun _ _ _ _ _ _ us hl => match us, hl with | [_], _ => rfl
  have bNTx := FNTx.binds (ps := PNTx) fun _ _ _ _ _ _ us hl => match us, hl with | [_], _ => rfl
  have bLTx := FLTx.binds (ps := PLTx) fun _ _ _ _ _ _ us hl => match us, hl with | [_, _], _ => rfl
  have bIsDg := FIsDg.binds (ps := PIsDg) fun _ _ _ _ _ _ us hl => match us, hl with | [_], _ => rfl
  have bLNum := FLNum.binds (ps := PLNum) fun _ _ _ _ _ _ us hl => match us, hl with | [_], _ => rfl
  have bLLine := FLLine.binds (ps := PLLine) fun _ _ _ _ _ _ us hl => match us, hl with | [_], _ => rfl
  have bLStr := FLStr.binds (ps := PLStr) fun _ _ _ _ _ _ us hl => match us, hl with | [_], _ => rfl
  have bLDue := FLDue.binds (ps := PLDue) fun _ _ _ _ _ _ us hl => match us, hl with | [_, _], _ => rfl
  have bLRd := FLRd.binds (ps := PLRd) fun _ _ _ _ _ _ us hl => match us, hl with | [_, _], _ => rfl
  have bIsR := FIsR.binds (ps := PIsR) fun _ _ _ _ _ _ us hl => match us, hl with | [_, _], _ => rfl
  have bBent := FBent.binds (ps := PBent) fun _ _ _ _ _ _ us hl => match us, hl with | [_, _], _ => rfl
  have bDrawn := FDrawn.binds (ps := PDrawn) fun _ _ _ _ _ _ us hl => match us, hl with | [_, _], _ => rfl
  have bLaw := FLaw.binds (ps := PLaw) fun _ _ _ _ _ _ us hl => match us, hl with | [_], _ => rfl
  have bNEq := FNEq.binds (ps := PNEq) fun _ _ _ _ _ _ us hl => match us, hl with | [_, _], _ => rfl
  have bNBool := FNBool.binds (ps := PNBool) fun _ _ _ _ _ _ us hl => match us, hl with | [_], _ => rfl
  have bNAdd := FNAdd.binds (ps := PNAdd) fun _ _ _ _ _ _ us hl => match us, hl with | [_, _], _ => rfl
  have bNMul := FNMul.binds (ps := PNMul) fun _ _ _ _ _ _ us hl => match us, hl with | [_, _], _ => rfl
  have bNNeg := FNNeg.binds (ps := PNNeg) fun _ _ _ _ _ _ us hl => match us, hl with | [_], _ => rfl
  have bNAbs := FNAbs.binds (ps := PNAbs) fun _ _ _ _ _ _ us hl => match us, hl with | [_], _ => rfl
  have bNLess := FNLess.binds (ps := PNLess) fun _ _ _ _ _ _ us hl => match us, hl with | [_, _], _ => rfl
  have bLine := FLine.binds (ps := PLine) fun _ _ _ _ _ _ us hl => match us, hl with | [_, _, _], _ => rfl
  have bNTop := FNTop.binds (ps := PNTop) fun _ _ _ _ _ _ us hl => match us, hl with | [_], _ => rfl
  have bNBot := FNBot.binds (ps := PNBot) fun _ _ _ _ _ _ us hl => match us, hl with | [_], _ => rfl
  have bLBase := FLBase.binds (ps := PLBase) fun _ _ _ _ _ _ us hl => match us, hl with | [_], _ => rfl
  have bLSlope := FLSlope.binds (ps := PLSlope) fun _ _ _ _ _ _ us hl => match us, hl with | [_], _ => rfl
  have bSLow := FSLow.binds (ps := PSLow) fun _ _ _ _ _ _ us hl => match us, hl with | [_], _ => rfl
  have bSHigh := FSHigh.binds (ps := PSHigh) fun _ _ _ _ _ _ us hl => match us, hl with | [_], _ => rfl
  have bSHl := FSHl.binds (ps := PSHl) fun _ _ _ _ _ _ us hl => match us, hl with | [_], _ => rfl
  have bSHh := FSHh.binds (ps := PSHh) fun _ _ _ _ _ _ us hl => match us, hl with | [_], _ => rfl
  have bErrN := FErrN.binds (ps := PErrN) fun _ _ _ _ _ _ us hl => match us, hl with | [_, _], _ => rfl
  have bErrT := FErrT.binds (ps := PErrT) fun _ _ _ _ _ _ us hl => match us, hl with | [_, _], _ => rfl
  obtain ⟨dsN, vN, bN⟩ := DNum.binds1 (ps := PNum) 3 1 (fun z => by cases z) rfl fun T kV doc pm an cdv ct us its h1 h2 => match us, its, h1, h2 with | [_, _, _], [_], _, _ => ⟨_, rfl, rfl⟩
  obtain ⟨mvS, bKS⟩ := DSInit.kbinds0 (ps := PSInit) 3 ["has_low", "has_high"] [] (fun us mv ws => us ++ ws) (fun z => by cases z) (fun q hq => by cases hq) (fun r1 _ r2 => r1.append r2) fun Dd doc pm an cdv ct us mv ws h1 h2 h3 => match us, mv, ws, h1, h2, h3 with | [_, _, _], [], [_, _], _, _, _ => rfl
  intro base _ _
  have cW : CalF l.prog w K mg base 1 "is_whole" spWhole := ⟨_, ok_whole FWhole bWhole B, mgo g_fWhole, k_Whole⟩
  have mN : MakF l.prog w K mg base 2 "Number" (He.ga K "Number") (spNum (He.ga K "Number")) := ⟨_, ⟨mk_C, a_Num, i_Num, kc_C⟩, ok_num (dvs' := []) DNum bN vN (fun vs H Q E h => by rw [List.append_nil]; exact h) B NC (mgo gcd) cW, mgo g_C⟩
  have pT : PrpF l.prog w K mg base 1 (He.ga K "Number") "top" (spTop (He.ga K "Number")) := ⟨_, _, clC, ⟨a_NTop, g_NTop, t_NTop, _, r_NTop⟩, ok_top FNTop bNTop NC⟩
  have pB : PrpF l.prog w K mg base 1 (He.ga K "Number") "bottom" (spBot (He.ga K "Number")) := ⟨_, _, clC, ⟨a_NBot, g_NBot, t_NBot, _, r_NBot⟩, ok_bot FNBot bNBot NC⟩
  have oE : OpnF l.prog w K mg base 1 (He.ga K "Number") "__eq__" (spNEq (He.ga K "Number")) := ⟨_, a_NEq, i_NEq, ok_neq FNEq bNEq B NC (mgo g_C)⟩
  have oB : OpnF l.prog w K mg base 1 (He.ga K "Number") "__bool__" (spNBool (He.ga K "Number")) := ⟨_, a_NBool, i_NBool, ok_nbool FNBool bNBool B NC⟩
  have oA : OpnF l.prog w K mg base 4 (He.ga K "Number") (PySem.dunder Operator.Add.info.2) (spAdd (He.ga K "Number")) := ⟨_, a_NAdd, i_NAdd, ok_nadd FNAdd bNAdd NC mN⟩
  have oM : OpnF l.prog w K mg base 4 (He.ga K "Number") (PySem.dunder Operator.Mult.info.2) (spMul (He.ga K "Number")) := ⟨_, a_NMul, i_NMul, ok_nmul FNMul bNMul NC mN⟩
  have oN : OpnF l.prog w K mg base 4 (He.ga K "Number") "__neg__" (spNeg (He.ga K "Number")) := ⟨_, a_NNeg, i_NNeg, ok_nneg FNNeg bNNeg NC mN⟩
  have oAb : OpnF l.prog w K mg base 4 (He.ga K "Number") "__abs__" (spAbs (He.ga K "Number")) := ⟨_, a_NAbs, i_NAbs, ok_nabs FNAbs bNAbs B NC mN⟩
  have tL : MetF l.prog w K mg base 1 (He.ga K "Number") "is_less" (spLess (He.ga K "Number")) := ⟨_, clC, ⟨a_NLess, i_NLess, k_NLess⟩, ok_nless FNLess bNLess NC⟩
  have GL := ok_lineF (P := l.prog) (w := w) (mg := mg) (base := base) FLine LC
  have mL : MakF l.prog w K mg base 1 "Line" (He.ga K "Line") (spLine (He.ga K "Line")) := ⟨_, ⟨mk_L, a_Line, i_Line, kc_L⟩, (GL.raw bLine .nil).imp fun vs H Q E h => by rw [List.append_nil]; exact h, mgo g_L⟩
  have pLb : PrpF l.prog w K mg base 1 (He.ga K "Line") "base" (spLBase (He.ga K "Line")) := ⟨_, _, clL, ⟨a_LBase, g_LBase, t_LBase, _, r_LBase⟩, ok_lbase FLBase bLBase LC⟩
  have pLs : PrpF l.prog w K mg base 1 (He.ga K "Line") "slope" (spLSlope (He.ga K "Line")) := ⟨_, _, clL, ⟨a_LSlope, g_LSlope, t_LSlope, _, r_LSlope⟩, ok_lslope FLSlope bLSlope LC⟩
  have GB := ok_errn (P := l.prog) (w := w) (mg := mg) (base := base) FErrN TE nvalue_Cs
  have GS := ok_str (base := base) (P := l.prog) (w := w) (mg := mg) DSInit B NC SC (mgo g_C) (mgo g_Cs) mN oA oM oE tL TE a_ErrN (beq_iff_eq.mp i_ErrN) GB bErrN
  have MS : Mk K (He.ga K "Stretch") (He.ma K (He.ga K "Stretch") "__init__") := ⟨mk_D, a_SInit, i_SInit, kc_D⟩
  have p1 : PrpF l.prog w K mg base 1 (He.ga K "Stretch") "low" (spFld (He.ga K "Stretch") fun l _ _ _ _ => l) := ⟨_, _, clD, ⟨a_SLow, g_SLow, t_SLow, _, r_SLow⟩, ok_slow FSLow bSLow SC⟩
  have p2 : PrpF l.prog w K mg base 1 (He.ga K "Stretch") "high" (spFld (He.ga K "Stretch") fun _ h _ _ _ => h) := ⟨_, _, clD, ⟨a_SHigh, g_SHigh, t_SHigh, _, r_SHigh⟩, ok_shigh FSHigh bSHigh SC⟩
  have p3 : PrpF l.prog w K mg base 1 (He.ga K "Stretch") "has_low" (spFld (He.ga K "Stretch") fun _ _ hl _ _ => hl) := ⟨_, _, clD, ⟨a_SHl, g_SHl, t_SHl, _, r_SHl⟩, ok_shl FSHl bSHl SC⟩
  have p4 : PrpF l.prog w K mg base 1 (He.ga K "Stretch") "has_high" (spFld (He.ga K "Stretch") fun _ _ _ hh _ => hh) := ⟨_, _, clD, ⟨a_SHh, g_SHh, t_SHh, _, r_SHh⟩, ok_shh FSHh bSHh SC⟩
  have cM : CalF l.prog w K mg base 1 "_made_of" spMade := ⟨_, ok_made FMade bMade B, mgo g_fMade, k_Made⟩
  have cRw : CalF l.prog w K mg base 2 "read_whole" spRWh := ⟨_, ok_rwhole FRWhole bRWhole B zstr ⟨_, mgo u_DIGITS⟩ cM, mgo g_fRWhole, k_RWhole⟩
  have GSN := ok_showN (P := l.prog) (w := w) (mg := mg) (base := base) FShN pT pB
  have cSN : CalF l.prog w K mg base 3 "show_number" (spShN (He.ga K "Number")) := ⟨_, (GSN.raw bShN .nil).imp fun vs H Q E h => by rw [List.append_nil]; exact h, mgo g_fShN, k_ShN⟩
  have GSL := ok_showL (P := l.prog) (w := w) (mg := mg) (base := base) FShL pLb pLs pT oB oAb B cSN
  have cSL : CalF l.prog w K mg base 6 "show_line" (spShL (He.ga K "Number") (He.ga K "Line")) := ⟨_, (GSL.raw bShL .nil).imp fun vs H Q E h => by rw [List.append_nil]; exact h, mgo g_fShL, k_ShL⟩
  have GSS := ok_showS (P := l.prog) (w := w) (mg := mg) (base := base) FShS p1 p2 p3 p4 cSN
  have cSS : CalF l.prog w K mg base 4 "show_stretch" (spShS (He.ga K "Number") (He.ga K "Stretch")) := ⟨_, (GSS.raw bShS .nil).imp fun vs H Q E h => by rw [List.append_nil]; exact h, mgo g_fShS, k_ShS⟩
  have RNo := ok_numof (P := l.prog) (w := w) (mg := mg) (base := base) FNumOf bNumOf ⟨_, mgo u_GREATEST⟩ cRw mN cSN
  have cNo : CalF l.prog w K mg base 4 "number_of" (spNumOf (He.ga K "Number")) := ⟨_, RNo, mgo g_fNumOf, k_NumOf⟩
  have RLo := ok_lineof (P := l.prog) (w := w) (mg := mg) (base := base) FLineOf bLineOf B cNo oN mL cSL
  have hNon : ∀ H, OddV K (He.ga K "Number") H .non := fun H => ⟨⟨_, .base .non, k_non, k_nonb⟩, .inl rfl⟩
  have RSo := ok_strof (P := l.prog) (w := w) (mg := mg) (base := base) FStrOf bStrOf B cNo (mgo g_D) (mgo g_Cs) MS GS bKS ex_s hNon
  have GT := ok_errt (P := l.prog) (w := w) (mg := mg) (base := base) FErrT TT nvalue_Ct
  have cRd : CalE l.prog w K mg base (L2.CX l.prog w) 8 "_read" (spRdX l.prog w K mg base (He.ga K "BadText")) := ⟨_, ok_rdx FRd bRd B zstr TT a_ErrT (beq_iff_eq.mp i_ErrT) GT bErrT (mgo g_Ct), mgo g_fRd, k_Rd⟩
  have cRN : CalE l.prog w K mg base (L2.CX l.prog w) 9 "read_number" (spRNX K (He.ga K "Number") (He.ga K "BadText")) := ⟨_, ok_rnx FRN bRN (mgo g_fNumOf) cRd ⟨RNo.mono (by decide), k_NumOf⟩, mgo g_fRN, k_RN⟩
  have cRL : CalE l.prog w K mg base (L2.CX l.prog w) 9 "read_line" (spRLX K (He.ga K "Number") (He.ga K "Line") (He.ga K "BadText")) := ⟨_, ok_rlx FRL bRL (mgo g_fLineOf) cRd ⟨RLo, k_LineOf⟩, mgo g_fRL, k_RL⟩
  have cRS : CalE l.prog w K mg base (L2.CX l.prog w) 9 "read_stretch" (spRSX K (He.ga K "Number") (He.ga K "Stretch") (He.ga K "BadText")) := ⟨_, ok_rsx FRS bRS (mgo g_fStrOf) cRd ⟨RSo, k_StrOf⟩, mgo g_fRS, k_RS⟩
  have cP : CalF l.prog w K mg base 1 "_law_pot" (spPot K) := ⟨_, ok_pot FPot bPot B, mgo g_fPot, k_Pot⟩
  have cT : CalF l.prog w K mg base 1 "_law_take" spTake := ⟨_, ok_take FTake bTake B, mgo g_fTake, k_Take⟩
  have cO : CalF l.prog w K mg base 2 "_law_of" spOf := ⟨_, ok_of FOf bOf B cT, mgo g_fOf, k_Of⟩
  have cDg : CalF l.prog w K mg base 3 "_law_digits" spDig := ⟨_, ok_dig FDig bDig B cT cO, mgo g_fDig, k_Dig⟩
  have cLw : CalF l.prog w K mg base 1 "_law_lowest" spLowest := ⟨_, ok_lowest FLowest bLowest B, mgo g_fLowest, k_Lowest⟩
  have cPr : CalF l.prog w K mg base 4 "_law_pair" spPair := ⟨_, ok_pair FPair bPair B cO cDg cLw, mgo g_fPair, k_Pair⟩
  have cNT : CalF l.prog w K mg base 1 "_law_number_text" spNTx := ⟨_, ok_ntx FNTx bNTx zstr, mgo g_fNTx, k_NTx⟩
  have cLT : CalF l.prog w K mg base 2 "_law_line_text" spLTx := ⟨_, ok_ltx FLTx bLTx B cNT, mgo g_fLTx, k_LTx⟩
  have cDgs : CalF l.prog w K mg base 1 "_law_is_digits" spIsDg := ⟨_, ok_isdg FIsDg bIsDg B, mgo g_fIsDg, k_IsDg⟩
  have cLN : CalF l.prog w K mg base 2 "_law_number_of" spLNum := ⟨_, ok_lnum FLNum bLNum B cDgs cLw, mgo g_fLNum, k_LNum⟩
  have cLL : CalF l.prog w K mg base 3 "_law_is_line" spLLine := ⟨_, ok_lline FLLine bLLine B cLN, mgo g_fLLine, k_LLine⟩
  have cLS : CalF l.prog w K mg base 3 "_law_is_stretch" spLStr := ⟨_, ok_lstr FLStr bLStr B cLN, mgo g_fLStr, k_LStr⟩
  have cDu : CalF l.prog w K mg base 4 "_law_due" (spLDueT K) := ⟨_, ok_ldueT FLDue bLDue B zstr cLN cLL cLS, mgo g_fLDue, k_LDue⟩
  have cLRd : CalF l.prog w K mg base 10 "_law_read" (spLRead K (He.ga K "Number") (He.ga K "Line") (He.ga K "Stretch") (He.ga K "BadText")) := ⟨_, ok_lread FLRd bLRd (mgo g_Ce) xE cRN cRL cRS, mgo g_fLRd, k_LRd⟩
  have cBe : CalF l.prog w K mg base 3 "_law_bent" spBent := ⟨_, ok_bent FBent bBent B cT cO, mgo g_fBent, k_Bent⟩
  have cDr : CalF l.prog w K mg base 5 "_law_drawn" spDrawn := ⟨_, ok_drawn FDrawn bDrawn B cO cPr cNT cLT, mgo g_fDrawn, k_Drawn⟩
  have cR2 : CalG l.prog w K mg base CX0 11 "_law_is_right" (spIsR K) := ⟨_, FnG.of (ok_isr FIsR bIsR B NC LC LT SC ST (mgo g_C) (mgo g_L) (mgo g_D) (mgo g_Ct) TX nvalue_Ct (kit_self _) cLRd cDu cSN cSL cSS), mgo g_fIsR, k_IsR⟩
  exact ok_law FLaw bLaw B cP cT cBe cDr cR2

end Ws

open PySem PySem.W PySem.Calls PyProof.Rows
theorem PySem.Challenge.cw_whatspeed_k94_texts_that_are_none_holds : PySem.Challenge.rw_whatspeed_k94_texts_that_are_none.Holds := by
  w_on; o_law
  refine HandSHeadRun.head_imp (r := OpenLaw.row PySem.Challenge.rw_whatspeed_k94_texts_that_are_none) (q := Ws.hkQ) (H := Ws.hkH) (ob := Ws.obW 11 1000 Ws.hkFa Ws.hkFn Ws.hkTs) (M := 30000) (loose := Ws.hkN) (d := HandSHeadRun.topDef (OpenLaw.row PySem.Challenge.rw_whatspeed_k94_texts_that_are_none).prog 46) (kwd := []) Ws.obW_eq
    Ws.hkRun (by kernel_rfl) (by kernel_rfl) (by kernel_rfl) (by rfl) (by first | assumption | decide +kernel) (by decide +kernel) ⟨rfl, rfl, rfl, rfl, rfl, by decide +kernel⟩ ?hw ?hc
  case hw => w_witness2
  case hc =>
    refine Ws.walk_W (l := PySem.Challenge.rw_whatspeed_k94_texts_that_are_none) (n := 63) (k := 12) (sp := Ws.spLaw) rfl (by decide) (by kernel_rfl) ⟨rfl, by decide, by decide⟩ ?F (fun _ _ a ns hl _ hS => ⟨a, ns, rfl, hS, hl, fun _ => rfl⟩)
    intro w mg fa h K KX c G hmg
    have e : (HandSHeadRun.topDef (OpenLaw.row PySem.Challenge.rw_whatspeed_k94_texts_that_are_none).prog 46).name = ("law" : PySem.Str) := by kernel_rfl
    rw [e] at hmg
    exact Ws.all_mk KX G hmg c
#print axioms PySem.Challenge.cw_whatspeed_k94_texts_that_are_none_holds

