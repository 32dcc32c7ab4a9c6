import PyProof.Rows.All
import Wide.All
import OpenK.AllK
import Wide.FinOn
import HandS.ForMost
import HandS.Star
import HandS.OwnEq
import HandS.Property
import HandS.Gcd
import HandS.Wide
import HandS.IsInst
import HandS.Defaults
import KE.KOpsOwn
import HandS.Ends
import PyProof.Rows.ReprR
import HandS.Lambda
import HandS.EndBits
import KE.KNestM
import PyProof.InstNe
import HandS.List
import PyProof.ReprBulk
import PyProof.FitsInt
import PyProof.ReprRoads
import PyProof.Conv_bool
import PyProof.Rows.Range3
import HandS.Exc
import HandS.ExcOwn
import HandS.ExcInit
import HandS.WordsExc
import HandS.ExcIs
import KE.KExcIs
import HandS.MakeKwOnly
import HandS.More
import HandS.DeepEq
import PySem.Str
import HandS.Deep
import HandS.DictComp
import HandS.SetKeys
import HandS.HeadHook3
import HandS.HeadHook1
import HandS.HeadHook2
import HandS.Head0
import HandS.Head1
import HandS.Head2
import KE.KStateDown
import HandS.RevRange
import HandS.Flow
import KE.GoesMore
import PyProof.EnumMake
import HandS.SetFor
import PyProof.EqKinds
import HandS.Zip
import PyProof.CompUse
import HandS.Dict
import PyProof.CallFns
import HandS.Small
import HandS.TryOnly
import PySem.Challenge.RW_whatspeed_k17_what_a_program_tells
set_option Elab.async false
set_option linter.all false
set_option maxRecDepth 100000
set_option maxHeartbeats 0
namespace Ws
open PySem PySem.Spec PyProof.Rows L2
/-! ### promises of defs, methods, makers, operators: by show (0 : Int) < _; decide +kernelitional values -/
noncomputable abbrev Fr1 := FnR
section
variable (P : Program) (w : World) (K : PySem.W.Frag) (mg : Str → Option Value) (base : Heap)
/-- a def of the module, called by its name -/
noncomputable def CalF (k : Nat) (x : Str) (sp : Sp) : Prop := ∃ f : Addr, FnR P w K mg base CX0 k f sp ∧ mg x = some (.ref f) ∧ PySem.W.keepIn K (.ref f) = true
/-- a class that makes instances, called by its name -/
noncomputable def MakF (k : Nat) (x : Str) (C : Addr) (sp : Sp) : Prop := ∃ f : Addr, Mk K C f ∧ FnR P w K mg base CX0 k f sp ∧ mg x = some (.ref C)
/-- a method -/
noncomputable def MetF (k : Nat) (C : Addr) (m : Str) (sp : Sp) : Prop := ∃ f : Addr, Cls K C ∧ Meth K C m f ∧ FnR P w K mg base CX0 k f sp
/-- a special method that an operator calls -/
noncomputable def OpnF (k : Nat) (C : Addr) (m : Str) (sp : Sp) : Prop := ∃ f : Addr, PySem.W.findIn K (.ref C) m = some (some (.ref f)) ∧ PySem.W.isFn K (.ref f) = true ∧ FnR P w K mg base CX0 k f sp
/-- a property -/
noncomputable def PrpF (k : Nat) (C : Addr) (m : Str) (sp : Sp) : Prop := ∃ p g : Addr, Cls K C ∧ PropOf K C m p g ∧ FnR P w K mg base CX0 k g sp
/-- instances are called -/
noncomputable def CloF (k : Nat) (C : Addr) (sp : Sp) : Prop := ∃ g : Addr, StX.CallO K C g ∧ FnR P w K mg base CX0 k g sp
end
section
variable {X : Cx} {k j : Nat} {C f : Addr} {sp : Sp} {x m : Str} {p pos apos : Pos} {e o : Expr} {es : List Expr} {ta : TE} {t : TA}
noncomputable abbrev CalX (X : Cx) := CalF X.prog X.w X.K X.mg X.base
theorem run_R {pins : List (Addr × Obj)} {σ : L2.St} {H : Hp} {s : Shared} {Q : VK} {us : List Value} {vs : List V} {E : XK} {CX : CXT} (F : FnR X.prog X.w X.K X.mg X.base CX k f sp) (hr : Room k X.A) (hx : Passes CX X E)
    (I : Inv X pins σ H s) (r : Vals vs us) (h : sp vs H Q E) : wpAny (model X.prog X.w) X.A (call (.ref f) us) (EP X pins σ Q) X.xe s := by
  refine wpAny_call (codeAny_mono (run_fnR F hr hx I r h) fun r s' q => ?_)
  cases r with
  | error e => exact q
  | ok fl => cases fl with
    | ret u => exact q
    | next => exact q.elim
    | brk => exact q.elim
    | cont => exact q.elim
/-- f(e, ..) -/
noncomputable def tF (sp : Sp) (t : TA) : TE := fun σ H Q => t σ H fun vs H1 => sp vs H1 Q E0
theorem pe_f (c : CalF X.prog X.w X.K X.mg X.base k x sp) (hr : Room j X.A) (hk : k ≤ j) (hg : Gl X x) (ha : PA X (e :: es) t) (hdb : (x == ("__debug__" : Str)) = false := by decide)
    (he : starEach (e :: es) X.env = (false, eval e X.env) :: starEach es X.env := by rfl) (hpl : (backTo pos (starEach es X.env)).any (·.1) = false := by rfl) : PE X (.Call (.Name x p) (e :: es) [] pos) (tF sp t) := by
  obtain ⟨f, F, hm, hkp⟩ := c
  refine ⟨fun pins s σ H Q I h => ?_⟩
  refine wpAny_Call_Name_kw (ld_glob I hg hm ?_ hdb)
  refine PySem.W.callWith_K (h₀ := X.base) I.ok.mod.kin hkp (thn (ha.run pos pins s σ H _ I h) fun us s1 ⟨vs, H1, I1, r, q⟩ => ⟨I1.kIn, ?_⟩) he hpl
  exact run_R F (hr.mono hk) pass0 I1 r q
/-- C(e, ..) -/
noncomputable def tMk (C : Addr) (sp : Sp) (t : TA) : TE := fun σ H Q => t σ H fun vs H1 => ∀ x dx, H1 x = Option.none → H1 dx = Option.none → dx ≠ x → sp (V.ref x :: vs) (upd (upd H1 dx (.own x)) x (.ins C dx [])) (fun v H2 => v = .non ∧ Q (.ref x) H2) E0
theorem pe_mk (c : MakF X.prog X.w X.K X.mg X.base k x C sp) (hr : Room j X.A) (hk : k + 1 ≤ j) (hg : Gl X x) (ha : PA X (e :: es) t) (hdb : (x == ("__debug__" : Str)) = false := by decide)
    (he : starEach (e :: es) X.env = (false, eval e X.env) :: starEach es X.env := by rfl) (hpl : (backTo pos (starEach es X.env)).any (·.1) = false := by rfl) : PE X (.Call (.Name x p) (e :: es) [] pos) (tMk C sp t) := by
  obtain ⟨f, M, F, hm⟩ := c
  exact StX.pe_makeR M F (hr.mono hk) hg hm pass0 ha hdb he hpl
/-- o.m(e, ..) -/
noncomputable def tMt (C : Addr) (m : Str) (sp : Sp) (ta : TE) (t : TA) : TE := fun σ H Q => ta σ H fun x H1 => ∃ a dx fs, x = .ref a ∧ H1 a = some (.ins C dx fs) ∧ fs.lookup m = none ∧ t σ H1 fun vs H2 => sp (x :: vs) H2 Q E0
theorem pe_mt {pl : Sem Bool} (c : MetF X.prog X.w X.K X.mg X.base k C m sp) (hr : Room j X.A) (hk : k ≤ j) (he : PE X o ta) (ha : PA X (e :: es) t)
    (hst : starEach (e :: es) X.env = (false, eval e X.env) :: starEach es X.env := by rfl) (hpl : (backTo pos (starEach es X.env)).any (·.1) = false := by rfl)
    (ht : eval (.Call (.Attribute o m apos) (e :: es) [] pos) X.env = (do
      let ov ← eval o X.env
      standAt apos.atName
      let (f, first) ← holding [ov] (getMethod ov m pl)
      callWith pos f first (backTo pos (starEach (e :: es) X.env)) (backToKw pos (keywordEach [] X.env))) := by rfl) :
    PE X (.Call (.Attribute o m apos) (e :: es) [] pos) (tMt C m sp ta t) := by
  obtain ⟨f, hc, hm, F⟩ := c
  refine ⟨fun pins s σ H Q I h => ?_⟩
  refine PySem.W.methodCall_KW (pl := pl) (thn (he.run pins s σ H _ I h) fun u s1 ⟨x, H1, I1, rx, a, dx, fs, ex, ea, l, q⟩ => ?_) ht
  subst ex
  obtain rfl : u = Value.ref a := rx
  refine getmeth_ok I1 ea hc hm l ?_
  refine PySem.W.callWith_K (first := [.ref a]) (h₀ := X.base) I.ok.mod.kin hm.kp (thn (ha.run pos pins s1 σ H1 _ I1 q) fun us s2 ⟨vs, H2, I2, r, q2⟩ => ⟨I2.kIn, ?_⟩) hst hpl
  exact run_R (us := .ref a :: us) (vs := .ref a :: vs) F (hr.mono hk) pass0 I2 (.cons rfl r) q2
/-- e.f, a property -/
noncomputable def tPr (C : Addr) (sp : Sp) (ta : TE) : TE := fun σ H Q => ta σ H fun x H1 => ∃ a dx fs, x = .ref a ∧ H1 a = some (.ins C dx fs) ∧ sp [.ref a] H1 Q E0
theorem pe_pr (c : PrpF X.prog X.w X.K X.mg X.base k C m sp) (hr : Room j X.A) (hk : k + 1 ≤ j) (he : PE X e ta) (hab : attributeBase e m X.env (eval e X.env) = eval e X.env := by rfl) : PE X (.Attribute e m pos) (tPr C sp ta) := by
  obtain ⟨p, g, hc, hp, F⟩ := c
  refine ⟨fun pins s σ H Q I h => ?_⟩
  refine attr_of hab (thn (he.run pins s σ H _ I h) fun u s1 ⟨x, H1, I1, rx, a, dx, fs, ex, ea, q⟩ => ?_)
  subst ex
  obtain rfl : u = Value.ref a := rx
  obtain ⟨mA, O, _, _, _, _⟩ := ins_get I1.hok ea
  obtain ⟨od, J, _⟩ := O.look
  obtain ⟨rest, hrec⟩ := hp.rec_
  have hcs : (PySem.W.clsIn X.K C).isSome = true := by
    obtain ⟨cd, hcd, _⟩ := PySem.W.any_some hc.hd
    rw [hcd]
    rfl
  have I2 := I1.tok (s1.toks + 1)
  have hr1 : Room (k + 1) X.A := hr.mono hk
  refine PySem.W.get_bind I1.kIn J (PySem.W.plainGet_of (hc.get m)).1 (PySem.W.findObj_data hcs hp.at_ hp.get hp.tak) (PySem.W.plainGet_of (hc.get m)).2 (wpAny_call (PySem.W.prop_get (s := { s1 with toks := s1.toks + 1 }) I1.kIn hrec ?_))
  refine codeAny_mono (F X.A.in1 X.stack { s1 with toks := s1.toks + 1 } H1 [.ref a] [.ref a] Q E0 hr1.in1 I2.env0.in1 (.cons rfl .nil) q) fun r s' hq => ?_
  cases r with
  | error er => exact hq.elim
  | ok fl =>
    cases fl with
    | ret u =>
      obtain ⟨v, H', I3, rv, q3⟩ := I2.after hq
      show wpAny _ _ (handedOut u) _ _ _
      rw [PySem.W.handedOut_of (handed_of rv)]
      exact wpAny_pure ⟨v, H', I3, rv, q3⟩
    | next => exact False.elim hq
    | brk => exact False.elim hq
    | cont => exact False.elim hq
/-- an instance called -/
noncomputable def tClo (C : Addr) (sp : Sp) (tf : TE) (t : TA) : TE := fun σ H Q => tf σ H fun y H1 => ∃ a, y = V.ref a ∧ t σ H1 fun vs H2 => (∃ dx fs, H2 a = some (.ins C dx fs)) ∧ sp (V.ref a :: vs) H2 Q E0
theorem pe_clo {tf : TE} {fe : Expr} (c : CloF X.prog X.w X.K X.mg X.base k C sp) (hr : Room j X.A) (hk : k ≤ j) (hf : PE X fe tf) (ha : PA X (e :: es) t)
    (ht : eval (.Call fe (e :: es) [] pos) X.env = (do callWith pos (← eval fe X.env) [] (backTo pos (starEach (e :: es) X.env)) (backToKw pos (keywordEach [] X.env))) := by rfl)
    (he : starEach (e :: es) X.env = (false, eval e X.env) :: starEach es X.env := by rfl) (hpl : (backTo pos (starEach es X.env)).any (·.1) = false := by rfl) : PE X (.Call fe (e :: es) [] pos) (tClo C sp tf t) := by
  obtain ⟨g, c, F⟩ := c
  refine ⟨fun pins s σ H Q I h => ?_⟩
  refine Call_ (thn (hf.run pins s σ H _ I h) fun u s1 ⟨y, H1, I1, ry, a, ey, q⟩ => ?_) ht
  subst ey
  obtain rfl : u = Value.ref a := ry
  refine StX.callO_with (thn (ha.run pos pins s1 σ H1 _ I1 q) fun us s2 ⟨vs, H2, I2, r, ⟨dx, fs, hi⟩, q2⟩ => ?_) he hpl
  have hi' : StX.InsC X H2 a C := .inr ⟨dx, fs, hi⟩
  obtain ⟨ox, od, J, hd⟩ := StX.insC_at I2 hi'
  exact ⟨⟨C, ox, od, J, hd⟩, StX.run_callO c F (hr.mono hk) pass0 I2 hi' r q2⟩
/-! ### operators -/
/-- the value handed back by an operator's method is never NotImplemented -/
theorem cmpBack {pins : List (Addr × Obj)} {σ : L2.St} {Q : VK} {v : Value} {s : Shared} (h : EP X pins σ Q v s) : PySem.W.CmpBack (EP X pins σ Q) v s := by
  obtain ⟨y, H, I, r, q⟩ := h
  have fin : EP X pins σ Q v s := ⟨y, H, I, r, q⟩
  cases y with
  | non => cases (show v = Value.none from r); exact fin
  | bl b => cases (show v = Value.bool b from r); exact fin
  | int i => obtain ⟨t, e⟩ := (show ∃ t, v = Value.int i t from r); subst e; exact fin
  | str i => obtain ⟨t, e⟩ := (show ∃ t, v = Value.str i t from r); subst e; exact fin
  | byt i => obtain ⟨t, e⟩ := (show ∃ t, v = Value.bytes i t from r); subst e; exact fin
  | flt i => obtain ⟨t, e⟩ := (show ∃ t, v = Value.float i t from r); subst e; exact fin
  | ref a => cases (show v = Value.ref a from r); exact fin
  | ty n => cases (show v = Value.type n from r); exact fin
theorem inst_of {pins : List (Addr × Obj)} {σ : L2.St} {H : Hp} {s : Shared} {a dx : Addr} {fs : List (Str × V)} (I : Inv X pins σ H s) (h : H a = some (.ins C dx fs)) : ∃ ox od, PySem.W.InstAt s.heap a ox C od := by
  obtain ⟨mA, O, _⟩ := ins_get I.hok h
  obtain ⟨od, J, _⟩ := O.look
  exact ⟨_, _, J⟩
/-- a op b, both of the class at C, by its own method -/
noncomputable def rOwn (C : Addr) (sp : Sp) : R2 := fun x y H Q => ∃ a dx fs b dy gs, x = .ref a ∧ H a = some (.ins C dx fs) ∧ y = .ref b ∧ H b = some (.ins C dy gs) ∧ sp [.ref a, .ref b] H Q E0
theorem op_own {op : Operator} (c : OpnF X.prog X.w X.K X.mg X.base k C (PySem.dunder op.info.2) sp) (hs : PySem.W.selfFirst X.K C = true) (hr : Room j X.A) (hk : k ≤ j) : OpR X (binaryOp op) (rOwn C sp) := by
  obtain ⟨f, h1, h2, F⟩ := c
  intro pins s σ H x y v u Q I rx ry h
  obtain ⟨a, dx, fs, b, dy, gs, rfl, ea, rfl, eb, q⟩ := h
  cases (show v = Value.ref a from rx)
  cases (show u = Value.ref b from ry)
  obtain ⟨ox, od, J⟩ := inst_of I ea
  obtain ⟨oy, oe, J2⟩ := inst_of I eb
  obtain ⟨m, hF⟩ := I.fr
  refine PySem.W.binop_K hF I.ok.mod.kin J J2.type hs h1 h2 ?_
  exact wpAny_mono (run_R (us := [.ref a, .ref b]) (vs := [.ref a, .ref b]) F (hr.mono hk) pass0 I (.cons rfl (.cons rfl .nil)) q) (fun v s' hv => cmpBack hv) fun _ _ z => z
/-- what a value's type is to ==: its typeOf -/
inductive TyL (H : Hp) : V → Value → Prop where
  | non : TyL H .non (.type "NoneType")
  | bl (b : Bool) : TyL H (.bl b) (.type "bool")
  | int (i : Int) : TyL H (.int i) (.type "int")
  | str (x : Str) : TyL H (.str x) (.type "str")
  | lst {a : Addr} {xs : List V} (e : H a = some (.lst xs)) : TyL H (.ref a) (.type "list")
  | tup {a : Addr} {xs : List V} (e : H a = some (.tup xs)) : TyL H (.ref a) (.type "tuple")
  | dK {a : Addr} {xs : List (Key × V)} (e : H a = some (.dK xs)) : TyL H (.ref a) (.type "dict")
  | ins {a C dx : Addr} {fs : List (Str × V)} (e : H a = some (.ins C dx fs)) : TyL H (.ref a) (.ref C)
theorem looks_ref {M : Model} {h : Heap} {a : Addr} {o : Obj} {t : Value} (e : h.get? a = some o) (c : o.cls = t) : PySem.W.Looks M h (typeOf (.ref a)) t := by
  intro A Q E s k q
  subst c
  exact wpAny_typeOf_ref (k _ _ e) q
theorem TyL.looks {pins : List (Addr × Obj)} {σ : L2.St} {H : Hp} {s : Shared} {M : Model} {x : V} {u t : Value} (I : Inv X pins σ H s) (rx : RelV x u) (ty : TyL H x t) : PySem.W.Looks M s.heap (typeOf u) t := by
  cases ty with
  | non => cases (show u = Value.none from rx); exact .of_pure rfl
  | bl b => cases (show u = Value.bool b from rx); exact .of_pure rfl
  | int i => obtain ⟨t, q⟩ := (show ∃ t, u = Value.int i t from rx); subst q; exact .of_pure rfl
  | str i => obtain ⟨t, q⟩ := (show ∃ t, u = Value.str i t from rx); subst q; exact .of_pure rfl
  | @lst a xs e =>
    cases (show u = Value.ref a from rx)
    obtain ⟨_, its, n, _, h1⟩ := (show ObjOk X.prog X.w H s.heap a (.lst xs) from I.hok a _ e)
    exact looks_ref h1 rfl
  | @tup a xs e =>
    cases (show u = Value.ref a from rx)
    obtain ⟨_, its, _, ob, h1, c, _⟩ := (show ObjOk X.prog X.w H s.heap a (.tup xs) from I.hok a _ e)
    exact looks_ref h1 c
  | @dK a xs e =>
    cases (show u = Value.ref a from rx)
    obtain ⟨_, _, vs, _, o, es, ep, h1, h2, _⟩ := (show ObjOk X.prog X.w H s.heap a (.dK xs) from I.hok a _ e)
    exact looks_ref h1 h2.1
  | @ins a C dx fs e =>
    cases (show u = Value.ref a from rx)
    obtain ⟨ox, od, J⟩ := inst_of I e
    exact J.type
/-- a == b by a's own __eq__ -/
noncomputable def rEqO (K : PySem.W.Frag) (C : Addr) (sp : Sp) : R2 := fun x y H Q => ∃ a dx fs t, x = .ref a ∧ H a = some (.ins C dx fs) ∧ TyL H y t ∧ PySem.W.notFirst K C t = true ∧ sp [.ref a, y] H Q E0
theorem op_eqO (c : OpnF X.prog X.w X.K X.mg X.base k C "__eq__" sp) (hr : Room j X.A) (hk : k ≤ j) : OpR X (compareOp .Eq) (rEqO X.K C sp) := by
  obtain ⟨f, h1, h2, F⟩ := c
  intro pins s σ H x y v u Q I rx ry h
  obtain ⟨a, dx, fs, t, rfl, ea, ty, nf, q⟩ := h
  cases (show v = Value.ref a from rx)
  obtain ⟨ox, od, J⟩ := inst_of I ea
  obtain ⟨m, hF⟩ := I.fr
  refine PySem.W.cmp_ofEq (PySem.W.cmp_K (op := .Eq) hr.units0 hF I.ok.mod.kin J (ty.looks I ry) nf h1 h2 ?_)
  exact wpAny_mono (run_R (us := [.ref a, u]) (vs := [.ref a, y]) F (hr.mono hk) pass0 I (.cons rfl (.cons ry .nil)) q) (fun v s' hv => cmpBack hv) fun _ _ z => z
/-- -a by its own __neg__ -/
noncomputable def rUnO (C : Addr) (sp : Sp) : V → Hp → VK → Prop := fun x H Q => ∃ a dx fs, x = .ref a ∧ H a = some (.ins C dx fs) ∧ sp [.ref a] H Q E0
theorem un_negO (c : OpnF X.prog X.w X.K X.mg X.base k C "__neg__" sp) (hr : Room j X.A) (hk : k ≤ j) : UnR X (unaryOp .USub) (rUnO C sp) := by
  obtain ⟨f, h1, h2, F⟩ := c
  intro pins s σ H x v Q I rx h
  obtain ⟨a, dx, fs, rfl, ea, q⟩ := h
  cases (show v = Value.ref a from rx)
  obtain ⟨ox, od, J⟩ := inst_of I ea
  obtain ⟨m, hF⟩ := I.fr
  exact PySem.W.ksp_neg hF I.ok.mod.kin J h1 h2 (run_R (us := [.ref a]) (vs := [.ref a]) F (hr.mono hk) pass0 I (.cons rfl .nil) q)
/-- a's truth by its own __bool__ -/
noncomputable def rTruO (C : Addr) (sp : Sp) : V → Hp → (Bool → Hp → Prop) → Prop := fun x H Q => ∃ a dx fs, x = .ref a ∧ H a = some (.ins C dx fs) ∧ sp [.ref a] H (fun v H' => ∃ b, v = .bl b ∧ Q b H') E0
theorem tru_own (c : OpnF X.prog X.w X.K X.mg X.base k C "__bool__" sp) (hr : Room j X.A) (hk : k ≤ j) : TruR X (rTruO C sp) := by
  obtain ⟨f, h1, h2, F⟩ := c
  intro pins s σ H x v Q I rx h
  obtain ⟨a, dx, fs, rfl, ea, q⟩ := h
  cases (show v = Value.ref a from rx)
  obtain ⟨ox, od, J⟩ := inst_of I ea
  obtain ⟨m, hF⟩ := I.fr
  refine PySem.W.truthy_K hF I.ok.mod.kin J h1 h2 (wpAny_mono (run_R (us := [.ref a]) (vs := [.ref a]) F (hr.mono hk) pass0 I (.cons rfl .nil) q) (fun r s' hv => ?_) fun _ _ z => z)
  obtain ⟨y, H', I', ry, b, rfl, qb⟩ := hv
  cases (show r = Value.bool b from ry)
  exact ⟨H', I', qb⟩
/-- a test by a value's truth -/
noncomputable def tTru (r : V → Hp → (Bool → Hp → Prop) → Prop) (ta : TE) : TT := fun σ H Q => ta σ H fun x H1 => r x H1 Q
theorem pt_tru {r : V → Hp → (Bool → Hp → Prop) → Prop} {a : Expr} (hT : TruR X r) (ha : PE X a ta) (he : ∀ whole, isTrue a X.env whole = (do let v ← whole; standAt a.pos; holding [v] (truthy v)) := by intro _; rfl) : PT X a (tTru r ta) := by
  refine ⟨fun pins s σ H Q I h => ?_⟩
  exact isTrue_plain (thn (ha.run pins s σ H _ I h) fun v s1 ⟨x, H1, I1, r1, q1⟩ => hT pins s1 σ H1 x v Q I1 r1 q1) (he _)
/-! ### great ints -/
theorem op_powW : OpR X (binaryOp .Pow) (rI (fun i j => 0 ≤ j ∧ (Builtin.Int.intBits i : Int) * j ≤ 2 ^ 27) fun i j => .int (i ^ j.toNat)) := opI fun _ _ _ _ _ _ _ hc q => pow_int hc.1 hc.2 q
theorem op_fdivZ : OpR X (binaryOp .FloorDiv) (rI (fun _ j => j ≠ 0 ∧ j.natAbs.log2 < 9000) fun i j => .int (i.fdiv j)) := opI fun _ _ _ _ _ _ _ hc q => floordiv_int hc.1 q (.inl (PyProof.noPylong_of_log2 hc.2))
end
end Ws
namespace Ws
open PySem PySem.Spec PyProof.Rows L2
/-! ### from a def of the text to its promise -/
section
variable {P : Program} {w : World} {K : PySem.W.Frag} {mg : Str → Option Value} {base : Heap}
theorem fnR_of {x qual : Str} {st : Stmt} {f : Addr} {fd : FuncData} {N ps : List Str} {k : Nat} {sp : Sp} (F : L2.Fun K x qual st f fd) (b : Binds K fd ps []) (S : FnScope N ps (defScope st)) (len : ∀ vs H Q E, sp vs H Q E → vs.length = ps.length)
    (hbody : ∀ (cdv : Value) (A : Around) (outer : List Env) (s : Shared) (H : Hp) (vs : List V) (Q : VK) (E : XK), Room k (A.deeper (envOfC qual (defScope st) s.heap.objs.size f cdv)) → sp vs H Q E →
      ∃ t, PSs (cxOf CX0 P w K mg base N qual (defScope st) f cdv A outer s H E).nox (defBody st) t ∧ t { nx := fun _ H' => Q .non H', rt := Q } (start N vs) H) : FnR P w K mg base CX0 (k + 1) f sp :=
  ((F.ok S len hbody).raw b .nil).imp fun vs H Q E h => by rw [List.append_nil]; exact h
/-- a def with defaults: all of them are handed in, or the last ones are filled up -/
theorem fnD_of {x qual : Str} {st : Stmt} {f : Addr} {fd : FuncData} {N ps : List Str} {k : Nat} {sp sp' : Sp} {dvs dvs' : List V} {ds : List Value} (F : FunD K x qual (defArgs st) (defBody st) (defScope st) dvs [] f fd) (b : Binds K fd ps ds) (d : Vals dvs' ds) (S : FnScope N ps (defScope st)) (len : ∀ vs H Q E, sp vs H Q E → vs.length = ps.length)
    (imp : ∀ vs H Q E, sp' vs H Q E → sp (vs ++ dvs') H Q E)
    (hbody : ∀ (cdv : Value) (A : Around) (outer : List Env) (s : Shared) (H : Hp) (vs : List V) (Q : VK) (E : XK), Room k (A.deeper (envOfC qual (defScope st) s.heap.objs.size f cdv)) → sp vs H Q E →
      ∃ t, PSs (cxOf CX0 P w K mg base N qual (defScope st) f cdv A outer s H E).nox (defBody st) t ∧ t { nx := fun _ H' => Q .non H', rt := Q } (start N vs) H) : FnR P w K mg base CX0 (k + 1) f sp' :=
  ((F.ok (CX := CX0) S len fun cdv A outer s H vs Q E hr h => let ⟨t, h1, h2⟩ := hbody cdv A outer s H vs Q E hr h; ⟨t, h1.nox, h2⟩).raw b d).imp imp
end
/-- names of built-ins that the module doesn't bind -/
structure Bi (mg : Str → Option Value) : Prop where
  len : mg "len" = none
  abs : mg "abs" = none
  int : mg "int" = none
  bool : mg "bool" = none
  max : mg "max" = none
  min : mg "min" = none
  range : mg "range" = none
  all : mg "all" = none
  any : mg "any" = none
  isinstance : mg "isinstance" = none
/-! ### heaps -/
/-- all but what stands at p is as it was -/
noncomputable def Ch (p : Addr) (H H' : Hp) : Prop := ∀ b o, b ≠ p → H b = some o → H' b = some o
theorem Ch.refl {p : Addr} {H : Hp} : Ch p H H := fun _ _ _ h => h
theorem Ch.trans {p : Addr} {H H1 H2 : Hp} (a : Ch p H H1) (b : Ch p H1 H2) : Ch p H H2 := fun c o n h => b c o n (a c o n h)
theorem Ch.of {p : Addr} {H H' : Hp} (h : Same H H') : Ch p H H' := fun b o _ e => h b o e
theorem Ch.upd {p : Addr} {H : Hp} {o : HO} : Ch p H (L2.upd H p o) := fun b u n e => by rw [upd_ne n]; exact e
theorem Same.new {H : Hp} {p : Addr} {o : HO} (h : H p = none) : Same H (upd H p o) := fun b u e => by rw [upd_ne (ne_of_none e h)]; exact e
theorem Ch.new {q p : Addr} {H : Hp} {o : HO} (h : H p = none) : Ch q H (L2.upd H p o) := Ch.of (Same.new h)
theorem Ch.free {p q : Addr} {H H' : Hp} (c : Ch p H H') (n : q ≠ p) (h : H' q = none) : H q = none := by
  cases e : H q with
  | none => rfl
  | some o => rw [c q o n e] at h; cases h
/-- a fresh instance is laid, then filled by its __init__ -/
theorem Same.mk {H H1 : Hp} {x dx C : Addr} (nx : H x = none) (nd : H dx = none) (k : ∀ b o, (upd (upd H dx (.own x)) x (.ins C dx [])) b = some o → b ≠ x → H1 b = some o) : Same H H1 := fun b o e =>
  k b o (by rw [upd_ne (ne_of_none e nx), upd_ne (ne_of_none e nd)]; exact e) (ne_of_none e nx)
/-! ### fields -/
theorem lk_here {k : Str} {v : V} {r : List (Str × V)} : List.lookup k ((k, v) :: r) = some v := by
  have e : (k == k) = true := beq_self_eq_true k
  simp only [List.lookup, e]
theorem lk_past {k g : Str} {v : V} {r : List (Str × V)} (h : (k == g) = false) : List.lookup k ((g, v) :: r) = List.lookup k r := by
  simp only [List.lookup, h]
theorem put_here {f : Str} {v x : V} {r : List (Str × V)} : putF f v ((f, x) :: r) = (f, v) :: r := if_pos rfl
theorem put_past {f g : Str} {v x : V} {r : List (Str × V)} (h : ¬ g = f) : putF f v ((g, x) :: r) = (g, x) :: putF f v r := if_neg h
end Ws
namespace Ws
theorem ifT {c : Bool} {A B : Prop} (hc : c = true) (h : A) : if c = true then A else B := by rw [if_pos hc]; exact h
theorem ifF {c : Bool} {A B : Prop} (hc : c = false) (h : B) : if c = true then A else B := by rw [hc, if_neg Bool.false_ne_true]; exact h
theorem if2 {c : Bool} {A B : Prop} (h1 : c = true → A) (h2 : c = false → B) : if c = true then A else B := by
  cases c with
  | true => exact ifT rfl (h1 rfl)
  | false => exact ifF rfl (h2 rfl)
end Ws
namespace Ws
open PySem PySem.Spec PyProof.Rows L2
section
variable {X : Cx} {CX : CXT} {k n : Nat} {f C : Addr} {fd : FuncData} {ps ks : List Str} {sp : Sp} {E : XK} {m : Str} {pos apos : Pos} {e o : Expr} {kws : List Keyword} {ta : TE} {tk : TA} {g : List Value → List Value → List Value} {gV : List V → List V → List V}
/-- o.m(k = v, ..) -/
noncomputable def tMtK (C : Addr) (m : Str) (n : Nat) (sp : Sp) (gV : List V → List V → List V) (E : XK) (ta : TE) (tk : TA) : TE := fun σ H Q => ta σ H fun x H1 => ∃ a dx fs, x = .ref a ∧ H1 a = some (.ins C dx fs) ∧ fs.lookup m = none ∧ tk σ H1 fun zs H2 => zs.length = n ∧ sp (gV [x] zs) H2 Q E
theorem pe_mtK0 {pl : Sem Bool} (c : Cls X.K C) (hm : Meth X.K C m f) (F : FnOk X.prog X.w X.K X.mg X.base CX k f fd ps sp) (hr : Room k X.A) (hb : KBn X.K fd ps 1 ks g gV) (hx : Passes CX X E) (he : PE X o ta) (hkw : PK X kws tk)
    (hall : (backToKw pos (keywordEach kws X.env)).all (·.1.isSome) = true := by rfl) (hks : (backToKw pos (keywordEach kws X.env)).filterMap (·.1) = ks := by rfl)
    (hpl : ((backTo pos (starEach [] X.env)).any (·.1) || (backToKw pos (keywordEach kws X.env)).any (·.1.isNone)) = false := by rfl)
    (ht : eval (.Call (.Attribute o m apos) [] kws pos) X.env = (do
      let ov ← eval o X.env
      standAt apos.atName
      let (f, first) ← holding [ov] (getMethod ov m pl)
      callWith pos f first (backTo pos (starEach [] X.env)) (backToKw pos (keywordEach kws X.env))) := by rfl) :
    PE X (.Call (.Attribute o m apos) [] kws pos) (tMtK C m ks.length sp gV E ta tk) := by
  refine ⟨fun pins s σ H Q I h => ?_⟩
  refine PySem.W.methodCall_KW (pl := pl) (thn (he.run pins s σ H _ I h) fun u s1 ⟨x, H1, I1, rx, a, dx, fs, ex, ea, l, q⟩ => ?_) ht
  subst ex
  obtain rfl : u = Value.ref a := rx
  refine getmeth_ok I1 ea c hm l ?_
  refine PySem.W.callWith_KW0 (first := [.ref a]) (h₀ := X.base) I.ok.mod.kin hm.kp hall ?_ hpl
  refine thn (hkw.run pos pins s1 σ H1 _ I1 q) fun ws s2 ⟨zs, H2, I2, rz, l2, q2⟩ => ⟨I2.kIn, ?_⟩
  rw [hks]
  exact run_fnN (us := [.ref a]) (vs := [.ref a]) F hr hb hx I2 (.cons rfl .nil) rz rfl l2 q2
end
end Ws
namespace Ws
theorem bit_lo (c : Bool) : -(2 ^ 64) < (if c = true then (1 : Int) else 0) ∧ (if c = true then (1 : Int) else 0) < 2 ^ 64 := by cases c <;> decide
theorem bit_nn (c : Bool) : 0 ≤ (if c = true then (1 : Int) else 0) := by cases c <;> decide
end Ws
namespace Ws
open PySem
theorem kit_self {K : PySem.W.Frag} (t : Value) : PySem.W.kitOne K t t = some true := by
  unfold PySem.W.kitOne
  rw [if_pos (by simp)]
end Ws

namespace Ws
open PySem PySem.Spec PyProof.Rows L2
/-! ### defs that are called where nothing is being shown: repr may be asked within them -/
/-- FnR for such calls alone -/
noncomputable def FnG (P : Program) (w : World) (K : PySem.W.Frag) (mg : Str → Option Value) (base : Heap) (CX : CXT) (k : Nat) (f : Addr) (sp : Sp) : Prop :=
  ∀ (A : Around) (outer : List Env) (s : Shared) (H : Hp) (us : List Value) (vs : List V) (Q : VK) (E : XK), A.guards = some [] → Room k A → Env0 P w K mg base A outer s H → Vals vs us → sp vs H Q E →
    codeAny (model P w) A (.call (.ref f) ⟨us, []⟩) (CR CX outer P w H s Q E) s
theorem FnG.of {P : Program} {w : World} {K : PySem.W.Frag} {mg : Str → Option Value} {base : Heap} {CX : CXT} {k : Nat} {f : Addr} {sp : Sp} (F : FnR P w K mg base CX k f sp) : FnG P w K mg base CX k f sp :=
  fun A outer s H us vs Q E _ hr e0 r h => F A outer s H us vs Q E hr e0 r h
/-- such a def of the module, by its name -/
noncomputable def CalG (P : Program) (w : World) (K : PySem.W.Frag) (mg : Str → Option Value) (base : Heap) (CX : CXT) (k : Nat) (x : Str) (sp : Sp) : Prop := ∃ f : Addr, FnG P w K mg base CX k f sp ∧ mg x = some (.ref f) ∧ PySem.W.keepIn K (.ref f) = true
section
variable {X : Cx} {k j : Nat} {f : Addr} {sp : Sp} {x : Str} {p pos : Pos} {e : Expr} {es : List Expr} {t : TA} {CX : CXT} {E : XK}
theorem run_G {pins : List (Addr × Obj)} {σ : L2.St} {H : Hp} {s : Shared} {Q : VK} {us : List Value} {vs : List V} (F : FnG X.prog X.w X.K X.mg X.base CX k f sp) (cl : X.A.guards = some []) (hr : Room k X.A) (hx : Passes CX X E)
    (I : Inv X pins σ H s) (r : Vals vs us) (h : sp vs H Q E) : wpAny (model X.prog X.w) X.A (call (.ref f) us) (EP X pins σ Q) X.xe s := by
  refine wpAny_call (codeAny_mono (F X.A X.stack s H us vs Q E cl hr I.env0 r h) fun out s' q => ?_)
  cases out with
  | error e => exact hx pins σ H s e s' I q
  | ok fl => cases fl with
    | ret u => exact I.after q
    | next => exact q.elim
    | brk => exact q.elim
    | cont => exact q.elim
noncomputable def tFE (sp : Sp) (E : XK) (t : TA) : TE := fun σ H Q => t σ H fun vs H1 => sp vs H1 Q E
/-- f(e, ..) -/
theorem pe_gE (c : CalG X.prog X.w X.K X.mg X.base CX k x sp) (cl : X.A.guards = some []) (hr : Room j X.A) (hk : k ≤ j) (hx : Passes CX X E) (hg : Gl X x) (ha : PA X (e :: es) t) (hdb : (x == ("__debug__" : Str)) = false := by decide)
    (he : starEach (e :: es) X.env = (false, eval e X.env) :: starEach es X.env := by rfl) (hpl : (backTo pos (starEach es X.env)).any (·.1) = false := by rfl) : PE X (.Call (.Name x p) (e :: es) [] pos) (tFE sp E t) := by
  obtain ⟨f, F, hm, hkp⟩ := c
  refine ⟨fun pins s σ H Q I h => ?_⟩
  refine wpAny_Call_Name_kw (ld_glob I hg hm ?_ hdb)
  refine PySem.W.callWith_K (h₀ := X.base) I.ok.mod.kin hkp (thn (ha.run pos pins s σ H _ I h) fun us s1 ⟨vs, H1, I1, r, q⟩ => ⟨I1.kIn, ?_⟩) he hpl
  exact run_G F cl (hr.mono hk) hx I1 r q
theorem pe_g (c : CalG X.prog X.w X.K X.mg X.base CX0 k x sp) (cl : X.A.guards = some []) (hr : Room j X.A) (hk : k ≤ j) (hg : Gl X x) (ha : PA X (e :: es) t) (hdb : (x == ("__debug__" : Str)) = false := by decide)
    (he : starEach (e :: es) X.env = (false, eval e X.env) :: starEach es X.env := by rfl) (hpl : (backTo pos (starEach es X.env)).any (·.1) = false := by rfl) : PE X (.Call (.Name x p) (e :: es) [] pos) (tF sp t) :=
  pe_gE c cl hr hk pass0 hg ha hdb he hpl
end
section
variable {P : Program} {w : World} {K : PySem.W.Frag} {mg : Str → Option Value} {base : Heap}
/-- a def of the text: its body is read where nothing is being shown -/
theorem fnG_ofX {CX : CXT} {x qual : Str} {st : Stmt} {f : Addr} {fd : FuncData} {N ps : List Str} {k : Nat} {sp : Sp} (F : L2.Fun K x qual st f fd) (b : Binds K fd ps []) (S : FnScope N ps (defScope st)) (len : ∀ vs H Q E, sp vs H Q E → vs.length = ps.length)
    (hbody : ∀ (cdv : Value) (A : Around) (outer : List Env) (s : Shared) (H : Hp) (vs : List V) (Q : VK) (E : XK), A.guards = some [] → Room k (A.deeper (envOfC qual (defScope st) s.heap.objs.size f cdv)) → sp vs H Q E →
      ∃ t, PSs (cxOf CX P w K mg base N qual (defScope st) f cdv A outer s H E) (defBody st) t ∧ t { nx := fun _ H' => Q .non H', rt := Q } (start N vs) H) : FnG P w K mg base CX (k + 1) f sp := by
  obtain ⟨oc, od, kV, doc, pm, an, cdv, ct, osl, rfl, lk, hcd⟩ := F.ex
  intro A outer s H us vs Q E cl hr e0 r hsp
  have hn := len _ _ _ _ hsp
  have inS : K.In s.heap := e0.mod.kin.keeps fun b o e => (e0.bs b o e).1
  have free : s.heap.NoLimit := e0.mod.nolimit.keeps fun b o e => (e0.bs b o e).1
  have hl : us.length = ps.length := r.length ▸ hn
  have bd := b s us inS (by rw [List.append_nil]; exact hl)
  rw [List.append_nil] at bd
  have kinds : ∀ y ∈ ps.zip us, (defScope st).names.lookup y.1 = some .local ∨ ((defScope st).names.lookup y.1 = some .cell ∧ ((cellsFrom (s.heap.objs.size + 1) (defScope st).names []).lookup y.1).isSome = true) := by
    rintro ⟨n, v⟩ hy
    exact (S.par n (List.of_mem_zip hy).1).imp id fun q => ⟨q, PySem.W.cellsFrom_some _ _ _ (.inl q)⟩
  refine codeAny_call_function hr.depth (inS _ _ lk) rfl S.co S.gen rfl (PySem.W.codeRec_of inS hcd) (bd _ _ _ _ ?_)
  refine wpAny_newFunctionEnv_cells S.kind kinds fun env hE s1 z => ?_
  cases hE
  refine ⟨free.keeps z.toInCall.keep, codeAny_func ?_⟩
  obtain ⟨t, ht, q⟩ := hbody cdv A outer s H vs Q E cl (hr.deeper _) hsp
  have I : Inv (cxOf CX P w K mg base N qual (defScope st) f cdv A outer s H E) [] (start N vs) H s1 := inv_start S hr.hd e0 hn r z
  refine wpAny_mono (ht.run [] s1 (start N vs) H _ I q) (fun fl s2 out => ?_) fun _ _ out => out
  cases fl with
  | ret u => obtain ⟨v, _, H2, J, rv, q2⟩ := out; exact ⟨v, H2, J.os, J.bare, J.base, J.hok, rv, q2⟩
  | next => obtain ⟨_, H2, J, q2⟩ := out; exact ⟨.non, H2, J.os, J.bare, J.base, J.hok, rfl, q2⟩
  | brk => exact out.elim fun _ z => z.elim fun _ z => z.2.elim
  | cont => exact out.elim fun _ z => z.elim fun _ z => z.2.elim
theorem fnG_of {x qual : Str} {st : Stmt} {f : Addr} {fd : FuncData} {N ps : List Str} {k : Nat} {sp : Sp} (F : L2.Fun K x qual st f fd) (b : Binds K fd ps []) (S : FnScope N ps (defScope st)) (len : ∀ vs H Q E, sp vs H Q E → vs.length = ps.length)
    (hbody : ∀ (cdv : Value) (A : Around) (outer : List Env) (s : Shared) (H : Hp) (vs : List V) (Q : VK) (E : XK), A.guards = some [] → Room k (A.deeper (envOfC qual (defScope st) s.heap.objs.size f cdv)) → sp vs H Q E →
      ∃ t, PSs (cxOf CX0 P w K mg base N qual (defScope st) f cdv A outer s H E).nox (defBody st) t ∧ t { nx := fun _ H' => Q .non H', rt := Q } (start N vs) H) : FnG P w K mg base CX0 (k + 1) f sp :=
  fnG_ofX F b S len fun cdv A outer s H vs Q E cl hr h => let ⟨t, h1, h2⟩ := hbody cdv A outer s H vs Q E cl hr h; ⟨t, h1.nox, h2⟩
end
/-! ### the law's own call -/
/-- what is tracked when the law begins: its script, if the module doesn't have it -/
noncomputable def only1 (K : PySem.W.Frag) (a : Addr) (o : Obj) (xs : List V) : Hp := fun b => if b = a then (match K.lookup a with | some _ => none | none => some (.frz o (.lst xs))) else none
theorem law_G {P : Program} {w : World} {K : PySem.W.Frag} {mg mb : Str → Option Value} {k : Nat} {fa a : Addr} {sp : Sp} {s : Shared} {vs : List Value} {ns : List Int}
    (inS : K.In s.heap) (hm : s.heap.Ns mainGlobals mg) (hb : s.heap.Ns builtinsNs mb) (bb : ∀ x : Str, x ≠ "__name__" → mb x = bootBuiltins x) (free : s.heap.NoLimit) (hg : s.gens = #[])
    (ha : s.heap.get? a = some { cls := .type "list", data := .seq vs.toArray }) (hi : IntsAre vs ns) (hl : ns.length ≤ sizeLine) (hr : Room k callerA)
    (F : ∀ base : Heap, K.In base → base.Ns mainGlobals mg → FnG P w K mg base CX0 k fa sp)
    (hsp : ∀ H : Hp, Only H → SqL K H a (ns.map V.int) → sp [.ref a] H (fun v _ => v = .bl true) fun _ _ _ => False) :
    codeAny (model P w) callerA (.call (.ref fa) ⟨[.ref a], []⟩) (fun r s' => r = .ok (.ret (.bool true)) ∧ OldK s.heap s'.heap ∧ s'.os = s.os ∧ AllBare s'.gens) s := by
  let ob : Obj := { cls := .type "list", data := .seq vs.toArray }
  let H : Hp := only1 K a ob (ns.map V.int)
  have hH : ∀ b u, H b = some u → b = a ∧ K.lookup a = none ∧ u = .frz ob (.lst (ns.map V.int)) := by
    intro b u e
    have e1 : (if b = a then (match K.lookup a with | some _ => none | none => some (HO.frz ob (.lst (ns.map V.int)))) else none) = some u := e
    by_cases hba : b = a
    · rw [if_pos hba] at e1
      cases hk : K.lookup a with
      | some _ => rw [hk] at e1; cases e1
      | none => rw [hk] at e1; exact ⟨hba, rfl, (Option.some.inj e1).symm⟩
    · rw [if_neg hba] at e1; cases e1
  have only : Only H := fun b => by
    cases e : H b with
    | none => exact .inl rfl
    | some u => obtain ⟨_, _, rfl⟩ := hH b u e; exact .inr ⟨_, _, rfl⟩
  have rv := vals_ints hi
  have here : SqL K H a (ns.map V.int) := by
    cases hk : K.lookup a with
    | none =>
      refine .inl (.inr ⟨ob, ?_⟩)
      show (if a = a then (match K.lookup a with | some _ => none | none => some (HO.frz ob (.lst (ns.map V.int)))) else none) = _
      rw [if_pos rfl, hk]
    | some o =>
      have e := inS a o hk
      rw [ha] at e
      cases e
      exact .inr ⟨_, vs.toArray, _, hk, rfl, rfl, rfl, by rw [List.size_toArray, hi.length]; exact hl, by simpa using rv⟩
  have ok : HOk P w H s.heap := fun b u e => by
    obtain ⟨rfl, _, rfl⟩ := hH b u e
    exact ⟨ha, by rw [List.length_map]; exact hl, vs, _, rv, ha⟩
  have low : ∀ {b : Addr} {o : Obj}, s.heap.get? b = some o → H b = none → (hidT s.heap H).get? b = some o := fun e n => hidT_get e n
  have lowD : ∀ {b : Addr} {m : Str → Option Value}, s.heap.Ns b m → (hidT s.heap H).Ns b m := fun {b m} ⟨o, es, ep, e, d, r⟩ => ⟨o, es, ep, low e (by
    cases q : H b with
    | none => rfl
    | some u =>
      obtain ⟨rfl, _, _⟩ := hH b u q
      rw [ha] at e
      cases e
      cases (show Data.seq vs.toArray _ = Data.dict es ep from d)), d, r⟩
  have inB : K.In (hidT s.heap H) := fun b o e => low (inS b o e) (by
    cases q : H b with
    | none => rfl
    | some u =>
      obtain ⟨rfl, n, _⟩ := hH b u q
      rw [n] at e
      cases e)
  have M : Mod K mg (hidT s.heap H) := ⟨inB, lowD hm, ⟨mb, lowD hb, bb⟩, let ⟨mc, h1, h2⟩ := free; ⟨mc, lowD h1, h2⟩⟩
  have e0 : Env0 P w K mg (hidT s.heap H) callerA [] s H := ⟨rfl, M, fun b o e => of_hidT e, Nat.le_of_eq (hidT_size _ _), trivial, fun b z => absurd (show b ∈ ([] : List Addr) from z) (by simp), ok, .of_eq hg⟩
  refine codeAny_mono (F _ inB (lowD hm) callerA [] s H [.ref a] [.ref a] _ _ rfl hr e0 (.cons rfl .nil) (hsp H only here)) fun r s' h => ?_
  cases r with
  | error e => exact h.elim
  | ok fl =>
    cases fl with
    | ret u =>
      obtain ⟨v, H', os, bare, un, ok', r', q⟩ := h
      cases (show v = V.bl true from q)
      cases (show u = Value.bool true from r')
      refine ⟨rfl, OldK.of_keep fun b o e => ?_, os, bare⟩
      cases z : H b with
      | none => exact un.keep b o e z (fun y => absurd (show b ∈ ([] : List Addr) from y) (by simp)) (by simp)
      | some u =>
        obtain ⟨rfl, _, rfl⟩ := hH b u z
        rw [ha] at e
        cases e
        exact (ok' b _ (un.frzs b _ _ z)).1
    | next => exact h.elim
    | brk => exact h.elim
    | cont => exact h.elim
/-- the goal behind the top, from the law's promise -/
theorem walk_G {l : PySem.W.OpenLaw} {n k : Nat} {q : Program} {loose : List Str} {XP : (Str → Option Value) → Heap → Prop} {YP : World → Heap → Prop} {d : DefRec} {K : Params → PySem.W.Frag} {sp : World → Sp}
    (hn : l.most = some n) (hn2 : n ≤ sizeLine) (hdf : d.params.defaults = []) (hr : Room k callerA) (hY : ∀ (w : World) (h : Heap), YP w h → (K w.params).In h)
    (F : ∀ (w : World) (mg : Str → Option Value) (fa : Addr) (h : Heap), (K w.params).In h → h.Ns mainGlobals mg → mg d.name = some (.ref fa) → ∀ base : Heap, (K w.params).In base → base.Ns mainGlobals mg → FnG l.prog w (K w.params) mg base CX0 k fa (sp w))
    (hsp : ∀ (w : World) (H : Hp) (a : Addr) (ns : List Int), ns.length ≤ n → Only H → SqL (K w.params) H a (ns.map V.int) → sp w [.ref a] H (fun v _ => v = .bl true) fun _ _ _ => False) :
    PySem.W.WalkO q loose XP YP l.row.toRowW d [] (fun f vs => PySem.call f vs) :=
  Att.attach_call hn hdf fun w s₀ s mg mb fa o pm cd doc a vs ns G Y ho hd hcd hmg hobj hints hlen hg =>
    law_G (hY w _ Y) G.T.g G.T.b G.T.builtins G.T.nolimit hg hobj hints (Nat.le_trans hlen hn2) hr (F w mg fa _ (hY w _ Y) G.T.g hmg) fun H hO hS => hsp w H a ns hlen hO hS
end Ws

namespace Ws
open PySem PySem.Spec PyProof.Rows L2
/-! ### the law's own call, where defs of the text make lambdas: their tables are tracked from the beginning -/
noncomputable def onlyT (K : PySem.W.Frag) (a : Addr) (o : Obj) (xs : List V) (ts : List Addr) : Hp := fun b => if b ∈ ts then some (.tbl #[]) else only1 K a o xs b
/-- what is known of the code object at c and its table at T -/
structure TabF (K : PySem.W.Frag) (h : Heap) (p : Addr × Addr) : Prop where
  at_ : h.get? p.2 = some (PySem.W.tabObj #[])
  out : K.lookup p.2 = none
  code : PySem.W.CodeHd h p.1 p.2
theorem law_GT {P : Program} {w : World} {K : PySem.W.Frag} {mg mb : Str → Option Value} {k : Nat} {fa a : Addr} {sp : Sp} {s : Shared} {vs : List Value} {ns : List Int} {tb : List (Addr × Addr)}
    (inS : K.In s.heap) (hm : s.heap.Ns mainGlobals mg) (hb : s.heap.Ns builtinsNs mb) (bb : ∀ x : Str, x ≠ "__name__" → mb x = bootBuiltins x) (free : s.heap.NoLimit) (hg : s.gens = #[])
    (tf : ∀ p ∈ tb, TabF K s.heap p) (own : ∃ (m : Addr) (o : Obj), mg "__builtins__" = some (.ref m) ∧ m ≠ builtinsNs ∧ s.heap.get? m = some o ∧ o.cls = .type "module" ∧ o.dict = some builtinsNs ∧ o.data = .plain)
    (ha : s.heap.get? a = some { cls := .type "list", data := .seq vs.toArray }) (hi : IntsAre vs ns) (hl : ns.length ≤ sizeLine) (hr : Room k callerA)
    (F : ∀ base : Heap, K.In base → base.Ns mainGlobals mg → (∀ p ∈ tb, LamX.TabB base mg p.1 p.2) → FnG P w K mg base CX0 k fa sp)
    (hsp : ∀ H : Hp, (∀ p ∈ tb, H p.2 = some (.tbl #[])) → SqL K H a (ns.map V.int) → sp [.ref a] H (fun v _ => v = .bl true) fun _ _ _ => False) :
    codeAny (model P w) callerA (.call (.ref fa) ⟨[.ref a], []⟩) (fun r s' => r = .ok (.ret (.bool true)) ∧ OldK s.heap s'.heap ∧ s'.os = s.os ∧ AllBare s'.gens) s := by
  let ob : Obj := { cls := .type "list", data := .seq vs.toArray }
  let ts : List Addr := tb.map Prod.snd
  let H : Hp := onlyT K a ob (ns.map V.int) ts
  have isT : ∀ t, t ∈ ts → s.heap.get? t = some (PySem.W.tabObj #[]) := fun t ht => let ⟨p, hp, e⟩ := List.mem_map.mp ht; e ▸ (tf p hp).at_
  have na : a ∉ ts := fun z => by
    have q := (isT a z).symm.trans ha
    cases (show Data.fields #[] = Data.seq vs.toArray _ from congrArg Obj.data (Option.some.inj q))
  have inT : ∀ p ∈ tb, p.2 ∈ ts := fun p hp => List.mem_map.mpr ⟨p, hp, rfl⟩
  have hH : ∀ b u, H b = some u → (b ∈ ts ∧ u = .tbl #[]) ∨ (b ∉ ts ∧ b = a ∧ K.lookup a = none ∧ u = .frz ob (.lst (ns.map V.int))) := by
    intro b u e
    by_cases ht : b ∈ ts
    · have e1 : some (HO.tbl #[]) = some u := (if_pos ht).symm.trans e
      exact .inl ⟨ht, (Option.some.inj e1).symm⟩
    · have e1 : only1 K a ob (ns.map V.int) b = some u := (if_neg ht).symm.trans e
      unfold only1 at e1
      by_cases hba : b = a
      · rw [if_pos hba] at e1
        cases hk : K.lookup a with
        | some _ => rw [hk] at e1; cases e1
        | none => rw [hk] at e1; exact .inr ⟨ht, hba, rfl, (Option.some.inj e1).symm⟩
      · rw [if_neg hba] at e1; cases e1
  have rv := vals_ints hi
  have here : SqL K H a (ns.map V.int) := by
    cases hk : K.lookup a with
    | none =>
      refine .inl (.inr ⟨ob, ?_⟩)
      show (if a ∈ ts then _ else only1 K a ob (ns.map V.int) a) = _
      rw [if_neg na]
      unfold only1
      rw [if_pos rfl, hk]
    | some o =>
      have e := inS a o hk
      rw [ha] at e
      cases e
      exact .inr ⟨_, vs.toArray, _, hk, rfl, rfl, rfl, by rw [List.size_toArray, hi.length]; exact hl, by simpa using rv⟩
  have ok : HOk P w H s.heap := fun b u e => by
    rcases hH b u e with ⟨ht, rfl⟩ | ⟨_, rfl, _, rfl⟩
    · exact isT b ht
    · exact ⟨ha, by rw [List.length_map]; exact hl, vs, _, rv, ha⟩
  -- what is no list and no table is not tracked
  have off : ∀ {b : Addr} {o : Obj}, s.heap.get? b = some o → (∀ x n, o.data = .seq x n → False) → (o.data = .fields #[] → False) → H b = none := fun {b o} e h1 h2 => by
    cases q : H b with
    | none => rfl
    | some u =>
      rcases hH b u q with ⟨ht, _⟩ | ⟨_, rfl, _, _⟩
      · exact (h2 (congrArg Obj.data (Option.some.inj (e.symm.trans (isT b ht))))).elim
      · exact (h1 _ _ (congrArg Obj.data (Option.some.inj (e.symm.trans ha)))).elim
  have low : ∀ {b : Addr} {o : Obj}, s.heap.get? b = some o → H b = none → (hidT s.heap H).get? b = some o := fun e n => hidT_get e n
  have lowD : ∀ {b : Addr} {m : Str → Option Value}, s.heap.Ns b m → (hidT s.heap H).Ns b m := fun {b m} ⟨o, es, ep, e, d, r⟩ =>
    ⟨o, es, ep, low e (off e (fun x n z => nomatch d.symm.trans z) fun z => nomatch d.symm.trans z), d, r⟩
  have inB : K.In (hidT s.heap H) := fun b o e => low (inS b o e) (by
    cases q : H b with
    | none => rfl
    | some u =>
      rcases hH b u q with ⟨ht, _⟩ | ⟨_, rfl, n, _⟩
      · obtain ⟨p, hp, ep⟩ := List.mem_map.mp ht
        have n := (tf p hp).out
        rw [show p.2 = b from ep, e] at n
        cases n
      · rw [n] at e
        cases e)
  have TB : ∀ p ∈ tb, LamX.TabB (hidT s.heap H) mg p.1 p.2 := fun p hp => by
    have tp := (tf p hp).at_
    refine ⟨?_, ?_, fun z => ?_⟩
    · obtain ⟨o, us, f1, f2, f3, f4, f5, f6, f7, e, c, d, c11, rest⟩ := (tf p hp).code
      exact ⟨o, us, f1, f2, f3, f4, f5, f6, f7, low e (off e (fun x n z => nomatch d.symm.trans z) fun z => by
        cases d.symm.trans z
        simp at c11), c, d, c11, rest⟩
    · obtain ⟨m, o, b1, b2, b3, b4, b5, b6⟩ := own
      refine ⟨m, o, b1, b2, fun q => ?_, fun q => ?_, low b3 (off b3 (fun x n z => nomatch b6.symm.trans z) fun z => nomatch b6.symm.trans z), b4, b5, b6⟩
      · obtain ⟨o', es, ep, e, d, _⟩ := hm
        rw [← q, b3] at e
        cases e
        exact nomatch b6.symm.trans d
      · rw [q, tp] at b3
        cases b3
        cases b6
    · obtain ⟨o', es, ep, e, d, _⟩ := hm
      rw [z, tp] at e
      cases e
      cases d
  have M : Mod K mg (hidT s.heap H) := ⟨inB, lowD hm, ⟨mb, lowD hb, bb⟩, let ⟨mc, h1, h2⟩ := free; ⟨mc, lowD h1, h2⟩⟩
  have e0 : Env0 P w K mg (hidT s.heap H) callerA [] s H := ⟨rfl, M, fun b o e => of_hidT e, Nat.le_of_eq (hidT_size _ _), trivial, fun b z => absurd (show b ∈ ([] : List Addr) from z) (by simp), ok, .of_eq hg⟩
  refine codeAny_mono (F _ inB (lowD hm) TB callerA [] s H [.ref a] [.ref a] _ _ rfl hr e0 (.cons rfl .nil) (hsp H (fun p hp => if_pos (inT p hp)) here)) fun r s' h => ?_
  cases r with
  | error e => exact h.elim
  | ok fl =>
    cases fl with
    | next => exact h.elim
    | brk => exact h.elim
    | cont => exact h.elim
    | ret u =>
      obtain ⟨v, H', os, bare, un, ok', r', q⟩ := h
      cases (show v = V.bl true from q)
      cases (show u = Value.bool true from r')
      have grown : ∀ t, t ∈ ts → ∃ more : Array Value, s'.heap.get? t = some (PySem.W.tabObj more) := fun t ht => by
        obtain ⟨more, z⟩ := un.tbls t #[] (if_pos ht)
        exact ⟨_, ok' t _ z⟩
      have same : ∀ b o, b ∉ ts → s.heap.get? b = some o → s'.heap.get? b = some o := fun b o nt e => by
        cases z : H b with
        | none => exact un.keep b o e z (fun y => absurd (show b ∈ ([] : List Addr) from y) (by simp)) (by simp)
        | some u =>
          rcases hH b u z with ⟨ht, _⟩ | ⟨_, rfl, _, rfl⟩
          · exact (nt ht).elim
          · exact e ▸ (show s'.heap.get? b = s.heap.get? b from ((ok' b _ (un.frzs b _ _ z)).1).trans ha.symm)
      refine ⟨rfl, ⟨fun b o e => ?_, fun b o e => ?_⟩, os, bare⟩
      · by_cases ht : b ∈ ts
        · obtain ⟨p, hp, ep⟩ := List.mem_map.mp ht
          obtain ⟨more, z⟩ := grown b ht
          cases (show p.2 = b from ep)
          have q := (tf p hp).at_
          cases e.symm.trans q
          exact .inr (.inl ⟨((tf p hp).code.tab q).isCodeTable, rfl, #[], more, rfl, by rw [Array.empty_append]; exact z⟩)
        · exact .inl (same b o ht e)
      · by_cases ht : b ∈ ts
        · obtain ⟨more, z⟩ := grown b ht
          exact ⟨_, z⟩
        · exact ⟨o, same b o ht e⟩
/-- the goal behind the top, from the law's promise, with tables -/
theorem walk_GT {l : PySem.W.OpenLaw} {n k : Nat} {q : Program} {loose : List Str} {XP : (Str → Option Value) → Heap → Prop} {YP : World → Heap → Prop} {d : DefRec} {K : Params → PySem.W.Frag} {sp : World → Sp} {tb : List (Addr × Addr)}
    (hn : l.most = some n) (hn2 : n ≤ sizeLine) (hdf : d.params.defaults = []) (hr : Room k callerA) (hY : ∀ (w : World) (h : Heap), YP w h → (K w.params).In h) (hT : ∀ (w : World) (h : Heap), YP w h → ∀ p ∈ tb, TabF (K w.params) h p)
    (F : ∀ (w : World) (mg : Str → Option Value) (fa : Addr) (h : Heap), (K w.params).In h → h.Ns mainGlobals mg → mg d.name = some (.ref fa) → ∀ base : Heap, (K w.params).In base → base.Ns mainGlobals mg → (∀ p ∈ tb, LamX.TabB base mg p.1 p.2) → FnG l.prog w (K w.params) mg base CX0 k fa (sp w))
    (hsp : ∀ (w : World) (H : Hp) (a : Addr) (ns : List Int), ns.length ≤ n → (∀ p ∈ tb, H p.2 = some (.tbl #[])) → SqL (K w.params) H a (ns.map V.int) → sp w [.ref a] H (fun v _ => v = .bl true) fun _ _ _ => False) :
    PySem.W.WalkO q loose XP YP l.row.toRowW d [] (fun f vs => PySem.call f vs) :=
  Att.attach_call hn hdf fun w s₀ s mg mb fa o pm cd doc a vs ns G Y ho hd hcd hmg hobj hints hlen hg =>
    law_GT (hY w _ Y) G.T.g G.T.b G.T.builtins G.T.nolimit hg (hT w _ Y) G.T.bmain hobj hints (Nat.le_trans hlen hn2) hr (F w mg fa _ (hY w _ Y) G.T.g hmg) fun H hO hS => hsp w H a ns hlen hO hS
end Ws

namespace Ws
open PySem PySem.W PySem.Calls PyProof.Rows
/-- what a class with an own __eq__ and no __ne__ must be -/
structure NeC (K : Frag) (C : Addr) : Prop where
  ne : findIn K (.ref C) "__ne__" = some (some (.builtin "object.__ne__"))
  obj : ∃ (nm q : Str) (N : Addr) (bs bm : List Value) (hd : Bool) (sn : List Str) (sub : List Value) (ab : Bool) (col : Option Bool) (dd : Option Addr) (k0 k1 k2 k3 k5 : Option Value) (nid : String),
    K.lookup C = some (excClassObj nm q C N bs bm hd sn sub ab col dd k0 k1 k2 k3 k5 nid) ∧ bm.contains (.type "object") = true
section
variable {prog : Program} {w : World} {A : Around} {E : Value → Shared → Prop} {s : Shared} {K : Frag} {x C L f : Addr} {h₀ : Heap} {m : Str → Option Value} {ox : Obj} {od : Option Obj} {b tb : Value}
theorem ifBound_B {M : Model} {args : List Value} {Q : Option Value → Shared → Prop} (X : K.In s.heap) (I : InstAt s.heap x ox C od) (hs : findIn K (.ref C) "__ne__" = some (some (.builtin "object.__ne__")))
    (h : wpAny M A (call (.builtin "object.__ne__") (.ref x :: args)) (fun v => Q (some v)) E s) : wpAny M A (callSpecialIfBound? (.ref x) "__ne__" args) Q E s := by
  simp only [callSpecialIfBound?, bindSpecialIfBound?]
  refine wpAny_holding (wpAny_bind (wpAny_bind (wpAny_bind (I.type.here ((looks_findIn X hs).here ?_)))))
  dsimp only
  simp only [PySem.F.cmp_object.ne.bind]
  have fin : wpAny M A (call (.builtin "object.__ne__") ([.ref x] ++ args) >>= fun v => pure (some v)) Q E s := wpAny_bind (wpAny_mono h (fun v s' h' => wpAny_pure h') fun _ _ h' => h')
  refine wpAny_bind (wpAny_askSetting (wpAny_ite ?_))
  split
  · exact wpAny_bind (wpAny_pure (wpAny_pure (by exact fin)))
  · exact wpAny_tryCatch (wpAny_bind (wpAny_pure (wpAny_pure (by exact fin))))
theorem objNe_K (hu : A.units < cLine) (X : K.In s.heap) (I : InstAt s.heap x ox C od) (hs : findIn K (.ref C) "__eq__" = some (some (.ref f))) (hf : isFn K (.ref f) = true) {Q : Fin → Shared → Prop}
    (hcall : wpAny (model prog w) A (call (.ref f) [.ref x, b]) (fun v s' => ∃ r, v = .bool r ∧ Q (.done (.ret (.bool (!r)))) s') E s) : wpAny (model prog w) A (Builtin.«object.__ne__» ⟨[.ref x, b], []⟩) Q E s := by
  obtain ⟨h, g, d, t, os⟩ := s
  unfold Builtin.«object.__ne__»
  repeat (first
    | with_reducible refine wpAny_cRoomFor hu ?_
    | (refine wpAny_bind (m := callSpecialIfBound? (.ref x) (Str.ofString "__eq__") [b])
        (ifBound_K X I hs hf (wpAny_mono hcall (fun r s' hr => by
          obtain ⟨r, rfl, hq⟩ := hr
          repeat (first | exact hq | exact wpAny_pure hq | exact wpAny_truthy_bool hq | (refine wpAny_bind (m := truthy (.bool _)) (wpAny_truthy_bool ?_)) | wp_step)) fun _ _ e => e)))
    | wp_step)
theorem ne_K (N : NeC K C) (hu : A.units + 1 < cLine) (F : Fr h₀ L s.heap m) (X₀ : K.In h₀) (I : InstAt s.heap x ox C od) (hb : Looks (model prog w) s.heap (typeOf b) tb) (hn : notFirst K C tb = true)
    (hs : findIn K (.ref C) "__eq__" = some (some (.ref f))) (hf : isFn K (.ref f) = true) {Q : Value → Shared → Prop}
    (h : wpAny (model prog w) A.in1 (call (.ref f) [.ref x, b]) (fun v s' => ∃ r, v = .bool r ∧ Q (.bool (!r)) s') E s) : wpAny (model prog w) A (compareOp .NotEq (.ref x) b) Q E s := by
  have X := X₀.keeps F.keep
  obtain ⟨hne, nm, q, N, bs, bm, hd, sn, sub, ab, col, dd, k0, k1, k2, k3, k5, nid, hC, hbm⟩ := N
  have one : wpAny (model prog w) A (tryCompare (.ref x) "__ne__" b) (fun r s' => ∃ v, r = some v ∧ Q v s') E s := by
    unfold tryCompare
    refine wpAny_bind (ifBound_B X I hne (wpAny_call (codeAny_call_builtin PySem.F.cmp_object.ne.plain PySem.F.cmpEntry_ne ?_)))
    obtain ⟨hh, g, d, t, os⟩ := s
    refine wpAny_check_slot_inst PySem.F.cmpKind_ne PySem.F.cmpSplit_ne (PySem.F.cmpArgs_ne _ _) hbm I.at_ I.cls (X _ _ hC) ?_
    refine objNe_K (A := A.in1) (Nat.lt_of_succ_lt_succ (Nat.succ_lt_succ hu)) X I hs hf (wpAny_mono h (fun v s' hv => ?_) fun _ _ e => e)
    obtain ⟨r, rfl, hq⟩ := hv
    first
      | exact ⟨r, rfl, wpAny_pure ⟨_, rfl, hq⟩⟩
      | exact ⟨r, rfl, wpAny_pure (wpAny_pure ⟨_, rfl, hq⟩)⟩
  show wpAny (model prog w) A (richCompare .NotEq (.ref x) b) Q E s
  unfold richCompare
  simp only [oneThing_ref]
  refine wpAny_holding (wpAny_bind (wpAny_cRoomFor (Nat.lt_of_succ_lt hu) ?_))
  rw [cmpInfo_NotEq]
  dsimp only
  refine wpAny_bind (I.type.here (wpAny_bind (hb.here ?_)))
  split
  · rename_i q
    have e : subIn K tb (.ref C) = some false := by
      rcases Bool.or_eq_true_iff.mp hn with e | e
      · rw [beq_iff_eq.mp e] at q; simp at q
      · exact beq_iff_eq.mp e
    refine wpAny_bind ((looks_subIn X e).here ?_)
    simp only [Bool.false_eq_true, if_false]
    refine wpAny_bind (wpAny_mono one (fun r s' z => ?_) fun _ _ e => e)
    obtain ⟨v, rfl, hq⟩ := z
    exact wpAny_pure hq
  · refine wpAny_bind (wpAny_pure ?_)
    simp only [Bool.false_eq_true, if_false]
    refine wpAny_bind (wpAny_mono one (fun r s' z => ?_) fun _ _ e => e)
    obtain ⟨v, rfl, hq⟩ := z
    exact wpAny_pure hq
end
end Ws
namespace Ws
open PySem PySem.Spec PyProof.Rows L2
section
variable {X : Cx} {k j : Nat} {C : Addr} {sp : Sp}
/-- the callee runs one call further in -/
theorem run_in1 {f : Addr} {pins : List (Addr × Obj)} {σ : L2.St} {H : Hp} {s : Shared} {Q : VK} {us : List Value} {vs : List V} {Ex : Value → Shared → Prop} (F : FnR X.prog X.w X.K X.mg X.base CX0 k f sp) (hr : Room (k + 1) X.A) (I : Inv X pins σ H s) (r : Vals vs us) (h : sp vs H Q E0) :
    wpAny (model X.prog X.w) X.A.in1 (call (.ref f) us) (EP X pins σ Q) Ex s := by
  refine wpAny_call (codeAny_mono (F X.A.in1 X.stack s H us vs Q E0 hr.in1 I.env0.in1 r h) fun r s' hq => ?_)
  cases r with
  | error er => exact hq.elim
  | ok fl =>
    cases fl with
    | ret u => exact I.after hq
    | next => exact False.elim hq
    | brk => exact False.elim hq
    | cont => exact False.elim hq
/-- a != b by a's own __eq__ -/
noncomputable def rNeO (K : PySem.W.Frag) (C : Addr) (sp : Sp) : R2 := fun x y H Q => ∃ a dx fs t, x = .ref a ∧ H a = some (.ins C dx fs) ∧ TyL H y t ∧ PySem.W.notFirst K C t = true ∧ sp [.ref a, y] H (fun v H' => ∃ r, v = .bl r ∧ Q (.bl (!r)) H') E0
theorem op_neO (N : NeC X.K C) (c : OpnF X.prog X.w X.K X.mg X.base k C "__eq__" sp) (hr : Room j X.A) (hk : k + 1 ≤ j) : OpR X (compareOp .NotEq) (rNeO X.K C sp) := by
  obtain ⟨f, h1, h2, F⟩ := c
  intro pins s σ H x y v u Q I rx ry h
  obtain ⟨a, dx, fs, t, rfl, ea, ty, nf, q⟩ := h
  cases (show v = Value.ref a from rx)
  obtain ⟨ox, od, J⟩ := inst_of I ea
  obtain ⟨m, hF⟩ := I.fr
  refine ne_K N (hu_of hr) hF I.ok.mod.kin J (ty.looks I ry) nf h1 h2 ?_
  refine wpAny_mono (run_in1 (us := [.ref a, u]) (vs := [.ref a, y]) F (hr.mono hk) I (.cons rfl (.cons ry .nil)) q) (fun v s' hv => ?_) fun _ _ z => z
  obtain ⟨z, H', I', rz, r, rfl, q'⟩ := hv
  cases (show v = Value.bool r from rz)
  exact ⟨r, rfl, .bl _, H', I', rfl, q'⟩
end
/-- isinstance with a class of one's own, answered no -/
theorem kit_no {K : PySem.W.Frag} {t : Value} {D : Addr} (h1 : PySem.W.isClsIn K D = true) (h2 : PySem.W.typeIn K (.ref D) = some (.type "type")) (h3 : PySem.W.subIn K t (.ref D) = some false) (h4 : t ≠ .ref D) : PySem.W.kitOne K t (.ref D) = some false := by
  have e : (t == Value.ref D) = false := by
    cases h : (t == Value.ref D) with
    | false => rfl
    | true => exact absurd (eq_of_beq h) h4
  have e2 : ((PySem.W.clsIn K D).isSome && PySem.W.typeIn K (.ref D) == some (.type "type")) = true := by
    have h1' : (PySem.W.clsIn K D).isSome = true := h1
    rw [h1', h2] <;> rfl
  unfold PySem.W.kitOne
  rw [e, if_neg Bool.false_ne_true]
  show (if ((PySem.W.clsIn K D).isSome && PySem.W.typeIn K (.ref D) == some (.type "type")) = true then PySem.W.subIn K t (.ref D) else none) = some false
  rw [if_pos e2, h3]
end Ws

namespace Ws
open PySem PySem.Spec PyProof.Rows L2
/-! ### repr of plain data -/
mutual
/-- data of short numbers and texts of real signs -/
noncomputable def Tdy : PyData → Prop
  | .none => True
  | .bool _ => True
  | .int i => i.natAbs.log2 < 1900
  | .str x => ∀ c ∈ x.cps.toList, c < 16 ^ 8
  | .list xs => TdyA xs
  | .tuple xs => TdyA xs
  | .dict _ => False
noncomputable def TdyA : List PyData → Prop
  | [] => True
  | x :: xs => Tdy x ∧ TdyA xs
end
mutual
theorem Tdy.get : ∀ {d : PyData}, Tdy d → d.showable = true ∧ d.hasDict = false ∧ d.leavesShort 1901 = true
  | .none, _ => ⟨rfl, rfl, rfl⟩
  | .bool _, _ => ⟨rfl, rfl, rfl⟩
  | .int i, h => by
    have h' : i.natAbs.log2 < 1900 := h
    refine ⟨?_, rfl, ?_⟩
    · simp only [PyData.showable, decide_eq_true_eq]; omega
    · show decide ((Str.ofString (toString i)).length ≤ 1901) = true
      rw [decide_eq_true_eq, PySem.ofString_length]
      exact int_text_length_le (by decide) h'
  | .str x, h => ⟨rfl, rfl, by simp only [PyData.leavesShort, List.all_eq_true, decide_eq_true_eq]; exact h⟩
  | .list xs, h => by
    obtain ⟨a, b, c⟩ := TdyA.get (xs := xs) h
    exact ⟨by simpa only [PyData.showable] using a, by simpa only [PyData.hasDict] using b, by simpa only [PyData.leavesShort] using c⟩
  | .tuple xs, h => by
    obtain ⟨a, b, c⟩ := TdyA.get (xs := xs) h
    exact ⟨by simpa only [PyData.showable] using a, by simpa only [PyData.hasDict] using b, by simpa only [PyData.leavesShort] using c⟩
  | .dict _, h => False.elim h
theorem TdyA.get : ∀ {xs : List PyData}, TdyA xs → PyData.showableAll xs = true ∧ PyData.hasDictAll xs = false ∧ PyData.leavesShortAll 1901 xs = true
  | [], _ => ⟨rfl, rfl, rfl⟩
  | x :: xs, h => by
    obtain ⟨h1, h2⟩ := (show Tdy x ∧ TdyA xs from h)
    obtain ⟨a, b, c⟩ := Tdy.get h1
    obtain ⟨d, e, f⟩ := TdyA.get h2
    exact ⟨by simp only [PyData.showableAll, a, d, Bool.and_self], by simp only [PyData.hasDictAll, b, e, Bool.or_self], by simp only [PyData.leavesShortAll, c, f, Bool.and_self]⟩
end
/-- a value that is shown -/
noncomputable def Shw (K : PySem.W.Frag) (H : Hp) (x : V) (d : PyData) : Prop := Dp K H x d ∧ Tdy d ∧ d.bulk ≤ 8000 ∧ d.depth ≤ 60
section
variable {X : Cx}
noncomputable def rRep (K : PySem.W.Frag) : List V → Hp → VK → Prop := fun xs H Q => ∃ a d, xs = [V.ref a] ∧ Shw K H (.ref a) d ∧ Q (.str d.shown) H
theorem call_rep {j : Nat} (cl : X.A.guards = some []) (hr : Room j X.A) : CallR X (.builtin "repr") (rRep X.K) := by
  intro pins s σ H xs us Q I r h
  obtain ⟨a, d, rfl, ⟨dp, ty, bk, de⟩, q⟩ := h
  obtain ⟨u, rfl, ru⟩ := vals1 r
  cases (show u = Value.ref a from ru)
  obtain ⟨as, rd⟩ := Dp.reads I d _ _ dp rfl
  obtain ⟨sh, nd, sl⟩ := ty.get
  have sz := PyData.shown_le_bulk 1901 (by decide) d sl
  have sz2 : d.shown.length ≤ sizeLine := by
    have : sizeLine = 16777216 := by decide
    have : (1901 + 2) * d.bulk ≤ 1903 * 8000 := Nat.mul_le_mul (by decide) bk
    omega
  refine repr_of_reads' rd sh (PyData.noDict_hsm nd) cl ?_ (fun _ _ e => e) (fun h' u tk hk => ⟨.str d.shown, H, I.kept hk, ⟨u, rfl⟩, q⟩) sz2
  have := hr.un
  omega
end
end Ws
namespace Ws
open PySem PySem.Spec PyProof.Rows L2
section
variable {X : Cx} {j k : Nat} {C : Addr} {sp : Sp}
/-- abs(a) by a's own __abs__ -/
theorem call_absO (c : OpnF X.prog X.w X.K X.mg X.base k C "__abs__" sp) (hr : Room j X.A) (hk : k + 1 ≤ j) : CallR X (.builtin "abs") (fun xs H Q => ∃ a dx fs, xs = [V.ref a] ∧ H a = some (.ins C dx fs) ∧ sp [.ref a] H Q E0) := by
  obtain ⟨f, h1, h2, F⟩ := c
  intro pins s σ H xs us Q I r h
  obtain ⟨a, dx, fs, rfl, ea, q⟩ := h
  obtain ⟨u, rfl, ru⟩ := vals1 r
  cases (show u = Value.ref a from ru)
  obtain ⟨ox, od, J⟩ := inst_of I ea
  refine Calls.call_function_entry kind_abs plain_abs entry_abs (args_abs _) ?_
  unfold Builtin.«abs»
  refine wpAny_bind (m := oneArg "abs" _) (wpAny_pure ?_)
  refine wpAny_bind (PySem.W.special_fn I.kIn J h1 (beq_iff_eq.mp h2) (wpAny_mono (run_in1 (us := [.ref a]) (vs := [.ref a]) F (hr.mono hk) I (.cons rfl .nil) q) (fun v s' hv => ?_) fun _ _ z => z))
  exact wpAny_pure ⟨_, rfl, hv⟩
end
end Ws
namespace Ws
open PySem PySem.Spec PyProof.Rows L2
section
variable {prog : Program} {w : World}
theorem bool_new_own {x : Addr} : MeetsIn prog w (Builtin.«bool.__new__» ⟨[.type "bool", .ref x], []⟩) (fun A R s => wpAny (model prog w) A.in1 (truthy (.ref x)) (fun b s' => R (.ok (.ret (.bool b))) s') (fun e s' => R (.error e) s') s) :=
  .of_wp fun A R s h => by
    have f1 := F.conv_sub_bool
    unfold Builtin.«bool.__new__»
    repeat (first
      | assumption
      | (refine wpAny_bind (m := truthy (.ref x)) (wpAny_mono h (fun b s' q => ?_) fun _ _ z => z))
      | wp_step)
    all_goals first | exact q | exact ⟨_, rfl, q⟩ | skip
theorem run_in2 {X : Cx} {k : Nat} {sp : Sp} {f : Addr} {pins : List (Addr × Obj)} {σ : L2.St} {H : Hp} {s : Shared} {Q : VK} {us : List Value} {vs : List V} {Ex : Value → Shared → Prop} (F : FnR X.prog X.w X.K X.mg X.base CX0 k f sp) (hr : Room (k + 2) X.A) (I : Inv X pins σ H s) (r : Vals vs us) (h : sp vs H Q E0) :
    wpAny (model X.prog X.w) X.A.in1.in1 (call (.ref f) us) (EP X pins σ Q) Ex s := by
  refine wpAny_call (codeAny_mono (F X.A.in1.in1 X.stack s H us vs Q E0 (Room.in1 (Room.in1 hr)) I.env0.in1.in1 r h) fun r s' hq => ?_)
  cases r with
  | error er => exact hq.elim
  | ok fl =>
    cases fl with
    | ret u => exact I.after hq
    | next => exact False.elim hq
    | brk => exact False.elim hq
    | cont => exact False.elim hq
section
variable {X : Cx} {j k : Nat} {C : Addr} {sp : Sp}
/-- bool(a) by a's own __bool__ -/
theorem call_boolO (c : OpnF X.prog X.w X.K X.mg X.base k C "__bool__" sp) (hr : Room j X.A) (hk : k + 2 ≤ j) : CallR X (.type "bool") (fun xs H Q => ∃ a dx fs, xs = [V.ref a] ∧ H a = some (.ins C dx fs) ∧ sp [.ref a] H (fun v H' => ∃ b, v = .bl b ∧ Q (.bl b) H') E0) := by
  obtain ⟨f, h1, h2, G⟩ := c
  intro pins s σ H xs us Q I r h
  obtain ⟨a, dx, fs, rfl, ea, q⟩ := h
  obtain ⟨u, rfl, ru⟩ := vals1 r
  cases (show u = Value.ref a from ru)
  obtain ⟨ox, od, J⟩ := inst_of I ea
  obtain ⟨m, hF⟩ := I.fr
  refine callType_newIn PySem.F.called_bool PySem.F.newNe_bool (PySem.F.typeCall_bool_1 _) (PySem.F.newCall_bool_1 _) (fun obj => PySem.F.args_object_init_2 obj _) PySem.F.entry_bool_new bool_new_own ?_
  refine PySem.W.truthy_K hF I.ok.mod.kin J h1 h2 (wpAny_mono (run_in2 (us := [.ref a]) (vs := [.ref a]) G (hr.mono hk) I (.cons rfl .nil) q) (fun r s' hv => ?_) fun _ _ z => z)
  obtain ⟨y, H', I', ry, b, rfl, qb⟩ := hv
  cases (show r = Value.bool b from ry)
  exact ⟨rfl, .bl b, H', I', rfl, qb⟩
end
end
end Ws

namespace Ws
open PySem PySem.Spec PyProof.Rows L2
/-! ### an own error, caught and kept in a variable behind the suite -/
/-- at a: an error of the class cls, its dict at d -/
noncomputable def Kx (cls : Value) (d : Option Addr) (a : Addr) : HO := .ext fun h => ∃ (oe : Obj) (vs : Array Value), h.get? a = some oe ∧ Zc cls d oe ∧ oe.data = .fields vs
theorem kx_ok {P : Program} {w : World} {H : Hp} {h : Heap} {a : Addr} {cls : Value} {d : Option Addr} {oe : Obj} {vs : Array Value} (e : h.get? a = some oe) (z : Zc cls d oe) (hd : oe.data = .fields vs) : ObjOk P w H h a (Kx cls d a) :=
  ⟨⟨oe, vs, e, z, hd⟩, ⟨oe, e⟩, fun _ _ ⟨o, v, q, r⟩ k => ⟨o, v, k o q, r⟩⟩
theorem kx_at {P : Program} {w : World} {H : Hp} {h : Heap} {a : Addr} {cls : Value} {d : Option Addr} (ok : HOk P w H h) (e : H a = some (Kx cls d a)) : ∃ (oe : Obj) (vs : Array Value), h.get? a = some oe ∧ Zc cls d oe ∧ oe.data = .fields vs := by
  have x : ObjOk P w H h a (.ext fun h => ∃ (oe : Obj) (vs : Array Value), h.get? a = some oe ∧ Zc cls d oe ∧ oe.data = .fields vs) := ok a _ e
  exact x.1
section
variable {X : Cx} {pins : List (Addr × Obj)} {σ : L2.St} {H : Hp} {s : Shared}
/-- an object that is pinned, and new since the entry, is tracked from here on -/
theorem track {a : Addr} {oe : Obj} {vs : Array Value} {o : HO} (I : Inv X ((a, oe) :: pins) σ H s) (new : X.s_0.heap.get? a = none) (off : ∀ p ∈ X.pn ++ pins, p.1 ≠ a) (hd : oe.data = .fields vs) (ob : ObjOk X.prog X.w (upd H a o) s.heap a o) : Inv X pins σ (upd H a o) s := by
  obtain ⟨ha, na, nL, nF, _⟩ := I.pin (a, oe) (List.mem_append_right _ List.mem_cons_self)
  have was : ∀ {b : Addr} {u : HO}, H b = some u → b ≠ a := fun {b u} e z => by rw [z, na] at e; cases e
  have old : ∀ {b : Addr} {u : Obj}, X.s_0.heap.get? b = some u → b ≠ a := fun {b u} e z => by rw [z, new] at e; cases e
  refine ⟨I.ok, I.os, I.bare, ⟨I.base.keep, I.base.slot, fun b u e n x => (upd_ne (old e)).trans (I.base.free b u e n x), I.base.there, fun b xs e => ?_, fun b u v e => ?_, fun b ps e => ?_⟩, I.loc, I.cell, (upd_ne (Ne.symm nL)).trans I.free, fun x c e => ?_, fun p hp => ?_, fun b u e => ?_, I.len⟩
  · have q := I.base.tups b xs e
    exact (upd_ne (was q)).trans q
  · have q := I.base.frzs b u v e
    exact (upd_ne (was q)).trans q
  · obtain ⟨m, q⟩ := I.base.tbls b ps e
    exact ⟨m, (upd_ne (was q)).trans q⟩
  · refine (upd_ne fun z => ?_).trans (I.freeC x c e)
    obtain ⟨v, oc, e1, e2⟩ := I.cell x c e
    rw [z, ha] at e1
    cases e1
    rw [hd] at e2
    cases e2
  · have hp' : p ∈ X.pn ++ ((a, oe) :: pins) := by
      rcases List.mem_append.mp hp with h | h
      · exact List.mem_append_left _ h
      · exact List.mem_append_right _ (List.mem_cons_of_mem _ h)
    obtain ⟨q1, q2, q3⟩ := I.pin p hp'
    exact ⟨q1, (upd_ne (off p hp)).trans q2, q3⟩
  · by_cases hb : b = a
    · subst hb
      rw [upd_same] at e
      cases e
      exact ob
    · rw [upd_ne hb] at e
      exact (I.hok b u e).stay (fun c v _ q => q) (fun c q => (upd_ne (was q)).trans q) fun c xs q => (upd_ne (was q)).trans q
end
/-- the wish of a try whose clause keeps what it catches: slot i is the clause's name -/
noncomputable def wKeep (K : PySem.W.Frag) (c : Value) (i : Nat) (ts : Addr → Value → Option Addr → TS) (D : Ends) : WX := fun cls d σ H =>
  PySem.W.exmOne K cls c = some true ∧ ∀ a, H a = none → ts a cls d { nx := fun σ' H' => D.nx (σ'.set i none) (upd H' a (Kx cls d a)), rt := fun _ _ => False } (σ.set i (some (.ref a))) H
section
variable {X : Cx} {x n : Str} {c : Value} {i : Nat} {body suite : List Stmt} {b0 : Stmt} {np pos pos' : Pos} {tb : WX → TS} {ts : Addr → Value → Option Addr → TS}
theorem ps_keep (hs : X.stack = X.env :: X.outer) (hf : X.env.frame = some X.env.locals) (hex : X.ex = []) (hN : X.N.Nodup) (hi : X.N[i]? = some n) (hln : X.env.kindOf n = some .local) (hc : Names X x c)
    (hb : ∀ (W : WX) (pn : List (Addr × Obj)) (xe : Value → Shared → Prop), Takes (X.tr pn xe) W → PassesOwn (model X.prog X.w) X.A X.env xe → PSs (X.tr pn xe) body (tb W))
    (hsu : ∀ (a : Addr) (oe : Obj) (cls : Value) (d : Option Addr) (pn : List (Addr × Obj)), Zc cls d oe → (∃ vs, oe.data = .fields vs) → PSs (X.suite a ((a, oe) :: pn)) (b0 :: suite) (ts a cls d)) :
    PS X (.Try body [.ExceptHandler (some (.Name x np)) (some n) (b0 :: suite) pos'] [] [] pos) (fun D σ H => tb (wKeep X.K c i ts D) D σ H) := by
  refine ⟨fun pins s σ H D I h => wpAny_Try_except ?_⟩
  have ok := I.ok
  have frames : X.A.frames = some (X.env :: X.outer) := ok.frames.trans (congrArg some hs)
  let Ex : Value → Shared → Prop := fun e s₁ => wpAny (model X.prog X.w) X.A (noteFrame e X.env) (fun _ s₂ => wpAny (model X.prog X.w) X.A (setFlight e none) (fun _ s₃ =>
    wpAny (model X.prog X.w) X.A (handleBy e X.env [.ExceptHandler (some (.Name x np)) (some n) (b0 :: suite) pos']) (SP X pins D) X.xe s₃) X.xe s₂) X.xe s₁
  have takes : Takes (X.tr (X.pn ++ pins) Ex) (wKeep X.K c i ts D) := by
    rintro u s' ⟨a, B, sI, pins1, σ1, H1, cls, d, rfl, J0, nb, up, sky, na, os, ag, hex1, suiteOk⟩
    have J : Inv X pins σ1 H1 sI := J0.ofTry ok
    have sky1 : Sky B (X.env :: X.outer) a (Zc cls d) X.env.locals s'.heap := hs ▸ sky
    show wpAny (model X.prog X.w) X.A (noteFrame (.ref a) X.env) _ _ _
    refine Sky.land Zc.steady frames hf sky1 fun hA flA upA => ?_
    have JA : Inv X pins σ1 H1 { s' with heap := hA } := J.landed nb flA.1 (up.trans upA) os ag
    obtain ⟨oA, vA, eA, zA, dA⟩ := flA.there
    have notFrame : a ∉ frs (X.env :: X.outer) := fun hm => by
      obtain ⟨_, o2, e2, hn⟩ := flA.2.2.1.mem hm
      rw [eA] at e2
      cases e2
      exact hn _ dA
    have nL : a ≠ X.env.locals := fun z => notFrame (List.mem_filterMap.mpr ⟨X.env, List.mem_cons_self, by rw [hf, z]⟩)
    have nF : a ∉ X.fs := fun hm => by
      obtain ⟨e, he, q⟩ := List.mem_filterMap.mp hm
      exact notFrame (List.mem_filterMap.mpr ⟨e, List.mem_cons_of_mem _ he, q⟩)
    have freshB : B.get? a = none := flA.2.1
    have freshI : sI.heap.get? a = none := by
      cases q : sI.heap.get? a with
      | none => rfl
      | some o =>
        have z := nb a o q (by rw [hs]; exact notFrame)
        rw [freshB] at z
        cases z
    have fresh0 : X.s_0.heap.get? a = none := by
      cases q : X.s_0.heap.get? a with
      | none => rfl
      | some o =>
        obtain ⟨o2, z⟩ := J.base.there a o q (by rw [hex]; exact fun y => nomatch y)
        rw [freshI] at z
        cases z
    have off : ∀ p ∈ X.pn ++ pins, p.1 ≠ a := fun p hp z => by
      have q := (J.pin p hp).1
      rw [z, freshI] at q
      cases q
    have SA := JA.suite eA dA na nL nF
    refine wpAny_handleBy_cons (codeAny_handlers_test ?_) (by intro q; cases q)
    have LT : PySem.W.Looks (model X.prog X.w) hA (typeOf (.ref a)) cls := fun A Q E s k q => wpAny_typeOf_ref (k _ _ eA) (by rw [zA.1]; exact q)
    have LM := PySem.W.exm_one (M := model X.prog X.w) JA.kIn LT hex1
    have named : ∀ {Q : Value → Shared → Prop} {E : Value → Shared → Prop}, Q c { s' with heap := hA } → wpAny (model X.prog X.w) (X.A.mark (some (.ref a))) (eval (.Name x np) X.env) Q E { s' with heap := hA } := fun {Q E} q => by
      obtain ⟨g1, g2, g3 | ⟨g3, g4, g5⟩⟩ := hc
      · exact ld_glob (X := X.suite a ((a, oA) :: (X.pn ++ pins))) SA g1 g3 q g2
      · exact ld_blt (X := X.suite a ((a, oA) :: (X.pn ++ pins))) SA g1 g3 g4 q g5 g2
    refine named (LM.here (codeAny_handlers_suite_as ?_))
    refine HandSPX.lands_againZ flA fun hB flB upB => ?_
    have JB : Inv X pins σ1 H1 { s' with heap := hB } := J.landed nb flB.1 ((up.trans upA).trans upB) os ag
    obtain ⟨oB, vB, eB, zB, dB⟩ := flB.there
    refine store_ok (X := X.suite a ((a, oB) :: (X.pn ++ pins))) (v := .ref a) (JB.suite eB dB na nL nF) hN hi (.inl hln) rfl (fun s5 S5 => ?_) (.inr hln)
    refine wpAny_mono ((hsu a oB cls d (X.pn ++ pins) zB ⟨_, dB⟩).run [] s5 _ H1 _ S5 (suiteOk a na)) (fun f s6 out => ?_) (fun _ _ z => z.elim)
    cases f with
    | next =>
      obtain ⟨σ6, H6, S6, q6⟩ := out
      have T6 : Inv X ((a, oB) :: pins) σ6 H6 s6 := ⟨ok, S6.os, S6.bare, S6.base, S6.loc, S6.cell, S6.free, S6.freeC, fun p hp => S6.pin p (by
        rw [List.append_nil]
        rcases List.mem_append.mp hp with z | z
        · exact List.mem_cons_of_mem _ (List.mem_append_left _ z)
        · rcases List.mem_cons.mp z with z | z
          · rw [z]; exact List.mem_cons_self
          · exact List.mem_cons_of_mem _ (List.mem_append_right _ z)), S6.hok, S6.len⟩
      refine gone_ok T6 hN hi hln fun s7 J7 => ?_
      have e7 := (J7.pin (a, oB) (List.mem_append_right _ List.mem_cons_self)).1
      exact ⟨_, _, track J7 fresh0 off dB (kx_ok e7 zB dB), q6⟩
    | ret u => obtain ⟨_, _, _, _, _, q6⟩ := out; exact q6.elim
    | brk => obtain ⟨_, _, _, q6⟩ := out; exact False.elim q6
    | cont => obtain ⟨_, _, _, q6⟩ := out; exact False.elim q6
  refine wpAny_mono ((hb (wKeep X.K c i ts D) (X.pn ++ pins) Ex takes PassesOwn.looking).run [] s σ H D (I.toTry _) h) (fun f s1 out => ?_) fun e s1 z => z
  cases f with
  | next => obtain ⟨σ1, H1, J1, q⟩ := out; exact wpAny_execs_nil ⟨σ1, H1, J1.ofTry ok, q⟩
  | ret u => obtain ⟨v, σ1, H1, J1, r, q⟩ := out; exact ⟨v, σ1, H1, J1.ofTry ok, r, q⟩
  | brk => obtain ⟨σ1, H1, J1, q⟩ := out; exact ⟨σ1, H1, J1.ofTry ok, q⟩
  | cont => obtain ⟨σ1, H1, J1, q⟩ := out; exact ⟨σ1, H1, J1.ofTry ok, q⟩
end
end Ws
namespace Ws
open PySem PySem.Spec PyProof.Rows L2
/-! ### calls that may raise, within a try or in a def that lets it out -/
/-- a method whose error is told -/
noncomputable def MetE (P : Program) (w : World) (K : PySem.W.Frag) (mg : Str → Option Value) (base : Heap) (CX : CXT) (k : Nat) (C : Addr) (m : Str) (sp : Sp) : Prop := ∃ f : Addr, Cls K C ∧ Meth K C m f ∧ FnR P w K mg base CX k f sp
/-- a def whose error is told -/
noncomputable def CalE (P : Program) (w : World) (K : PySem.W.Frag) (mg : Str → Option Value) (base : Heap) (CX : CXT) (k : Nat) (x : Str) (sp : Sp) : Prop := ∃ f : Addr, FnR P w K mg base CX k f sp ∧ mg x = some (.ref f) ∧ PySem.W.keepIn K (.ref f) = true
section
variable {X : Cx} {CX : CXT} {k j : Nat} {C f : Addr} {sp : Sp} {E : L2.St → XK} {x m : Str} {p pos apos : Pos} {e o : Expr} {es : List Expr} {ta : TE} {t : TA}
theorem run_S {pins : List (Addr × Obj)} {σ : L2.St} {H : Hp} {s : Shared} {Q : VK} {us : List Value} {vs : List V} (F : FnR X.prog X.w X.K X.mg X.base CX k f sp) (hr : Room k X.A) (hx : PassesAt CX X σ (E σ))
    (I : Inv X pins σ H s) (r : Vals vs us) (h : sp vs H Q (E σ)) : wpAny (model X.prog X.w) X.A (call (.ref f) us) (EP X pins σ Q) X.xe s := by
  refine wpAny_call (codeAny_mono (F X.A X.stack s H us vs Q (E σ) hr I.env0 r h) fun out s' q => ?_)
  cases out with
  | error e => exact hx pins H s e s' I q
  | ok fl => cases fl with
    | ret u => exact I.after q
    | next => exact q.elim
    | brk => exact q.elim
    | cont => exact q.elim
/-- f(e, ..) -/
noncomputable def tFS (sp : Sp) (E : L2.St → XK) (t : TA) : TE := fun σ H Q => t σ H fun vs H1 => sp vs H1 Q (E σ)
theorem pe_fS (c : CalE X.prog X.w X.K X.mg X.base CX k x sp) (hr : Room j X.A) (hk : k ≤ j) (hx : ∀ σ, PassesAt CX X σ (E σ)) (hg : Gl X x) (ha : PA X (e :: es) t) (hdb : (x == ("__debug__" : Str)) = false := by decide)
    (he : starEach (e :: es) X.env = (false, eval e X.env) :: starEach es X.env := by rfl) (hpl : (backTo pos (starEach es X.env)).any (·.1) = false := by rfl) : PE X (.Call (.Name x p) (e :: es) [] pos) (tFS sp E t) := by
  obtain ⟨f, F, hm, hkp⟩ := c
  refine ⟨fun pins s σ H Q I h => ?_⟩
  refine wpAny_Call_Name_kw (ld_glob I hg hm ?_ hdb)
  refine PySem.W.callWith_K (h₀ := X.base) I.ok.mod.kin hkp (thn (ha.run pos pins s σ H _ I h) fun us s1 ⟨vs, H1, I1, r, q⟩ => ⟨I1.kIn, ?_⟩) he hpl
  exact run_S F (hr.mono hk) (hx σ) I1 r q
/-- o.m(e, ..) -/
noncomputable def tMtS (C : Addr) (m : Str) (sp : Sp) (E : L2.St → XK) (ta : TE) (t : TA) : TE := fun σ H Q => ta σ H fun x H1 => ∃ a dx fs, x = .ref a ∧ H1 a = some (.ins C dx fs) ∧ fs.lookup m = none ∧ t σ H1 fun vs H2 => sp (x :: vs) H2 Q (E σ)
theorem pe_mtS {pl : Sem Bool} (c : MetE X.prog X.w X.K X.mg X.base CX k C m sp) (hr : Room j X.A) (hk : k ≤ j) (hx : ∀ σ, PassesAt CX X σ (E σ)) (he : PE X o ta) (ha : PA X (e :: es) t)
    (hst : starEach (e :: es) X.env = (false, eval e X.env) :: starEach es X.env := by rfl) (hpl : (backTo pos (starEach es X.env)).any (·.1) = false := by rfl)
    (ht : eval (.Call (.Attribute o m apos) (e :: es) [] pos) X.env = (do
      let ov ← eval o X.env
      standAt apos.atName
      let (f, first) ← holding [ov] (getMethod ov m pl)
      callWith pos f first (backTo pos (starEach (e :: es) X.env)) (backToKw pos (keywordEach [] X.env))) := by rfl) :
    PE X (.Call (.Attribute o m apos) (e :: es) [] pos) (tMtS C m sp E ta t) := by
  obtain ⟨f, hc, hm, F⟩ := c
  refine ⟨fun pins s σ H Q I h => ?_⟩
  refine PySem.W.methodCall_KW (pl := pl) (thn (he.run pins s σ H _ I h) fun u s1 ⟨x, H1, I1, rx, a, dx, fs, ex, ea, l, q⟩ => ?_) ht
  subst ex
  obtain rfl : u = Value.ref a := rx
  refine getmeth_ok I1 ea hc hm l ?_
  refine PySem.W.callWith_K (first := [.ref a]) (h₀ := X.base) I.ok.mod.kin hm.kp (thn (ha.run pos pins s1 σ H1 _ I1 q) fun us s2 ⟨vs, H2, I2, r, q2⟩ => ⟨I2.kIn, ?_⟩) hst hpl
  exact run_S (us := .ref a :: us) (vs := .ref a :: vs) F (hr.mono hk) (hx σ) I2 (.cons rfl r) q2
/-- C(e, ..), its __init__ may raise -/
noncomputable def tMkS (C : Addr) (sp : Sp) (E : L2.St → XK) (t : TA) : TE := fun σ H Q => t σ H fun vs H1 => ∀ x dx, H1 x = Option.none → H1 dx = Option.none → dx ≠ x → sp (V.ref x :: vs) (upd (upd H1 dx (.own x)) x (.ins C dx [])) (fun v H2 => v = .non ∧ Q (.ref x) H2) (E σ)
end
/-! ### what a kept error is asked -/
/-- an own error class with its own __init__ -/
structure ErrC (K : PySem.W.Frag) (C : Addr) : Prop where
  ga : PySem.W.findIn K (.ref C) "__getattribute__" = some (some (.builtin "BaseException.__getattribute__"))
  gg : PySem.W.findIn K (.ref C) "__getattr__" = some none
  exC : PySem.W.subIn K (.ref C) (.type "BaseException") = some true
  hdC : PySem.W.hasDictIn K C = true
  ca : PySem.W.findIn K (.ref C) "__class__" = some (some (.builtin "object.__class__"))
  hn : PySem.W.specialIn K (.builtin "object.__class__") "__get__" = some (some (.builtin "getset_descriptor.__get__"))
  ht : PySem.W.takesIn K (.builtin "object.__class__") = some true
  hm : PySem.W.mroIn K C (.type "object") = some true
theorem ErrC.isc {K : PySem.W.Frag} {C : Addr} (T : ErrC K C) : (PySem.W.clsIn K C).isSome = true := by
  obtain ⟨cd, hc, _⟩ := PySem.W.any_some T.hdC
  rw [hc]
  rfl
section
variable {X : Cx} {C D : Addr}
theorem kx_inst {pins : List (Addr × Obj)} {σ : L2.St} {H : Hp} {s : Shared} {a d : Addr} {fs : List (Str × V)} (I : Inv X pins σ H s) (e : H a = some (Kx (.ref C) (some d) a)) (ed : H d = some (.xd fs)) :
    ∃ ox od, PySem.W.InstAt s.heap a ox C (some od) ∧ ∀ (f : Str) (v : V), fs.lookup f = some v → ∃ u, PySem.W.lookIn f od = some (some u) ∧ L2.RelV v u := by
  obtain ⟨oe, vs, e1, z, hd⟩ := kx_at I.hok e
  have hx : ObjOk X.prog X.w H s.heap d (.xd fs) := I.hok d _ ed
  obtain ⟨mA, hns, hr⟩ := hx
  obtain ⟨od, ho, hl⟩ := lookIn_ns hns
  refine ⟨oe, od, ⟨e1, z.1, by unfold PySem.W.notCls; rw [hd] <;> rfl, by rw [z.2]; exact ho⟩, fun f v l => ?_⟩
  obtain ⟨u, hu, ru⟩ := RelO.some_of (v := v) (o := mA f) (by rw [← l]; exact hr f)
  exact ⟨u, (hl f).trans (congrArg some hu), ru⟩
/-- caught.f -/
noncomputable def tKx (C : Addr) (f : Str) (te : TE) : TE := fun σ H Q => te σ H fun x H1 => ∃ (a d : Addr) (fs : List (Str × V)) (v : V), x = .ref a ∧ H1 a = some (Kx (.ref C) (some d) a) ∧ H1 d = some (.xd fs) ∧ fs.lookup f = some v ∧ Q v H1
theorem pe_kx {e : Expr} {te : TE} {pos : Pos} {n : Str} (T : ErrC X.K C) (hno : PySem.W.findIn X.K (.ref C) n = some none) (he : PE X e te) (hb : attributeBase e n X.env (eval e X.env) = eval e X.env := by rfl) : PE X (.Attribute e n pos) (tKx C n te) := by
  refine ⟨fun pins s σ H Q I h => attr_of hb (thn (he.run pins s σ H _ I h) fun u s1 out => ?_)⟩
  obtain ⟨y, H1, I1, ry, a, d, fs, v, rfl, ea, ed, l, q⟩ := out
  obtain rfl : u = Value.ref a := ry
  obtain ⟨ox, od, J, look⟩ := kx_inst I1 ea ed
  obtain ⟨v', hv, rv⟩ := look n v l
  exact HandSPX.exc_get I1.kIn J T.ga T.gg T.exC (PySem.W.findObj_own T.hdC hno rfl hv) (handed_of rv) ⟨v, H1, I1.tok _, rv, q⟩
/-- isinstance(caught, D) -/
noncomputable def rKis (K : PySem.W.Frag) : List V → Hp → VK → Prop := fun xs H Q => ∃ (a d C D : Addr) (fs : List (Str × V)) (b : Bool), xs = [.ref a, .ref D] ∧ H a = some (Kx (.ref C) (some d) a) ∧ H d = some (.xd fs) ∧ ErrC K C ∧ PySem.W.kitOne K (.ref C) (.ref D) = some b ∧ Q (.bl b) H
theorem call_kis : CallR X (.builtin "isinstance") (rKis X.K) := by
  intro pins s σ H xs us Q I r h
  obtain ⟨a, d, C, D, fs, b, rfl, ea, ed, T, kk, q⟩ := h
  cases r with
  | cons r1 r2 =>
    cases r2 with
    | cons r2 r3 =>
      cases r3
      cases r1
      cases r2
      obtain ⟨ox, od, J, _⟩ := kx_inst I ea ed
      exact PySem.W.kia_one (PySem.W.kitx_exc T.isc T.ga T.gg T.exC T.ca T.hn T.ht T.hm) I.kIn J kk (fun z => nomatch z) fun tk => ⟨.bl b, H, I.kept (t' := tk) fun _ _ z => z, rfl, q⟩
end
end Ws
namespace Ws
open PySem PySem.Spec PyProof.Rows L2
section
variable {X : Cx} {CX : CXT} {k j : Nat} {C f : Addr} {sp : Sp} {E : L2.St → XK} {x : Str} {p pos : Pos} {e : Expr} {es : List Expr} {t : TA} {fd : FuncData} {ps ks : List Str} {g : List Value → List Value → List Value} {gV : List V → List V → List V}
theorem run_mkS {pins : List (Addr × Obj)} {σ : L2.St} {H : Hp} {s : Shared} {Q : VK} {us : List Value} {vs : List V} (M : Mk X.K C f) (F : FnR X.prog X.w X.K X.mg X.base CX k f sp) (hr : Room (k + 1) X.A) (hx : PassesAt CX X σ (E σ)) (I : Inv X pins σ H s) (r : Vals vs us)
    (h : ∀ x dx, H x = Option.none → H dx = Option.none → dx ≠ x → sp (V.ref x :: vs) (upd (upd H dx (.own x)) x (.ins C dx [])) (fun v H2 => v = .non ∧ Q (.ref x) H2) (E σ)) : wpAny (model X.prog X.w) X.A (call (.ref C) us) (EP X pins σ Q) X.xe s := by
  have now := h (s.heap.objs.size + 1) s.heap.objs.size (I.hok.fresh (Nat.le_succ _)) (I.hok.fresh (Nat.le_refl _)) (Nat.ne_of_lt (Nat.lt_succ_self _))
  have I2 := Inv.made (C := C) I
  refine wpAny_call (make_map (f := f) I.kIn M.makes M.init (beq_iff_eq.mp M.fn) (codeAny_mono (F _ X.stack _ _ (Value.ref (s.heap.objs.size + 1) :: us) (V.ref (s.heap.objs.size + 1) :: vs) _ (E σ) (hr.make C us []) (I2.env0.make C us []) (.cons rfl r) now) fun out s' q => ?_))
  cases out with
  | error e => exact hx pins _ _ e s' I2 q
  | ok fl => cases fl with
    | ret u =>
      obtain ⟨v, H3, I3, rv, ev, q3⟩ := I2.after q
      cases ev
      exact ⟨rv, V.ref (s.heap.objs.size + 1), H3, I3, rfl, q3⟩
    | next => exact q.elim
    | brk => exact q.elim
    | cont => exact q.elim
/-- a class whose __init__ may raise -/
noncomputable def MakE (P : Program) (w : World) (K : PySem.W.Frag) (mg : Str → Option Value) (base : Heap) (CX : CXT) (k : Nat) (x : Str) (C : Addr) (sp : Sp) : Prop := ∃ f : Addr, Mk K C f ∧ FnR P w K mg base CX k f sp ∧ mg x = some (.ref C)
theorem pe_mkS (c : MakE X.prog X.w X.K X.mg X.base CX k x C sp) (hr : Room j X.A) (hk : k + 1 ≤ j) (hx : ∀ σ, PassesAt CX X σ (E σ)) (hg : Gl X x) (ha : PA X (e :: es) t) (hdb : (x == ("__debug__" : Str)) = false := by decide)
    (he : starEach (e :: es) X.env = (false, eval e X.env) :: starEach es X.env := by rfl) (hpl : (backTo pos (starEach es X.env)).any (·.1) = false := by rfl) : PE X (.Call (.Name x p) (e :: es) [] pos) (tMkS C sp E t) := by
  obtain ⟨f, M, F, hm⟩ := c
  refine ⟨fun pins s σ H Q I h => wpAny_Call_Name_kw (ld_glob I hg hm ?_ hdb)⟩
  refine PySem.W.callWith_K (h₀ := X.base) I.ok.mod.kin M.kp (thn (ha.run pos pins s σ H _ I h) fun us s1 ⟨vs, H1, I1, r, q⟩ => ⟨I1.kIn, ?_⟩) he hpl
  exact run_mkS M F (hr.mono hk) (hx σ) I1 r q
/-- no error at all is let out -/
theorem passN {X : Cx} {E : XK} (h : ∀ c d H, ¬ E c d H) : Passes (L2.CX X.prog X.w) X E := fun _ _ _ _ _ _ _ c => by
  obtain ⟨_, _, _, _, _, _, _, _, _, _, _, _, z⟩ := c
  exact (h _ _ _ z).elim
theorem passNS {X : Cx} : ∀ σ, PassesAt (L2.CX X.prog X.w) X σ E0 := fun σ _ _ _ _ _ _ c => by
  obtain ⟨_, _, _, _, _, _, _, _, _, _, _, _, z⟩ := c
  exact z.elim
end
end Ws
namespace Ws
open PySem PySem.Spec PyProof.Rows L2
section
variable {X : Cx} {CX : CXT} {k n : Nat} {C f : Addr} {sp : Sp} {E : L2.St → XK} {x : Str} {p pos : Pos} {e : Expr} {es : List Expr} {kws : List Keyword} {t tk : TA} {fd : FuncData} {ps ks : List Str} {g : List Value → List Value → List Value} {gV : List V → List V → List V}
theorem run_mkKS {pins : List (Addr × Obj)} {σ : L2.St} {H : Hp} {s : Shared} {Q : VK} {us ws : List Value} {vs zs : List V} (M : Mk X.K C f) (F : FnOk X.prog X.w X.K X.mg X.base CX k f fd ps sp) (hr : Room (k + 1) X.A) (hb : KBn X.K fd ps (n + 1) ks g gV) (hx : PassesAt CX X σ (E σ))
    (I : Inv X pins σ H s) (r : Vals vs us) (rz : Vals zs ws) (l1 : vs.length = n) (l2 : zs.length = ks.length)
    (h : ∀ x dx, H x = Option.none → H dx = Option.none → dx ≠ x → sp (gV (.ref x :: vs) zs) (upd (upd H dx (.own x)) x (.ins C dx [])) (fun v H2 => v = .non ∧ Q (.ref x) H2) (E σ)) :
    wpAny (model X.prog X.w) X.A (call (.ref C) us (ks.zip ws)) (EP X pins σ Q) X.xe s := by
  have now := h (s.heap.objs.size + 1) s.heap.objs.size (I.hok.fresh (Nat.le_succ _)) (I.hok.fresh (Nat.le_refl _)) (Nat.ne_of_lt (Nat.lt_succ_self _))
  have I2 := Inv.made (C := C) I
  have all := hb.rel (Paired.cons (show L2.RelV (V.ref (s.heap.objs.size + 1)) (Value.ref (s.heap.objs.size + 1)) from rfl) r) rz
  have len : (Value.ref (s.heap.objs.size + 1) :: us).length = n + 1 := congrArg (· + 1) (r.length.symm.trans l1)
  refine wpAny_call (make_map (f := f) I.kIn M.makes M.init (beq_iff_eq.mp M.fn) (codeAny_mono (F.run _ X.stack _ _ ⟨Value.ref (s.heap.objs.size + 1) :: us, ks.zip ws⟩ (g (Value.ref (s.heap.objs.size + 1) :: us) ws) _ _ (E σ) (hr.make C us (ks.zip ws))
    (I2.env0.make C us (ks.zip ws)) (hb.to _ _ ws I2.kIn len (rz.length.symm.trans l2)) all now) fun out s' q => ?_))
  cases out with
  | error e => exact hx pins _ _ e s' I2 q
  | ok fl => cases fl with
    | ret u =>
      obtain ⟨v, H3, I3, rv, ev, q3⟩ := I2.after q
      cases ev
      exact ⟨rv, V.ref (s.heap.objs.size + 1), H3, I3, rfl, q3⟩
    | next => exact q.elim
    | brk => exact q.elim
    | cont => exact q.elim
/-- C(e, .., k = v, ..), its __init__ may raise -/
noncomputable def tMkKS (C : Addr) (n m : Nat) (sp : Sp) (gV : List V → List V → List V) (E : L2.St → XK) (t tk : TA) : TE := fun σ H Q => t σ H fun vs H1 => tk σ H1 fun zs H2 => vs.length = n ∧ zs.length = m ∧ ∀ x dx, H2 x = Option.none → H2 dx = Option.none → dx ≠ x →
  sp (gV (.ref x :: vs) zs) (upd (upd H2 dx (.own x)) x (.ins C dx [])) (fun v H3 => v = .non ∧ Q (.ref x) H3) (E σ)
theorem pe_mkKS (M : Mk X.K C f) (F : FnOk X.prog X.w X.K X.mg X.base CX k f fd ps sp) (hr : Room (k + 1) X.A) (hg : Gl X x) (hm : X.mg x = some (.ref C)) (hb : KBn X.K fd ps (n + 1) ks g gV) (hx : ∀ σ, PassesAt CX X σ (E σ)) (ha : PA X (e :: es) t) (hkw : PK X kws tk)
    (hall : (backToKw pos (keywordEach kws X.env)).all (·.1.isSome) = true := by rfl) (hks : (backToKw pos (keywordEach kws X.env)).filterMap (·.1) = ks := by rfl) (hdb : (x == ("__debug__" : Str)) = false := by decide)
    (he : starEach (e :: es) X.env = (false, eval e X.env) :: starEach es X.env := by rfl) (hpl : ((backTo pos (starEach (e :: es) X.env)).any (·.1) || (backToKw pos (keywordEach kws X.env)).any (·.1.isNone)) = false := by rfl) :
    PE X (.Call (.Name x p) (e :: es) kws pos) (tMkKS C n ks.length sp gV E t tk) := by
  refine ⟨fun pins s σ H Q I h => wpAny_Call_Name_kw (ld_glob I hg hm ?_ hdb)⟩
  refine PySem.W.callWith_KW (h₀ := X.base) I.ok.mod.kin M.kp hall (thn (ha.run pos pins s σ H _ I h) fun us s1 ⟨vs, H1, I1, r, q⟩ => ?_) hpl he
  refine thn (hkw.run pos pins s1 σ H1 _ I1 q) fun ws s2 ⟨zs, H2, I2, rz, l1, l2, q2⟩ => ⟨I2.kIn, ?_⟩
  rw [hks]
  exact run_mkKS M F hr hb (hx σ) I2 r rz l1 l2 q2
end
/-! ### == of two tuples of the very same items -/
section
variable {X : Cx}
noncomputable def rEqTI (K : PySem.W.Frag) : R2 := fun x y H Q => ∃ (a b : Addr) (xs : List V), x = .ref a ∧ y = .ref b ∧ SqT K H a xs ∧ SqT K H b xs ∧ (∀ v ∈ xs, flatB v = true ∨ ∃ c, v = .ref c) ∧ Q (.bl true) H
theorem eq_item {A : Around} {s : Shared} {v : V} {u u' : Value} (r : L2.RelV v u) (r' : L2.RelV v u') (f : flatB v = true ∨ ∃ c, v = .ref c) : SeqAt.EqAt A s u u' true := by
  rcases f with f | ⟨c, rfl⟩
  · exact eqAt_same r r' f
  · cases (show u = Value.ref c from r)
    cases (show u' = Value.ref c from r')
    exact SeqAt.EqAt.same _
theorem op_eqTI {j : Nat} (hr : Room j X.A) : OpR X (compareOp .Eq) (rEqTI X.K) := by
  intro pins s σ H x y v u Q I rx ry h
  obtain ⟨a, b, xs, rfl, rfl, ha, hb, hf, q⟩ := h
  cases (show v = Value.ref a from rx)
  cases (show u = Value.ref b from ry)
  obtain ⟨us, r1, ⟨o1, e1, c1, n1, d1⟩, _⟩ := I.tuple ha
  obtain ⟨ws, r2, ⟨o2, e2, c2, n2, d2⟩, _⟩ := I.tuple hb
  refine SeqAt.eq_tupleAt (items := us.toArray) (items2 := ws.toArray) (e := fun _ => true) ⟨o1, e1, c1, n1, d1⟩ ⟨o2, e2, c2, n2, d2⟩ hr.units0 (fun j h1 h2 => ?_) ?_
  · have g1 : j < us.length := by simpa using h1
    have g2 : j < ws.length := by simpa using h2
    have g0 : j < xs.length := by rw [r1.length]; exact g1
    obtain ⟨z1, y1, w1⟩ := r1.get (List.getElem?_eq_getElem g0)
    obtain ⟨z2, y2, w2⟩ := r2.get (List.getElem?_eq_getElem g0)
    rw [List.getElem?_eq_getElem g1] at y1
    rw [List.getElem?_eq_getElem g2] at y2
    have k : SeqAt.EqAt X.A.in1 s us[j] ws[j] true := by
      cases y1
      cases y2
      exact eq_item w1 w2 (hf _ (List.getElem_mem g0))
    simpa using k
  · have l : us.toArray.size = ws.toArray.size := by
      rw [List.size_toArray, List.size_toArray, ← r1.length, ← r2.length]
    have e : ((List.range (min us.toArray.size ws.toArray.size)).all (fun _ => true) && us.toArray.size == ws.toArray.size) = true := by
      rw [l, List.all_eq_true.mpr (fun _ _ => rfl)]
      simp
    rw [e]
    exact ⟨.bl true, H, I, rfl, q⟩
/-- isinstance with a built-in class, of an instance of one's own -/
theorem kit_tyb {K : PySem.W.Frag} {t : Value} {T : String} {b : Bool} (h0 : (t == Value.type T) = false) (h1 : PySem.W.kitMeta T = true) (h2 : PySem.W.subIn K t (.type T) = some b) : PySem.W.kitOne K t (.type T) = some b := by
  unfold PySem.W.kitOne
  rw [h0, if_neg Bool.false_ne_true]
  show (if PySem.W.kitMeta T = true then PySem.W.subIn K t (.type T) else none) = some b
  rw [if_pos h1, h2]
end
end Ws
namespace Ws
open PySem PySem.Spec PyProof.Rows L2
section
variable {X : Cx} {k j : Nat} {sp : Sp} {x : Str} {p pos : Pos}
/-- f() -/
theorem pe_f0 (c : CalF X.prog X.w X.K X.mg X.base k x sp) (hr : Room j X.A) (hk : k ≤ j) (hg : Gl X x) (hdb : (x == ("__debug__" : Str)) = false := by decide) : PE X (.Call (.Name x p) [] [] pos) (tF sp tNil) := by
  obtain ⟨f, F, hm, hkp⟩ := c
  refine ⟨fun pins s σ H Q I h => wpAny_Call_Name_kw (ld_glob I hg hm ?_ hdb)⟩
  exact PySem.W.callWith_K0 I.kIn hkp (run_R (us := []) F (hr.mono hk) pass0 I .nil h)
end
end Ws

namespace Ws
open PySem PySem.Spec PyProof.Rows L2
section
variable {X : Cx} {pins : List (Addr × Obj)} {σ : L2.St} {H : Hp} {s : Shared}
/-- the def that got the lambda calls it: what is raised is wished for at that def's slots -/
theorem pe_ask {Nd : List Str} {qd : Str} {sd : Scope} {g f cc : Addr} {cdd pm ctv : Value} {ps : Arguments} {el : Expr} {sl : Scope} {k i : Nat} {a : Str} {pn : List (Addr × Obj)} {xe : Value → Shared → Prop} {W : WX} {tb : XK → TE} {p1 p2 : Pos}
    (I : Inv X pins σ H s) (L : LamX.LamS X.env.scope sl) (hf : s.heap.get? f = some (PySem.W.kla_obj "<lambda>" (X.env.qual ++ "<lambda>") ps el sl (cloFrom X.env.cells sl.names []) pm cc ctv)) (nf : H f = none) (ff : f ∉ frs X.stack)
    (bd : bindArgs (PySem.W.kla_fn "<lambda>" (X.env.qual ++ "<lambda>") ps el sl (cloFrom X.env.cells sl.names []) pm (.ref cc) ctv) ⟨[], []⟩ = pure [])
    (tk : Takes ((cxOf CX0 X.prog X.w X.K X.mg X.base Nd qd sd g cdd X.A X.stack s H E0).tr pn xe) W) (hr : Room (k + 1) (X.A.deeper (envOfC qd sd s.heap.objs.size g cdd)))
    (hb : ∀ (A : Around) (outer : List Env) (s : Shared) (H : Hp) (E : XK), Room k (A.deeper (LamX.lamEnv X sl s.heap.objs.size f cc)) → PE (LamX.lamCx X A outer s H E sl f cc) el (tb E))
    (hN : Nd[i]? = some a) (hv : Vis sd a) (hd : (a == ("__debug__" : Str)) = false := by decide) (hcd : (a == ("__classdict__" : Str)) = false := by decide) :
    PE ((cxOf CX0 X.prog X.w X.K X.mg X.base Nd qd sd g cdd X.A X.stack s H E0).tr pn xe) (.Call (.Name a p1) [] [] p2)
      (fun σ1 H1 Q => σ1[i]? = some (some (.ref f)) ∧ H1 cc = some (LamX.CodeO cc (X.env.qual ++ "<lambda>")) ∧ tb (fun cls d H' => W cls d σ1 H') σ H1 Q) := ⟨fun pins1 sZ σ1 H1 Q J ⟨h1, h2, h3⟩ => by
  refine wpAny_Call_Name_kw (thn ((pe_var (pos := p1) (i := i) hN hv hd hcd).run pins1 sZ σ1 H1 (fun v G => v = .ref f ∧ G = H1) J ⟨.ref f, h1, rfl, rfl⟩) fun u s1 ⟨v, G, I1, r1, ev, eG⟩ => ?_)
  subst ev
  subst eG
  cases (show u = Value.ref f from r1)
  have hf1 := I1.base.keep f _ hf nf ff (fun z => nomatch (show f ∈ ([] : List Addr) from z))
  refine PySem.W.callWith_F0 ⟨_, _, _, _, hf1⟩ ?_
  obtain ⟨⟨oc, fs, t, e1, e2, e3⟩, _, _⟩ := I1.hok cc _ h2
  have px : PassesAt (L2.CX X.prog X.w) ((cxOf CX0 X.prog X.w X.K X.mg X.base Nd qd sd g cdd X.A X.stack s H E0).tr pn xe) σ1 (fun cls d H' => W cls d σ1 H') := passAt tk σ1
  have go : codeAny (model X.prog X.w) (X.A.deeper (envOfC qd sd s.heap.objs.size g cdd)) (.call (.ref f) ⟨[], []⟩) (CR (L2.CX X.prog X.w) (envOfC qd sd s.heap.objs.size g cdd :: X.stack) X.prog X.w G s1 Q fun cls d H' => W cls d σ1 H') s1 := by
    refine PySem.W.kla_callFunE hr.depth hf1 rfl L.co L.gen rfl ⟨cc, oc, fs, t, rfl, e1, e2, e3⟩ ?_
    rw [bd]
    refine wpAny_pure (wpAny_newFunctionEnv (fun y hy => (L.own y hy).2) (fun y hy => absurd hy (by simp)) (fun h₁ hns hsb => ⟨I1.nolimit.fresh _ hsb, ?_⟩) L.kind)
    have J2 := LamX.lam_start2 (E := fun cls d H' => W cls d σ1 H') (f := f) (c' := cc) (tk := s1.toks + ([] : List (Str × Value)).length) I L I1.env0 hr.hd I1.base hns fun b o e => hsb.extBut b o (Nat.ne_of_lt (Heap.lt_size e)) (Heap.get?_push_of_some _ e)
    refine PySem.W.kla_codeExpr (wpAny_mono ((hb _ _ s1 G (fun cls d H' => W cls d σ1 H') (hr.deeper _)).run [] _ _ G Q J2 h3) (fun v s' ⟨y, H2, K2, rv, q⟩ => ⟨y, H2, K2.os, K2.bare, K2.base, K2.hok, rv, q⟩) fun e s' q => q)
  refine wpAny_call (codeAny_mono go fun out s' hq => ?_)
  cases out with
  | error e => exact px pins1 G s1 e s' I1 hq
  | ok fl =>
    cases fl with
    | ret u => exact I1.after hq
    | next => exact False.elim hq
    | brk => exact False.elim hq
    | cont => exact False.elim hq⟩
end
/-- the def at g calls what it got, by its name a; TT: what it makes of the lambda's reading -/
noncomputable def GivesS (X : Cx) (k : Nat) (Nd : List Str) (x : Str) (sd : Scope) (g : Addr) (cdd : Value) (bg : List Stmt) (a q : Str) (TT : (XK → Hp → VK → Prop) → Hp → VK → Prop) : Prop :=
  ∀ (f cc : Addr) (s : Shared) (H : Hp) (Q : VK) (tl : XK → Hp → VK → Prop), Room k (X.A.deeper (envOfC x sd s.heap.objs.size g cdd)) →
    (∀ (W : WX) (pn : List (Addr × Obj)) (xe : Value → Shared → Prop) (p1 p2 : Pos), Takes ((cxOf CX0 X.prog X.w X.K X.mg X.base Nd x sd g cdd X.A X.stack s H E0).tr pn xe) W →
      PE ((cxOf CX0 X.prog X.w X.K X.mg X.base Nd x sd g cdd X.A X.stack s H E0).tr pn xe) (.Call (.Name a p1) [] [] p2) (fun σ1 H1 Q => σ1[0]? = some (some (.ref f)) ∧ H1 cc = some (LamX.CodeO cc q) ∧ tl (fun cls d H' => W cls d σ1 H') H1 Q)) →
    H cc = some (LamX.CodeO cc q) → TT tl H Q →
    ∃ t, PSs (cxOf CX0 X.prog X.w X.K X.mg X.base Nd x sd g cdd X.A X.stack s H E0).nox bg t ∧ t { nx := fun _ H' => Q .non H', rt := Q } (L2.start Nd [.ref f]) H
section
variable {X : Cx}
/-- x(lambda: el) -/
theorem pe_lamS {T : List (Addr × Str)} {TT : (XK → Hp → VK → Prop) → Hp → VK → Prop} {x a : Str} {g c P : Addr} {k : Nat} {pg : Arguments} {bg : List Stmt} {sd : Scope} {dV kV doc pm cdv ct oc : Value} {an od : Option Addr} {osl : Array (Option Value)} {Nd : List Str}
    {ps : Arguments} {el : Expr} {sl : Scope} {t : XK → TE} {p lp pos : Pos} (hg : Gl X x) (hm : X.mg x = some (.ref g)) (hk : PySem.W.keepIn X.K (.ref g) = true)
    (lk : X.K.lookup g = some ⟨oc, od, .func (PySem.W.fnOf x x pg bg sd dV kV doc pm an cdv ct), osl⟩) (cd : PySem.W.codeIn X.K cdv x = true) (hb : L2.Binds X.K (PySem.W.fnOf x x pg bg sd dV kV doc pm an cdv ct) [a] []) (S : FnScope Nd [a] sd) (hN : Nd[0]? = some a) (hv : Vis sd a)
    (hG : GivesS X (k + 1) Nd x sd g cdv bg a (X.env.qual ++ "<lambda>") TT)
    (TB : LamX.TabB X.base X.mg c P) (hc : X.env.code = .ref c) (hT : (P, X.env.qual ++ "<lambda>") ∈ T) (one : ∀ q ∈ T, q.1 = P → q.2 = X.env.qual ++ "<lambda>") (hr : Room (k + 2) X.A) (L : LamX.LamS X.env.scope sl) (df : defaultsOf ps X.env = ([], []))
    (bd : ∀ (q : Str) (cl : List (Str × Addr)) (pm cv ctv : Value), bindArgs (PySem.W.kla_fn "<lambda>" q ps el sl cl pm cv ctv) ⟨[], []⟩ = pure [])
    (hl : ∀ (A : Around) (outer : List Env) (s : Shared) (H : Hp) (E : XK) (f cc : Addr), Room k (A.deeper (LamX.lamEnv X sl s.heap.objs.size f cc)) → PE (LamX.lamCx X A outer s H E sl f cc) el (t E))
    (hdb : (x == ("__debug__" : Str)) = false := by decide) (hd : (a == ("__debug__" : Str)) = false := by decide) (hcd : (a == ("__classdict__" : Str)) = false := by decide) :
    PE X (.Call (.Name x p) [.Lambda ps el sl lp] [] pos) (LamX.tLam T TT t) := ⟨fun pins s σ H Q I ⟨tabs, h⟩ => by
  refine wpAny_Call_Name_kw (ld_glob I hg hm ?_ hdb)
  refine PySem.W.callWith_K (h₀ := X.base) I.ok.mod.kin hk ?_ (by rfl) (by rfl)
  show wpAny _ _ (spliced ((false, eval (.Lambda ps el sl lp) X.env) :: backTo pos (starEach [] X.env))) _ _ s
  refine Calls.spliced_cons (LamX.lam_make2 I TB hc hT one tabs df (L.has I.ok) fun f cc pm' ctv H1 s' J eN T1 hf nf ff hco => Calls.spliced_nil ⟨J.kIn, ?_⟩)
  have go : codeAny (model X.prog X.w) X.A (.call (.ref g) ⟨[.ref f], []⟩) (CR CX0 X.stack X.prog X.w H1 s' Q E0) s' := by
    refine LamX.run_ofS (N := Nd) (ps := [a]) (us := [.ref f]) (vs := [.ref f]) lk cd S hr J.env0 (hb s' [.ref f] J.kIn rfl) (.cons rfl .nil) rfl fun hr' => ?_
    obtain ⟨t', ht, hq⟩ := hG f cc s' H1 Q (fun E H' Q' => t E σ H' Q') hr' (fun W pn xe p1 p2 tk => pe_ask (i := 0) J L hf nf ff (bd _ _ _ _ _) tk hr' (fun A outer s H E hr2 => hl A outer s H E f cc hr2) hN hv hd hcd) hco (h H1 eN T1)
    exact ⟨t', ht.nox, hq⟩
  refine wpAny_call (codeAny_mono go fun out s2 hq => ?_)
  cases out with
  | error e => exact (show False from hq).elim
  | ok fl =>
    cases fl with
    | ret u => exact J.after hq
    | next => exact False.elim hq
    | brk => exact False.elim hq
    | cont => exact False.elim hq⟩
/-- isinstance(caught, c), c an own class or a built-in one -/
noncomputable def rKisV (K : PySem.W.Frag) : List V → Hp → VK → Prop := fun xs H Q => ∃ (a d C : Addr) (c : V) (u : Value) (fs : List (Str × V)) (b : Bool), xs = [.ref a, c] ∧ ClsV c u ∧ H a = some (Kx (.ref C) (some d) a) ∧ H d = some (.xd fs) ∧ ErrC K C ∧ PySem.W.kitOne K (.ref C) u = some b ∧ Q (.bl b) H
theorem call_kisV : CallR X (.builtin "isinstance") (rKisV X.K) := by
  intro pins s σ H xs us Q I r h
  obtain ⟨a, d, C, c, u, fs, b, rfl, cv, ea, ed, T, kk, q⟩ := h
  obtain ⟨u1, u2, rfl, r1, r2⟩ := vals2 r
  cases (show u1 = Value.ref a from r1)
  cases cv.eq r2
  obtain ⟨ox, od, J, _⟩ := kx_inst I ea ed
  exact PySem.W.kia_one (PySem.W.kitx_exc T.isc T.ga T.gg T.exC T.ca T.hn T.ht T.hm) I.kIn J kk (fun z => nomatch z) fun tk => ⟨.bl b, H, I.kept (t' := tk) fun _ _ z => z, rfl, q⟩
/-- isinstance(caught, (C, D, ..)) -/
noncomputable def rKisT (K : PySem.W.Frag) : List V → Hp → VK → Prop := fun xs H Q => ∃ (a d C tp : Addr) (cs : List V) (us : List Value) (fs : List (Str × V)) (b : Bool), xs = [.ref a, .ref tp] ∧ H tp = some (.tup cs) ∧ Paired ClsV cs us ∧ H a = some (Kx (.ref C) (some d) a) ∧ H d = some (.xd fs) ∧ ErrC K C ∧ PySem.W.kitAny K (.ref C) us = some b ∧ Q (.bl b) H
theorem call_kisT : CallR X (.builtin "isinstance") (rKisT X.K) := by
  intro pins s σ H xs us Q I r h
  obtain ⟨a, d, C, tp, cs, ws, fs, b, rfl, ht, cv, ea, ed, T, kk, q⟩ := h
  obtain ⟨u1, u2, rfl, r1, r2⟩ := vals2 r
  cases (show u1 = Value.ref a from r1)
  cases (show u2 = Value.ref tp from r2)
  obtain ⟨_, its, rv, ob, ho, hc, n, hd⟩ := (show ObjOk X.prog X.w H s.heap tp (.tup cs) from I.hok tp _ ht)
  cases ClsV.all cv rv
  obtain ⟨ox, od, J, _⟩ := kx_inst I ea ed
  obtain ⟨ocls, odict, odata, oslots⟩ := ob
  dsimp only at hc hd
  subst hc hd
  exact PySem.W.kia_tup (PySem.W.kitx_exc T.isc T.ga T.gg T.exC T.ca T.hn T.ht T.hm) I.kIn J ho kk (fun z => nomatch z) fun tk => ⟨.bl b, H, I.kept (t' := tk) fun _ _ z => z, rfl, q⟩
end
section
variable {P : Program} {w : World} {K : PySem.W.Frag} {mg : Str → Option Value} {base : Heap}
/-- fnG_ofX, the code object told -/
theorem fnG_ofC {CX : CXT} {x qual : Str} {st : Stmt} {f : Addr} {fd : FuncData} {N ps : List Str} {k : Nat} {sp : Sp} (F : L2.Fun K x qual st f fd) (b : Binds K fd ps []) (S : FnScope N ps (defScope st)) (len : ∀ vs H Q E, sp vs H Q E → vs.length = ps.length)
    (hbody : ∀ (cdv : Value) (A : Around) (outer : List Env) (s : Shared) (H : Hp) (vs : List V) (Q : VK) (E : XK), A.guards = some [] → fd.code = cdv → Room k (A.deeper (envOfC qual (defScope st) s.heap.objs.size f cdv)) → sp vs H Q E →
      ∃ t, PSs (cxOf CX P w K mg base N qual (defScope st) f cdv A outer s H E) (defBody st) t ∧ t { nx := fun _ H' => Q .non H', rt := Q } (start N vs) H) : FnG P w K mg base CX (k + 1) f sp := by
  obtain ⟨oc, od, kV, doc, pm, an, cdv, ct, osl, rfl, lk, hcd⟩ := F.ex
  intro A outer s H us vs Q E cl hr e0 r hsp
  have hn := len _ _ _ _ hsp
  have inS : K.In s.heap := e0.mod.kin.keeps fun b o e => (e0.bs b o e).1
  have free : s.heap.NoLimit := e0.mod.nolimit.keeps fun b o e => (e0.bs b o e).1
  have hl : us.length = ps.length := r.length ▸ hn
  have bd := b s us inS (by rw [List.append_nil]; exact hl)
  rw [List.append_nil] at bd
  have kinds : ∀ y ∈ ps.zip us, (defScope st).names.lookup y.1 = some .local ∨ ((defScope st).names.lookup y.1 = some .cell ∧ ((cellsFrom (s.heap.objs.size + 1) (defScope st).names []).lookup y.1).isSome = true) := by
    rintro ⟨n, v⟩ hy
    exact (S.par n (List.of_mem_zip hy).1).imp id fun q => ⟨q, PySem.W.cellsFrom_some _ _ _ (.inl q)⟩
  refine codeAny_call_function hr.depth (inS _ _ lk) rfl S.co S.gen rfl (PySem.W.codeRec_of inS hcd) (bd _ _ _ _ ?_)
  refine wpAny_newFunctionEnv_cells S.kind kinds fun env hE s1 z => ?_
  cases hE
  refine ⟨free.keeps z.toInCall.keep, codeAny_func ?_⟩
  obtain ⟨t, ht, q⟩ := hbody cdv A outer s H vs Q E cl rfl (hr.deeper _) hsp
  have I : Inv (cxOf CX P w K mg base N qual (defScope st) f cdv A outer s H E) [] (start N vs) H s1 := inv_start S hr.hd e0 hn r z
  refine wpAny_mono (ht.run [] s1 (start N vs) H _ I q) (fun fl s2 out => ?_) fun _ _ out => out
  cases fl with
  | ret u => obtain ⟨v, _, H2, J, rv, q2⟩ := out; exact ⟨v, H2, J.os, J.bare, J.base, J.hok, rv, q2⟩
  | next => obtain ⟨_, H2, J, q2⟩ := out; exact ⟨.non, H2, J.os, J.bare, J.base, J.hok, rfl, q2⟩
  | brk => exact out.elim fun _ z => z.elim fun _ z => z.2.elim
  | cont => exact out.elim fun _ z => z.elim fun _ z => z.2.elim
end
end Ws

/-! expressions: two readers and one grammar, over kinds of words -/
namespace Gr
inductive T where
  | opn | cls | star | add | cmp | atom | junk
  deriving DecidableEq
open T
/-! ### the grammar; the number: parentheses that are open around it -/
mutual
inductive F : Nat → List T → Prop
  | atom (d : Nat) : F d [T.atom]
  | par {d : Nat} {ws : List T} : d < 6 → V (d + 1) ws → F d (opn :: (ws ++ [cls]))
inductive P : Nat → List T → Prop
  | one {d : Nat} {ws : List T} : F d ws → P d ws
  | more {d : Nat} {a b : List T} : P d a → F d b → P d (a ++ star :: b)
inductive S : Nat → List T → Prop
  | one {d : Nat} {ws : List T} : P d ws → S d ws
  | more {d : Nat} {a b : List T} : S d a → P d b → S d (a ++ T.add :: b)
inductive V : Nat → List T → Prop
  | one {d : Nat} {ws : List T} : S d ws → V d ws
  | two {d : Nat} {a b : List T} : S d a → S d b → V d (a ++ cmp :: b)
end
/-! ### the reader that splits at the last sign outside -/
/-- how many words from the end on (of the words turned round) the first sign outside stands -/
noncomputable def scan (p : T → Bool) : Int → List T → Option Nat
  | _, [] => none
  | d, w :: r =>
    if w = cls then (scan p (d + 1) r).map (· + 1)
    else if w = opn then (scan p (d - 1) r).map (· + 1)
    else if d = 0 ∧ p w = true then some 0
    else (scan p d r).map (· + 1)
/-- the place of the last sign outside -/
noncomputable def lastOut (p : T → Bool) (ws : List T) : Option Nat := (scan p 0 ws.reverse).map fun k => ws.length - 1 - k
noncomputable def isCmp : T → Bool | cmp => true | _ => false
noncomputable def isAdd : T → Bool | T.add => true | _ => false
noncomputable def isStar : T → Bool | star => true | _ => false
theorem scan_lt {p : T → Bool} : ∀ {ws : List T} {d : Int} {k : Nat}, scan p d ws = some k → k < ws.length ∧ ∃ w, ws[k]? = some w ∧ p w = true
  | [], d, k, h => by cases h
  | w :: r, d, k, h => by
    unfold scan at h
    have step : ∀ {e : Int}, (scan p e r).map (· + 1) = some k → k < (w :: r).length ∧ ∃ x, (w :: r)[k]? = some x ∧ p x = true := by
      intro e h
      obtain ⟨j, h1, h2⟩ := Option.map_eq_some_iff.mp h
      obtain ⟨l, x, h3, h4⟩ := scan_lt h1
      subst h2
      exact ⟨by simpa using l, x, by simpa using h3, h4⟩
    split at h
    · exact step h
    · split at h
      · exact step h
      · split at h
        · rename_i h3
          cases h
          exact ⟨by simp, w, rfl, h3.2⟩
        · exact step h
theorem lastOut_split {p : T → Bool} {ws : List T} {k : Nat} (h : lastOut p ws = some k) : k < ws.length ∧ ∃ w, p w = true ∧ ws = ws.take k ++ w :: ws.drop (k + 1) := by
  unfold lastOut at h
  obtain ⟨j, h1, h2⟩ := Option.map_eq_some_iff.mp h
  obtain ⟨l, w, h3, h4⟩ := scan_lt h1
  rw [List.length_reverse] at l
  have hk : k < ws.length := by omega
  refine ⟨hk, w, h4, ?_⟩
  rw [List.getElem?_reverse (by omega), h2] at h3
  have e : ws[k] = w := by
    rw [List.getElem?_eq_getElem hk] at h3
    exact Option.some.inj h3
  conv => lhs; rw [← List.take_append_drop k ws]
  rw [List.drop_eq_getElem_cons hk, e]
mutual
noncomputable def rV : Nat → List T → Bool
  | 0, _ => false
  | n + 1, ws => match lastOut isCmp ws with
    | none => rS n ws
    | some k => rS n (ws.take k) && rS n (ws.drop (k + 1))
noncomputable def rS : Nat → List T → Bool
  | 0, _ => false
  | n + 1, ws => match lastOut isAdd ws with
    | none => rP n ws
    | some k => rS n (ws.take k) && rP n (ws.drop (k + 1))
noncomputable def rP : Nat → List T → Bool
  | 0, _ => false
  | n + 1, ws => match lastOut isStar ws with
    | none => rF n ws
    | some k => rP n (ws.take k) && rF n (ws.drop (k + 1))
noncomputable def rF : Nat → List T → Bool
  | 0, _ => false
  | n + 1, ws => match ws with
    | [w] => w == T.atom
    | ws => decide (ws.length > 2) && ws.head? == some opn && ws.getLast? == some cls && rV n (ws.drop 1).dropLast
end
/-- the most parentheses that are open at a time, from d on -/
noncomputable def most : Int → List T → Int
  | d, [] => d
  | d, w :: r => max d (most (if w = opn then d + 1 else if w = cls then d - 1 else d) r)
noncomputable def readV (n : Nat) (ws : List T) : Bool := decide (ws.length ≤ 40) && decide (most 0 ws ≤ 6) && rV n ws
/-! ### the law's reader, from the left -/
noncomputable def loop (f : List T → Option (List T)) (p : T → Bool) : Nat → List T → Option (List T)
  | 0, r => some r
  | _ + 1, [] => some []
  | m + 1, w :: r => if p w = true then (match f r with | none => none | some r' => loop f p m r') else some (w :: r)
mutual
noncomputable def lF : Nat → Nat → List T → Option (List T)
  | 0, _, _ => none
  | _ + 1, _, [] => none
  | n + 1, d, w :: r => if w = opn then (if d < 6 then (match lV n (d + 1) r with | some (w' :: r') => if w' = cls then some r' else none | _ => none) else none) else if w = T.atom then some r else none
noncomputable def lP : Nat → Nat → List T → Option (List T)
  | 0, _, _ => none
  | n + 1, d, ws => match lF n d ws with | none => none | some r => loop (lF n d) isStar r.length r
noncomputable def lS : Nat → Nat → List T → Option (List T)
  | 0, _, _ => none
  | n + 1, d, ws => match lP n d ws with | none => none | some r => loop (lP n d) isAdd r.length r
noncomputable def lV : Nat → Nat → List T → Option (List T)
  | 0, _, _ => none
  | n + 1, d, ws => match lS n d ws with
    | none => none
    | some [] => some []
    | some (w :: r) => if isCmp w = true then lS n d r else some (w :: r)
end
theorem lF_nil (n d : Nat) : lF (n + 1) d [] = none := by unfold lF; rfl
theorem lF_cons (n d : Nat) (w : T) (r : List T) : lF (n + 1) d (w :: r) = (if w = opn then (if d < 6 then (match lV n (d + 1) r with | some (w' :: r') => if w' = cls then some r' else none | _ => none) else none) else if w = T.atom then some r else none) := by rw [lF]
theorem lP_eq (n d : Nat) (ws : List T) : lP (n + 1) d ws = (match lF n d ws with | none => none | some r => loop (lF n d) isStar r.length r) := by rw [lP]
theorem lS_eq (n d : Nat) (ws : List T) : lS (n + 1) d ws = (match lP n d ws with | none => none | some r => loop (lP n d) isAdd r.length r) := by rw [lS]
theorem lV_eq (n d : Nat) (ws : List T) : lV (n + 1) d ws = (match lS n d ws with | none => none | some [] => some [] | some (w :: r) => if isCmp w = true then lS n d r else some (w :: r)) := by rw [lV]
/-! ### depths -/
noncomputable def stp (d : Int) (w : T) : Int := if w = opn then d + 1 else if w = cls then d - 1 else d
noncomputable def net : Int → List T → Int
  | d, [] => d
  | d, w :: r => net (stp d w) r
theorem most_cons (d : Int) (w : T) (r : List T) : most d (w :: r) = max d (most (stp d w) r) := rfl
theorem net_app : ∀ (a b : List T) (d : Int), net d (a ++ b) = net (net d a) b
  | [], _, _ => rfl
  | w :: a, b, d => net_app a b (stp d w)
theorem most_ge : ∀ (a : List T) (d : Int), d ≤ most d a
  | [], _ => Int.le_refl _
  | w :: a, d => by rw [most_cons]; omega
theorem most_app : ∀ (a b : List T) (d : Int), most d (a ++ b) = max (most d a) (most (net d a) b)
  | [], b, d => by
    have := most_ge b d
    show most d b = max d (most d b)
    omega
  | w :: a, b, d => by
    show most d (w :: (a ++ b)) = max (most d (w :: a)) (most (net (stp d w) a) b)
    rw [most_cons, most_cons, most_app a b]
    omega
theorem stp_sign {d : Int} {w : T} (h : w ≠ opn) (h2 : w ≠ cls) : stp d w = d := by unfold stp; rw [if_neg h, if_neg h2]
mutual
theorem F.net : ∀ {d : Nat} {ws : List T}, F d ws → ∀ e : Int, Gr.net e ws = e
  | _, _, .atom _, e => rfl
  | _, _, .par (ws := ws) _ h, e => by
    show Gr.net (stp e opn) (ws ++ [cls]) = e
    rw [net_app, V.net h]
    show stp (stp e opn) cls = e
    simp [stp]
theorem P.net : ∀ {d : Nat} {ws : List T}, P d ws → ∀ e : Int, Gr.net e ws = e
  | _, _, .one h, e => F.net h e
  | _, _, .more h k, e => by rw [net_app, P.net h]; exact F.net k e
theorem S.net : ∀ {d : Nat} {ws : List T}, S d ws → ∀ e : Int, Gr.net e ws = e
  | _, _, .one h, e => P.net h e
  | _, _, .more h k, e => by rw [net_app, S.net h]; exact P.net k e
theorem V.net : ∀ {d : Nat} {ws : List T}, V d ws → ∀ e : Int, Gr.net e ws = e
  | _, _, .one h, e => S.net h e
  | _, _, .two h k, e => by rw [net_app, S.net h]; exact S.net k e
end
theorem most_mid {d : Int} {a b : List T} {w : T} (h : w ≠ opn) (h2 : w ≠ cls) (n : Gr.net d a = d) : most d (a ++ w :: b) = max (most d a) (most d b) := by
  rw [most_app, n, most_cons, stp_sign h h2]
  have := most_ge a d
  omega
mutual
theorem F.most : ∀ {d : Nat} {ws : List T}, F d ws → d ≤ 6 → Gr.most d ws ≤ 6
  | _, _, .atom d, h => by
    show max (d : Int) (d : Int) ≤ 6
    omega
  | _, _, .par (d := d) (ws := ws) l h, hd => by
    have e := V.most h (by omega)
    have n := V.net h ((d + 1 : Nat) : Int)
    rw [most_cons]
    have e0 : stp (d : Int) opn = ((d + 1 : Nat) : Int) := by simp [stp]
    rw [e0, most_app, n]
    show max (d : Int) (max (Gr.most ((d + 1 : Nat) : Int) ws) (max ((d + 1 : Nat) : Int) (stp ((d + 1 : Nat) : Int) cls))) ≤ 6
    have e1 : stp ((d + 1 : Nat) : Int) cls = d := by simp [stp]
    omega
theorem P.most : ∀ {d : Nat} {ws : List T}, P d ws → d ≤ 6 → Gr.most d ws ≤ 6
  | _, _, .one h, hd => F.most h hd
  | _, _, .more h k, hd => by
    rw [most_mid (by decide) (by decide) (P.net h _)]
    have := P.most h hd
    have := F.most k hd
    omega
theorem S.most : ∀ {d : Nat} {ws : List T}, S d ws → d ≤ 6 → Gr.most d ws ≤ 6
  | _, _, .one h, hd => P.most h hd
  | _, _, .more h k, hd => by
    rw [most_mid (by decide) (by decide) (S.net h _)]
    have := S.most h hd
    have := P.most k hd
    omega
theorem V.most : ∀ {d : Nat} {ws : List T}, V d ws → d ≤ 6 → Gr.most d ws ≤ 6
  | _, _, .one h, hd => S.most h hd
  | _, _, .two h k, hd => by
    rw [most_mid (by decide) (by decide) (S.net h _)]
    have := S.most h hd
    have := S.most k hd
    omega
end
/-! ### what the splitting reader takes is in the grammar -/
theorem isCmp_eq {w : T} (h : isCmp w = true) : w = cmp := by cases w <;> first | rfl | (exact absurd h (by simp [isCmp]))
theorem isAdd_eq {w : T} (h : isAdd w = true) : w = T.add := by cases w <;> first | rfl | (exact absurd h (by simp [isAdd]))
theorem isStar_eq {w : T} (h : isStar w = true) : w = star := by cases w <;> first | rfl | (exact absurd h (by simp [isStar]))
theorem par_form {ws : List T} (l : ws.length > 2) (h : ws.head? = some opn) (k : ws.getLast? = some cls) : ws = opn :: ((ws.drop 1).dropLast ++ [cls]) := by
  match ws, l, h, k with
  | w :: r, l, h, k =>
    have hr : r ≠ [] := by intro z; rw [z] at l; simp at l
    cases (show w = opn from Option.some.inj h)
    have k2 : r.getLast? = some cls := by
      rw [List.getLast?_cons] at k
      rw [List.getLast?_eq_some_getLast hr] at k ⊢
      simpa using k
    have e := List.dropLast_concat_getLast hr
    rw [List.getLast?_eq_some_getLast hr] at k2
    rw [Option.some.inj k2] at e
    show opn :: r = opn :: (r.dropLast ++ [cls])
    rw [e]
theorem sound : ∀ (n : Nat), (∀ (d : Nat) (ws : List T), rV n ws = true → most d ws ≤ 6 → V d ws) ∧ (∀ (d : Nat) (ws : List T), rS n ws = true → most d ws ≤ 6 → S d ws) ∧ (∀ (d : Nat) (ws : List T), rP n ws = true → most d ws ≤ 6 → P d ws) ∧ (∀ (d : Nat) (ws : List T), rF n ws = true → most d ws ≤ 6 → F d ws)
  | 0 => ⟨fun _ _ h _ => absurd h (by simp [rV]), fun _ _ h _ => absurd h (by simp [rS]), fun _ _ h _ => absurd h (by simp [rP]), fun _ _ h _ => absurd h (by simp [rF])⟩
  | n + 1 => by
    obtain ⟨iV, iS, iP, iF⟩ := sound n
    refine ⟨fun d ws h m => ?_, fun d ws h m => ?_, fun d ws h m => ?_, fun d ws h m => ?_⟩
    · unfold rV at h
      split at h
      · exact .one (iS d ws h m)
      · rename_i k hk
        obtain ⟨_, w, hw, e⟩ := lastOut_split hk
        cases isCmp_eq hw
        rw [Bool.and_eq_true] at h
        rw [e, most_app] at m
        have a := iS d _ h.1 (by omega)
        rw [S.net a, most_cons, stp_sign (by decide) (by decide)] at m
        have b := iS d _ h.2 (by omega)
        rw [e]
        exact .two a b
    · unfold rS at h
      split at h
      · exact .one (iP d ws h m)
      · rename_i k hk
        obtain ⟨_, w, hw, e⟩ := lastOut_split hk
        cases isAdd_eq hw
        rw [Bool.and_eq_true] at h
        rw [e, most_app] at m
        have a := iS d _ h.1 (by omega)
        rw [S.net a, most_cons, stp_sign (by decide) (by decide)] at m
        have b := iP d _ h.2 (by omega)
        rw [e]
        exact .more a b
    · unfold rP at h
      split at h
      · exact .one (iF d ws h m)
      · rename_i k hk
        obtain ⟨_, w, hw, e⟩ := lastOut_split hk
        cases isStar_eq hw
        rw [Bool.and_eq_true] at h
        rw [e, most_app] at m
        have a := iP d _ h.1 (by omega)
        rw [P.net a, most_cons, stp_sign (by decide) (by decide)] at m
        have b := iF d _ h.2 (by omega)
        rw [e]
        exact .more a b
    · unfold rF at h
      split at h
      · rename_i w
        cases (show w = T.atom from eq_of_beq h)
        exact .atom d
      · simp only [Bool.and_eq_true, decide_eq_true_eq, beq_iff_eq] at h
        obtain ⟨⟨⟨h1, h2⟩, h3⟩, h4⟩ := h
        have e := par_form h1 h2 h3
        rw [e, most_cons] at m
        have e0 : stp (d : Int) opn = ((d + 1 : Nat) : Int) := by simp [stp]
        rw [e0, most_app] at m
        have g := most_ge ((ws.drop 1).dropLast) ((d + 1 : Nat) : Int)
        have b := iV (d + 1) _ h4 (by omega)
        rw [e]
        exact .par (by omega) b
/-! ### what is in the grammar is taken by the splitting reader -/
/-- scanning passes over these words -/
noncomputable def Clean (p : T → Bool) (e : Int) (ws : List T) : Prop := ∀ r, scan p e (ws.reverse ++ r) = (scan p e r).map (· + ws.length)
theorem map_add (o : Option Nat) (a b : Nat) : (o.map (· + a)).map (· + b) = o.map (· + (a + b)) := by cases o <;> simp [Nat.add_assoc]
theorem Clean.app {p : T → Bool} {e : Int} {a b : List T} (h : Clean p e a) (k : Clean p e b) : Clean p e (a ++ b) := fun r => by
  rw [List.reverse_append, List.append_assoc, k, h, map_add, List.length_append]
theorem Clean.one {p : T → Bool} {e : Int} {w : T} (h : w ≠ opn) (h2 : w ≠ cls) (h3 : ¬ (e = 0 ∧ p w = true)) : Clean p e [w] := fun r => by
  show (if w = cls then (scan p (e + 1) r).map (· + 1) else if w = opn then (scan p (e - 1) r).map (· + 1) else if e = 0 ∧ p w = true then some 0 else (scan p e r).map (· + 1)) = (scan p e r).map (· + 1)
  rw [if_neg h2, if_neg h, if_neg h3]
theorem Clean.cons {p : T → Bool} {e : Int} {w : T} {b : List T} (h : w ≠ opn) (h2 : w ≠ cls) (h3 : ¬ (e = 0 ∧ p w = true)) (k : Clean p e b) : Clean p e (w :: b) := (Clean.one h h2 h3).app k
theorem Clean.par {p : T → Bool} {e : Int} {ws : List T} (h : Clean p (e + 1) ws) : Clean p e (opn :: (ws ++ [cls])) := fun r => by
  have e1 : (opn :: (ws ++ [cls])).reverse ++ r = cls :: (ws.reverse ++ (opn :: r)) := by simp
  have e2 : scan p (e + 1) (opn :: r) = (scan p e r).map (· + 1) := by
    show (if opn = cls then _ else _) = _
    rw [if_neg (by decide), if_pos rfl, Int.add_sub_cancel]
  rw [e1]
  show (if cls = cls then _ else _) = _
  rw [if_pos rfl, h, e2, map_add, map_add]
  congr 1
  funext k
  simp only [List.length_cons, List.length_append, List.length_nil]
  omega
mutual
theorem F.clean {p : T → Bool} (hp : p T.atom = false) : ∀ {d : Nat} {ws : List T}, F d ws → ∀ e : Int, 0 ≤ e → Clean p e ws
  | _, _, .atom _, e, _ => Clean.one (by decide) (by decide) (by rw [hp]; simp)
  | _, _, .par _ h, e, he => Clean.par (V.clean hp h (e + 1) (by omega))
theorem P.clean {p : T → Bool} (hp : p T.atom = false) : ∀ {d : Nat} {ws : List T}, P d ws → ∀ e : Int, 0 ≤ e → (e = 0 → p star = false) → Clean p e ws
  | _, _, .one h, e, he, _ => F.clean hp h e he
  | _, _, .more h k, e, he, hs => (P.clean hp h e he hs).app (Clean.cons (by decide) (by decide) (fun z => by rw [hs z.1] at z; simp at z) (F.clean hp k e he))
theorem S.clean {p : T → Bool} (hp : p T.atom = false) : ∀ {d : Nat} {ws : List T}, S d ws → ∀ e : Int, 0 ≤ e → (e = 0 → p star = false ∧ p T.add = false) → Clean p e ws
  | _, _, .one h, e, he, hs => P.clean hp h e he fun z => (hs z).1
  | _, _, .more h k, e, he, hs => (S.clean hp h e he hs).app (Clean.cons (by decide) (by decide) (fun z => by rw [(hs z.1).2] at z; simp at z) (P.clean hp k e he fun z => (hs z).1))
theorem V.clean {p : T → Bool} (hp : p T.atom = false) : ∀ {d : Nat} {ws : List T}, V d ws → ∀ e : Int, 1 ≤ e → Clean p e ws
  | _, _, .one h, e, he => S.clean hp h e (by omega) fun z => by omega
  | _, _, .two h k, e, he => (S.clean hp h e (by omega) fun z => by omega).app (Clean.cons (by decide) (by decide) (fun z => by omega) (S.clean hp k e (by omega) fun z => by omega))
end
theorem lastOut_none {p : T → Bool} {ws : List T} (h : Clean p 0 ws) : lastOut p ws = none := by
  have := h []
  rw [List.append_nil] at this
  unfold lastOut
  rw [this]
  rfl
theorem lastOut_at {p : T → Bool} {a b : List T} {w : T} (h : w ≠ opn) (h2 : w ≠ cls) (hw : p w = true) (k : Clean p 0 b) : lastOut p (a ++ w :: b) = some a.length := by
  unfold lastOut
  have e : (a ++ w :: b).reverse = b.reverse ++ (w :: a.reverse) := by simp
  have e2 : scan p 0 (w :: a.reverse) = some 0 := by
    unfold scan
    rw [if_neg h2, if_neg h, if_pos ⟨rfl, hw⟩]
  rw [e, k, e2]
  simp
mutual
theorem F.ne : ∀ {d : Nat} {ws : List T}, F d ws → 1 ≤ ws.length
  | _, _, .atom _ => by simp
  | _, _, .par _ _ => by simp
theorem P.ne : ∀ {d : Nat} {ws : List T}, P d ws → 1 ≤ ws.length
  | _, _, .one h => F.ne h
  | _, _, .more _ _ => by simp; omega
theorem S.ne : ∀ {d : Nat} {ws : List T}, S d ws → 1 ≤ ws.length
  | _, _, .one h => P.ne h
  | _, _, .more _ _ => by simp; omega
theorem V.ne : ∀ {d : Nat} {ws : List T}, V d ws → 1 ≤ ws.length
  | _, _, .one h => S.ne h
  | _, _, .two _ _ => by simp; omega
end
theorem take_mid (a b : List T) (w : T) : (a ++ w :: b).take a.length = a := by simp
theorem drop_mid (a b : List T) (w : T) : (a ++ w :: b).drop (a.length + 1) = b := by simp
mutual
theorem F.rF : ∀ {d : Nat} {ws : List T}, F d ws → ∀ n, 4 * ws.length + 1 ≤ n → rF n ws = true
  | _, _, .atom _, n + 1, _ => by unfold Gr.rF; rfl
  | _, _, .par (ws := ws) _ h, n + 1, hn => by
    have l := V.ne h
    have iv := V.rV h n (by simp only [List.length_cons, List.length_append, List.length_nil] at hn; omega)
    match ws, l with
    | x :: r, _ =>
      have e : ((opn :: (x :: r ++ [cls])).drop 1).dropLast = x :: r := by
        show (x :: r ++ [cls]).dropLast = x :: r
        exact List.dropLast_concat
      have l3 : (opn :: (x :: r ++ [cls])).getLast? = some cls := by
        rw [show opn :: (x :: r ++ [cls]) = (opn :: x :: r) ++ [cls] from rfl]
        exact List.getLast?_concat
      show (decide ((opn :: (x :: r ++ [cls])).length > 2) && (opn :: (x :: r ++ [cls])).head? == some opn && (opn :: (x :: r ++ [cls])).getLast? == some cls && Gr.rV n ((opn :: (x :: r ++ [cls])).drop 1).dropLast) = true
      rw [e, iv, l3]
      simp
theorem P.rP : ∀ {d : Nat} {ws : List T}, P d ws → ∀ n, 4 * ws.length + 2 ≤ n → rP n ws = true
  | _, _, .one h, n + 1, hn => by
    unfold Gr.rP
    rw [lastOut_none (F.clean rfl h 0 (by omega))]
    exact F.rF h n (by omega)
  | _, _, .more (a := a) (b := b) h k, n + 1, hn => by
    unfold Gr.rP
    rw [lastOut_at (by decide) (by decide) rfl (F.clean rfl k 0 (by omega))]
    simp only [List.length_append, List.length_cons] at hn
    have x := P.rP h n (by have := F.ne k; omega)
    have y := F.rF k n (by have := P.ne h; omega)
    show (Gr.rP n ((a ++ star :: b).take a.length) && Gr.rF n ((a ++ star :: b).drop (a.length + 1))) = true
    rw [take_mid, drop_mid, x, y]
    rfl
theorem S.rS : ∀ {d : Nat} {ws : List T}, S d ws → ∀ n, 4 * ws.length + 3 ≤ n → rS n ws = true
  | _, _, .one h, n + 1, hn => by
    unfold Gr.rS
    rw [lastOut_none (P.clean rfl h 0 (by omega) fun _ => rfl)]
    exact P.rP h n (by omega)
  | _, _, .more (a := a) (b := b) h k, n + 1, hn => by
    unfold Gr.rS
    rw [lastOut_at (by decide) (by decide) rfl (P.clean rfl k 0 (by omega) fun _ => rfl)]
    simp only [List.length_append, List.length_cons] at hn
    have x := S.rS h n (by have := P.ne k; omega)
    have y := P.rP k n (by have := S.ne h; omega)
    show (Gr.rS n ((a ++ T.add :: b).take a.length) && Gr.rP n ((a ++ T.add :: b).drop (a.length + 1))) = true
    rw [take_mid, drop_mid, x, y]
    rfl
theorem V.rV : ∀ {d : Nat} {ws : List T}, V d ws → ∀ n, 4 * ws.length + 4 ≤ n → rV n ws = true
  | _, _, .one h, n + 1, hn => by
    unfold Gr.rV
    rw [lastOut_none (S.clean rfl h 0 (by omega) fun _ => ⟨rfl, rfl⟩)]
    exact S.rS h n (by omega)
  | _, _, .two (a := a) (b := b) h k, n + 1, hn => by
    unfold Gr.rV
    rw [lastOut_at (by decide) (by decide) rfl (S.clean rfl k 0 (by omega) fun _ => ⟨rfl, rfl⟩)]
    simp only [List.length_append, List.length_cons] at hn
    have x := S.rS h n (by have := S.ne k; omega)
    have y := S.rS k n (by have := S.ne h; omega)
    show (Gr.rS n ((a ++ cmp :: b).take a.length) && Gr.rS n ((a ++ cmp :: b).drop (a.length + 1))) = true
    rw [take_mid, drop_mid, x, y]
    rfl
end
/-- the program's reader takes just the grammar's values of at most 40 words -/
theorem readV_iff {ws : List T} {n : Nat} (hn : 4 * ws.length + 4 ≤ n) : readV n ws = true ↔ (ws.length ≤ 40 ∧ V 0 ws) := by
  unfold readV
  simp only [Bool.and_eq_true, decide_eq_true_eq]
  constructor
  · rintro ⟨⟨h1, h2⟩, h3⟩
    exact ⟨h1, (sound n).1 0 ws h3 h2⟩
  · rintro ⟨h1, h2⟩
    exact ⟨⟨h1, V.most h2 (by decide)⟩, V.rV h2 n hn⟩
/-! ### the law's reader takes just the grammar's values -/
theorem loop_step {f : List T → Option (List T)} {p : T → Bool} {m : Nat} {w : T} {r r' : List T} (hp : p w = true) (hf : f r = some r') : loop f p (m + 1) (w :: r) = loop f p m r' := by
  show (if p w = true then _ else _) = _
  rw [if_pos hp, hf]
/-- more turns than words make no difference -/
theorem loop_fuel {f : List T → Option (List T)} {p : T → Bool} (hf : ∀ a b, f a = some b → b.length ≤ a.length) : ∀ (m k : Nat) (r : List T), r.length ≤ m → r.length ≤ k → loop f p m r = loop f p k r
  | 0, 0, _, _, _ => rfl
  | 0, k + 1, [], _, _ => rfl
  | m + 1, 0, [], _, _ => rfl
  | m + 1, k + 1, [], _, _ => rfl
  | 0, _ + 1, _ :: _, h, _ => by simp at h
  | _ + 1, 0, _ :: _, _, h => by simp at h
  | m + 1, k + 1, w :: r, h1, h2 => by
    simp only [List.length_cons] at h1 h2
    show (if p w = true then (match f r with | none => none | some r' => loop f p m r') else some (w :: r)) = (if p w = true then (match f r with | none => none | some r' => loop f p k r') else some (w :: r))
    split
    · cases e : f r with
      | none => rfl
      | some r' =>
        have := hf _ _ e
        exact loop_fuel hf m k r' (by omega) (by omega)
    · rfl
theorem loop_le {f : List T → Option (List T)} {p : T → Bool} (hf : ∀ a b, f a = some b → b.length ≤ a.length) : ∀ (m : Nat) (a b : List T), loop f p m a = some b → b.length ≤ a.length
  | 0, a, b, h => by cases h; exact Nat.le_refl _
  | m + 1, [], b, h => by cases h; exact Nat.le_refl _
  | m + 1, w :: r, b, h => by
    have h' : (if p w = true then (match f r with | none => none | some r' => loop f p m r') else some (w :: r)) = some b := h
    split at h'
    · cases e : f r with
      | none => rw [e] at h'; cases h'
      | some r' =>
        rw [e] at h'
        have a1 := hf _ _ e
        have a2 := loop_le hf m r' b h'
        simp only [List.length_cons]
        omega
    · cases h'
      exact Nat.le_refl _
/-- what stands behind a value: nothing that goes on with it -/
noncomputable def Ends (p : T → Bool) (r : List T) : Prop := ∀ w r', r = w :: r' → p w = false
theorem loop_end {f : List T → Option (List T)} {p : T → Bool} : ∀ {m : Nat} {r : List T}, Ends p r → loop f p m r = some r
  | 0, _, _ => rfl
  | _ + 1, [], _ => rfl
  | _ + 1, w :: r, h => by
    show (if p w = true then _ else _) = _
    rw [if_neg (by rw [h w r rfl]; simp)]
theorem shrink : ∀ (n : Nat), (∀ d a b, lF n d a = some b → b.length < a.length) ∧ (∀ d a b, lP n d a = some b → b.length < a.length) ∧ (∀ d a b, lS n d a = some b → b.length < a.length) ∧ (∀ d a b, lV n d a = some b → b.length < a.length)
  | 0 => ⟨fun _ _ _ h => by simp [lF] at h, fun _ _ _ h => by simp [lP] at h, fun _ _ _ h => by simp [lS] at h, fun _ _ _ h => by simp [lV] at h⟩
  | n + 1 => by
    obtain ⟨iF, iP, iS, iV⟩ := shrink n
    refine ⟨fun d a b h => ?_, fun d a b h => ?_, fun d a b h => ?_, fun d a b h => ?_⟩
    · match a, h with
      | [], h => rw [lF_nil] at h; cases h
      | w :: r, h =>
        have h' := h
        rw [lF_cons] at h'
        split at h'
        · split at h'
          · cases e : lV n (d + 1) r with
            | none => rw [e] at h'; cases h'
            | some x =>
              rw [e] at h'
              have l := iV _ _ _ e
              match x, l, h' with
              | w' :: r', l, h' =>
                have h2 : (if w' = cls then some r' else none) = some b := h'
                split at h2
                · cases h2
                  simp only [List.length_cons] at l ⊢
                  omega
                · cases h2
          · cases h'
        · split at h'
          · cases h'
            simp
          · cases h'
    · rw [lP_eq] at h
      cases e : lF n d a with
      | none => rw [e] at h; cases h
      | some r =>
        rw [e] at h
        have a1 := iF _ _ _ e
        have a2 := loop_le (fun x y z => Nat.le_of_lt (iF _ _ _ z)) _ _ _ h
        omega
    · rw [lS_eq] at h
      cases e : lP n d a with
      | none => rw [e] at h; cases h
      | some r =>
        rw [e] at h
        have a1 := iP _ _ _ e
        have a2 := loop_le (fun x y z => Nat.le_of_lt (iP _ _ _ z)) _ _ _ h
        omega
    · rw [lV_eq] at h
      cases e : lS n d a with
      | none => rw [e] at h; cases h
      | some x =>
        rw [e] at h
        have a1 := iS _ _ _ e
        match x, a1, h with
        | [], a1, h => cases h; exact a1
        | w :: r, a1, h =>
          have h' : (if isCmp w = true then lS n d r else some (w :: r)) = some b := h
          split at h'
          · have a2 := iS _ _ _ h'
            simp only [List.length_cons] at a1
            omega
          · cases h'
            exact a1
theorem lF_le (n d : Nat) (a b : List T) (h : lF n d a = some b) : b.length ≤ a.length := Nat.le_of_lt ((shrink n).1 d a b h)
theorem lP_le (n d : Nat) (a b : List T) (h : lP n d a = some b) : b.length ≤ a.length := Nat.le_of_lt ((shrink n).2.1 d a b h)
mutual
theorem F.lF : ∀ {d : Nat} {ws : List T}, F d ws → ∀ n, 4 * ws.length + 1 ≤ n → ∀ rest, lF n d (ws ++ rest) = some rest
  | _, _, .atom d, n + 1, _, rest => by
    show Gr.lF (n + 1) d (T.atom :: rest) = _
    rw [lF_cons, if_neg (by decide), if_pos rfl]
  | _, _, .par (d := d) (ws := ws) hd h, n + 1, hn, rest => by
    have l := V.ne h
    have e := V.lV h n (by simp only [List.length_cons, List.length_append, List.length_nil] at hn; omega) (cls :: rest) (fun w r' z => by cases z; exact ⟨rfl, rfl, rfl⟩)
    have e2 : opn :: (ws ++ [cls]) ++ rest = opn :: (ws ++ cls :: rest) := by simp
    rw [e2]
    rw [lF_cons, if_pos rfl, if_pos hd, e]
    rfl
theorem P.lP : ∀ {d : Nat} {ws : List T}, P d ws → ∀ n, 4 * ws.length + 1 ≤ n → ∀ rest, lP (n + 1) d (ws ++ rest) = loop (Gr.lF n d) isStar rest.length rest
  | _, _, .one h, n, hn, rest => by
    rw [lP_eq, F.lF h n hn]
  | _, _, .more (d := d) (a := a) (b := b) h k, n, hn, rest => by
    simp only [List.length_append, List.length_cons] at hn
    have l := P.ne h
    rw [List.append_assoc, P.lP h n (by omega), List.cons_append]
    rw [show (star :: (b ++ rest)).length = (b ++ rest).length + 1 from rfl, loop_step (r' := rest) rfl (F.lF k n (by omega) rest)]
    exact loop_fuel (lF_le n d) _ _ _ (by simp) (Nat.le_refl _)
theorem S.lS : ∀ {d : Nat} {ws : List T}, S d ws → ∀ n, 4 * ws.length + 2 ≤ n → ∀ rest, Ends isStar rest → lS (n + 1) d (ws ++ rest) = loop (Gr.lP n d) isAdd rest.length rest
  | _, _, .one h, n + 1, hn, rest, hs => by
    rw [lS_eq, P.lP h n (by omega), loop_end hs]
  | _, _, .more (d := d) (a := a) (b := b) h k, n + 1, hn, rest, hs => by
    simp only [List.length_append, List.length_cons] at hn
    have l := S.ne h
    rw [List.append_assoc, S.lS h (n + 1) (by omega) _ (fun w r' z => by cases z; rfl), List.cons_append]
    have e : Gr.lP (n + 1) d (b ++ rest) = some rest := by rw [P.lP k n (by omega), loop_end hs]
    rw [show (T.add :: (b ++ rest)).length = (b ++ rest).length + 1 from rfl, loop_step (r' := rest) rfl e]
    exact loop_fuel (lP_le (n + 1) d) _ _ _ (by simp) (Nat.le_refl _)
theorem V.lV : ∀ {d : Nat} {ws : List T}, V d ws → ∀ n, 4 * ws.length + 4 ≤ n → ∀ rest, (∀ w r', rest = w :: r' → isStar w = false ∧ isAdd w = false ∧ isCmp w = false) → lV n d (ws ++ rest) = some rest
  | _, _, .one h, n + 2, hn, rest, hr => by
    have e : Gr.lS (n + 1) _ (_ ++ rest) = some rest := (S.lS h n (by omega) rest fun w r' z => (hr w r' z).1).trans (loop_end fun w r' z => (hr w r' z).2.1)
    rw [lV_eq, e]
    match rest, hr with
    | [], _ => rfl
    | w :: r, hr =>
      show (if isCmp w = true then _ else _) = _
      rw [if_neg (by rw [(hr w r rfl).2.2]; simp)]
  | _, _, .two (d := d) (a := a) (b := b) h k, n + 2, hn, rest, hr => by
    simp only [List.length_append, List.length_cons] at hn
    have e : Gr.lS (n + 1) d (a ++ cmp :: (b ++ rest)) = some (cmp :: (b ++ rest)) := (S.lS h n (by omega) _ fun w r' z => by cases z; rfl).trans (loop_end fun w r' z => by cases z; rfl)
    have e2 : Gr.lS (n + 1) d (b ++ rest) = some rest := (S.lS k n (by omega) rest fun w r' z => (hr w r' z).1).trans (loop_end fun w r' z => (hr w r' z).2.1)
    rw [List.append_assoc, List.cons_append]
    rw [lV_eq, e]
    show (if isCmp cmp = true then Gr.lS (n + 1) d (b ++ rest) else _) = _
    rw [if_pos (show isCmp cmp = true from rfl), e2]
end
theorem loopP {n d : Nat} (iF : ∀ a b, lF n d a = some b → ∃ pre, a = pre ++ b ∧ F d pre) : ∀ (m : Nat) (r b pre0 : List T), loop (lF n d) isStar m r = some b → P d pre0 → ∃ pre, r = pre ++ b ∧ P d (pre0 ++ pre)
  | 0, r, b, pre0, h, g => by cases h; exact ⟨[], rfl, by rw [List.append_nil]; exact g⟩
  | m + 1, [], b, pre0, h, g => by cases h; exact ⟨[], rfl, by rw [List.append_nil]; exact g⟩
  | m + 1, w :: r, b, pre0, h, g => by
    have h' : (if isStar w = true then (match lF n d r with | none => none | some r' => loop (lF n d) isStar m r') else some (w :: r)) = some b := h
    split at h'
    · rename_i hw
      cases isStar_eq hw
      cases e : lF n d r with
      | none => rw [e] at h'; cases h'
      | some r' =>
        rw [e] at h'
        obtain ⟨p1, rfl, f1⟩ := iF _ _ e
        obtain ⟨p2, e2, f2⟩ := loopP iF m r' b (pre0 ++ star :: p1) h' (.more g f1)
        refine ⟨star :: p1 ++ p2, by rw [e2]; simp, ?_⟩
        rw [List.append_assoc] at f2
        exact f2
    · cases h'
      exact ⟨[], rfl, by rw [List.append_nil]; exact g⟩
theorem loopS {n d : Nat} (iP : ∀ a b, lP n d a = some b → ∃ pre, a = pre ++ b ∧ P d pre) : ∀ (m : Nat) (r b pre0 : List T), loop (lP n d) isAdd m r = some b → S d pre0 → ∃ pre, r = pre ++ b ∧ S d (pre0 ++ pre)
  | 0, r, b, pre0, h, g => by cases h; exact ⟨[], rfl, by rw [List.append_nil]; exact g⟩
  | m + 1, [], b, pre0, h, g => by cases h; exact ⟨[], rfl, by rw [List.append_nil]; exact g⟩
  | m + 1, w :: r, b, pre0, h, g => by
    have h' : (if isAdd w = true then (match lP n d r with | none => none | some r' => loop (lP n d) isAdd m r') else some (w :: r)) = some b := h
    split at h'
    · rename_i hw
      cases isAdd_eq hw
      cases e : lP n d r with
      | none => rw [e] at h'; cases h'
      | some r' =>
        rw [e] at h'
        obtain ⟨p1, rfl, f1⟩ := iP _ _ e
        obtain ⟨p2, e2, f2⟩ := loopS iP m r' b (pre0 ++ T.add :: p1) h' (.more g f1)
        refine ⟨T.add :: p1 ++ p2, by rw [e2]; simp, ?_⟩
        rw [List.append_assoc] at f2
        exact f2
    · cases h'
      exact ⟨[], rfl, by rw [List.append_nil]; exact g⟩
theorem lsound : ∀ (n : Nat), (∀ d a b, lF n d a = some b → ∃ pre, a = pre ++ b ∧ F d pre) ∧ (∀ d a b, lP n d a = some b → ∃ pre, a = pre ++ b ∧ P d pre) ∧ (∀ d a b, lS n d a = some b → ∃ pre, a = pre ++ b ∧ S d pre) ∧ (∀ d a b, lV n d a = some b → ∃ pre, a = pre ++ b ∧ V d pre)
  | 0 => ⟨fun _ _ _ h => by simp [lF] at h, fun _ _ _ h => by simp [lP] at h, fun _ _ _ h => by simp [lS] at h, fun _ _ _ h => by simp [lV] at h⟩
  | n + 1 => by
    obtain ⟨iF, iP, iS, iV⟩ := lsound n
    refine ⟨fun d a b h => ?_, fun d a b h => ?_, fun d a b h => ?_, fun d a b h => ?_⟩
    · match a, h with
      | [], h => rw [lF_nil] at h; cases h
      | w :: r, h =>
        have h' := h
        rw [lF_cons] at h'
        split at h'
        · rename_i hw
          cases hw
          split at h'
          · rename_i hd
            cases e : lV n (d + 1) r with
            | none => rw [e] at h'; cases h'
            | some x =>
              rw [e] at h'
              obtain ⟨pre, e1, g⟩ := iV _ _ _ e
              match x, e1, h' with
              | [], _, h' => cases h'
              | w' :: r', e1, h' =>
                have h2 : (if w' = cls then some r' else none) = some b := h'
                split at h2
                · rename_i hc
                  cases hc
                  cases h2
                  exact ⟨opn :: (pre ++ [cls]), by rw [e1]; simp, .par hd g⟩
                · cases h2
          · cases h'
        · split at h'
          · rename_i hw
            cases hw
            cases h'
            exact ⟨[T.atom], rfl, .atom d⟩
          · cases h'
    · rw [lP_eq] at h
      cases e : lF n d a with
      | none => rw [e] at h; cases h
      | some r =>
        rw [e] at h
        obtain ⟨p1, rfl, f1⟩ := iF _ _ _ e
        obtain ⟨p2, e2, f2⟩ := loopP (iF d) _ _ _ p1 h (.one f1)
        exact ⟨p1 ++ p2, by rw [e2]; simp, f2⟩
    · rw [lS_eq] at h
      cases e : lP n d a with
      | none => rw [e] at h; cases h
      | some r =>
        rw [e] at h
        obtain ⟨p1, rfl, f1⟩ := iP _ _ _ e
        obtain ⟨p2, e2, f2⟩ := loopS (iP d) _ _ _ p1 h (.one f1)
        exact ⟨p1 ++ p2, by rw [e2]; simp, f2⟩
    · rw [lV_eq] at h
      cases e : lS n d a with
      | none => rw [e] at h; cases h
      | some x =>
        rw [e] at h
        obtain ⟨p1, e1, f1⟩ := iS _ _ _ e
        match x, e1, h with
        | [], e1, h => cases h; exact ⟨p1, e1, .one f1⟩
        | w :: r, e1, h =>
          have h' : (if isCmp w = true then lS n d r else some (w :: r)) = some b := h
          split at h'
          · rename_i hw
            cases isCmp_eq hw
            obtain ⟨p2, e2, f2⟩ := iS _ _ _ h'
            exact ⟨p1 ++ cmp :: p2, by rw [e1, e2]; simp, .two f1 f2⟩
          · cases h'
            exact ⟨p1, e1, .one f1⟩
theorem law_iff {ws : List T} {n : Nat} (hn : 4 * ws.length + 4 ≤ n) : lV n 0 ws = some [] ↔ V 0 ws := by
  constructor
  · intro h
    obtain ⟨pre, e, g⟩ := (lsound n).2.2.2 0 ws [] h
    rw [List.append_nil] at e
    rw [e]
    exact g
  · intro h
    have := V.lV h n hn [] (fun w r' z => by cases z)
    rwa [List.append_nil] at this
/-- both readers take the same words -/
theorem same {ws : List T} {n m : Nat} (hn : 4 * ws.length + 4 ≤ n) (hm : 4 * ws.length + 4 ≤ m) : readV n ws = true ↔ (1 ≤ ws.length ∧ ws.length ≤ 40 ∧ lV m 0 ws = some []) := by
  rw [readV_iff hn, law_iff hm]
  exact ⟨fun ⟨a, b⟩ => ⟨V.ne b, a, b⟩, fun ⟨_, a, b⟩ => ⟨a, b⟩⟩
end Gr

/-! programs: what the package's reading does, and what the law's own reader does, as functions of words and lines -/
namespace Mi
open PySem
/-! ### words -/
inductive Kw where
  | cores | slice | lock | lent | queue | cell | part | task | later | work | ifk | elsek | endk | whilek | repeatk | unlock | put | take | sleep | start | wait | say | eq | other
  deriving DecidableEq
noncomputable def Kw.txt : Kw → Str
  | .cores => "cores" | .slice => "slice" | .lock => "lock" | .lent => "lent" | .queue => "queue" | .cell => "cell" | .part => "part" | .task => "task" | .later => "later" | .work => "work" | .ifk => "if" | .elsek => "else" | .endk => "end" | .whilek => "while"
  | .repeatk => "repeat" | .unlock => "unlock" | .put => "put" | .take => "take" | .sleep => "sleep" | .start => "start" | .wait => "wait" | .say => "say" | .eq => "=" | .other => ""
noncomputable def Kw.all : List Kw := [.cores, .slice, .lock, .lent, .queue, .cell, .part, .task, .later, .work, .ifk, .elsek, .endk, .whilek, .repeatk, .unlock, .put, .take, .sleep, .start, .wait, .say, .eq]
noncomputable def kwIn : List Kw → Str → Kw
  | [], _ => .other
  | k :: r, a => if a = k.txt then k else kwIn r a
noncomputable def kw (a : Str) : Kw := kwIn Kw.all a
theorem kwIn_txt : ∀ {l : List Kw} {a : Str} {k : Kw}, kwIn l a = k → k ≠ .other → a = k.txt
  | [], _, _, h, n => absurd h.symm n
  | k' :: r, a, k, h, n => by
    unfold kwIn at h
    split at h
    · rename_i e
      rw [← h]
      exact e
    · exact kwIn_txt h n
theorem kw_txt (k : Kw) (h : k ≠ .other) : kw k.txt = k := by
  cases k <;> first | (exact absurd rfl h) | (decide +kernel)
theorem kw_iff {a : Str} {k : Kw} (h : k ≠ .other) : kw a = k ↔ a = k.txt := ⟨fun e => kwIn_txt e h, fun e => by rw [e]; exact kw_txt k h⟩
noncomputable def KEPT : List Str := ["cores", "slice", "lock", "lent", "queue", "cell", "part", "task", "later", "work", "if", "else", "end", "while", "repeat", "unlock", "put", "take", "sleep", "start", "wait", "say"]
noncomputable def LETTERS : Str := "abcdefghijklmnopqrstuvwxyz"
noncomputable def DIGITS : Str := "0123456789"
noncomputable def allIn (w s : Str) : Bool := w.cps.toList.all fun c => decide (c ∈ s.cps.toList)
noncomputable def isName (w : Str) : Bool := (decide (1 ≤ w.cps.size) && decide (w.cps.size ≤ 8)) && (decide (w ∉ KEPT) && allIn w LETTERS)
theorem name_other {w : Str} (h : isName w = true) : kw w = .other := by
  cases e : kw w with
  | other => rfl
  | _ =>
    have e2 := kwIn_txt e (by decide)
    rw [e2] at h
    exact absurd h (by decide +kernel)
/-- the integer that digits write -/
noncomputable def dig (w : Str) : Int := w.cps.toList.foldl (fun (n : Int) (c : Nat) => 10 * n + ((c : Int) - 48)) 0
noncomputable def digits (hi : Int) : Nat := if hi < 10 then 1 else if hi < 100 then 2 else 3
noncomputable def wholeP (w : Str) (lo hi : Int) : Option Int :=
  if (decide (1 ≤ w.cps.size) && decide (w.cps.size ≤ digits hi)) && allIn w DIGITS then
    (if w.cps.toList.head? = some 48 ∧ w.cps.size > 1 then none else if lo ≤ dig w ∧ dig w ≤ hi then some (dig w) else none)
  else none
noncomputable def wholeL (w : Str) (lo hi : Int) : Bool :=
  if w.cps.size = 0 ∨ w.cps.size > 3 ∨ allIn w DIGITS = false then false
  else (decide (w.cps.toList = [48]) || decide (w.cps.toList.head? ≠ some 48)) && (decide (lo ≤ dig w) && decide (dig w ≤ hi))
theorem digit_range {c : Nat} (h : c ∈ DIGITS.cps.toList) : 48 ≤ c ∧ c ≤ 57 := by
  have e : DIGITS.cps.toList = [48, 49, 50, 51, 52, 53, 54, 55, 56, 57] := by decide +kernel
  rw [e] at h
  simp only [List.mem_cons, List.not_mem_nil, or_false] at h
  omega
theorem whole_eq {w : Str} {lo hi : Int} (h0 : 0 ≤ lo) (h1 : hi < 1000) : (wholeP w lo hi).isSome = wholeL w lo hi := by
  unfold wholeP wholeL
  obtain ⟨a⟩ := w
  obtain ⟨l⟩ := a
  show (if (decide (1 ≤ l.length) && decide (l.length ≤ digits hi)) && allIn ⟨⟨l⟩⟩ DIGITS then (if l.head? = some 48 ∧ l.length > 1 then none else if lo ≤ dig ⟨⟨l⟩⟩ ∧ dig ⟨⟨l⟩⟩ ≤ hi then some (dig ⟨⟨l⟩⟩) else none) else none).isSome = (if l.length = 0 ∨ l.length > 3 ∨ allIn ⟨⟨l⟩⟩ DIGITS = false then false else (decide (l = [48]) || decide (l.head? ≠ some 48)) && (decide (lo ≤ dig ⟨⟨l⟩⟩) && decide (dig ⟨⟨l⟩⟩ ≤ hi)))
  have dl : digits hi ≤ 3 ∧ 1 ≤ digits hi := by unfold digits; split <;> (try split) <;> omega
  cases ha : allIn ⟨⟨l⟩⟩ DIGITS with
  | false => simp
  | true =>
    have hd : ∀ c ∈ l, 48 ≤ c ∧ c ≤ 57 := fun c hc => by
      unfold allIn at ha
      have := List.all_eq_true.mp ha c hc
      exact digit_range (of_decide_eq_true this)
    match l, hd with
    | [], _ => simp
    | [a], hd =>
      have ea := hd a (by simp)
      have e : dig ⟨⟨[a]⟩⟩ = (a : Int) - 48 := by show 10 * 0 + ((a : Int) - 48) = _; omega
      rw [e]
      have : ([a] = [48]) ↔ a = 48 := by simp
      by_cases h : lo ≤ (a : Int) - 48 ∧ (a : Int) - 48 ≤ hi
      · simp [h, dl.2]
      · by_cases z1 : lo ≤ (a : Int) - 48
        · have z2 : ¬ (a : Int) - 48 ≤ hi := fun z => h ⟨z1, z⟩
          simp [z2, dl.2]
        · simp [z1, dl.2]
    | [a, b], hd =>
      have ea := hd a (by simp)
      have eb := hd b (by simp)
      have e : dig ⟨⟨[a, b]⟩⟩ = 10 * ((a : Int) - 48) + ((b : Int) - 48) := by show 10 * (10 * 0 + ((a : Int) - 48)) + ((b : Int) - 48) = _; omega
      rw [e]
      by_cases a48 : a = 48
      · simp [a48]
      · simp only [List.length_cons, List.length_nil, List.head?_cons, Option.some.injEq, a48, false_and, if_false]
        have g : ¬ ([a, b] = [48]) := by simp
        unfold digits
        by_cases h : lo ≤ 10 * ((a : Int) - 48) + ((b : Int) - 48) ∧ 10 * ((a : Int) - 48) + ((b : Int) - 48) ≤ hi
        · have h10 : ¬ hi < 10 := by omega
          simp [h, h10, a48]
          split <;> simp
        · by_cases z1 : lo ≤ 10 * ((a : Int) - 48) + ((b : Int) - 48)
          · have z2 : ¬ 10 * ((a : Int) - 48) + ((b : Int) - 48) ≤ hi := fun z => h ⟨z1, z⟩
            simp [z2]
          · simp [z1]
    | [a, b, c], hd =>
      have ea := hd a (by simp)
      have eb := hd b (by simp)
      have ec := hd c (by simp)
      have e : dig ⟨⟨[a, b, c]⟩⟩ = 100 * ((a : Int) - 48) + 10 * ((b : Int) - 48) + ((c : Int) - 48) := by show 10 * (10 * (10 * 0 + ((a : Int) - 48)) + ((b : Int) - 48)) + ((c : Int) - 48) = _; omega
      rw [e]
      by_cases a48 : a = 48
      · simp [a48]
      · simp only [List.length_cons, List.length_nil, List.head?_cons, Option.some.injEq, a48, false_and, if_false]
        unfold digits
        by_cases h : lo ≤ 100 * ((a : Int) - 48) + 10 * ((b : Int) - 48) + ((c : Int) - 48) ∧ 100 * ((a : Int) - 48) + 10 * ((b : Int) - 48) + ((c : Int) - 48) ≤ hi
        · have h10 : ¬ hi < 10 := by omega
          have h100 : ¬ hi < 100 := by omega
          simp [h, h10, h100, a48]
        · by_cases z1 : lo ≤ 100 * ((a : Int) - 48) + 10 * ((b : Int) - 48) + ((c : Int) - 48)
          · have z2 : ¬ 100 * ((a : Int) - 48) + 10 * ((b : Int) - 48) + ((c : Int) - 48) ≤ hi := fun z => h ⟨z1, z⟩
            simp [z2]
          · simp [z1]
    | a :: b :: c :: d :: r, hd =>
      have : ¬ (r.length + 1 + 1 + 1 + 1 ≤ digits hi) := by omega
      simp [this]
/-! ### expressions -/
noncomputable def tok (w : Str) : Gr.T :=
  if w = "(" then .opn else if w = ")" then .cls else if w = "*" then .star else if w = "+" ∨ w = "-" then .add else if w = "=" ∨ w = "<" ∨ w = ">" then .cmp
  else if isName w || (wholeP w 0 999).isSome then .atom else .junk
inductive Tr where
  | num (i : Int)
  | var (x : Str)
  | bin (s : Str) (l r : Tr)
noncomputable def join (s : Option Str) (l r : Option Tr) : Option Tr := match s, l, r with
  | some s, some a, some b => some (.bin s a b)
  | _, _, _ => none
noncomputable def atomT (w : Str) : Option Tr := if isName w then some (.var w) else (wholeP w 0 999).map .num
noncomputable def outP (p : Gr.T → Bool) (ws : List Str) : Option Nat := Gr.lastOut p (ws.map tok)
mutual
noncomputable def tV : Nat → List Str → Option Tr
  | 0, _ => none
  | n + 1, ws => match outP Gr.isCmp ws with
    | none => tS n ws
    | some k => join ws[k]? (tS n (ws.take k)) (tS n (ws.drop (k + 1)))
noncomputable def tS : Nat → List Str → Option Tr
  | 0, _ => none
  | n + 1, ws => match outP Gr.isAdd ws with
    | none => tP n ws
    | some k => join ws[k]? (tS n (ws.take k)) (tP n (ws.drop (k + 1)))
noncomputable def tP : Nat → List Str → Option Tr
  | 0, _ => none
  | n + 1, ws => match outP Gr.isStar ws with
    | none => tF n ws
    | some k => join ws[k]? (tP n (ws.take k)) (tF n (ws.drop (k + 1)))
noncomputable def tF : Nat → List Str → Option Tr
  | 0, _ => none
  | n + 1, ws => match ws with
    | [w] => atomT w
    | ws => if decide (ws.length > 2) && ws.head? == some "(" && ws.getLast? == some ")" then tV n (ws.drop 1).dropLast else none
end
noncomputable def readExpr (ws : List Str) : Option Tr := if ws.length ≤ 40 ∧ Gr.most 0 (ws.map tok) ≤ 6 then tV (4 * ws.length + 4) ws else none
theorem tok_atom (w : Str) : (tok w == Gr.T.atom) = (isName w || (wholeP w 0 999).isSome) := by
  unfold tok
  have g : ∀ x : Str, x ∈ (["(", ")", "*", "+", "-", "=", "<", ">"] : List Str) → (isName x || (wholeP x 0 999).isSome) = false := by decide +kernel
  split
  · rename_i h; rw [h, g _ (by decide)]; rfl
  · split
    · rename_i h; rw [h, g _ (by decide)]; rfl
    · split
      · rename_i h; rw [h, g _ (by decide)]; rfl
      · split
        · rename_i h; rw [g w (by rcases h with h | h <;> rw [h] <;> decide)]; rfl
        · split
          · rename_i h; rw [g w (by rcases h with h | h | h <;> rw [h] <;> decide)]; rfl
          · split
            · rename_i h; rw [h]; rfl
            · rename_i h; rw [Bool.not_eq_true] at h; rw [h]; rfl
theorem name_atom {w : Str} (h : isName w = true) : tok w = .atom := by
  have := tok_atom w
  rw [h, Bool.true_or] at this
  exact eq_of_beq this
theorem atomT_some (w : Str) : (atomT w).isSome = (tok w == Gr.T.atom) := by
  rw [tok_atom]
  unfold atomT
  cases isName w with
  | true => rfl
  | false => simp
theorem join_some {s : Option Str} {l r : Option Tr} (h : s.isSome = true) : (join s l r).isSome = (l.isSome && r.isSome) := by
  cases s with
  | none => cases h
  | some s => cases l <;> cases r <;> rfl
theorem at_some {p : Gr.T → Bool} {ws : List Str} {k : Nat} (h : outP p ws = some k) : ws[k]?.isSome = true := by
  obtain ⟨l, _⟩ := Gr.lastOut_split h
  rw [List.length_map] at l
  rw [List.getElem?_eq_getElem l]
  rfl
theorem head_tok (ws : List Str) : ((ws.map tok).head? == some Gr.T.opn) = (ws.head? == some "(") := by
  cases ws with
  | nil => rfl
  | cons w r =>
    show (some (tok w) == some Gr.T.opn) = (some w == some "(")
    by_cases h : w = "("
    · rw [h]; rfl
    · have e : tok w ≠ Gr.T.opn := by
        unfold tok
        rw [if_neg h]
        repeat' split
        all_goals decide
      show (tok w == Gr.T.opn) = (w == "(")
      rw [beq_eq_false_iff_ne.mpr e, beq_eq_false_iff_ne.mpr h]
theorem tok_cls (w : Str) : (tok w = Gr.T.cls) ↔ w = ")" := by
  constructor
  · intro h
    unfold tok at h
    split at h
    · cases h
    · split at h
      · assumption
      · repeat' split at h
        all_goals cases h
  · intro h
    rw [h]
    rfl
theorem last_tok (ws : List Str) : ((ws.map tok).getLast? == some Gr.T.cls) = (ws.getLast? == some ")") := by
  rw [List.getLast?_map]
  cases e : ws.getLast? with
  | none => rfl
  | some w =>
    show (some (tok w) == some Gr.T.cls) = (some w == some ")")
    by_cases h : w = ")"
    · rw [h]; rfl
    · have e : tok w ≠ Gr.T.cls := fun z => h ((tok_cls w).mp z)
      show (tok w == Gr.T.cls) = (w == ")")
      rw [beq_eq_false_iff_ne.mpr e, beq_eq_false_iff_ne.mpr h]
theorem t_some : ∀ (n : Nat), (∀ ws, (tV n ws).isSome = Gr.rV n (ws.map tok)) ∧ (∀ ws, (tS n ws).isSome = Gr.rS n (ws.map tok)) ∧ (∀ ws, (tP n ws).isSome = Gr.rP n (ws.map tok)) ∧ (∀ ws, (tF n ws).isSome = Gr.rF n (ws.map tok))
  | 0 => ⟨fun _ => rfl, fun _ => rfl, fun _ => rfl, fun _ => rfl⟩
  | n + 1 => by
    obtain ⟨iV, iS, iP, iF⟩ := t_some n
    refine ⟨fun ws => ?_, fun ws => ?_, fun ws => ?_, fun ws => ?_⟩
    · show Option.isSome (match outP Gr.isCmp ws with | none => tS n ws | some k => join ws[k]? (tS n (ws.take k)) (tS n (ws.drop (k + 1)))) = (match Gr.lastOut Gr.isCmp (ws.map tok) with | none => Gr.rS n (ws.map tok) | some k => Gr.rS n ((ws.map tok).take k) && Gr.rS n ((ws.map tok).drop (k + 1)))
      unfold outP
      cases e : Gr.lastOut Gr.isCmp (ws.map tok) with
      | none => exact iS ws
      | some k =>
        show (join ws[k]? (tS n (ws.take k)) (tS n (ws.drop (k + 1)))).isSome = (Gr.rS n ((ws.map tok).take k) && Gr.rS n ((ws.map tok).drop (k + 1)))
        rw [join_some (at_some e), iS, iS, List.map_take, List.map_drop]
    · show Option.isSome (match outP Gr.isAdd ws with | none => tP n ws | some k => join ws[k]? (tS n (ws.take k)) (tP n (ws.drop (k + 1)))) = (match Gr.lastOut Gr.isAdd (ws.map tok) with | none => Gr.rP n (ws.map tok) | some k => Gr.rS n ((ws.map tok).take k) && Gr.rP n ((ws.map tok).drop (k + 1)))
      unfold outP
      cases e : Gr.lastOut Gr.isAdd (ws.map tok) with
      | none => exact iP ws
      | some k =>
        show (join ws[k]? (tS n (ws.take k)) (tP n (ws.drop (k + 1)))).isSome = (Gr.rS n ((ws.map tok).take k) && Gr.rP n ((ws.map tok).drop (k + 1)))
        rw [join_some (at_some e), iS, iP, List.map_take, List.map_drop]
    · show Option.isSome (match outP Gr.isStar ws with | none => tF n ws | some k => join ws[k]? (tP n (ws.take k)) (tF n (ws.drop (k + 1)))) = (match Gr.lastOut Gr.isStar (ws.map tok) with | none => Gr.rF n (ws.map tok) | some k => Gr.rP n ((ws.map tok).take k) && Gr.rF n ((ws.map tok).drop (k + 1)))
      unfold outP
      cases e : Gr.lastOut Gr.isStar (ws.map tok) with
      | none => exact iF ws
      | some k =>
        show (join ws[k]? (tP n (ws.take k)) (tF n (ws.drop (k + 1)))).isSome = (Gr.rP n ((ws.map tok).take k) && Gr.rF n ((ws.map tok).drop (k + 1)))
        rw [join_some (at_some e), iP, iF, List.map_take, List.map_drop]
    · match ws with
      | [] => rfl
      | [w] => exact atomT_some w
      | a :: b :: r =>
        have e1 : tF (n + 1) (a :: b :: r) = if decide ((a :: b :: r).length > 2) && (a :: b :: r).head? == some "(" && (a :: b :: r).getLast? == some ")" then tV n ((a :: b :: r).drop 1).dropLast else none := rfl
        have e2 : Gr.rF (n + 1) ((a :: b :: r).map tok) = (decide (((a :: b :: r).map tok).length > 2) && ((a :: b :: r).map tok).head? == some Gr.T.opn && ((a :: b :: r).map tok).getLast? == some Gr.T.cls && Gr.rV n (((a :: b :: r).map tok).drop 1).dropLast) := rfl
        rw [e1, e2, head_tok, last_tok, List.length_map, ← List.map_drop, ← List.map_dropLast, ← iV]
        cases (decide ((a :: b :: r).length > 2) && (a :: b :: r).head? == some "(" && (a :: b :: r).getLast? == some ")") <;> rfl
theorem readExpr_some (ws : List Str) : (readExpr ws).isSome = Gr.readV (4 * ws.length + 4) (ws.map tok) := by
  unfold readExpr Gr.readV
  rw [List.length_map, ← (t_some _).1]
  by_cases h1 : ws.length ≤ 40
  · by_cases h2 : Gr.most 0 (ws.map tok) ≤ 6
    · simp [h1, h2]
    · simp [h1, h2]
  · simp [h1]
noncomputable def Tr.vars : Tr → List Str
  | .num _ => []
  | .var x => [x]
  | .bin _ l r => l.vars ++ r.vars
theorem split_mem {ws : List Str} {k : Nat} {s : Str} (h : ws[k]? = some s) (x : Str) : x ∈ ws ↔ (x ∈ ws.take k ∨ x = s ∨ x ∈ ws.drop (k + 1)) := by
  obtain ⟨hk, e⟩ := List.getElem?_eq_some_iff.mp h
  have e2 : ws = ws.take k ++ s :: ws.drop (k + 1) := by
    conv => lhs; rw [← List.take_append_drop k ws]
    rw [List.drop_eq_getElem_cons hk, e]
  conv => lhs; rw [e2]
  simp
theorem join_eq {s : Option Str} {l r : Option Tr} {t : Tr} (h : join s l r = some t) : ∃ s' a b, s = some s' ∧ l = some a ∧ r = some b ∧ t = .bin s' a b := by
  cases s <;> cases l <;> cases r <;> first | (cases h; done) | skip
  exact ⟨_, _, _, rfl, rfl, rfl, (Option.some.inj h).symm⟩
theorem at_split {α : Type} {l : List α} {k : Nat} {w : α} (hk : k < l.length) (e : l = l.take k ++ w :: l.drop (k + 1)) : l[k]? = some w := by
  have e2 := (List.take_append_drop k l).trans e
  have e3 := List.append_cancel_left e2
  rw [List.drop_eq_getElem_cons hk] at e3
  injection e3 with e4 _
  rw [List.getElem?_eq_getElem hk, e4]
/-- the names in an expression are the variables of its tree -/
theorem t_vars : ∀ (n : Nat), (∀ ws t, tV n ws = some t → ∀ x, x ∈ t.vars ↔ (x ∈ ws ∧ isName x = true)) ∧ (∀ ws t, tS n ws = some t → ∀ x, x ∈ t.vars ↔ (x ∈ ws ∧ isName x = true)) ∧ (∀ ws t, tP n ws = some t → ∀ x, x ∈ t.vars ↔ (x ∈ ws ∧ isName x = true)) ∧ (∀ ws t, tF n ws = some t → ∀ x, x ∈ t.vars ↔ (x ∈ ws ∧ isName x = true))
  | 0 => ⟨(by intro _ _ h; cases h), (by intro _ _ h; cases h), (by intro _ _ h; cases h), (by intro _ _ h; cases h)⟩
  | n + 1 => by
    obtain ⟨iV, iS, iP, iF⟩ := t_vars n
    have mid : ∀ {p : Gr.T → Bool} {ws : List Str} {k : Nat} {s : Str}, outP p ws = some k → ws[k]? = some s → p Gr.T.atom = false → isName s = false := by
      intro p ws k s h1 h2 hp
      obtain ⟨l, w, hw, e⟩ := Gr.lastOut_split h1
      have e3 : (ws.map tok)[k]? = some w := at_split l e
      rw [List.getElem?_map, h2] at e3
      cases hn : isName s with
      | false => rfl
      | true =>
        rw [← Option.some.inj e3, name_atom hn, hp] at hw
        cases hw
    have both : ∀ {ws : List Str} {k : Nat} {s : Str} {a b : Tr}, ws[k]? = some s → isName s = false → (∀ x, x ∈ a.vars ↔ (x ∈ ws.take k ∧ isName x = true)) → (∀ x, x ∈ b.vars ↔ (x ∈ ws.drop (k + 1) ∧ isName x = true)) → ∀ x, x ∈ (Tr.bin s a b).vars ↔ (x ∈ ws ∧ isName x = true) := by
      intro ws k s a b h1 h2 h3 h4 x
      show x ∈ a.vars ++ b.vars ↔ _
      rw [List.mem_append, h3, h4, split_mem h1]
      constructor
      · rintro (⟨h, hn⟩ | ⟨h, hn⟩)
        · exact ⟨.inl h, hn⟩
        · exact ⟨.inr (.inr h), hn⟩
      · rintro ⟨h | h | h, hn⟩
        · exact .inl ⟨h, hn⟩
        · rw [h, h2] at hn; cases hn
        · exact .inr ⟨h, hn⟩
    refine ⟨fun ws t h => ?_, fun ws t h => ?_, fun ws t h => ?_, fun ws t h => ?_⟩
    · have h' : (match outP Gr.isCmp ws with | none => tS n ws | some k => join ws[k]? (tS n (ws.take k)) (tS n (ws.drop (k + 1)))) = some t := h
      cases e : outP Gr.isCmp ws with
      | none => rw [e] at h'; exact iS ws t h'
      | some k =>
        rw [e] at h'
        obtain ⟨s, a, b, h1, h2, h3, rfl⟩ := join_eq h'
        exact both h1 (mid e h1 rfl) (iS _ _ h2) (iS _ _ h3)
    · have h' : (match outP Gr.isAdd ws with | none => tP n ws | some k => join ws[k]? (tS n (ws.take k)) (tP n (ws.drop (k + 1)))) = some t := h
      cases e : outP Gr.isAdd ws with
      | none => rw [e] at h'; exact iP ws t h'
      | some k =>
        rw [e] at h'
        obtain ⟨s, a, b, h1, h2, h3, rfl⟩ := join_eq h'
        exact both h1 (mid e h1 rfl) (iS _ _ h2) (iP _ _ h3)
    · have h' : (match outP Gr.isStar ws with | none => tF n ws | some k => join ws[k]? (tP n (ws.take k)) (tF n (ws.drop (k + 1)))) = some t := h
      cases e : outP Gr.isStar ws with
      | none => rw [e] at h'; exact iF ws t h'
      | some k =>
        rw [e] at h'
        obtain ⟨s, a, b, h1, h2, h3, rfl⟩ := join_eq h'
        exact both h1 (mid e h1 rfl) (iP _ _ h2) (iF _ _ h3)
    · match ws, h with
      | [], h => cases h
      | [w], h =>
        have h' : atomT w = some t := h
        unfold atomT at h'
        intro x
        split at h'
        · rename_i hn
          cases h'
          show x ∈ [w] ↔ _
          simp only [List.mem_singleton]
          exact ⟨fun e => ⟨e, by rw [e]; exact hn⟩, fun e => e.1⟩
        · rename_i hn
          obtain ⟨i, _, rfl⟩ := Option.map_eq_some_iff.mp h'
          show x ∈ [] ↔ _
          simp only [List.mem_singleton, List.not_mem_nil, false_iff, not_and]
          rintro rfl
          exact hn
      | a :: b :: r, h =>
        have h' : (if decide ((a :: b :: r).length > 2) && (a :: b :: r).head? == some "(" && (a :: b :: r).getLast? == some ")" then tV n ((a :: b :: r).drop 1).dropLast else none) = some t := h
        split at h'
        · rename_i c
          simp only [Bool.and_eq_true, decide_eq_true_eq, beq_iff_eq] at c
          obtain ⟨⟨c1, c2⟩, c3⟩ := c
          intro x
          rw [iV _ _ h' x]
          have e : (a :: b :: r) = ("(" : Str) :: (((a :: b :: r).drop 1).dropLast ++ [(")" : Str)]) := by
            cases Option.some.inj c2
            have hr : b :: r ≠ [] := by simp
            have e1 := List.dropLast_concat_getLast hr
            rw [List.getLast?_cons, List.getLast?_eq_some_getLast hr] at c3
            have e2 : (b :: r).getLast hr = ")" := by simpa using c3
            rw [e2] at e1
            show ("(" : Str) :: b :: r = ("(" : Str) :: ((b :: r).dropLast ++ [(")" : Str)])
            rw [e1]
          have n1 : isName "(" = false := by decide +kernel
          have n2 : isName ")" = false := by decide +kernel
          conv => rhs; rw [e]
          simp only [List.mem_cons, List.mem_append, List.not_mem_nil, or_false]
          constructor
          · rintro ⟨h1, h2⟩
            exact ⟨.inr (.inl h1), h2⟩
          · rintro ⟨h1 | h1 | h1, h2⟩
            · rw [h1, n1] at h2; cases h2
            · exact ⟨h1, h2⟩
            · rw [h1, n2] at h2; cases h2
        · cases h'
theorem readExpr_vars {ws : List Str} {t : Tr} (h : readExpr ws = some t) (x : Str) : x ∈ t.vars ↔ (x ∈ ws ∧ isName x = true) := by
  unfold readExpr at h
  split at h
  · exact (t_vars _).1 ws t h x
  · cases h
end Mi

/-! words as texts: a sign in a text, the integer that digits write -/
namespace Ws
open PySem L2
theorem occ_go (s sub : Str) (hi : Nat) : ∀ (l : List Nat) (free : Nat), (∀ i ∈ l, free ≤ i) →
    (List.foldl (fun (b : Array Nat × Nat) i => if (decide (b.1.size < 1) && decide (b.2 ≤ i) && decide (i + sub.length ≤ hi) && Builtin.Str.subAt s sub i) = true then (b.1.push i, i + sub.length) else (b.1, b.2)) (#[], free) l).1.toList.isEmpty = !(l.any fun i => decide (i + sub.length ≤ hi) && Builtin.Str.subAt s sub i)
  | [], _, _ => rfl
  | i :: l, free, h => by
    rw [List.foldl_cons, List.any_cons]
    have hf : free ≤ i := h i (List.mem_cons_self ..)
    by_cases c : (decide (i + sub.length ≤ hi) && Builtin.Str.subAt s sub i) = true
    · have keep : ∀ (m : List Nat) (f : Nat), (List.foldl (fun (b : Array Nat × Nat) i => if (decide (b.1.size < 1) && decide (b.2 ≤ i) && decide (i + sub.length ≤ hi) && Builtin.Str.subAt s sub i) = true then (b.1.push i, i + sub.length) else (b.1, b.2)) (#[i], f) m).1.toList.isEmpty = false := by
        intro m
        induction m with
        | nil => intro f; rfl
        | cons x m ih =>
          intro f
          rw [List.foldl_cons, if_neg (by simp)]
          exact ih f
      rw [c, Bool.true_or, if_pos (by rw [Bool.and_assoc, c, Bool.and_true]; simp [hf])]
      exact keep l _
    · have c2 : (decide (i + sub.length ≤ hi) && Builtin.Str.subAt s sub i) = false := by simpa using c
      rw [if_neg (by rw [Bool.and_assoc, c2, Bool.and_false]; simp), c2, Bool.false_or]
      exact occ_go s sub hi l free fun j hj => h j (List.mem_cons_of_mem _ hj)
theorem occ_any (s sub : Str) : (Builtin.Str.occurrences s sub 0 s.length 1).isEmpty = !((List.range' 0 (s.length + 1)).any fun i => decide (i + sub.length ≤ s.length) && Builtin.Str.subAt s sub i) := by
  rw [← occ_go s sub s.length (List.range' 0 (s.length + 1)) 0 (fun _ _ => Nat.zero_le _)]
  unfold Builtin.Str.occurrences
  have e : ∀ (l : List Nat) (b : Array Nat × Nat), (forIn l b fun i (__s : Array Nat × Nat) => (if (decide (__s.1.size < 1) && decide (__s.2 ≤ i) && decide (i + sub.length ≤ s.length) && Builtin.Str.subAt s sub i) = true then pure (ForInStep.yield (__s.1.push i, i + sub.length)) else pure (ForInStep.yield (__s.1, __s.2)) : Id (ForInStep (Array Nat × Nat)))) = (List.foldl (fun (b : Array Nat × Nat) i => if (decide (b.1.size < 1) && decide (b.2 ≤ i) && decide (i + sub.length ≤ s.length) && Builtin.Str.subAt s sub i) = true then (b.1.push i, i + sub.length) else (b.1, b.2)) b l) := by
    intro l
    induction l with
    | nil => intro b; rfl
    | cons i l ih =>
      intro b
      rw [List.forIn_cons, List.foldl_cons]
      by_cases c : (decide (b.1.size < 1) && decide (b.2 ≤ i) && decide (i + sub.length ≤ s.length) && Builtin.Str.subAt s sub i) = true
      · rw [if_pos c, if_pos c]
        exact ih _
      · rw [if_neg c, if_neg c]
        exact ih _
  have sz : ({ start := 0, stop := s.length + 1, step := 1, step_pos := by decide } : Std.Legacy.Range).size = s.length + 1 := by
    simp [Std.Legacy.Range.size]
  have e2 := e (List.range' 0 ({ start := 0, stop := s.length + 1, step := 1, step_pos := by decide } : Std.Legacy.Range).size) (#[], 0)
  rw [sz] at e2
  simp only [Std.Legacy.Range.forIn_eq_forIn_range', sz]
  exact congrArg (fun z : Array Nat × Nat => z.1.toList.isEmpty) e2
theorem occ1 (s : Str) (c : Nat) : (!(Builtin.Str.occurrences s ⟨#[c]⟩ 0 s.length 1).isEmpty) = decide (c ∈ s.cps.toList) := by
  rw [occ_any, Bool.not_not, Bool.eq_iff_iff, List.any_eq_true, decide_eq_true_iff]
  constructor
  · rintro ⟨i, hi, h⟩
    rw [Bool.and_eq_true, decide_eq_true_iff] at h
    obtain ⟨h1, h2⟩ := h
    have h1' : i + 1 ≤ s.cps.size := h1
    have h2' : (s.cps.extract i (i + 1) == #[c]) = true := h2
    have h3 := eq_of_beq h2'
    have h4 : (s.cps.extract i (i + 1))[0]? = some c := by rw [h3]; rfl
    rw [Array.getElem?_extract] at h4
    simp at h4
    obtain ⟨_, h4⟩ := h4
    exact Array.mem_toList_iff.mpr (Array.mem_of_getElem? h4)
  · intro h
    obtain ⟨i, hi, e⟩ := List.mem_iff_getElem.mp h
    have hi' : i < s.cps.size := hi
    refine ⟨i, by rw [List.mem_range'_1]; show 0 ≤ i ∧ i < 0 + (s.cps.size + 1); omega, ?_⟩
    rw [Bool.and_eq_true, decide_eq_true_iff]
    refine ⟨hi', ?_⟩
    show (s.cps.extract i (i + 1) == #[c]) = true
    have e' : s.cps[i] = c := e
    rw [beq_iff_eq]
    apply Array.ext
    · simp; omega
    · intro j h1 h2
      simp at h1 h2
      have : j = 0 := by omega
      subst this
      simp [e']
open Mi (dig DIGITS allIn) in
theorem digits_text {w : Str} (h1 : w.cps.toList ≠ []) (h2 : allIn w DIGITS = true) (h3 : w.length ≤ 640) : intText? w = some (dig w) := by
  have hd : ∀ c ∈ w.cps.toList, 48 ≤ c ∧ c ≤ 57 := fun c hc => by
    unfold Mi.allIn at h2
    exact Mi.digit_range (of_decide_eq_true (List.all_eq_true.mp h2 c hc))
  have n0 : numTextOf w = w.cps.toList := by
    unfold numTextOf
    refine if_pos ?_
    rw [← Array.all_toList, List.all_eq_true]
    intro c hc
    have := hd c hc
    exact decide_eq_true (by omega)
  have n1 : numSeenOf w = w.cps.toList := by
    unfold numSeenOf
    rw [n0]
    have tw : ∀ l : List Nat, (∀ c ∈ l, 48 ≤ c ∧ c ≤ 57) → List.takeWhile (fun x => x != 0) l = l := by
      intro l
      induction l with
      | nil => intro _; rfl
      | cons c r ih =>
        intro hl
        have := hl c (List.mem_cons_self ..)
        rw [List.takeWhile_cons, if_pos (by simp; omega), ih fun x hx => hl x (List.mem_cons_of_mem _ hx)]
    exact tw _ hd
  have nb : ∀ l : List Nat, (∀ c ∈ l, 48 ≤ c ∧ c ≤ 57) → List.dropWhile NumText.blank l = l := by
    intro l hl
    cases l with
    | nil => rfl
    | cons c r =>
      have := hl c (List.mem_cons_self ..)
      refine List.dropWhile_cons_of_neg ?_
      unfold NumText.blank
      simp; omega
  have ns : ∀ l : List Nat, (∀ c ∈ l, 48 ≤ c ∧ c ≤ 57) → NumText.sign l = (false, l) := by
    intro l hl
    unfold NumText.sign
    split
    · have := hl 45 (List.mem_cons_self ..); omega
    · have := hl 43 (List.mem_cons_self ..); omega
    · rfl
  have nc : NumText.core w.cps.toList = w.cps.toList := by
    unfold NumText.core
    rw [nb _ hd, ns _ hd, nb _ (fun c hc => hd c (List.mem_reverse.mp hc)), List.reverse_reverse]
  unfold intText?
  rw [n0, n1, nc, if_pos (by simp)]
  have st : ∀ (l : List Nat) (a : Array Nat) (b : Bool), (∀ c ∈ l, 48 ≤ c ∧ c ≤ 57) → List.foldlM (NumText.step 10) (a, b) l = some (a ++ (l.map fun c => c - 48).toArray, b || !l.isEmpty) := by
    intro l
    induction l with
    | nil => intro a b _; simp
    | cons c r ih =>
      intro a b hl
      have h := hl c (List.mem_cons_self ..)
      have e : NumText.step 10 (a, b) c = some (a.push (c - 48), true) := by
        unfold NumText.step NumText.digit?
        rw [if_neg (by simp; omega), if_pos (by simp; omega)]
        exact if_pos (by omega)
      rw [List.foldlM_cons, e]
      show List.foldlM (NumText.step 10) (a.push (c - 48), true) r = _
      rw [ih _ _ fun x hx => hl x (List.mem_cons_of_mem _ hx)]
      simp
  have dg : NumText.digits? 10 w.cps.toList = some ((w.cps.toList.map fun c => c - 48).toArray) := by
    unfold NumText.digits?
    rw [st _ _ _ hd]
    cases hw : w.cps.toList with
    | nil => exact absurd hw h1
    | cons c r => simp
  have wo : ∀ (l : List Nat) (n : Nat), (∀ c ∈ l, 48 ≤ c ∧ c ≤ 57) → ((List.foldl (fun acc d => acc * 10 + d) n (l.map fun c => c - 48) : Nat) : Int) = l.foldl (fun (n : Int) (c : Nat) => 10 * n + ((c : Int) - 48)) (n : Int) := by
    intro l
    induction l with
    | nil => intro n _; rfl
    | cons c r ih =>
      intro n hl
      have h := hl c (List.mem_cons_self ..)
      rw [List.map_cons, List.foldl_cons, List.foldl_cons, ih _ fun x hx => hl x (List.mem_cons_of_mem _ hx)]
      congr 1
      omega
  rw [dg]
  have hl : w.cps.toList.length ≤ 640 := h3
  show (if (w.cps.toList.map fun c => c - 48).toArray.size ≤ 4300 then _ else _) = _
  rw [if_pos (by simp; exact Nat.le_trans h3 (by decide)), nb _ hd, ns _ hd]
  unfold NumText.worth
  rw [if_neg (by simp), ← Array.foldl_toList]
  show some _ = some _
  rw [wo _ 0 hd]
  rfl
end Ws
namespace Ws
open PySem L2
theorem lc_str {x : Str} {g : TG} {tt : TT} {te : TE} {vs : List Nat} {σ : St} {H1 : Hp} {D : Addr} {Qd : Hp → Prop} (Pv : Nat → Hp → Prop) (h0 : Pv 0 (upd H1 D (HO.lst [])))
    (st : ∀ (i c : Nat) (H : Hp), x.cps[i]? = some c → Pv i H → g (V.str ⟨#[c]⟩) (wipe σ vs) H fun σ2 H2 => wipe σ2 vs = wipe σ vs ∧ tt σ2 H2 fun b H3 => if b = true then te σ2 H3 fun y H4 => ∃ acc, H4 D = some (HO.lst acc) ∧ acc.length < sizeLine ∧ Pv (i + 1) (upd H4 D (HO.lst (acc ++ [y]))) else Pv (i + 1) H3)
    (hd : ∀ H, Pv x.cps.size H → Qd H) :
    ∃ W : Nat → Nat → Hp → Prop, (∃ m, W 0 m (upd H1 D (HO.lst []))) ∧ ∀ (i m : Nat) (H : Hp), W i m H → (Its x).stop i H ∧ Qd H ∨ (Its x).go i H ∧ ∃ Nx : Hp → Prop, (∀ H', Nx H' → ∃ m', m' < m ∧ W (i + 1) m' H') ∧
      ∀ (y : V) (H' : Hp), (Its x).yld i H y H' → g y (wipe σ vs) H' fun σ2 H2 => wipe σ2 vs = wipe σ vs ∧ tt σ2 H2 fun b H3 => if b = true then te σ2 H3 fun y H4 => ∃ acc, H4 D = some (HO.lst acc) ∧ acc.length < sizeLine ∧ Nx (upd H4 D (HO.lst (acc ++ [y]))) else Nx H3 := by
  refine ⟨fun i m H => i ≤ x.cps.size ∧ m = x.cps.size - i ∧ Pv i H, ⟨_, Nat.zero_le _, rfl, h0⟩, ?_⟩
  rintro i m H ⟨hi, hm, hp⟩
  by_cases e : i = x.cps.size
  · subst e
    exact .inl ⟨Nat.le_refl _, hd H hp⟩
  · have hl : i < x.cps.size := by omega
    refine .inr ⟨hl, fun H' => Pv (i + 1) H', fun H' h => ⟨x.cps.size - (i + 1), by omega, by omega, rfl, h⟩, ?_⟩
    rintro y H' ⟨rfl, c, hc, rfl⟩
    exact st i c H' hc hp
end Ws

namespace Ws
open PySem PySem.Spec PyProof.Rows L2
/-! ### more rules: data in a tuple; dicts of the module's text -/
section
variable {X : Cx}
noncomputable def rInDT (K : PySem.W.Frag) : R2 := fun x y H Q => ∃ d ds, Dp K H x d ∧ Dp K H y (.tuple ds) ∧ SeqAt.shaped d = true ∧ SeqAt.shaped (.tuple ds) = true ∧ Q (.bl (ds.any fun z => PyData.eqv z d)) H
theorem op_inDT (hu : X.A.units + 65 < cLine) : OpR X (compareOp .In) (rInDT X.K) := by
  intro pins s σ H x y v u Q I rx ry h
  obtain ⟨d, ds, hd, he, sd, se, q⟩ := h
  obtain ⟨as, r1⟩ := Dp.reads I d x v hd rx
  obtain ⟨bs, r2⟩ := Dp.reads I (.tuple ds) y u he ry
  exact SeqAt.in_tuple_reads r2 r1 (SeqAt.canLay_of_shaped se) (SeqAt.canLay_of_shaped sd) (room_in_shaped sd hu) ⟨.bl _, H, I, rfl, q⟩
/-! a dict of the module's text, keys texts -/
/-- at a: such a dict, that holds o at x -/
noncomputable def KHas (K : PySem.W.Frag) (w : World) (a : Addr) (x : Str) (o : Option V) : Prop :=
  ∃ es n r, KDict K w a es n ∧ PySem.W.nsIn K a x = some r ∧ RelO o r
theorem op_in_k : OpR X (compareOp .In) (fun x y H Q => ∃ (z : Str) (a : Addr) (o : Option V), x = .str z ∧ y = .ref a ∧ KHas X.K X.w a z o ∧ Q (.bl o.isSome) H) := by
  intro pins s σ H x y v u Q I rx ry h
  obtain ⟨z, a, o, rfl, rfl, ⟨es, n, r, D, e, ro⟩, q⟩ := h
  rw [ro.isSome_eq] at q
  exact op_in_kd D pins s σ H _ _ v u Q I rx ry ⟨z, r, rfl, rfl, e, q⟩
noncomputable def rIxK (K : PySem.W.Frag) (w : World) : R2 := fun x y H Q => ∃ (z : Str) (a : Addr) (v : V), x = .ref a ∧ y = .str z ∧ KHas K w a z (some v) ∧ Q v H
theorem ix_k : IxR X (rIxK X.K X.w) := by
  intro value slice pins s σ H x y v u Q I rx ry h hs
  obtain ⟨z, a, r, rfl, rfl, ⟨es, n, q0, D, e, ro⟩, q⟩ := h
  obtain ⟨u0, rfl, ru⟩ := RelO.some_of (v := r) (o := q0) ro
  exact ix_kdict value slice pins s σ H _ _ v u Q I rx ry ⟨a, z, r, rfl, rfl, ⟨es, n, u0, D.at_, D.lit, e, ru⟩, q⟩ hs
variable {o e : Expr} {apos cpos : Pos} {td ty : TE}
noncomputable def tKGet (K : PySem.W.Frag) (w : World) (td ty : TE) : TE := fun σ H Q => td σ H fun x H1 => ∃ a es n, x = .ref a ∧ KDict K w a es n ∧ ty σ H1 fun y H2 => ∃ z o, y = .str z ∧ KHas K w a z o ∧ Q (o.getD .non) H2
theorem pe_kget1 (ho : PE X o td) (he : PE X e ty) (m : M1 X o "get" apos e cpos) : PE X (.Call (.Attribute o "get" apos) [e] [] cpos) (tKGet X.K X.w td ty) := by
  refine ⟨fun pins s σ H Q I h => ?_⟩
  refine wpAny_Call_method m.base m.few m.line PySem.F.plainAttrs_dict PySem.F.slot_dict_get PySem.F.type_dict_get (thn (ho.run pins s σ H _ I h) fun u s1 ⟨x, H1, I1, rx, a, es, n, ex, D, q1⟩ => ?_)
  subst ex
  obtain rfl : u = Value.ref a := rx
  have hm := PySem.W.mapOf_K (prog := X.prog) (w := X.w) I1.kIn D.at_ D.lit
  refine ⟨hm.typeIs, hm.noDict, ?_⟩
  rw [m.trees]
  refine Calls.callWith_builtin rfl (Calls.evalArgs_plain (Calls.spliced_cons (thn (he.run pins s1 σ H1 _ I1 q1) fun iv s2 ⟨y, H2, I2, ry, z, ov, ey, g, q2⟩ => Calls.spliced_nil ?_)))
  subst ey
  obtain ⟨es', n', r, D', e, ro⟩ := g
  obtain ⟨t, rfl⟩ := ry
  have hm2 := PySem.W.mapOf_K (prog := X.prog) (w := X.w) I2.kIn D'.at_ D'.lit
  refine call_meetsIn PySem.F.slot_dict_get hm2.typeIs PySem.F.entry_dict_get (PySem.F.args_dict_get_2 _ _) (meets_dict_get (strKind X.prog X.w) a (strKind_is X.prog X.w z t) D'.low) ⟨_, hm2, ⟨_, H2, I2.tok _, ?_, q2⟩⟩
  rw [PySem.W.find_K D'.at_ e]
  exact ro.getD rfl
end
end Ws
namespace Ws
open PySem PySem.Spec PyProof.Rows L2
/-! ### tests of words -/
theorem hu65 {A : Around} {k : Nat} (hr : Room k A) : A.units + 65 < cLine := by have := hr.un; omega
theorem in_strs' (x : Str) (l : List Str) : inV (.str x) (l.map V.str) = decide (x ∈ l) := by
  unfold inV
  rw [List.any_map, Bool.eq_iff_iff, List.any_eq_true, decide_eq_true_iff]
  constructor
  · rintro ⟨y, hy, e⟩
    have e' : y = x := by simpa [eqV] using e
    exact e' ▸ hy
  · exact fun h => ⟨x, h, by simp [eqV]⟩
noncomputable def litsS : List Str → TA
  | [] => tNil
  | x :: r => tCons (tC (V.str x)) (litsS r)
theorem litsS_get : ∀ (ls : List Str) (σ : L2.St) (H : Hp) (Q : List V → Hp → Prop), litsS ls σ H Q ↔ Q (ls.map V.str) H
  | [], _, _, _ => Iff.rfl
  | x :: r, σ, H, Q => litsS_get r σ H fun vs H1 => Q (V.str x :: vs) H1
/-- a in ("..", ..) -/
theorem t_inS {K : PySem.W.Frag} {i : Nat} {a : Str} {ls : List Str} {σ : L2.St} {H : Hp} {Q : Bool → Hp → Prop} (h : σ[i]? = some (some (.str a))) (hz : ls.length ≤ 1000) (q : ∀ H', Same H H' → Q (decide (a ∈ ls)) H') :
    tTest (tOp (rIn K false) (tVar i) (tTup (litsS ls))) σ H Q := by
  refine ⟨_, h, ?_⟩
  refine (litsS_get ls σ H _).mpr ⟨by rw [List.length_map]; exact Nat.le_trans hz (by decide), fun p np => ?_⟩
  refine ⟨p, ls.map V.str, rfl, .inr (.inl (.inl upd_same)), rfl, by rw [List.all_map]; exact List.all_eq_true.mpr fun _ _ => rfl, _, rfl, ?_⟩
  show Q (inV (.str a) (ls.map V.str)) _
  rw [in_strs']
  exact q _ (Same.new np)
theorem decS {a z : Str} : decide (V.str a = V.str z) = decide (a = z) := by
  rw [Bool.eq_iff_iff, decide_eq_true_iff, decide_eq_true_iff]
  exact ⟨fun h => by injection h, fun h => by rw [h]⟩
theorem decI {a z : Int} : decide (V.int a = V.int z) = decide (a = z) := by
  rw [Bool.eq_iff_iff, decide_eq_true_iff, decide_eq_true_iff]
  exact ⟨fun h => by injection h, fun h => by rw [h]⟩
/-- a == "..", as a test and as a value -/
theorem t_eqS {i : Nat} {a z : Str} {σ : L2.St} {H : Hp} {Q : Bool → Hp → Prop} (h : σ[i]? = some (some (.str a))) (q : Q (decide (a = z)) H) : tTest (tOp rEq (tVar i) (tC (.str z))) σ H Q :=
  ⟨_, h, rfl, _, rfl, by rw [decS]; exact q⟩
theorem t_neS {i : Nat} {a z : Str} {σ : L2.St} {H : Hp} {Q : Bool → Hp → Prop} (h : σ[i]? = some (some (.str a))) (q : Q (!decide (a = z)) H) : tTest (tOp rNe (tVar i) (tC (.str z))) σ H Q :=
  ⟨_, h, rfl, _, rfl, by rw [decS]; exact q⟩
theorem e_eqS {i : Nat} {a z : Str} {σ : L2.St} {H : Hp} {Q : VK} (h : σ[i]? = some (some (.str a))) (q : Q (.bl (decide (a = z))) H) : tOp rEq (tVar i) (tC (.str z)) σ H Q :=
  ⟨_, h, rfl, by rw [decS]; exact q⟩
theorem e_eqI {i : Nat} {a z : Int} {σ : L2.St} {H : Hp} {Q : VK} (h : σ[i]? = some (some (.int a))) (q : Q (.bl (decide (a = z))) H) : tOp rEq (tVar i) (tC (.int z)) σ H Q :=
  ⟨_, h, rfl, by rw [decI]; exact q⟩
theorem t_eqI {i : Nat} {a z : Int} {σ : L2.St} {H : Hp} {Q : Bool → Hp → Prop} (h : σ[i]? = some (some (.int a))) (q : Q (decide (a = z)) H) : tTest (tOp rEq (tVar i) (tC (.int z))) σ H Q :=
  ⟨_, h, rfl, _, rfl, by rw [decI]; exact q⟩
/-- x and y, as values -/
theorem v_and {ta tb : TE} {σ : L2.St} {H : Hp} {Q : VK} {c : Bool} {d : Bool} (h : ta σ H fun x H1 => x = .bl c ∧ ((c = true → tb σ H1 fun y H2 => y = .bl d ∧ Q (.bl d) H2) ∧ (c = false → Q (.bl false) H1))) (mono : ∀ {H1 : Hp} {Q1 Q2 : VK}, (∀ x H', Q1 x H' → Q2 x H') → tb σ H1 Q1 → tb σ H1 Q2) (monoA : ∀ {Q1 Q2 : VK}, (∀ x H', Q1 x H' → Q2 x H') → ta σ H Q1 → ta σ H Q2) : tAndV ta tb σ H Q := by
  refine monoA (fun x H1 ⟨e, h1, h2⟩ => ⟨c, e, ?_⟩) h
  cases c with
  | true => exact iteT (mono (fun y H2 ⟨e, q⟩ => by rw [e]; exact q) (h1 rfl))
  | false => exact iteF (h2 rfl)
theorem at_last {xs : List V} {n : Nat} {v : V} (hn : 0 < n) (hl : xs.length = n) (h : xs[n - 1]? = some v) : atI xs (-1) = some v := by
  have hx : xs ≠ [] := by intro z; rw [z] at hl; simp at hl; omega
  have e := List.dropLast_concat_getLast hx
  have e2 : xs.getLast hx = v := by
    rw [List.getLast_eq_getElem]
    subst hl
    exact (List.getElem?_eq_some_iff.mp h).2
  rw [← e, e2]
  exact atI_last _ _
theorem decB {a z : Bool} : decide (V.bl a = V.bl z) = decide (a = z) := by
  rw [Bool.eq_iff_iff, decide_eq_true_iff, decide_eq_true_iff]
  exact ⟨fun h => by injection h, fun h => by rw [h]⟩
end Ws

namespace Ws
open PySem PySem.Spec PyProof.Rows L2
/-! ### a tuple looked up in a dict whose keys are texts -/
section
variable {prog : Program} {w : World} {A : Around} {E : Value → Shared → Prop} {s : Shared}
theorem find_str_tup {d a : Addr} {o : Obj} {es : Array DictEntry} {ep : Nat} {ks : List Key} {h : Int} {Q : Option Nat → Shared → Prop} (hu : A.units < cLine) (hkey : IsTupleKey (mixKind prog w) s.heap ks a)
    (ho : s.heap.get? d = some o) (hd : o.data = .dict es ep) (hs : ∀ e ∈ es, ∃ x t, e.key = .str x t) (q : Q none s) : wpAny (model prog w) A (dictFind d (.ref a) h) Q E s := by
  have hst : ∀ v ∈ (placesWithHash es.size (fun i => es[i]?.map (·.hash)) h).filterMap (fun i => es[i]?.map (·.key)), ∃ x t, v = .str x t := by
    intro v hv
    obtain ⟨i, _, hi⟩ := List.mem_filterMap.mp hv
    cases hei : es[i]? with
    | none => rw [hei] at hi; cases hi
    | some e =>
      rw [hei] at hi
      obtain rfl : e.key = v := by simpa using hi
      exact hs e (Array.mem_of_getElem? hei)
  have hany : ¬ (es.any fun e => e.key == Value.ref a && e.hash != h) = true := by
    rw [← Array.any_toList, List.any_eq_true]
    rintro ⟨e, hin, hc⟩
    obtain ⟨x, t, hx⟩ := hs e (Array.mem_toList_iff.mp hin)
    rw [hx] at hc
    simp at hc
  have hone : ¬ (((placesWithHash es.size (fun i => es[i]?.map (·.hash)) h).filterMap (fun i => es[i]?.map (·.key))) == [Value.ref a]) = true := by
    intro z
    have z := eq_of_beq z
    obtain ⟨x, t, e⟩ := hst (.ref a) (by rw [z]; exact List.mem_singleton.mpr rfl)
    cases e
  have quiet : ∀ {Q : Bool → Shared → Prop}, Q true s → wpAny (model prog w) A (eqIsQuiet 8 (.ref a)) Q E s := fun q => wpAny_eqIsQuiet_tuple hkey q
  have hT : ∃ items, s.heap.IsTuple a items := by
    obtain ⟨ot, items, n, h1, h2, h3, _⟩ := hkey
    exact ⟨items, ot, h1, h2, n, h3⟩
  obtain ⟨items, hT⟩ := hT
  unfold dictFind
  try with_reducible refine wpAny_holding ?_
  refine wpAny_bind (wpAny_dictEntries ho hd ?_)
  dsimp only
  rw [if_neg (show ¬ ((Value.ref a :: (placesWithHash es.size (fun i => es[i]?.map (·.hash)) h).filterMap (fun i => es[i]?.map (·.key))).all carriedByValue) = true by simp [carriedByValue])]
  rw [if_neg hany]
  rw [if_neg hone]
  have tell : ∀ {Q : Bool → Shared → Prop} (st : List Value), (∀ v ∈ st, ∃ x t, v = .str x t) → Q false s → wpAny (model prog w) A (tableMayTell (.ref a) st) Q E s := by
    intro Q st hst q
    unfold tableMayTell
    split
    · exact wpAny_pure q
    · refine wpAny_bind (quiet ?_)
      simp only [Bool.not_true, Bool.false_eq_true, if_false]
      refine wpAny_bind ?_
      refine wpAny_forIn_list _ (fun rest r s' => s' = s ∧ r = (none, ()) ∧ ∀ v ∈ rest, ∃ x t, v = .str x t) _ ?_ ?_ _ _ ⟨rfl, rfl, hst⟩
      · rintro x rest r s' ⟨rfl, rfl, hr⟩
        obtain ⟨k', b, rfl⟩ := hr x List.mem_cons_self
        refine wpAny_bind (wpAny_pure ?_)
        simp only [Bool.not_true, Bool.false_eq_true, if_false]
        exact wpAny_pure ⟨rfl, rfl, fun v hv => hr v (List.mem_cons_of_mem _ hv)⟩
      · rintro r s' ⟨rfl, rfl, _⟩
        exact wpAny_pure q
  refine wpAny_bind (tell _ hst ?_)
  rw [if_neg (by simp)]
  refine wpAny_bind ?_
  refine wpAny_forIn_list _ (fun rest b s' => s' = s ∧ b = (none, none)) _ ?_ ?_ _ _ ⟨rfl, rfl⟩
  · rintro x rest b s' ⟨rfl, rfl⟩
    cases hex : es[x]? with
    | none => exact wpAny_pure ⟨rfl, rfl⟩
    | some e =>
      dsimp only
      obtain ⟨y, t, hy⟩ := hs e (Array.mem_of_getElem? hex)
      by_cases hh : (e.hash == h) = true
      · rw [if_pos hh]
        rw [hy]
        refine wpAny_bind (wpAny_dictEpoch ho hd (wpAny_bind ((SeqAt.EqAt.str_tuple y t hT hu) _ _ _ _ (wpAny_bind (wpAny_dictEpoch ho hd ?_)))))
        show wpAny _ _ (if (ep != ep) = true then _ else _) _ E _
        rw [if_neg (by simp)]
        simp only [Bool.false_eq_true, if_false]
        refine wpAny_bind (wpAny_rule ?_)
        first | rw [if_neg (by simp)] | skip
        first
          | exact wpAny_pure ⟨rfl, rfl⟩
          | exact wpAny_bind (wpAny_pure (wpAny_pure ⟨rfl, rfl⟩))
      · rw [if_neg hh]
        exact wpAny_pure ⟨rfl, rfl⟩
  · rintro b s' ⟨rfl, rfl⟩
    exact wpAny_pure q
theorem get_str_tup {d a : Addr} {f : Str → Option Value} {ks : List Key} {Q : Option Value → Shared → Prop} (hu : A.units < cLine) (hkey : IsTupleKey (mixKind prog w) s.heap ks a)
    (hm : s.heap.MapOf (strKind prog w) d f) (q : Q none { s with toks := s.toks + (ks.length + 1) }) : wpAny (model prog w) A (dictGet d (.ref a)) Q E s := by
  obtain ⟨o, es, ep, ho, _, hd, hk, _⟩ := hm
  unfold dictGet
  try with_reducible refine wpAny_holding ?_
  refine wpAny_bind (wpAny_pyHash_tuple hu hkey ?_)
  refine wpAny_bind (find_str_tup hu (ks := ks) (s := { s with toks := s.toks + (ks.length + 1) }) hkey ho hd (fun e he => ?_) (wpAny_pure q))
  obtain ⟨k, h1, _⟩ := hk e he
  obtain ⟨t, ht⟩ := Value.isStrOf_shape (show Value.isStrOf k e.key = true from h1)
  exact ⟨k, t, ht⟩
theorem in_str_tup {d a : Addr} {f : Str → Option Value} {ks : List Key} {Q : Value → Shared → Prop} (hu : A.units + 1 < cLine) (hkey : IsTupleKey (mixKind prog w) s.heap ks a)
    (hd : (d == sysModules) = false) (hm : s.heap.MapOf (strKind prog w) d f) (q : Q (.bool false) { s with toks := s.toks + (ks.length + 1) }) : wpAny (model prog w) A (compareOp .In (.ref a) (.ref d)) Q E s := by
  show wpAny _ _ (do return .bool (← contains (.ref d) (.ref a))) Q E s
  refine wpAny_bind ?_
  unfold contains
  try with_reducible refine wpAny_holding ?_
  refine wpAny_bind (wpAny_specialOf hm.typeIs slot_dict_contains.lookup ?_)
  show wpAny _ _ (if (some (Value.builtin "dict.__contains__") == some Value.none) = true then _ else _) _ E s
  rw [if_neg (by rw [beq_builtin_none]; exact Bool.false_ne_true)]
  refine wpAny_bind (wpAny_callSpecialUnlessNone?_slot (name := Str.ofString "__contains__") hm.typeIs slot_dict_contains
    (wpAny_call_entry slot_dict_contains hm.typeIs entry_dict_contains ?_ (args_dict_contains _ _)))
  show wpAny _ _ (dictGet d (.ref a) >>= _) _ _ s
  refine wpAny_bind (get_str_tup (by exact hu) hkey hm ?_)
  show wpAny _ _ (Builtin.Dict.pendingKey? d (.ref a) >>= _) _ _ _
  exact wpAny_bind (wpAny_pendingKey_other hd (wpAny_pure ⟨_, rfl, wpAny_truthy_bool (wpAny_pure q)⟩))
end
section
variable {X : Cx}
/-- a tuple of ints and texts is no key of such a dict -/
theorem op_in_kT (hu : X.A.units + 1 < cLine) : OpR X (compareOp .In) (fun x y H Q => ∃ (p a : Addr) (ks : List Key) (es : Array DictEntry) (n : Nat), x = .ref p ∧ y = .ref a ∧ SqT X.K H p (ks.map kV) ∧ KDict X.K X.w a es n ∧ Q (.bl false) H) := by
  intro pins s σ H x y v u Q I rx ry h
  obtain ⟨p, a, ks, es, n, rfl, rfl, ht, D, q⟩ := h
  cases (show v = Value.ref p from rx)
  cases (show u = Value.ref a from ry)
  obtain ⟨us, r1, ⟨o1, e1, c1, n1, d1⟩, _⟩ := I.tuple ht
  have hm := PySem.W.mapOf_K (prog := X.prog) (w := X.w) I.kIn D.at_ D.lit
  refine in_str_tup hu ⟨o1, us.toArray, n1, e1, c1, d1, by simpa using items_are (P := X.prog) (w := X.w) r1⟩ D.low hm ⟨.bl false, H, I.tok _, rfl, q⟩
end
end Ws

/-! the forms of lines: the package's tables, the law's own looks, and one classification -/
namespace Mi
open PySem
inductive Wn where
  | LOCK | QUEUE | PART | TASK | LATER | VARIABLE
  deriving DecidableEq
inductive Sl where
  | lit (k : Kw) | num (lo hi : Int) | new | want (w : Wn) | value
  deriving DecidableEq
inductive PK where
  | cores | slice | lock | lent | queue | cell | part | task | later | work | set | ifk | elsek | endk | whilek | repeatk | get | unlock | put | take | sleep | start | wait | say
  deriving DecidableEq
inductive Fd where
  | w (x : Str) | i (n : Int) | t (tr : Tr)
noncomputable abbrev Rows := List (PK × List Sl)
noncomputable def CORES : Rows := [(.cores, [.lit .cores, .num 1 3])]
noncomputable def SLICE : Rows := [(.slice, [.lit .slice, .num 0 20])]
noncomputable def DECLARATIONS : Rows := [(.lock, [.lit .lock, .new]), (.lent, [.lit .lock, .new, .lit .lent]), (.queue, [.lit .queue, .new, .num 1 4]), (.cell, [.lit .cell, .new, .num 0 999]), (.part, [.lit .part, .new])]
noncomputable def TASKS : Rows := [(.task, [.lit .task, .new, .num 1 9]), (.later, [.lit .task, .new, .num 1 9, .lit .later])]
noncomputable def STATEMENTS : Rows := [(.work, [.lit .work, .num 0 99]), (.work, [.lit .work, .num 0 99, .want .PART]), (.set, [.want .VARIABLE, .lit .eq, .value]), (.ifk, [.lit .ifk, .value]), (.elsek, [.lit .elsek]), (.endk, [.lit .endk]), (.whilek, [.lit .whilek, .value]), (.repeatk, [.lit .repeatk, .num 0 50]),
  (.get, [.lit .lock, .want .LOCK]), (.unlock, [.lit .unlock, .want .LOCK]), (.put, [.lit .put, .want .QUEUE, .value]), (.take, [.lit .take, .want .QUEUE, .want .VARIABLE]), (.sleep, [.lit .sleep, .num 0 99]), (.start, [.lit .start, .want .LATER]), (.wait, [.lit .wait, .want .TASK]), (.say, [.lit .say, .value])]
noncomputable def readWord (w : Str) : Sl → Option Fd
  | .num lo hi => (wholeP w lo hi).map .i
  | .new => if isName w = true then some (.w w) else none
  | .want _ => if isName w = true then some (.w w) else none
  | .lit k => if kw w = k then some (.w w) else none
  | .value => none
noncomputable def readSlots : List Str → List Sl → Option (List Fd)
  | _, [] => some []
  | ws, .value :: r => match readExpr ws with
    | none => none
    | some t => (readSlots (ws.drop 1) r).map (.t t :: ·)
  | [], _ :: _ => none
  | w :: ws, s :: r => match readWord w s with
    | none => none
    | some x => (readSlots ws r).map (x :: ·)
noncomputable def hasLen (ws : List Str) (sl : List Sl) : Bool := if sl.getLast? = some .value then decide (sl.length ≤ ws.length) else decide (ws.length = sl.length)
structure Fm where
  kind : PK
  slots : List Sl
  found : List Fd
noncomputable def rowRead (ws : List Str) (r : PK × List Sl) : Option Fm := if hasLen ws r.2 = true then (readSlots ws r.2).map (Fm.mk r.1 r.2 ·) else none
noncomputable def readForm (ws : List Str) (t : Rows) : Option Fm := t.findSome? (rowRead ws)
/-- the names that a line uses, and as what -/
noncomputable def usesOf : List Sl → List Fd → List (Wn × Str)
  | .want n :: s, .w x :: f => (n, x) :: usesOf s f
  | .value :: s, .t t :: f => t.vars.map (fun x => (Wn.VARIABLE, x)) ++ usesOf s f
  | _ :: s, _ :: f => usesOf s f
  | _, _ => []
noncomputable def Fm.uses (f : Fm) : List (Wn × Str) := usesOf f.slots f.found
/-! ### what a line is -/
inductive K where
  | cores | slice | lock (x : Str) | lent (x : Str) | queue (x : Str) | cell (x : Str) | part (x : Str) | task (x : Str) | later (x : Str) | work (p : Option Str) | set (x : Str) (vs : List Str) | ifk (vs : List Str) | elsek | endk | whilek (vs : List Str) | repeatk
  | unlock (x : Str) | put (q : Str) (vs : List Str) | take (q v : Str) | sleep | start (x : Str) | wait (x : Str) | say (vs : List Str)
noncomputable def isVal (ws : List Str) : Bool := (readExpr ws).isSome
noncomputable def names (ws : List Str) : List Str := ws.filter isName
noncomputable def clsK (k : Kw) (a : Str) (r : List Str) : Option K := match k, r with
  | .cores, [b] => if wholeL b 1 3 = true then some .cores else none
  | .slice, [b] => if wholeL b 0 20 = true then some .slice else none
  | .lock, [b] => if isName b = true then some (.lock b) else none
  | .lock, [b, c] => if isName b = true ∧ kw c = .lent then some (.lent b) else none
  | .queue, [b, c] => if isName b = true ∧ wholeL c 1 4 = true then some (.queue b) else none
  | .cell, [b, c] => if isName b = true ∧ wholeL c 0 999 = true then some (.cell b) else none
  | .part, [b] => if isName b = true then some (.part b) else none
  | .task, [b, c] => if isName b = true ∧ wholeL c 1 9 = true then some (.task b) else none
  | .task, [b, c, d] => if isName b = true ∧ wholeL c 1 9 = true ∧ kw d = .later then some (.later b) else none
  | .work, [b] => if wholeL b 0 99 = true then some (.work none) else none
  | .work, [b, c] => if wholeL b 0 99 = true ∧ isName c = true then some (.work (some c)) else none
  | .ifk, vs => if isVal vs = true then some (.ifk (names vs)) else none
  | .elsek, [] => some .elsek
  | .endk, [] => some .endk
  | .whilek, vs => if isVal vs = true then some (.whilek (names vs)) else none
  | .repeatk, [b] => if wholeL b 0 50 = true then some .repeatk else none
  | .unlock, [b] => if isName b = true then some (.unlock b) else none
  | .put, b :: vs => if isName b = true ∧ isVal vs = true then some (.put b (names vs)) else none
  | .take, [b, c] => if isName b = true ∧ isName c = true then some (.take b c) else none
  | .sleep, [b] => if wholeL b 0 99 = true then some .sleep else none
  | .start, [b] => if isName b = true then some (.start b) else none
  | .wait, [b] => if isName b = true then some (.wait b) else none
  | .say, vs => if isVal vs = true then some (.say (names vs)) else none
  | .other, e :: vs => if isName a = true ∧ kw e = .eq ∧ isVal vs = true then some (.set a (names vs)) else none
  | _, _ => none
noncomputable def cls : List Str → Option K
  | [] => none
  | a :: r => clsK (kw a) a r
/-- what names a line uses -/
noncomputable def K.uses : K → List (Wn × Str)
  | .work (some p) => [(.PART, p)]
  | .set x vs => (.VARIABLE, x) :: vs.map (fun y => (Wn.VARIABLE, y))
  | .ifk vs => vs.map fun y => (Wn.VARIABLE, y)
  | .whilek vs => vs.map fun y => (Wn.VARIABLE, y)
  | .say vs => vs.map fun y => (Wn.VARIABLE, y)
  | .put q vs => (.QUEUE, q) :: vs.map (fun y => (Wn.VARIABLE, y))
  | .take q v => [(.QUEUE, q), (.VARIABLE, v)]
  | .unlock x => [(.LOCK, x)]
  | .start x => [(.LATER, x)]
  | .wait x => [(.TASK, x)]
  | _ => []
/-- where a line is told to stand: 0 first, 1 second, 2 ahead of the tasks, 3 behind the first task -/
inductive Pl where
  | first | second | decl | stmt
  deriving DecidableEq
noncomputable def Pl.rows : Pl → Rows
  | .first => CORES
  | .second => SLICE
  | .decl => DECLARATIONS ++ TASKS
  | .stmt => STATEMENTS ++ TASKS
/-- the package's kind of such a line there -/
noncomputable def K.pk : Pl → K → Option PK
  | .first, .cores => some .cores
  | .second, .slice => some .slice
  | .decl, .lock _ => some .lock
  | .decl, .lent _ => some .lent
  | .decl, .queue _ => some .queue
  | .decl, .cell _ => some .cell
  | .decl, .part _ => some .part
  | .decl, .task _ => some .task
  | .decl, .later _ => some .later
  | .stmt, .task _ => some .task
  | .stmt, .later _ => some .later
  | .stmt, .lock _ => some .get
  | .stmt, .work _ => some .work
  | .stmt, .set _ _ => some .set
  | .stmt, .ifk _ => some .ifk
  | .stmt, .elsek => some .elsek
  | .stmt, .endk => some .endk
  | .stmt, .whilek _ => some .whilek
  | .stmt, .repeatk => some .repeatk
  | .stmt, .unlock _ => some .unlock
  | .stmt, .put _ _ => some .put
  | .stmt, .take _ _ => some .take
  | .stmt, .sleep => some .sleep
  | .stmt, .start _ => some .start
  | .stmt, .wait _ => some .wait
  | .stmt, .say _ => some .say
  | _, _ => none
/-- the uses there: a lock that is got is used -/
noncomputable def K.usesAt : Pl → K → List (Wn × Str)
  | .stmt, .lock x => [(.LOCK, x)]
  | _, k => k.uses
noncomputable def K.name : K → Option Str
  | .lock x | .lent x | .queue x | .cell x | .part x | .task x | .later x => some x
  | _ => none
noncomputable def PK.declares : PK → Bool
  | .lock | .lent | .queue | .cell | .part | .task | .later => true
  | _ => false
structure Match (p : Pl) (k : K) (f : Fm) : Prop where
  kind : k.pk p = some f.kind
  name : f.kind.declares = true → ∃ x, k.name = some x ∧ f.found[1]? = some (.w x)
  uses : ∀ z, z ∈ f.uses ↔ z ∈ k.usesAt p
theorem wP {w : Str} {lo hi : Int} (h0 : 0 ≤ lo) (h1 : hi < 1000) : wholeL w lo hi = true ↔ ∃ i, wholeP w lo hi = some i := by
  rw [← whole_eq h0 h1, Option.isSome_iff_exists]
theorem wN {w : Str} {lo hi : Int} (h0 : 0 ≤ lo) (h1 : hi < 1000) : ¬ wholeL w lo hi = true ↔ wholeP w lo hi = none := by
  rw [wP h0 h1]
  cases wholeP w lo hi with
  | none => simp
  | some i => simp
theorem row_none {ws : List Str} {t : Rows} (h : ∀ r ∈ t, rowRead ws r = none) : readForm ws t = none := by
  unfold readForm
  rw [List.findSome?_eq_none_iff]
  exact h
/-! ### by first words -/
theorem rr_lit {a : Str} {r : List Str} {q : PK} {k : Kw} {s : List Sl} (h : kw a ≠ k) : rowRead (a :: r) (q, .lit k :: s) = none := by
  unfold rowRead
  split
  · show ((match readWord a (.lit k) with | none => none | some x => (readSlots r s).map (x :: ·)).map _) = none
    rw [show readWord a (.lit k) = none from if_neg h]
    rfl
  · rfl
theorem rr_want {a : Str} {r : List Str} {q : PK} {n : Wn} {s : List Sl} (h : isName a = false) : rowRead (a :: r) (q, .want n :: s) = none := by
  unfold rowRead
  split
  · show ((match readWord a (.want n) with | none => none | some x => (readSlots r s).map (x :: ·)).map _) = none
    rw [show readWord a (.want n) = none from if_neg (by rw [h]; simp)]
    rfl
  · rfl
noncomputable def keep (k : Kw) (x : PK × List Sl) : Bool := match x.2 with
  | .lit k' :: _ => decide (k' = k)
  | .want _ :: _ => decide (k = .other)
  | _ => true
theorem keep_no {a : Str} {r : List Str} {x : PK × List Sl} (h : keep (kw a) x = false) : rowRead (a :: r) x = none := by
  obtain ⟨q, s⟩ := x
  match s, h with
  | .lit k' :: s, h => exact rr_lit fun z => by rw [z] at h; simp [keep] at h
  | .want n :: s, h =>
    refine rr_want ?_
    cases hn : isName a with
    | false => rfl
    | true =>
      rw [name_other hn] at h
      simp [keep] at h
  | [], h => cases h
  | .num _ _ :: _, h => cases h
  | .new :: _, h => cases h
  | .value :: _, h => cases h
theorem filt (a : Str) (r : List Str) : ∀ t : Rows, readForm (a :: r) t = readForm (a :: r) (t.filter (keep (kw a)))
  | [] => rfl
  | x :: t => by
    rw [List.filter_cons]
    cases h : keep (kw a) x with
    | false =>
      unfold readForm
      rw [List.findSome?_cons, keep_no h]
      exact filt a r t
    | true =>
      unfold readForm
      rw [if_pos rfl, List.findSome?_cons, List.findSome?_cons]
      cases rowRead (a :: r) x with
      | none => exact filt a r t
      | some f => rfl
noncomputable def K.kwOf : K → Kw
  | .cores => .cores | .slice => .slice | .lock _ => .lock | .lent _ => .lock | .queue _ => .queue | .cell _ => .cell | .part _ => .part | .task _ => .task | .later _ => .task | .work _ => .work | .set _ _ => .other | .ifk _ => .ifk | .elsek => .elsek | .endk => .endk
  | .whilek _ => .whilek | .repeatk => .repeatk | .unlock _ => .unlock | .put _ _ => .put | .take _ _ => .take | .sleep => .sleep | .start _ => .start | .wait _ => .wait | .say _ => .say
theorem clsK_kw {k : Kw} {a : Str} {r : List Str} {z : K} (h : clsK k a r = some z) : z.kwOf = k := by
  unfold clsK at h
  split at h
  all_goals first
    | (cases h; rfl)
    | (split at h
       · cases h; rfl
       · cases h)
    | (cases h; done)
noncomputable def Fine (p : Pl) (ws : List Str) : Prop := (∃ k f, cls ws = some k ∧ readForm ws p.rows = some f ∧ Match p k f) ∨ (readForm ws p.rows = none ∧ ∀ k, cls ws = some k → k.pk p = none)
theorem fine_no {p : Pl} {k : Kw} {a : Str} {r : List Str} (hk : kw a = k) (h : p.rows.filter (keep k) = []) (hp : ∀ z : K, z.kwOf = k → z.pk p = none) : Fine p (a :: r) := by
  refine .inr ⟨?_, fun z hz => hp z ?_⟩
  · rw [filt, hk, h]
    rfl
  · have hz' : clsK (kw a) a r = some z := hz
    rw [clsK_kw hz', hk]
/-- the rows that are left are none -/
theorem fine_out {p : Pl} {a : Str} {r : List Str} {t : Rows} (h : p.rows.filter (keep (kw a)) = t) (hr : ∀ x ∈ t, rowRead (a :: r) x = none) (hc : clsK (kw a) a r = none) : Fine p (a :: r) := by
  refine .inr ⟨by rw [filt, h]; exact row_none hr, fun z hz => ?_⟩
  have hz' : clsK (kw a) a r = some z := hz
  rw [hc] at hz'
  cases hz'
theorem fine_hit1 {p : Pl} {a : Str} {r : List Str} {x : PK × List Sl} {t : Rows} {z : K} {f : Fm} (h : p.rows.filter (keep (kw a)) = x :: t) (hx : rowRead (a :: r) x = some f) (hc : clsK (kw a) a r = some z) (m : Match p z f) : Fine p (a :: r) := by
  refine .inl ⟨z, f, hc, ?_, m⟩
  rw [filt, h]
  unfold readForm
  rw [List.findSome?_cons, hx]
theorem fine_hit2 {p : Pl} {a : Str} {r : List Str} {x y : PK × List Sl} {t : Rows} {z : K} {f : Fm} (h : p.rows.filter (keep (kw a)) = x :: y :: t) (hx : rowRead (a :: r) x = none) (hy : rowRead (a :: r) y = some f) (hc : clsK (kw a) a r = some z) (m : Match p z f) : Fine p (a :: r) := by
  refine .inl ⟨z, f, hc, ?_, m⟩
  rw [filt, h]
  unfold readForm
  rw [List.findSome?_cons, hx, List.findSome?_cons, hy]
theorem val_uses {vs : List Str} {t : Tr} (h : readExpr vs = some t) (z : Wn × Str) : z ∈ t.vars.map (fun x => (Wn.VARIABLE, x)) ↔ z ∈ (names vs).map fun y => (Wn.VARIABLE, y) := by
  simp only [List.mem_map, names, List.mem_filter]
  constructor
  · rintro ⟨x, h1, h2⟩
    exact ⟨x, (readExpr_vars h x).mp h1, h2⟩
  · rintro ⟨x, h1, h2⟩
    exact ⟨x, (readExpr_vars h x).mpr h1, h2⟩
theorem isVal_nil : isVal [] = false := by decide +kernel
theorem expr_nil : readExpr [] = none := by
  have h := isVal_nil
  unfold isVal at h
  cases e : readExpr [] with
  | none => rfl
  | some t => rw [e] at h; cases h
theorem fine_first (a : Str) (r : List Str) : Fine .first (a :: r) := by
  cases hk : kw a
  case cores =>
    have ht : (Pl.rows .first).filter (keep (kw a)) = [(PK.cores, [.lit .cores, .num 1 3])] := by rw [hk]; rfl
    match r with
    | [] => exact fine_out ht (fun x hx => by rw [List.mem_singleton.mp hx]; simp [rowRead, hasLen, readSlots, readWord]) (by rw [hk]; simp [clsK])
    | [b] =>
      cases hb : wholeP b 1 3
      case none =>
        have gb := (wN (by decide) (by decide)).mpr hb
        exact fine_out ht (fun x hx => by rw [List.mem_singleton.mp hx]; simp [rowRead, hasLen, readSlots, readWord, hk, hb, gb]) (by rw [hk]; simp [clsK, hk, hb, gb])
      case some ib =>
        have gb := (wP (by decide) (by decide)).mpr ⟨_, hb⟩
        exact fine_hit1 (z := .cores) (f := ⟨.cores, [.lit .cores, .num 1 3], [.w a, .i ib]⟩) ht (by simp [rowRead, hasLen, readSlots, readWord, hk, hb, gb]) (by rw [hk]; simp [clsK, hk, hb, gb]) ⟨rfl, (fun z => by cases z), fun z => by simp [Fm.uses, usesOf, K.usesAt, K.uses]⟩
    | b :: x0 :: t => exact fine_out ht (fun x hx => by rw [List.mem_singleton.mp hx]; simp [rowRead, hasLen, readSlots, readWord]) (by rw [hk]; simp [clsK])
  case slice =>
    exact fine_no hk rfl (by intro z; cases z <;> simp [K.kwOf, K.pk])
  case lock =>
    exact fine_no hk rfl (by intro z; cases z <;> simp [K.kwOf, K.pk])
  case lent =>
    exact fine_no hk rfl (by intro z; cases z <;> simp [K.kwOf, K.pk])
  case queue =>
    exact fine_no hk rfl (by intro z; cases z <;> simp [K.kwOf, K.pk])
  case cell =>
    exact fine_no hk rfl (by intro z; cases z <;> simp [K.kwOf, K.pk])
  case part =>
    exact fine_no hk rfl (by intro z; cases z <;> simp [K.kwOf, K.pk])
  case task =>
    exact fine_no hk rfl (by intro z; cases z <;> simp [K.kwOf, K.pk])
  case later =>
    exact fine_no hk rfl (by intro z; cases z <;> simp [K.kwOf, K.pk])
  case work =>
    exact fine_no hk rfl (by intro z; cases z <;> simp [K.kwOf, K.pk])
  case ifk =>
    exact fine_no hk rfl (by intro z; cases z <;> simp [K.kwOf, K.pk])
  case elsek =>
    exact fine_no hk rfl (by intro z; cases z <;> simp [K.kwOf, K.pk])
  case endk =>
    exact fine_no hk rfl (by intro z; cases z <;> simp [K.kwOf, K.pk])
  case whilek =>
    exact fine_no hk rfl (by intro z; cases z <;> simp [K.kwOf, K.pk])
  case repeatk =>
    exact fine_no hk rfl (by intro z; cases z <;> simp [K.kwOf, K.pk])
  case unlock =>
    exact fine_no hk rfl (by intro z; cases z <;> simp [K.kwOf, K.pk])
  case put =>
    exact fine_no hk rfl (by intro z; cases z <;> simp [K.kwOf, K.pk])
  case take =>
    exact fine_no hk rfl (by intro z; cases z <;> simp [K.kwOf, K.pk])
  case sleep =>
    exact fine_no hk rfl (by intro z; cases z <;> simp [K.kwOf, K.pk])
  case start =>
    exact fine_no hk rfl (by intro z; cases z <;> simp [K.kwOf, K.pk])
  case wait =>
    exact fine_no hk rfl (by intro z; cases z <;> simp [K.kwOf, K.pk])
  case say =>
    exact fine_no hk rfl (by intro z; cases z <;> simp [K.kwOf, K.pk])
  case eq =>
    exact fine_no hk rfl (by intro z; cases z <;> simp [K.kwOf, K.pk])
  case other =>
    exact fine_no hk rfl (by intro z; cases z <;> simp [K.kwOf, K.pk])
theorem fine_second (a : Str) (r : List Str) : Fine .second (a :: r) := by
  cases hk : kw a
  case cores =>
    exact fine_no hk rfl (by intro z; cases z <;> simp [K.kwOf, K.pk])
  case slice =>
    have ht : (Pl.rows .second).filter (keep (kw a)) = [(PK.slice, [.lit .slice, .num 0 20])] := by rw [hk]; rfl
    match r with
    | [] => exact fine_out ht (fun x hx => by rw [List.mem_singleton.mp hx]; simp [rowRead, hasLen, readSlots, readWord]) (by rw [hk]; simp [clsK])
    | [b] =>
      cases hb : wholeP b 0 20
      case none =>
        have gb := (wN (by decide) (by decide)).mpr hb
        exact fine_out ht (fun x hx => by rw [List.mem_singleton.mp hx]; simp [rowRead, hasLen, readSlots, readWord, hk, hb, gb]) (by rw [hk]; simp [clsK, hk, hb, gb])
      case some ib =>
        have gb := (wP (by decide) (by decide)).mpr ⟨_, hb⟩
        exact fine_hit1 (z := .slice) (f := ⟨.slice, [.lit .slice, .num 0 20], [.w a, .i ib]⟩) ht (by simp [rowRead, hasLen, readSlots, readWord, hk, hb, gb]) (by rw [hk]; simp [clsK, hk, hb, gb]) ⟨rfl, (fun z => by cases z), fun z => by simp [Fm.uses, usesOf, K.usesAt, K.uses]⟩
    | b :: x0 :: t => exact fine_out ht (fun x hx => by rw [List.mem_singleton.mp hx]; simp [rowRead, hasLen, readSlots, readWord]) (by rw [hk]; simp [clsK])
  case lock =>
    exact fine_no hk rfl (by intro z; cases z <;> simp [K.kwOf, K.pk])
  case lent =>
    exact fine_no hk rfl (by intro z; cases z <;> simp [K.kwOf, K.pk])
  case queue =>
    exact fine_no hk rfl (by intro z; cases z <;> simp [K.kwOf, K.pk])
  case cell =>
    exact fine_no hk rfl (by intro z; cases z <;> simp [K.kwOf, K.pk])
  case part =>
    exact fine_no hk rfl (by intro z; cases z <;> simp [K.kwOf, K.pk])
  case task =>
    exact fine_no hk rfl (by intro z; cases z <;> simp [K.kwOf, K.pk])
  case later =>
    exact fine_no hk rfl (by intro z; cases z <;> simp [K.kwOf, K.pk])
  case work =>
    exact fine_no hk rfl (by intro z; cases z <;> simp [K.kwOf, K.pk])
  case ifk =>
    exact fine_no hk rfl (by intro z; cases z <;> simp [K.kwOf, K.pk])
  case elsek =>
    exact fine_no hk rfl (by intro z; cases z <;> simp [K.kwOf, K.pk])
  case endk =>
    exact fine_no hk rfl (by intro z; cases z <;> simp [K.kwOf, K.pk])
  case whilek =>
    exact fine_no hk rfl (by intro z; cases z <;> simp [K.kwOf, K.pk])
  case repeatk =>
    exact fine_no hk rfl (by intro z; cases z <;> simp [K.kwOf, K.pk])
  case unlock =>
    exact fine_no hk rfl (by intro z; cases z <;> simp [K.kwOf, K.pk])
  case put =>
    exact fine_no hk rfl (by intro z; cases z <;> simp [K.kwOf, K.pk])
  case take =>
    exact fine_no hk rfl (by intro z; cases z <;> simp [K.kwOf, K.pk])
  case sleep =>
    exact fine_no hk rfl (by intro z; cases z <;> simp [K.kwOf, K.pk])
  case start =>
    exact fine_no hk rfl (by intro z; cases z <;> simp [K.kwOf, K.pk])
  case wait =>
    exact fine_no hk rfl (by intro z; cases z <;> simp [K.kwOf, K.pk])
  case say =>
    exact fine_no hk rfl (by intro z; cases z <;> simp [K.kwOf, K.pk])
  case eq =>
    exact fine_no hk rfl (by intro z; cases z <;> simp [K.kwOf, K.pk])
  case other =>
    exact fine_no hk rfl (by intro z; cases z <;> simp [K.kwOf, K.pk])
theorem fine_decl (a : Str) (r : List Str) : Fine .decl (a :: r) := by
  cases hk : kw a
  case cores =>
    exact fine_no hk rfl (by intro z; cases z <;> simp [K.kwOf, K.pk])
  case slice =>
    exact fine_no hk rfl (by intro z; cases z <;> simp [K.kwOf, K.pk])
  case lock =>
    have ht : (Pl.rows .decl).filter (keep (kw a)) = [(PK.lock, [.lit .lock, .new]), (PK.lent, [.lit .lock, .new, .lit .lent])] := by rw [hk]; rfl
    match r with
    | [] => exact fine_out ht (fun x hx => by (rcases List.mem_cons.mp hx with e | hx); (rw [e]; simp [rowRead, hasLen, readSlots, readWord]); (rw [List.mem_singleton.mp hx]; simp [rowRead, hasLen, readSlots, readWord])) (by rw [hk]; simp [clsK])
    | [b] =>
      cases hb : isName b
      case false =>
        exact fine_out ht (fun x hx => by (rcases List.mem_cons.mp hx with e | hx); (rw [e]; simp [rowRead, hasLen, readSlots, readWord, hk, hb]); (rw [List.mem_singleton.mp hx]; simp [rowRead, hasLen, readSlots, readWord, hk, hb])) (by rw [hk]; simp [clsK, hk, hb])
      case true =>
        exact fine_hit1 (z := .lock b) (f := ⟨.lock, [.lit .lock, .new], [.w a, .w b]⟩) ht (by simp [rowRead, hasLen, readSlots, readWord, hk, hb]) (by rw [hk]; simp [clsK, hk, hb]) ⟨rfl, (fun _ => ⟨b, rfl, rfl⟩), fun z => by simp [Fm.uses, usesOf, K.usesAt, K.uses]⟩
    | [b, c] =>
      cases hb : isName b
      case false =>
        exact fine_out ht (fun x hx => by (rcases List.mem_cons.mp hx with e | hx); (rw [e]; simp [rowRead, hasLen, readSlots, readWord, hk, hb]); (rw [List.mem_singleton.mp hx]; simp [rowRead, hasLen, readSlots, readWord, hk, hb])) (by rw [hk]; simp [clsK, hk, hb])
      case true =>
        by_cases hc : kw c = .lent
        rotate_left
        ·
          exact fine_out ht (fun x hx => by (rcases List.mem_cons.mp hx with e | hx); (rw [e]; simp [rowRead, hasLen, readSlots, readWord, hk, hb, hc]); (rw [List.mem_singleton.mp hx]; simp [rowRead, hasLen, readSlots, readWord, hk, hb, hc])) (by rw [hk]; simp [clsK, hk, hb, hc])
        ·
          exact fine_hit2 (z := .lent b) (f := ⟨.lent, [.lit .lock, .new, .lit .lent], [.w a, .w b, .w c]⟩) ht (by simp [rowRead, hasLen, readSlots, readWord]) (by simp [rowRead, hasLen, readSlots, readWord, hk, hb, hc]) (by rw [hk]; simp [clsK, hk, hb, hc]) ⟨rfl, (fun _ => ⟨b, rfl, rfl⟩), fun z => by simp [Fm.uses, usesOf, K.usesAt, K.uses]⟩
    | b :: c :: x0 :: t => exact fine_out ht (fun x hx => by (rcases List.mem_cons.mp hx with e | hx); (rw [e]; simp [rowRead, hasLen, readSlots, readWord]); (rw [List.mem_singleton.mp hx]; simp [rowRead, hasLen, readSlots, readWord])) (by rw [hk]; simp [clsK])
  case lent =>
    exact fine_no hk rfl (by intro z; cases z <;> simp [K.kwOf, K.pk])
  case queue =>
    have ht : (Pl.rows .decl).filter (keep (kw a)) = [(PK.queue, [.lit .queue, .new, .num 1 4])] := by rw [hk]; rfl
    match r with
    | [] => exact fine_out ht (fun x hx => by rw [List.mem_singleton.mp hx]; simp [rowRead, hasLen, readSlots, readWord]) (by rw [hk]; simp [clsK])
    | [b] => exact fine_out ht (fun x hx => by rw [List.mem_singleton.mp hx]; simp [rowRead, hasLen, readSlots, readWord]) (by rw [hk]; simp [clsK])
    | [b, c] =>
      cases hb : isName b
      case false =>
        exact fine_out ht (fun x hx => by rw [List.mem_singleton.mp hx]; simp [rowRead, hasLen, readSlots, readWord, hk, hb]) (by rw [hk]; simp [clsK, hk, hb])
      case true =>
        cases hc : wholeP c 1 4
        case none =>
          have gc := (wN (by decide) (by decide)).mpr hc
          exact fine_out ht (fun x hx => by rw [List.mem_singleton.mp hx]; simp [rowRead, hasLen, readSlots, readWord, hk, hb, hc, gc]) (by rw [hk]; simp [clsK, hk, hb, hc, gc])
        case some ic =>
          have gc := (wP (by decide) (by decide)).mpr ⟨_, hc⟩
          exact fine_hit1 (z := .queue b) (f := ⟨.queue, [.lit .queue, .new, .num 1 4], [.w a, .w b, .i ic]⟩) ht (by simp [rowRead, hasLen, readSlots, readWord, hk, hb, hc, gc]) (by rw [hk]; simp [clsK, hk, hb, hc, gc]) ⟨rfl, (fun _ => ⟨b, rfl, rfl⟩), fun z => by simp [Fm.uses, usesOf, K.usesAt, K.uses]⟩
    | b :: c :: x0 :: t => exact fine_out ht (fun x hx => by rw [List.mem_singleton.mp hx]; simp [rowRead, hasLen, readSlots, readWord]) (by rw [hk]; simp [clsK])
  case cell =>
    have ht : (Pl.rows .decl).filter (keep (kw a)) = [(PK.cell, [.lit .cell, .new, .num 0 999])] := by rw [hk]; rfl
    match r with
    | [] => exact fine_out ht (fun x hx => by rw [List.mem_singleton.mp hx]; simp [rowRead, hasLen, readSlots, readWord]) (by rw [hk]; simp [clsK])
    | [b] => exact fine_out ht (fun x hx => by rw [List.mem_singleton.mp hx]; simp [rowRead, hasLen, readSlots, readWord]) (by rw [hk]; simp [clsK])
    | [b, c] =>
      cases hb : isName b
      case false =>
        exact fine_out ht (fun x hx => by rw [List.mem_singleton.mp hx]; simp [rowRead, hasLen, readSlots, readWord, hk, hb]) (by rw [hk]; simp [clsK, hk, hb])
      case true =>
        cases hc : wholeP c 0 999
        case none =>
          have gc := (wN (by decide) (by decide)).mpr hc
          exact fine_out ht (fun x hx => by rw [List.mem_singleton.mp hx]; simp [rowRead, hasLen, readSlots, readWord, hk, hb, hc, gc]) (by rw [hk]; simp [clsK, hk, hb, hc, gc])
        case some ic =>
          have gc := (wP (by decide) (by decide)).mpr ⟨_, hc⟩
          exact fine_hit1 (z := .cell b) (f := ⟨.cell, [.lit .cell, .new, .num 0 999], [.w a, .w b, .i ic]⟩) ht (by simp [rowRead, hasLen, readSlots, readWord, hk, hb, hc, gc]) (by rw [hk]; simp [clsK, hk, hb, hc, gc]) ⟨rfl, (fun _ => ⟨b, rfl, rfl⟩), fun z => by simp [Fm.uses, usesOf, K.usesAt, K.uses]⟩
    | b :: c :: x0 :: t => exact fine_out ht (fun x hx => by rw [List.mem_singleton.mp hx]; simp [rowRead, hasLen, readSlots, readWord]) (by rw [hk]; simp [clsK])
  case part =>
    have ht : (Pl.rows .decl).filter (keep (kw a)) = [(PK.part, [.lit .part, .new])] := by rw [hk]; rfl
    match r with
    | [] => exact fine_out ht (fun x hx => by rw [List.mem_singleton.mp hx]; simp [rowRead, hasLen, readSlots, readWord]) (by rw [hk]; simp [clsK])
    | [b] =>
      cases hb : isName b
      case false =>
        exact fine_out ht (fun x hx => by rw [List.mem_singleton.mp hx]; simp [rowRead, hasLen, readSlots, readWord, hk, hb]) (by rw [hk]; simp [clsK, hk, hb])
      case true =>
        exact fine_hit1 (z := .part b) (f := ⟨.part, [.lit .part, .new], [.w a, .w b]⟩) ht (by simp [rowRead, hasLen, readSlots, readWord, hk, hb]) (by rw [hk]; simp [clsK, hk, hb]) ⟨rfl, (fun _ => ⟨b, rfl, rfl⟩), fun z => by simp [Fm.uses, usesOf, K.usesAt, K.uses]⟩
    | b :: x0 :: t => exact fine_out ht (fun x hx => by rw [List.mem_singleton.mp hx]; simp [rowRead, hasLen, readSlots, readWord]) (by rw [hk]; simp [clsK])
  case task =>
    have ht : (Pl.rows .decl).filter (keep (kw a)) = [(PK.task, [.lit .task, .new, .num 1 9]), (PK.later, [.lit .task, .new, .num 1 9, .lit .later])] := by rw [hk]; rfl
    match r with
    | [] => exact fine_out ht (fun x hx => by (rcases List.mem_cons.mp hx with e | hx); (rw [e]; simp [rowRead, hasLen, readSlots, readWord]); (rw [List.mem_singleton.mp hx]; simp [rowRead, hasLen, readSlots, readWord])) (by rw [hk]; simp [clsK])
    | [b] => exact fine_out ht (fun x hx => by (rcases List.mem_cons.mp hx with e | hx); (rw [e]; simp [rowRead, hasLen, readSlots, readWord]); (rw [List.mem_singleton.mp hx]; simp [rowRead, hasLen, readSlots, readWord])) (by rw [hk]; simp [clsK])
    | [b, c] =>
      cases hb : isName b
      case false =>
        exact fine_out ht (fun x hx => by (rcases List.mem_cons.mp hx with e | hx); (rw [e]; simp [rowRead, hasLen, readSlots, readWord, hk, hb]); (rw [List.mem_singleton.mp hx]; simp [rowRead, hasLen, readSlots, readWord, hk, hb])) (by rw [hk]; simp [clsK, hk, hb])
      case true =>
        cases hc : wholeP c 1 9
        case none =>
          have gc := (wN (by decide) (by decide)).mpr hc
          exact fine_out ht (fun x hx => by (rcases List.mem_cons.mp hx with e | hx); (rw [e]; simp [rowRead, hasLen, readSlots, readWord, hk, hb, hc, gc]); (rw [List.mem_singleton.mp hx]; simp [rowRead, hasLen, readSlots, readWord, hk, hb, hc, gc])) (by rw [hk]; simp [clsK, hk, hb, hc, gc])
        case some ic =>
          have gc := (wP (by decide) (by decide)).mpr ⟨_, hc⟩
          exact fine_hit1 (z := .task b) (f := ⟨.task, [.lit .task, .new, .num 1 9], [.w a, .w b, .i ic]⟩) ht (by simp [rowRead, hasLen, readSlots, readWord, hk, hb, hc, gc]) (by rw [hk]; simp [clsK, hk, hb, hc, gc]) ⟨rfl, (fun _ => ⟨b, rfl, rfl⟩), fun z => by simp [Fm.uses, usesOf, K.usesAt, K.uses]⟩
    | [b, c, d] =>
      cases hb : isName b
      case false =>
        exact fine_out ht (fun x hx => by (rcases List.mem_cons.mp hx with e | hx); (rw [e]; simp [rowRead, hasLen, readSlots, readWord, hk, hb]); (rw [List.mem_singleton.mp hx]; simp [rowRead, hasLen, readSlots, readWord, hk, hb])) (by rw [hk]; simp [clsK, hk, hb])
      case true =>
        cases hc : wholeP c 1 9
        case none =>
          have gc := (wN (by decide) (by decide)).mpr hc
          exact fine_out ht (fun x hx => by (rcases List.mem_cons.mp hx with e | hx); (rw [e]; simp [rowRead, hasLen, readSlots, readWord, hk, hb, hc, gc]); (rw [List.mem_singleton.mp hx]; simp [rowRead, hasLen, readSlots, readWord, hk, hb, hc, gc])) (by rw [hk]; simp [clsK, hk, hb, hc, gc])
        case some ic =>
          have gc := (wP (by decide) (by decide)).mpr ⟨_, hc⟩
          by_cases hd : kw d = .later
          rotate_left
          ·
            exact fine_out ht (fun x hx => by (rcases List.mem_cons.mp hx with e | hx); (rw [e]; simp [rowRead, hasLen, readSlots, readWord, hk, hb, hc, gc, hd]); (rw [List.mem_singleton.mp hx]; simp [rowRead, hasLen, readSlots, readWord, hk, hb, hc, gc, hd])) (by rw [hk]; simp [clsK, hk, hb, hc, gc, hd])
          ·
            exact fine_hit2 (z := .later b) (f := ⟨.later, [.lit .task, .new, .num 1 9, .lit .later], [.w a, .w b, .i ic, .w d]⟩) ht (by simp [rowRead, hasLen, readSlots, readWord]) (by simp [rowRead, hasLen, readSlots, readWord, hk, hb, hc, gc, hd]) (by rw [hk]; simp [clsK, hk, hb, hc, gc, hd]) ⟨rfl, (fun _ => ⟨b, rfl, rfl⟩), fun z => by simp [Fm.uses, usesOf, K.usesAt, K.uses]⟩
    | b :: c :: d :: x0 :: t => exact fine_out ht (fun x hx => by (rcases List.mem_cons.mp hx with e | hx); (rw [e]; simp [rowRead, hasLen, readSlots, readWord]); (rw [List.mem_singleton.mp hx]; simp [rowRead, hasLen, readSlots, readWord])) (by rw [hk]; simp [clsK])
  case later =>
    exact fine_no hk rfl (by intro z; cases z <;> simp [K.kwOf, K.pk])
  case work =>
    exact fine_no hk rfl (by intro z; cases z <;> simp [K.kwOf, K.pk])
  case ifk =>
    exact fine_no hk rfl (by intro z; cases z <;> simp [K.kwOf, K.pk])
  case elsek =>
    exact fine_no hk rfl (by intro z; cases z <;> simp [K.kwOf, K.pk])
  case endk =>
    exact fine_no hk rfl (by intro z; cases z <;> simp [K.kwOf, K.pk])
  case whilek =>
    exact fine_no hk rfl (by intro z; cases z <;> simp [K.kwOf, K.pk])
  case repeatk =>
    exact fine_no hk rfl (by intro z; cases z <;> simp [K.kwOf, K.pk])
  case unlock =>
    exact fine_no hk rfl (by intro z; cases z <;> simp [K.kwOf, K.pk])
  case put =>
    exact fine_no hk rfl (by intro z; cases z <;> simp [K.kwOf, K.pk])
  case take =>
    exact fine_no hk rfl (by intro z; cases z <;> simp [K.kwOf, K.pk])
  case sleep =>
    exact fine_no hk rfl (by intro z; cases z <;> simp [K.kwOf, K.pk])
  case start =>
    exact fine_no hk rfl (by intro z; cases z <;> simp [K.kwOf, K.pk])
  case wait =>
    exact fine_no hk rfl (by intro z; cases z <;> simp [K.kwOf, K.pk])
  case say =>
    exact fine_no hk rfl (by intro z; cases z <;> simp [K.kwOf, K.pk])
  case eq =>
    exact fine_no hk rfl (by intro z; cases z <;> simp [K.kwOf, K.pk])
  case other =>
    exact fine_no hk rfl (by intro z; cases z <;> simp [K.kwOf, K.pk])
theorem fine_stmt (a : Str) (r : List Str) : Fine .stmt (a :: r) := by
  cases hk : kw a
  case cores =>
    exact fine_no hk rfl (by intro z; cases z <;> simp [K.kwOf, K.pk])
  case slice =>
    exact fine_no hk rfl (by intro z; cases z <;> simp [K.kwOf, K.pk])
  case lock =>
    have ht : (Pl.rows .stmt).filter (keep (kw a)) = [(PK.get, [.lit .lock, .want .LOCK])] := by rw [hk]; rfl
    match r with
    | [] => exact fine_out ht (fun x hx => by rw [List.mem_singleton.mp hx]; simp [rowRead, hasLen, readSlots, readWord]) (by rw [hk]; simp [clsK])
    | [b] =>
      cases hb : isName b
      case false =>
        exact fine_out ht (fun x hx => by rw [List.mem_singleton.mp hx]; simp [rowRead, hasLen, readSlots, readWord, hk, hb]) (by rw [hk]; simp [clsK, hk, hb])
      case true =>
        exact fine_hit1 (z := .lock b) (f := ⟨.get, [.lit .lock, .want .LOCK], [.w a, .w b]⟩) ht (by simp [rowRead, hasLen, readSlots, readWord, hk, hb]) (by rw [hk]; simp [clsK, hk, hb]) ⟨rfl, (fun z => by cases z), fun z => by simp [Fm.uses, usesOf, K.usesAt, K.uses]⟩
    | b :: x0 :: t =>
      refine .inr ⟨by rw [filt, ht]; exact row_none (fun x hx => by rw [List.mem_singleton.mp hx]; simp [rowRead, hasLen, readSlots, readWord]), fun z hz => ?_⟩
      have hz2 : clsK (kw a) a (b :: x0 :: t) = some z := hz
      rw [hk] at hz2
      match t, hz2 with
      | [], hz2 =>
        have hz3 : (if isName b = true ∧ kw x0 = .lent then some (K.lent b) else none) = some z := hz2
        split at hz3
        · cases hz3; rfl
        · cases hz3
      | _ :: _, hz2 => simp [clsK] at hz2
  case lent =>
    exact fine_no hk rfl (by intro z; cases z <;> simp [K.kwOf, K.pk])
  case queue =>
    exact fine_no hk rfl (by intro z; cases z <;> simp [K.kwOf, K.pk])
  case cell =>
    exact fine_no hk rfl (by intro z; cases z <;> simp [K.kwOf, K.pk])
  case part =>
    exact fine_no hk rfl (by intro z; cases z <;> simp [K.kwOf, K.pk])
  case task =>
    have ht : (Pl.rows .stmt).filter (keep (kw a)) = [(PK.task, [.lit .task, .new, .num 1 9]), (PK.later, [.lit .task, .new, .num 1 9, .lit .later])] := by rw [hk]; rfl
    match r with
    | [] => exact fine_out ht (fun x hx => by (rcases List.mem_cons.mp hx with e | hx); (rw [e]; simp [rowRead, hasLen, readSlots, readWord]); (rw [List.mem_singleton.mp hx]; simp [rowRead, hasLen, readSlots, readWord])) (by rw [hk]; simp [clsK])
    | [b] => exact fine_out ht (fun x hx => by (rcases List.mem_cons.mp hx with e | hx); (rw [e]; simp [rowRead, hasLen, readSlots, readWord]); (rw [List.mem_singleton.mp hx]; simp [rowRead, hasLen, readSlots, readWord])) (by rw [hk]; simp [clsK])
    | [b, c] =>
      cases hb : isName b
      case false =>
        exact fine_out ht (fun x hx => by (rcases List.mem_cons.mp hx with e | hx); (rw [e]; simp [rowRead, hasLen, readSlots, readWord, hk, hb]); (rw [List.mem_singleton.mp hx]; simp [rowRead, hasLen, readSlots, readWord, hk, hb])) (by rw [hk]; simp [clsK, hk, hb])
      case true =>
        cases hc : wholeP c 1 9
        case none =>
          have gc := (wN (by decide) (by decide)).mpr hc
          exact fine_out ht (fun x hx => by (rcases List.mem_cons.mp hx with e | hx); (rw [e]; simp [rowRead, hasLen, readSlots, readWord, hk, hb, hc, gc]); (rw [List.mem_singleton.mp hx]; simp [rowRead, hasLen, readSlots, readWord, hk, hb, hc, gc])) (by rw [hk]; simp [clsK, hk, hb, hc, gc])
        case some ic =>
          have gc := (wP (by decide) (by decide)).mpr ⟨_, hc⟩
          exact fine_hit1 (z := .task b) (f := ⟨.task, [.lit .task, .new, .num 1 9], [.w a, .w b, .i ic]⟩) ht (by simp [rowRead, hasLen, readSlots, readWord, hk, hb, hc, gc]) (by rw [hk]; simp [clsK, hk, hb, hc, gc]) ⟨rfl, (fun _ => ⟨b, rfl, rfl⟩), fun z => by simp [Fm.uses, usesOf, K.usesAt, K.uses]⟩
    | [b, c, d] =>
      cases hb : isName b
      case false =>
        exact fine_out ht (fun x hx => by (rcases List.mem_cons.mp hx with e | hx); (rw [e]; simp [rowRead, hasLen, readSlots, readWord, hk, hb]); (rw [List.mem_singleton.mp hx]; simp [rowRead, hasLen, readSlots, readWord, hk, hb])) (by rw [hk]; simp [clsK, hk, hb])
      case true =>
        cases hc : wholeP c 1 9
        case none =>
          have gc := (wN (by decide) (by decide)).mpr hc
          exact fine_out ht (fun x hx => by (rcases List.mem_cons.mp hx with e | hx); (rw [e]; simp [rowRead, hasLen, readSlots, readWord, hk, hb, hc, gc]); (rw [List.mem_singleton.mp hx]; simp [rowRead, hasLen, readSlots, readWord, hk, hb, hc, gc])) (by rw [hk]; simp [clsK, hk, hb, hc, gc])
        case some ic =>
          have gc := (wP (by decide) (by decide)).mpr ⟨_, hc⟩
          by_cases hd : kw d = .later
          rotate_left
          ·
            exact fine_out ht (fun x hx => by (rcases List.mem_cons.mp hx with e | hx); (rw [e]; simp [rowRead, hasLen, readSlots, readWord, hk, hb, hc, gc, hd]); (rw [List.mem_singleton.mp hx]; simp [rowRead, hasLen, readSlots, readWord, hk, hb, hc, gc, hd])) (by rw [hk]; simp [clsK, hk, hb, hc, gc, hd])
          ·
            exact fine_hit2 (z := .later b) (f := ⟨.later, [.lit .task, .new, .num 1 9, .lit .later], [.w a, .w b, .i ic, .w d]⟩) ht (by simp [rowRead, hasLen, readSlots, readWord]) (by simp [rowRead, hasLen, readSlots, readWord, hk, hb, hc, gc, hd]) (by rw [hk]; simp [clsK, hk, hb, hc, gc, hd]) ⟨rfl, (fun _ => ⟨b, rfl, rfl⟩), fun z => by simp [Fm.uses, usesOf, K.usesAt, K.uses]⟩
    | b :: c :: d :: x0 :: t => exact fine_out ht (fun x hx => by (rcases List.mem_cons.mp hx with e | hx); (rw [e]; simp [rowRead, hasLen, readSlots, readWord]); (rw [List.mem_singleton.mp hx]; simp [rowRead, hasLen, readSlots, readWord])) (by rw [hk]; simp [clsK])
  case later =>
    exact fine_no hk rfl (by intro z; cases z <;> simp [K.kwOf, K.pk])
  case work =>
    have ht : (Pl.rows .stmt).filter (keep (kw a)) = [(PK.work, [.lit .work, .num 0 99]), (PK.work, [.lit .work, .num 0 99, .want .PART])] := by rw [hk]; rfl
    match r with
    | [] => exact fine_out ht (fun x hx => by (rcases List.mem_cons.mp hx with e | hx); (rw [e]; simp [rowRead, hasLen, readSlots, readWord]); (rw [List.mem_singleton.mp hx]; simp [rowRead, hasLen, readSlots, readWord])) (by rw [hk]; simp [clsK])
    | [b] =>
      cases hb : wholeP b 0 99
      case none =>
        have gb := (wN (by decide) (by decide)).mpr hb
        exact fine_out ht (fun x hx => by (rcases List.mem_cons.mp hx with e | hx); (rw [e]; simp [rowRead, hasLen, readSlots, readWord, hk, hb, gb]); (rw [List.mem_singleton.mp hx]; simp [rowRead, hasLen, readSlots, readWord, hk, hb, gb])) (by rw [hk]; simp [clsK, hk, hb, gb])
      case some ib =>
        have gb := (wP (by decide) (by decide)).mpr ⟨_, hb⟩
        exact fine_hit1 (z := .work none) (f := ⟨.work, [.lit .work, .num 0 99], [.w a, .i ib]⟩) ht (by simp [rowRead, hasLen, readSlots, readWord, hk, hb, gb]) (by rw [hk]; simp [clsK, hk, hb, gb]) ⟨rfl, (fun z => by cases z), fun z => by simp [Fm.uses, usesOf, K.usesAt, K.uses]⟩
    | [b, c] =>
      cases hb : wholeP b 0 99
      case none =>
        have gb := (wN (by decide) (by decide)).mpr hb
        exact fine_out ht (fun x hx => by (rcases List.mem_cons.mp hx with e | hx); (rw [e]; simp [rowRead, hasLen, readSlots, readWord, hk, hb, gb]); (rw [List.mem_singleton.mp hx]; simp [rowRead, hasLen, readSlots, readWord, hk, hb, gb])) (by rw [hk]; simp [clsK, hk, hb, gb])
      case some ib =>
        have gb := (wP (by decide) (by decide)).mpr ⟨_, hb⟩
        cases hc : isName c
        case false =>
          exact fine_out ht (fun x hx => by (rcases List.mem_cons.mp hx with e | hx); (rw [e]; simp [rowRead, hasLen, readSlots, readWord, hk, hb, gb, hc]); (rw [List.mem_singleton.mp hx]; simp [rowRead, hasLen, readSlots, readWord, hk, hb, gb, hc])) (by rw [hk]; simp [clsK, hk, hb, gb, hc])
        case true =>
          exact fine_hit2 (z := .work (some c)) (f := ⟨.work, [.lit .work, .num 0 99, .want .PART], [.w a, .i ib, .w c]⟩) ht (by simp [rowRead, hasLen, readSlots, readWord]) (by simp [rowRead, hasLen, readSlots, readWord, hk, hb, gb, hc]) (by rw [hk]; simp [clsK, hk, hb, gb, hc]) ⟨rfl, (fun z => by cases z), fun z => by simp [Fm.uses, usesOf, K.usesAt, K.uses]⟩
    | b :: c :: x0 :: t => exact fine_out ht (fun x hx => by (rcases List.mem_cons.mp hx with e | hx); (rw [e]; simp [rowRead, hasLen, readSlots, readWord]); (rw [List.mem_singleton.mp hx]; simp [rowRead, hasLen, readSlots, readWord])) (by rw [hk]; simp [clsK])
  case ifk =>
    have ht : (Pl.rows .stmt).filter (keep (kw a)) = [(PK.ifk, [.lit .ifk, .value])] := by rw [hk]; rfl
    match r with
    | [] => exact fine_out ht (fun x hx => by rw [List.mem_singleton.mp hx]; simp [rowRead, hasLen, readSlots, readWord]) (by rw [hk]; simp [clsK, isVal_nil])
    | v :: t =>
      obtain ⟨vs, hvs⟩ : ∃ vs, vs = v :: t := ⟨_, rfl⟩
      cases he : readExpr (v :: t)
      case none =>
        exact fine_out ht (fun x hx => by rw [List.mem_singleton.mp hx]; simp [rowRead, hasLen, readSlots, readWord, hk, he]) (by rw [hk]; simp [clsK, isVal, he])
      case some tr =>
        refine fine_hit1 (z := .ifk (names (v :: t))) (f := ⟨.ifk, [.lit .ifk, .value], [.w a, .t tr]⟩) ht (by simp [rowRead, hasLen, readSlots, readWord, hk, he]) (by rw [hk]; simp [clsK, isVal, he]) ⟨rfl, (fun z => by cases z), fun z => ?_⟩
        have u := val_uses he z
        simp only [Fm.uses, usesOf, K.usesAt, K.uses, List.append_nil, List.mem_cons, u]
  case elsek =>
    have ht : (Pl.rows .stmt).filter (keep (kw a)) = [(PK.elsek, [.lit .elsek])] := by rw [hk]; rfl
    match r with
    | [] =>
      exact fine_hit1 (z := .elsek) (f := ⟨.elsek, [.lit .elsek], [.w a]⟩) ht (by simp [rowRead, hasLen, readSlots, readWord, hk]) (by rw [hk]; simp [clsK, hk]) ⟨rfl, (fun z => by cases z), fun z => by simp [Fm.uses, usesOf, K.usesAt, K.uses]⟩
    | x0 :: t => exact fine_out ht (fun x hx => by rw [List.mem_singleton.mp hx]; simp [rowRead, hasLen, readSlots, readWord]) (by rw [hk]; simp [clsK])
  case endk =>
    have ht : (Pl.rows .stmt).filter (keep (kw a)) = [(PK.endk, [.lit .endk])] := by rw [hk]; rfl
    match r with
    | [] =>
      exact fine_hit1 (z := .endk) (f := ⟨.endk, [.lit .endk], [.w a]⟩) ht (by simp [rowRead, hasLen, readSlots, readWord, hk]) (by rw [hk]; simp [clsK, hk]) ⟨rfl, (fun z => by cases z), fun z => by simp [Fm.uses, usesOf, K.usesAt, K.uses]⟩
    | x0 :: t => exact fine_out ht (fun x hx => by rw [List.mem_singleton.mp hx]; simp [rowRead, hasLen, readSlots, readWord]) (by rw [hk]; simp [clsK])
  case whilek =>
    have ht : (Pl.rows .stmt).filter (keep (kw a)) = [(PK.whilek, [.lit .whilek, .value])] := by rw [hk]; rfl
    match r with
    | [] => exact fine_out ht (fun x hx => by rw [List.mem_singleton.mp hx]; simp [rowRead, hasLen, readSlots, readWord]) (by rw [hk]; simp [clsK, isVal_nil])
    | v :: t =>
      obtain ⟨vs, hvs⟩ : ∃ vs, vs = v :: t := ⟨_, rfl⟩
      cases he : readExpr (v :: t)
      case none =>
        exact fine_out ht (fun x hx => by rw [List.mem_singleton.mp hx]; simp [rowRead, hasLen, readSlots, readWord, hk, he]) (by rw [hk]; simp [clsK, isVal, he])
      case some tr =>
        refine fine_hit1 (z := .whilek (names (v :: t))) (f := ⟨.whilek, [.lit .whilek, .value], [.w a, .t tr]⟩) ht (by simp [rowRead, hasLen, readSlots, readWord, hk, he]) (by rw [hk]; simp [clsK, isVal, he]) ⟨rfl, (fun z => by cases z), fun z => ?_⟩
        have u := val_uses he z
        simp only [Fm.uses, usesOf, K.usesAt, K.uses, List.append_nil, List.mem_cons, u]
  case repeatk =>
    have ht : (Pl.rows .stmt).filter (keep (kw a)) = [(PK.repeatk, [.lit .repeatk, .num 0 50])] := by rw [hk]; rfl
    match r with
    | [] => exact fine_out ht (fun x hx => by rw [List.mem_singleton.mp hx]; simp [rowRead, hasLen, readSlots, readWord]) (by rw [hk]; simp [clsK])
    | [b] =>
      cases hb : wholeP b 0 50
      case none =>
        have gb := (wN (by decide) (by decide)).mpr hb
        exact fine_out ht (fun x hx => by rw [List.mem_singleton.mp hx]; simp [rowRead, hasLen, readSlots, readWord, hk, hb, gb]) (by rw [hk]; simp [clsK, hk, hb, gb])
      case some ib =>
        have gb := (wP (by decide) (by decide)).mpr ⟨_, hb⟩
        exact fine_hit1 (z := .repeatk) (f := ⟨.repeatk, [.lit .repeatk, .num 0 50], [.w a, .i ib]⟩) ht (by simp [rowRead, hasLen, readSlots, readWord, hk, hb, gb]) (by rw [hk]; simp [clsK, hk, hb, gb]) ⟨rfl, (fun z => by cases z), fun z => by simp [Fm.uses, usesOf, K.usesAt, K.uses]⟩
    | b :: x0 :: t => exact fine_out ht (fun x hx => by rw [List.mem_singleton.mp hx]; simp [rowRead, hasLen, readSlots, readWord]) (by rw [hk]; simp [clsK])
  case unlock =>
    have ht : (Pl.rows .stmt).filter (keep (kw a)) = [(PK.unlock, [.lit .unlock, .want .LOCK])] := by rw [hk]; rfl
    match r with
    | [] => exact fine_out ht (fun x hx => by rw [List.mem_singleton.mp hx]; simp [rowRead, hasLen, readSlots, readWord]) (by rw [hk]; simp [clsK])
    | [b] =>
      cases hb : isName b
      case false =>
        exact fine_out ht (fun x hx => by rw [List.mem_singleton.mp hx]; simp [rowRead, hasLen, readSlots, readWord, hk, hb]) (by rw [hk]; simp [clsK, hk, hb])
      case true =>
        exact fine_hit1 (z := .unlock b) (f := ⟨.unlock, [.lit .unlock, .want .LOCK], [.w a, .w b]⟩) ht (by simp [rowRead, hasLen, readSlots, readWord, hk, hb]) (by rw [hk]; simp [clsK, hk, hb]) ⟨rfl, (fun z => by cases z), fun z => by simp [Fm.uses, usesOf, K.usesAt, K.uses]⟩
    | b :: x0 :: t => exact fine_out ht (fun x hx => by rw [List.mem_singleton.mp hx]; simp [rowRead, hasLen, readSlots, readWord]) (by rw [hk]; simp [clsK])
  case put =>
    have ht : (Pl.rows .stmt).filter (keep (kw a)) = [(PK.put, [.lit .put, .want .QUEUE, .value])] := by rw [hk]; rfl
    match r with
    | [] => exact fine_out ht (fun x hx => by rw [List.mem_singleton.mp hx]; simp [rowRead, hasLen, readSlots, readWord]) (by rw [hk]; simp [clsK, isVal_nil])
    | [b] => exact fine_out ht (fun x hx => by rw [List.mem_singleton.mp hx]; simp [rowRead, hasLen, readSlots, readWord]) (by rw [hk]; simp [clsK, isVal_nil])
    | b :: v :: t =>
      obtain ⟨vs, hvs⟩ : ∃ vs, vs = v :: t := ⟨_, rfl⟩
      cases hb : isName b
      case false =>
        exact fine_out ht (fun x hx => by rw [List.mem_singleton.mp hx]; simp [rowRead, hasLen, readSlots, readWord, hk, hb]) (by rw [hk]; simp [clsK, isVal, hb])
      case true =>
        cases he : readExpr (v :: t)
        case none =>
          exact fine_out ht (fun x hx => by rw [List.mem_singleton.mp hx]; simp [rowRead, hasLen, readSlots, readWord, hk, hb, he]) (by rw [hk]; simp [clsK, isVal, hb, he])
        case some tr =>
          refine fine_hit1 (z := .put b (names (v :: t))) (f := ⟨.put, [.lit .put, .want .QUEUE, .value], [.w a, .w b, .t tr]⟩) ht (by simp [rowRead, hasLen, readSlots, readWord, hk, hb, he]) (by rw [hk]; simp [clsK, isVal, hb, he]) ⟨rfl, (fun z => by cases z), fun z => ?_⟩
          have u := val_uses he z
          simp only [Fm.uses, usesOf, K.usesAt, K.uses, List.append_nil, List.mem_cons, u]
  case take =>
    have ht : (Pl.rows .stmt).filter (keep (kw a)) = [(PK.take, [.lit .take, .want .QUEUE, .want .VARIABLE])] := by rw [hk]; rfl
    match r with
    | [] => exact fine_out ht (fun x hx => by rw [List.mem_singleton.mp hx]; simp [rowRead, hasLen, readSlots, readWord]) (by rw [hk]; simp [clsK])
    | [b] => exact fine_out ht (fun x hx => by rw [List.mem_singleton.mp hx]; simp [rowRead, hasLen, readSlots, readWord]) (by rw [hk]; simp [clsK])
    | [b, c] =>
      cases hb : isName b
      case false =>
        exact fine_out ht (fun x hx => by rw [List.mem_singleton.mp hx]; simp [rowRead, hasLen, readSlots, readWord, hk, hb]) (by rw [hk]; simp [clsK, hk, hb])
      case true =>
        cases hc : isName c
        case false =>
          exact fine_out ht (fun x hx => by rw [List.mem_singleton.mp hx]; simp [rowRead, hasLen, readSlots, readWord, hk, hb, hc]) (by rw [hk]; simp [clsK, hk, hb, hc])
        case true =>
          exact fine_hit1 (z := .take b c) (f := ⟨.take, [.lit .take, .want .QUEUE, .want .VARIABLE], [.w a, .w b, .w c]⟩) ht (by simp [rowRead, hasLen, readSlots, readWord, hk, hb, hc]) (by rw [hk]; simp [clsK, hk, hb, hc]) ⟨rfl, (fun z => by cases z), fun z => by simp [Fm.uses, usesOf, K.usesAt, K.uses]⟩
    | b :: c :: x0 :: t => exact fine_out ht (fun x hx => by rw [List.mem_singleton.mp hx]; simp [rowRead, hasLen, readSlots, readWord]) (by rw [hk]; simp [clsK])
  case sleep =>
    have ht : (Pl.rows .stmt).filter (keep (kw a)) = [(PK.sleep, [.lit .sleep, .num 0 99])] := by rw [hk]; rfl
    match r with
    | [] => exact fine_out ht (fun x hx => by rw [List.mem_singleton.mp hx]; simp [rowRead, hasLen, readSlots, readWord]) (by rw [hk]; simp [clsK])
    | [b] =>
      cases hb : wholeP b 0 99
      case none =>
        have gb := (wN (by decide) (by decide)).mpr hb
        exact fine_out ht (fun x hx => by rw [List.mem_singleton.mp hx]; simp [rowRead, hasLen, readSlots, readWord, hk, hb, gb]) (by rw [hk]; simp [clsK, hk, hb, gb])
      case some ib =>
        have gb := (wP (by decide) (by decide)).mpr ⟨_, hb⟩
        exact fine_hit1 (z := .sleep) (f := ⟨.sleep, [.lit .sleep, .num 0 99], [.w a, .i ib]⟩) ht (by simp [rowRead, hasLen, readSlots, readWord, hk, hb, gb]) (by rw [hk]; simp [clsK, hk, hb, gb]) ⟨rfl, (fun z => by cases z), fun z => by simp [Fm.uses, usesOf, K.usesAt, K.uses]⟩
    | b :: x0 :: t => exact fine_out ht (fun x hx => by rw [List.mem_singleton.mp hx]; simp [rowRead, hasLen, readSlots, readWord]) (by rw [hk]; simp [clsK])
  case start =>
    have ht : (Pl.rows .stmt).filter (keep (kw a)) = [(PK.start, [.lit .start, .want .LATER])] := by rw [hk]; rfl
    match r with
    | [] => exact fine_out ht (fun x hx => by rw [List.mem_singleton.mp hx]; simp [rowRead, hasLen, readSlots, readWord]) (by rw [hk]; simp [clsK])
    | [b] =>
      cases hb : isName b
      case false =>
        exact fine_out ht (fun x hx => by rw [List.mem_singleton.mp hx]; simp [rowRead, hasLen, readSlots, readWord, hk, hb]) (by rw [hk]; simp [clsK, hk, hb])
      case true =>
        exact fine_hit1 (z := .start b) (f := ⟨.start, [.lit .start, .want .LATER], [.w a, .w b]⟩) ht (by simp [rowRead, hasLen, readSlots, readWord, hk, hb]) (by rw [hk]; simp [clsK, hk, hb]) ⟨rfl, (fun z => by cases z), fun z => by simp [Fm.uses, usesOf, K.usesAt, K.uses]⟩
    | b :: x0 :: t => exact fine_out ht (fun x hx => by rw [List.mem_singleton.mp hx]; simp [rowRead, hasLen, readSlots, readWord]) (by rw [hk]; simp [clsK])
  case wait =>
    have ht : (Pl.rows .stmt).filter (keep (kw a)) = [(PK.wait, [.lit .wait, .want .TASK])] := by rw [hk]; rfl
    match r with
    | [] => exact fine_out ht (fun x hx => by rw [List.mem_singleton.mp hx]; simp [rowRead, hasLen, readSlots, readWord]) (by rw [hk]; simp [clsK])
    | [b] =>
      cases hb : isName b
      case false =>
        exact fine_out ht (fun x hx => by rw [List.mem_singleton.mp hx]; simp [rowRead, hasLen, readSlots, readWord, hk, hb]) (by rw [hk]; simp [clsK, hk, hb])
      case true =>
        exact fine_hit1 (z := .wait b) (f := ⟨.wait, [.lit .wait, .want .TASK], [.w a, .w b]⟩) ht (by simp [rowRead, hasLen, readSlots, readWord, hk, hb]) (by rw [hk]; simp [clsK, hk, hb]) ⟨rfl, (fun z => by cases z), fun z => by simp [Fm.uses, usesOf, K.usesAt, K.uses]⟩
    | b :: x0 :: t => exact fine_out ht (fun x hx => by rw [List.mem_singleton.mp hx]; simp [rowRead, hasLen, readSlots, readWord]) (by rw [hk]; simp [clsK])
  case say =>
    have ht : (Pl.rows .stmt).filter (keep (kw a)) = [(PK.say, [.lit .say, .value])] := by rw [hk]; rfl
    match r with
    | [] => exact fine_out ht (fun x hx => by rw [List.mem_singleton.mp hx]; simp [rowRead, hasLen, readSlots, readWord]) (by rw [hk]; simp [clsK, isVal_nil])
    | v :: t =>
      obtain ⟨vs, hvs⟩ : ∃ vs, vs = v :: t := ⟨_, rfl⟩
      cases he : readExpr (v :: t)
      case none =>
        exact fine_out ht (fun x hx => by rw [List.mem_singleton.mp hx]; simp [rowRead, hasLen, readSlots, readWord, hk, he]) (by rw [hk]; simp [clsK, isVal, he])
      case some tr =>
        refine fine_hit1 (z := .say (names (v :: t))) (f := ⟨.say, [.lit .say, .value], [.w a, .t tr]⟩) ht (by simp [rowRead, hasLen, readSlots, readWord, hk, he]) (by rw [hk]; simp [clsK, isVal, he]) ⟨rfl, (fun z => by cases z), fun z => ?_⟩
        have u := val_uses he z
        simp only [Fm.uses, usesOf, K.usesAt, K.uses, List.append_nil, List.mem_cons, u]
  case eq =>
    exact fine_no hk rfl (by intro z; cases z <;> simp [K.kwOf, K.pk])
  case other =>
    have ht : (Pl.rows .stmt).filter (keep (kw a)) = [(PK.set, [.want .VARIABLE, .lit .eq, .value])] := by rw [hk]; rfl
    cases hn : isName a
    case false =>
      refine fine_out ht (fun x hx => by rw [List.mem_singleton.mp hx]; exact rr_want hn) ?_
      unfold clsK
      rw [hk]
      split <;> simp_all
    case true =>
      match r with
      | [] => exact fine_out ht (fun x hx => by rw [List.mem_singleton.mp hx]; simp [rowRead, hasLen, readSlots, readWord]) (by rw [hk]; simp [clsK, isVal_nil])
      | [b] => exact fine_out ht (fun x hx => by rw [List.mem_singleton.mp hx]; simp [rowRead, hasLen, readSlots, readWord]) (by rw [hk]; simp [clsK, isVal_nil])
      | b :: v :: t =>
        obtain ⟨vs, hvs⟩ : ∃ vs, vs = v :: t := ⟨_, rfl⟩
        by_cases hb : kw b = .eq
        rotate_left
        ·
          exact fine_out ht (fun x hx => by rw [List.mem_singleton.mp hx]; simp [rowRead, hasLen, readSlots, readWord, hk, hb, hn]) (by rw [hk]; simp [clsK, isVal, hb, hn])
        ·
          cases he : readExpr (v :: t)
          case none =>
            exact fine_out ht (fun x hx => by rw [List.mem_singleton.mp hx]; simp [rowRead, hasLen, readSlots, readWord, hk, hb, hn, he]) (by rw [hk]; simp [clsK, isVal, hb, hn, he])
          case some tr =>
            refine fine_hit1 (z := .set a (names (v :: t))) (f := ⟨.set, [.want .VARIABLE, .lit .eq, .value], [.w a, .w b, .t tr]⟩) ht (by simp [rowRead, hasLen, readSlots, readWord, hk, hb, hn, he]) (by rw [hk]; simp [clsK, isVal, hb, hn, he]) ⟨rfl, (fun z => by cases z), fun z => ?_⟩
            have u := val_uses he z
            simp only [Fm.uses, usesOf, K.usesAt, K.uses, List.append_nil, List.mem_cons, u]
end Mi

/-! the law's own look at a line -/
namespace Mi
open PySem
inductive LK where
  | bad | set | k (k : Kw)
  deriving DecidableEq
noncomputable def isValL (vs : List Str) : Bool := decide (1 ≤ vs.length) && (decide (vs.length ≤ 40) && decide (Gr.lV (4 * vs.length + 4) 0 (vs.map tok) = some []))
theorem isVal_eq (vs : List Str) : isVal vs = isValL vs := by
  unfold isVal isValL
  rw [readExpr_some]
  have h := Gr.same (ws := vs.map tok) (n := 4 * vs.length + 4) (m := 4 * vs.length + 4) (by rw [List.length_map]; exact Nat.le_refl _) (by rw [List.length_map]; exact Nat.le_refl _)
  rw [List.length_map] at h
  cases e : Gr.readV (4 * vs.length + 4) (vs.map tok) with
  | true =>
    obtain ⟨h1, h2, h3⟩ := h.mp e
    rw [decide_eq_true h1, decide_eq_true h2, decide_eq_true h3]
    rfl
  | false =>
    by_cases h1 : 1 ≤ vs.length
    · by_cases h2 : vs.length ≤ 40
      · by_cases h3 : Gr.lV (4 * vs.length + 4) 0 (vs.map tok) = some []
        · have := h.mpr ⟨h1, h2, h3⟩
          rw [e] at this
          cases this
        · rw [decide_eq_false h3]; simp
      · rw [decide_eq_false h2]; simp
    · rw [decide_eq_false h1]; simp
noncomputable def lawPlain (a : Str) (r : List Str) : Bool :=
  if kw a = .cores then decide (r.length = 1) && wholeL (r.getD 0 "") 1 3
  else if kw a = .slice then decide (r.length = 1) && wholeL (r.getD 0 "") 0 20
  else if kw a = .repeatk then decide (r.length = 1) && wholeL (r.getD 0 "") 0 50
  else if kw a = .sleep then decide (r.length = 1) && wholeL (r.getD 0 "") 0 99
  else if kw a = .elsek ∨ kw a = .endk then decide (r.length = 0)
  else if r.length < 1 ∨ (kw a ≠ .work ∧ isName (r.getD 0 "") = false) then false
  else if kw a = .part ∨ kw a = .unlock ∨ kw a = .start ∨ kw a = .wait then decide (r.length = 1)
  else if kw a = .work then wholeL (r.getD 0 "") 0 99 && (decide (r.length = 1) || (decide (r.length = 2) && isName (r.getD 1 "")))
  else if kw a = .queue then decide (r.length = 2) && wholeL (r.getD 1 "") 1 4
  else if kw a = .cell then decide (r.length = 2) && wholeL (r.getD 1 "") 0 999
  else if kw a = .take then decide (r.length = 2) && isName (r.getD 1 "")
  else if kw a = .lock then decide (r.length = 1) || decide (r.drop 1 = [("lent" : Str)])
  else decide (kw a = .task) && ((decide (r.length = 2) || decide (r.length = 3)) && (wholeL (r.getD 1 "") 1 9 && (decide (r.drop 2 = []) || decide (r.drop 2 = [("later" : Str)]))))
noncomputable def lawKind (a : Str) (r : List Str) : LK :=
  if ("" : Str) ∈ a :: r then .bad
  else if kw a = .ifk ∨ kw a = .whilek ∨ kw a = .say then (if isValL r = true then .k (kw a) else .bad)
  else if kw a = .put then (if decide (1 < r.length) && (isName (r.getD 0 "") && isValL (r.drop 1)) then .k .put else .bad)
  else if decide (1 < r.length) && (decide (r.getD 0 "" = "=") && isName a) then (if isValL (r.drop 1) = true then .set else .bad)
  else if lawPlain a r = true then .k (kw a) else .bad
noncomputable def K.lk : K → LK
  | .set _ _ => .set
  | k => .k k.kwOf
noncomputable def lkOf : Option K → LK
  | none => .bad
  | some k => k.lk
theorem kw_eqs {a : Str} : (a = "=") ↔ kw a = .eq := (kw_iff (k := .eq) (by decide)).symm
theorem kw_lent {a : Str} : (a = "lent") ↔ kw a = .lent := (kw_iff (k := .lent) (by decide)).symm
theorem kw_later {a : Str} : (a = "later") ↔ kw a = .later := (kw_iff (k := .later) (by decide)).symm
theorem junkF : ∀ {d : Nat} {ws : List Gr.T}, Gr.V d ws → Gr.T.junk ∉ ws := by
  intro d ws h
  refine Gr.V.rec (motive_1 := fun d ws _ => Gr.T.junk ∉ ws) (motive_2 := fun d ws _ => Gr.T.junk ∉ ws) (motive_3 := fun d ws _ => Gr.T.junk ∉ ws) (motive_4 := fun d ws _ => Gr.T.junk ∉ ws) ?_ ?_ ?_ ?_ ?_ ?_ ?_ ?_ h
  · intro d; decide
  · intro d ws _ _ h; simp [h]
  · intro d ws _ h; exact h
  · intro d a b _ _ h1 h2; simp [h1, h2]
  · intro d ws _ h; exact h
  · intro d a b _ _ h1 h2; simp [h1, h2]
  · intro d ws _ h; exact h
  · intro d a b _ _ h1 h2; simp [h1, h2]
theorem val_empty {vs : List Str} (h : isVal vs = true) : ("" : Str) ∉ vs := fun hm => by
  unfold isVal at h
  rw [readExpr_some] at h
  have v := (Gr.readV_iff (ws := vs.map tok) (n := 4 * vs.length + 4) (by rw [List.length_map]; exact Nat.le_refl _)).mp h
  refine junkF v.2 (List.mem_map.mpr ⟨"", hm, ?_⟩)
  decide +kernel
theorem name_empty {w : Str} (h : isName w = true) : w ≠ "" := fun e => by rw [e] at h; exact absurd h (by decide +kernel)
theorem whole_empty {w : Str} {lo hi : Int} (h : wholeL w lo hi = true) : w ≠ "" := fun e => by rw [e] at h; exact absurd h (by simp [wholeL, show ("" : Str).cps.size = 0 from by decide +kernel])
theorem kw_empty {w : Str} {k : Kw} (h : kw w = k) (n : k ≠ .other) : w ≠ "" := fun e => by rw [e, show kw "" = .other from by decide +kernel] at h; exact n h.symm
theorem cls_empty {a : Str} {r : List Str} {z : K} (h : cls (a :: r) = some z) : ("" : Str) ∉ a :: r := by
  have h' : clsK (kw a) a r = some z := h
  have ha : kw a ≠ .other → a ≠ "" := fun n => kw_empty rfl n
  generalize hk : kw a = k at h' ha
  unfold clsK at h'
  split at h'
  all_goals first
    | (cases h'; done)
    | (cases h'
       have := ha (by decide)
       simp [this.symm])
    | (split at h'
       · rename_i c
         have n1 : ∀ w, isName w = true → ("" : Str) ≠ w := fun w h e => name_empty h e.symm
         have n2 : ∀ w lo hi, wholeL w lo hi = true → ("" : Str) ≠ w := fun w lo hi h e => whole_empty h e.symm
         have n3 : ∀ w k, kw w = k → k ≠ .other → ("" : Str) ≠ w := fun w k h n e => kw_empty h n e.symm
         have n4 : ∀ vs, isVal vs = true → ("" : Str) ∉ vs := fun vs h => val_empty h
         simp only [List.mem_cons, List.not_mem_nil, or_false, not_or]
         first
           | exact ⟨(ha (by decide)).symm, n1 _ c⟩
           | exact ⟨(ha (by decide)).symm, n2 _ _ _ c⟩
           | exact ⟨(ha (by decide)).symm, n4 _ c⟩
           | exact ⟨(ha (by decide)).symm, n1 _ c.1, n2 _ _ _ c.2⟩
           | exact ⟨(ha (by decide)).symm, n1 _ c.1, n3 _ _ c.2 (by decide)⟩
           | exact ⟨(ha (by decide)).symm, n1 _ c.1, n4 _ c.2⟩
           | exact ⟨(ha (by decide)).symm, n1 _ c.1, n1 _ c.2⟩
           | exact ⟨(ha (by decide)).symm, n2 _ _ _ c.1, n1 _ c.2⟩
           | exact ⟨(ha (by decide)).symm, n1 _ c.1, n2 _ _ _ c.2.1, n3 _ _ c.2.2 (by decide)⟩
           | exact ⟨n1 _ c.1, n3 _ _ c.2.1 (by decide), n4 _ c.2.2⟩
       · cases h')
end Mi

/-! the law's look at a line tells what the line is -/
namespace Mi
open PySem
theorem nn_of {a : Str} {k : Kw} (h : kw a = k) (n : k ≠ .other) : isName a = false := by
  cases e : isName a with
  | false => rfl
  | true => rw [name_other e] at h; exact absurd h.symm n
theorem lawKind_eq (a : Str) (r : List Str) : lawKind a r = lkOf (cls (a :: r)) := by
  by_cases he : ("" : Str) ∈ a :: r
  · have hc : cls (a :: r) = none := by
      cases h : cls (a :: r) with
      | none => rfl
      | some z => exact absurd he (cls_empty h)
    rw [hc]
    unfold lawKind
    rw [if_pos he]
    rfl
  · unfold lawKind
    rw [if_neg he]
    show _ = lkOf (clsK (kw a) a r)
    cases hk : kw a
    case other =>
      cases hn : isName a with
      | false => 
        have hc : clsK .other a r = none := by
          unfold clsK
          split <;> first | rfl | (rename_i h; cases h; done) | simp_all
        rw [hc]
        rcases r with _ | ⟨b, _ | ⟨c, t⟩⟩ <;> simp [lawPlain, hk, lkOf, hn]
      | true =>
        rcases r with _ | ⟨b, _ | ⟨c, t⟩⟩
        · simp [lawPlain, hk, lkOf, clsK]
        · have : isVal [] = false := isVal_nil
          simp [lawPlain, hk, lkOf, clsK, hn, this]
        · simp only [List.getD_cons_zero, List.drop_succ_cons, List.drop_zero, List.length_cons]
          rw [← isVal_eq]
          by_cases hb : b = "="
          · have hb2 : kw b = .eq := kw_eqs.mp hb
            have hb3 : kw (Str.ofString "=") = .eq := by decide +kernel
            cases hv : isVal (c :: t) <;> simp [clsK, hn, hb2, hb, hb3, hv, lkOf, K.lk, ← isVal_eq]
          · have hb2 : ¬ kw b = .eq := fun z => hb (kw_eqs.mpr z)
            simp [lawPlain, hk, lkOf, clsK, hn, hb, hb2]
    all_goals have hn : isName a = false := nn_of hk (by decide)
    case ifk => cases hv : isVal r <;> simp [← isVal_eq, clsK, hv, lkOf, K.lk, K.kwOf]
    case whilek => cases hv : isVal r <;> simp [← isVal_eq, clsK, hv, lkOf, K.lk, K.kwOf]
    case say => cases hv : isVal r <;> simp [← isVal_eq, clsK, hv, lkOf, K.lk, K.kwOf]
    case put =>
      rcases r with _ | ⟨b, _ | ⟨c, t⟩⟩
      · simp [clsK, lkOf]
      · have : isVal [] = false := isVal_nil
        simp [clsK, lkOf, this]
      · cases hb : isName b <;> cases hv : isVal (c :: t) <;> simp [← isVal_eq, clsK, hb, hv, lkOf, K.lk, K.kwOf]
    all_goals (rcases r with _ | ⟨b, _ | ⟨c, _ | ⟨d, _ | ⟨e, t⟩⟩⟩⟩ <;> simp [lawPlain, hk, hn, clsK, lkOf, ← kw_lent, ← kw_later])
    all_goals first | rfl | (split <;> rfl)
end Mi

/-! lines of a program: the package's reading and the law's own -/
namespace Mi
open PySem
inductive Bk where
  | ifk | elsek | whilek | repeatk
  deriving DecidableEq
inductive G where
  | lock | queue | cell | part | task
  deriving DecidableEq
noncomputable def PK.group : PK → Option G
  | .lock | .lent => some .lock
  | .queue => some .queue
  | .cell => some .cell
  | .part => some .part
  | .task | .later => some .task
  | _ => none
noncomputable def G.most : G → Nat
  | .lock => 4 | .queue => 3 | .cell => 4 | .part => 5 | .task => 6
noncomputable def grp (fs : List Fm) (g : G) : List Fm := fs.filter fun f => decide (f.kind.group = some g)
noncomputable def pl (at' : Nat) (t : Bool) : Pl := if at' = 0 then .first else if at' = 1 then .second else if t = true then .stmt else .decl
noncomputable def inTask (fs : List Fm) : Bool := decide (grp fs .task ≠ [])
noncomputable def canStand (bs : List Bk) (fs : List Fm) (k : PK) : Bool := match k.group with
  | some g => decide (bs = []) && decide ((grp fs g).length < g.most)
  | none => match k with
    | .ifk | .whilek | .repeatk => decide (bs.length < 6)
    | .elsek => decide (bs.getLast? = some .ifk)
    | .endk => decide (0 < bs.length)
    | _ => true
noncomputable def change (bs : List Bk) : PK → List Bk
  | .ifk => bs ++ [.ifk]
  | .whilek => bs ++ [.whilek]
  | .repeatk => bs ++ [.repeatk]
  | .elsek => bs.dropLast ++ [.elsek]
  | .endk => bs.dropLast
  | _ => bs
noncomputable def lastTask (fs : List Fm) : Bool := match fs.getLast? with
  | some f => decide (f.kind.group = some .task)
  | none => false
noncomputable def addLine (fs : List Fm) (bs : List Bk) (ws : List Str) : Except Nat (Fm × List Bk) :=
  match readForm ws (pl fs.length (inTask fs)).rows with
  | none => .error fs.length
  | some f =>
    if f.kind.group = some .task ∧ lastTask fs = true then .error (fs.length - 1)
    else if 80 ≤ fs.length ∨ canStand bs fs f.kind = false then .error fs.length
    else .ok (f, change bs f.kind)
noncomputable def readAll : List Fm → List Bk → List (List Str) → Except Nat (List Fm)
  | fs, bs, [] => if lastTask fs = true then .error (fs.length - 1) else if bs ≠ [] ∨ inTask fs = false then .error fs.length else .ok fs
  | fs, bs, ws :: r => match addLine fs bs ws with
    | .error n => .error n
    | .ok (f, bs) => readAll (fs ++ [f]) bs r
/-! ### the law's -/
structure LS where
  blocks : List Bk
  counts : LK → Nat
  last : Option Nat
noncomputable def lawPlaced (k : LK) (ws : List Str) (n : Nat) (bs : List Bk) (c : LK → Nat) : Bool :=
  if k = .bad ∨ 80 ≤ n ∨ decide (n < 2) ≠ decide (k = .k .cores ∨ k = .k .slice) then false
  else if n < 2 then decide (k = if n = 0 then .k .cores else .k .slice)
  else if k = .k .lock then (decide (0 < c (.k .task)) && decide (ws.drop 2 = [])) || (!decide (0 < c (.k .task)) && decide (c (.k .lock) < 4))
  else if k = .k .queue then !decide (0 < c (.k .task)) && decide (c (.k .queue) < 3)
  else if k = .k .cell then !decide (0 < c (.k .task)) && decide (c (.k .cell) < 4)
  else if k = .k .part then !decide (0 < c (.k .task)) && decide (c (.k .part) < 5)
  else if k = .k .task then decide (bs = []) && decide (c (.k .task) < 6)
  else if k = .k .ifk ∨ k = .k .whilek ∨ k = .k .repeatk then decide (0 < c (.k .task)) && decide (bs.length < 6)
  else if k = .k .elsek then decide (bs ≠ []) && decide (bs.getLast? = some .ifk)
  else if k = .k .endk then decide (bs ≠ [])
  else decide (0 < c (.k .task))
noncomputable def lawBlocks (bs : List Bk) (k : LK) : List Bk :=
  if k = .k .ifk then bs ++ [.ifk] else if k = .k .whilek then bs ++ [.whilek] else if k = .k .repeatk then bs ++ [.repeatk]
  else if k = .k .elsek then bs.dropLast ++ [.elsek] else if k = .k .endk then bs.dropLast else bs
noncomputable def kindOf : List Str → LK
  | [] => .bad
  | a :: r => lawKind a r
noncomputable def LS.step (s : LS) (n : Nat) (k : LK) : LS := ⟨lawBlocks s.blocks k, fun j => if j = k then s.counts j + 1 else s.counts j, if k = .k .task then some n else s.last⟩
noncomputable def lawBad : Nat → LS → List (List Str) → Option Nat
  | n, s, [] => if s.last.map (· + 1) = some n then s.last else if s.blocks ≠ [] ∨ s.last = none then some n else none
  | n, s, ws :: r =>
    if s.last.map (· + 1) = some n ∧ kindOf ws = .k .task then s.last
    else if lawPlaced (kindOf ws) ws n s.blocks s.counts = false then some n
    else lawBad (n + 1) (s.step n (kindOf ws)) r
/-! ### both tell the same -/
inductive Rel : Nat → Bool → List Fm → List (List Str) → Prop where
  | nil {n : Nat} {t : Bool} : Rel n t [] []
  | cons {n : Nat} {t : Bool} {f : Fm} {fs : List Fm} {a : Str} {r : List Str} {wss : List (List Str)} {k : K} (h1 : cls (a :: r) = some k) (h2 : Match (pl n t) k f) (h3 : Rel (n + 1) (t || decide (k.kwOf = .task)) fs wss) : Rel n t (f :: fs) ((a :: r) :: wss)
structure Inv (fs : List Fm) (bs : List Bk) (s : LS) : Prop where
  blocks : s.blocks = bs
  task : s.counts (.k .task) = (grp fs .task).length
  out : s.counts (.k .task) = 0 → bs = [] ∧ s.counts (.k .lock) = (grp fs .lock).length ∧ s.counts (.k .queue) = (grp fs .queue).length ∧ s.counts (.k .cell) = (grp fs .cell).length ∧ s.counts (.k .part) = (grp fs .part).length
  last : (s.last.map (· + 1) = some fs.length) ↔ lastTask fs = true
  low : ∀ l, s.last = some l → l < fs.length
  none' : s.last = none ↔ grp fs .task = []
  first : fs.length < 2 → grp fs .task = []
theorem fine_all (p : Pl) (a : Str) (r : List Str) : Fine p (a :: r) := by
  cases p
  · exact fine_first a r
  · exact fine_second a r
  · exact fine_decl a r
  · exact fine_stmt a r
theorem grp_snoc (fs : List Fm) (f : Fm) (g : G) : (grp (fs ++ [f]) g).length = (grp fs g).length + if f.kind.group = some g then 1 else 0 := by
  unfold grp
  rw [List.filter_append, List.length_append]
  congr 1
  by_cases h : f.kind.group = some g <;> simp [h]
theorem last_snoc (fs : List Fm) (f : Fm) : lastTask (fs ++ [f]) = decide (f.kind.group = some .task) := by
  unfold lastTask
  rw [List.getLast?_append]
  rfl
theorem inTask_iff (fs : List Fm) : inTask fs = true ↔ 0 < (grp fs .task).length := by
  unfold inTask
  rw [decide_eq_true_iff, List.length_pos_iff]
end Mi

/-! lines of a program: both readers tell the same line -/
namespace Mi
open PySem
theorem cls_lock {a : Str} {r : List Str} {x : Str} (h : cls (a :: r) = some (.lock x)) : (a :: r).drop 2 = [] := by
  have h' : clsK (kw a) a r = some (.lock x) := h
  unfold clsK at h'
  split at h' <;> first | rfl | (cases h'; done) | (split at h' <;> cases h'; done)
theorem cls_lent {a : Str} {r : List Str} {x : Str} (h : cls (a :: r) = some (.lent x)) : (a :: r).drop 2 ≠ [] := by
  have h' : clsK (kw a) a r = some (.lent x) := h
  unfold clsK at h'
  split at h' <;> first | (intro z; cases z; done) | (cases h'; done) | (split at h' <;> cases h'; done)
theorem kindOf_some {a : Str} {r : List Str} {k : K} (h : cls (a :: r) = some k) : kindOf (a :: r) = k.lk := by
  show lawKind a r = _
  rw [lawKind_eq, h]; rfl
theorem kindOf_none {a : Str} {r : List Str} (h : cls (a :: r) = none) : kindOf (a :: r) = .bad := by
  show lawKind a r = _
  rw [lawKind_eq, h]; rfl
theorem pk_task {p : Pl} {k : K} {q : PK} (h : k.pk p = some q) : q.group = some .task ↔ k.lk = .k .task := by
  cases p <;> cases k <;> simp only [K.pk, Option.some.injEq, reduceCtorEq] at h <;> (try subst h) <;> simp [PK.group, K.lk, K.kwOf]
theorem pl_cases (n : Nat) (t : Bool) : (n = 0 ∧ pl n t = .first) ∨ (n = 1 ∧ pl n t = .second) ∨ (2 ≤ n ∧ t = true ∧ pl n t = .stmt) ∨ (2 ≤ n ∧ t = false ∧ pl n t = .decl) := by
  unfold pl
  by_cases h0 : n = 0
  · exact .inl ⟨h0, if_pos h0⟩
  · by_cases h1 : n = 1
    · exact .inr (.inl ⟨h1, by rw [if_neg h0, if_pos h1]⟩)
    · cases t with
      | true => exact .inr (.inr (.inl ⟨by omega, rfl, by rw [if_neg h0, if_neg h1]; rfl⟩))
      | false => exact .inr (.inr (.inr ⟨by omega, rfl, by rw [if_neg h0, if_neg h1]; rfl⟩))
theorem lastTask_in {fs : List Fm} (h : lastTask fs = true) : grp fs .task ≠ [] := by
  unfold lastTask at h
  cases e : fs.getLast? with
  | none => rw [e] at h; cases h
  | some f =>
    rw [e] at h
    have hm : f ∈ fs := List.mem_of_getLast? e
    exact List.ne_nil_of_mem (List.mem_filter.mpr ⟨hm, h⟩)
/-- a line that the package takes for no form stands nowhere for the law -/
theorem placed_no {n : Nat} {t : Bool} {a : Str} {r : List Str} {bs : List Bk} {c : LK → Nat} (ht : t = true ↔ 0 < c (.k .task)) (hb : c (.k .task) = 0 → bs = []) (h : ∀ k, cls (a :: r) = some k → k.pk (pl n t) = none) : lawPlaced (kindOf (a :: r)) (a :: r) n bs c = false := by
  cases hc : cls (a :: r) with
  | none => rw [kindOf_none hc]; simp [lawPlaced]
  | some k =>
    rw [kindOf_some hc]
    have hk := h k hc
    rcases pl_cases n t with ⟨e, ep⟩ | ⟨e, ep⟩ | ⟨e, et, ep⟩ | ⟨e, et, ep⟩
    · rw [ep] at hk
      subst e
      cases k <;> simp [K.pk] at hk <;> simp [lawPlaced, K.lk, K.kwOf]
    · rw [ep] at hk
      subst e
      cases k <;> simp [K.pk] at hk <;> simp [lawPlaced, K.lk, K.kwOf]
    · rw [ep] at hk
      have g := ht.mp et
      have n2 : ¬ n < 2 := by omega
      cases k <;> simp [K.pk] at hk <;> simp [lawPlaced, K.lk, K.kwOf, n2, g]
      case lent x => have := cls_lent hc; simp at this; simp [this]
    · rw [ep] at hk
      have g : c (.k .task) = 0 := Nat.eq_zero_of_not_pos (fun z => by rw [ht.mpr z] at et; cases et)
      have n2 : ¬ n < 2 := by omega
      have gb := hb g
      cases k <;> simp [K.pk] at hk <;> simp [lawPlaced, K.lk, K.kwOf, n2, g, gb]
theorem placed_iff {fs : List Fm} {bs : List Bk} {s : LS} (I : Inv fs bs s) {a : Str} {r : List Str} {k : K} {q : PK} (hc : cls (a :: r) = some k) (hk : k.pk (pl fs.length (inTask fs)) = some q) :
    lawPlaced (kindOf (a :: r)) (a :: r) fs.length s.blocks s.counts = (decide (fs.length < 80) && canStand bs fs q) := by
  rw [kindOf_some hc]
  have ib := I.blocks
  have it := I.task
  have io := I.out
  rcases pl_cases fs.length (inTask fs) with ⟨e, ep⟩ | ⟨e, ep⟩ | ⟨e, et, ep⟩ | ⟨e, et, ep⟩
  · rw [ep] at hk
    rw [e]
    cases k <;> simp [K.pk] at hk <;> subst hk <;> simp [lawPlaced, K.lk, K.kwOf, canStand, PK.group]
  · rw [ep] at hk
    rw [e]
    cases k <;> simp [K.pk] at hk <;> subst hk <;> simp [lawPlaced, K.lk, K.kwOf, canStand, PK.group]
  · rw [ep] at hk
    have g : 0 < s.counts (.k .task) := by rw [it]; exact (inTask_iff fs).mp et
    have n2 : ¬ fs.length < 2 := by omega
    have g' : 0 < (grp fs .task).length := by rw [← it]; exact g
    rw [ib]
    generalize fs.length = n at *
    by_cases h8 : n < 80
    · have h8' : ¬ 80 ≤ n := by omega
      cases k <;> simp [K.pk] at hk <;> subst hk <;> simp [lawPlaced, K.lk, K.kwOf, canStand, PK.group, G.most, n2, h8, h8', it, g']
      case lock x => have := cls_lock hc; simp at this; simp [this]
      all_goals first | rfl | (congr; done) | (cases bs <;> simp; done) | trace_state
    · have h8' : 80 ≤ n := by omega
      simp [lawPlaced, h8', h8]
  · rw [ep] at hk
    have g : s.counts (.k .task) = 0 := by
      rw [it]
      exact Nat.eq_zero_of_not_pos (fun z => by rw [(inTask_iff fs).mpr z] at et; cases et)
    obtain ⟨o1, o2, o3, o4, o5⟩ := io g
    have n2 : ¬ fs.length < 2 := by omega
    rw [ib, o1]
    generalize fs.length = n at *
    by_cases h8 : n < 80
    · have h8' : ¬ 80 ≤ n := by omega
      cases k <;> simp [K.pk] at hk <;> subst hk <;> simp [lawPlaced, K.lk, K.kwOf, canStand, PK.group, G.most, n2, g, h8, h8', o2, o3, o4, o5]
      all_goals first | rfl | (congr; done) | (rw [← it, g]; rfl) | trace_state
    · have h8' : 80 ≤ n := by omega
      simp [lawPlaced, h8', h8]
end Mi

/-! lines of a program: both readers go on alike -/
namespace Mi
open PySem
theorem change_eq {p : Pl} {k : K} {q : PK} {bs : List Bk} (h : k.pk p = some q) : lawBlocks bs k.lk = change bs q := by
  cases p <;> cases k <;> simp only [K.pk, Option.some.injEq, reduceCtorEq] at h <;> subst h <;> simp [lawBlocks, change, K.lk, K.kwOf]
/-- the group that counts ahead of the tasks -/
theorem pk_group {n : Nat} {t : Bool} {k : K} {q : PK} (ht : t = false) (h : k.pk (pl n t) = some q) :
    (q.group = some .lock ↔ k.lk = .k .lock) ∧ (q.group = some .queue ↔ k.lk = .k .queue) ∧ (q.group = some .cell ↔ k.lk = .k .cell) ∧ (q.group = some .part ↔ k.lk = .k .part) := by
  rcases pl_cases n t with ⟨_, ep⟩ | ⟨_, ep⟩ | ⟨_, et, ep⟩ | ⟨_, _, ep⟩
  · rw [ep] at h
    cases k <;> simp only [K.pk, Option.some.injEq, reduceCtorEq] at h <;> subst h <;> simp [PK.group, K.lk, K.kwOf]
  · rw [ep] at h
    cases k <;> simp only [K.pk, Option.some.injEq, reduceCtorEq] at h <;> subst h <;> simp [PK.group, K.lk, K.kwOf]
  · rw [ht] at et; cases et
  · rw [ep] at h
    cases k <;> simp only [K.pk, Option.some.injEq, reduceCtorEq] at h <;> subst h <;> simp [PK.group, K.lk, K.kwOf]
theorem pk_blocks {n : Nat} {t : Bool} {k : K} {q : PK} (ht : t = false) (h : k.pk (pl n t) = some q) : change [] q = [] := by
  rcases pl_cases n t with ⟨_, ep⟩ | ⟨_, ep⟩ | ⟨_, et, ep⟩ | ⟨_, _, ep⟩
  · rw [ep] at h
    cases k <;> simp only [K.pk, Option.some.injEq, reduceCtorEq] at h <;> subst h <;> rfl
  · rw [ep] at h
    cases k <;> simp only [K.pk, Option.some.injEq, reduceCtorEq] at h <;> subst h <;> rfl
  · rw [ht] at et; cases et
  · rw [ep] at h
    cases k <;> simp only [K.pk, Option.some.injEq, reduceCtorEq] at h <;> subst h <;> rfl
theorem pk_first {n : Nat} {t : Bool} {k : K} {q : PK} (hn : n < 2) (h : k.pk (pl n t) = some q) : q.group ≠ some .task := by
  rcases pl_cases n t with ⟨_, ep⟩ | ⟨_, ep⟩ | ⟨e, _, _⟩ | ⟨e, _, _⟩
  · rw [ep] at h
    cases k <;> simp only [K.pk, Option.some.injEq, reduceCtorEq] at h <;> subst h <;> simp [PK.group]
  · rw [ep] at h
    cases k <;> simp only [K.pk, Option.some.injEq, reduceCtorEq] at h <;> subst h <;> simp [PK.group]
  · omega
  · omega
theorem step_inv {fs : List Fm} {bs : List Bk} {s : LS} (I : Inv fs bs s) {a : Str} {r : List Str} {k : K} {f : Fm} (hc : cls (a :: r) = some k) (hk : k.pk (pl fs.length (inTask fs)) = some f.kind) :
    Inv (fs ++ [f]) (change bs f.kind) (s.step fs.length (kindOf (a :: r))) := by
  rw [kindOf_some hc]
  have tk := pk_task hk
  have len : (fs ++ [f]).length = fs.length + 1 := List.length_append
  have ct : (s.step fs.length k.lk).counts (.k .task) = (grp (fs ++ [f]) .task).length := by
    rw [grp_snoc]
    show (if LK.k Kw.task = k.lk then _ else _) = _
    rw [I.task]
    by_cases h : k.lk = .k .task
    · rw [if_pos h.symm, if_pos (tk.mpr h)]
    · rw [if_neg (fun e => h e.symm), if_neg (fun e => h (tk.mp e))]; rfl
  refine ⟨?_, ct, fun z => ?_, ?_, fun l hl => ?_, ?_, fun z => ?_⟩
  · show lawBlocks s.blocks k.lk = _
    rw [I.blocks]
    exact change_eq hk
  · have z2 := z
    rw [ct, grp_snoc] at z2
    have hnt : ¬ f.kind.group = some .task := fun e => by rw [if_pos e] at z2; omega
    have z3 : (grp fs .task).length = 0 := by omega
    have ht : inTask fs = false := by
      cases e : inTask fs with
      | false => rfl
      | true => have := (inTask_iff fs).mp e; omega
    obtain ⟨o1, o2, o3, o4, o5⟩ := I.out (by rw [I.task]; exact z3)
    obtain ⟨g1, g2, g3, g4⟩ := pk_group ht hk
    refine ⟨by rw [o1]; exact pk_blocks ht hk, ?_, ?_, ?_, ?_⟩
    all_goals (rw [grp_snoc]; show (if _ = k.lk then _ else _) = _)
    · by_cases h : k.lk = .k .lock
      · rw [if_pos h.symm, if_pos (g1.mpr h), o2]
      · rw [if_neg (fun e => h e.symm), if_neg (fun e => h (g1.mp e)), o2]; rfl
    · by_cases h : k.lk = .k .queue
      · rw [if_pos h.symm, if_pos (g2.mpr h), o3]
      · rw [if_neg (fun e => h e.symm), if_neg (fun e => h (g2.mp e)), o3]; rfl
    · by_cases h : k.lk = .k .cell
      · rw [if_pos h.symm, if_pos (g3.mpr h), o4]
      · rw [if_neg (fun e => h e.symm), if_neg (fun e => h (g3.mp e)), o4]; rfl
    · by_cases h : k.lk = .k .part
      · rw [if_pos h.symm, if_pos (g4.mpr h), o5]
      · rw [if_neg (fun e => h e.symm), if_neg (fun e => h (g4.mp e)), o5]; rfl
  · rw [last_snoc, len]
    show ((if k.lk = .k .task then some fs.length else s.last).map (· + 1) = _) ↔ _
    rw [decide_eq_true_iff, tk]
    by_cases h : k.lk = .k .task
    · rw [if_pos h]; simp [h]
    · rw [if_neg h]
      simp only [h, iff_false]
      intro e
      cases hl : s.last with
      | none => rw [hl] at e; cases e
      | some l =>
        have hb := I.low l hl
        rw [hl] at e
        simp at e
        omega
  · have hl' : (if k.lk = .k .task then some fs.length else s.last) = some l := hl
    rw [len]
    by_cases h : k.lk = .k .task
    · rw [if_pos h] at hl'; cases hl'; omega
    · rw [if_neg h] at hl'
      have := I.low l hl'
      omega
  · show (if k.lk = .k .task then some fs.length else s.last) = none ↔ _
    have g := grp_snoc fs f .task
    rw [← List.length_eq_zero_iff, g]
    by_cases h : k.lk = .k .task
    · rw [if_pos h, if_pos (tk.mpr h)]; simp
    · rw [if_neg h, if_neg (fun e => h (tk.mp e)), I.none', ← List.length_eq_zero_iff]; simp
  · rw [len] at z
    have hf := pk_first (by omega) hk
    have g := grp_snoc fs f .task
    rw [if_neg hf, I.first (by omega)] at g
    exact List.length_eq_zero_iff.mp (by simpa using g)
theorem tOf_step {fs : List Fm} {f : Fm} {k : K} (hk : k.pk (pl fs.length (inTask fs)) = some f.kind) : inTask (fs ++ [f]) = (inTask fs || decide (k.kwOf = .task)) := by
  have tk := pk_task hk
  have tk2 : k.lk = .k .task ↔ k.kwOf = .task := by cases k <;> simp [K.lk, K.kwOf]
  rw [Bool.eq_iff_iff, inTask_iff, grp_snoc, Bool.or_eq_true, inTask_iff, decide_eq_true_iff, ← tk2, ← tk]
  by_cases h : f.kind.group = some .task
  · rw [if_pos h]; simp [h]
  · rw [if_neg h]; simp [h]
/-- both readers tell the same bad line, or go through -/
theorem read_sim : ∀ (wss : List (List Str)) (fs : List Fm) (bs : List Bk) (s : LS), (∀ ws ∈ wss, ws ≠ []) → Inv fs bs s →
    (∃ n, readAll fs bs wss = .error n ∧ lawBad fs.length s wss = some n) ∨ (∃ gs, readAll fs bs wss = .ok (fs ++ gs) ∧ lawBad fs.length s wss = none ∧ Rel fs.length (inTask fs) gs wss)
  | [], fs, bs, s, _, I => by
    unfold readAll lawBad
    by_cases hl : lastTask fs = true
    · refine .inl ⟨fs.length - 1, if_pos hl, ?_⟩
      have h := I.last.mpr hl
      rw [if_pos h]
      cases e : s.last with
      | none => rw [e] at h; cases h
      | some l => rw [e] at h; simp at h; rw [← h]; rfl
    · rw [if_neg hl, if_neg (fun e => hl (I.last.mp e)), I.blocks]
      by_cases hb : bs ≠ [] ∨ grp fs .task = []
      · exact .inl ⟨fs.length, if_pos (hb.imp_right fun e => by unfold inTask; rw [e]; rfl), if_pos (hb.imp_right I.none'.mpr)⟩
      · refine .inr ⟨[], by rw [if_neg (fun h => hb (h.imp_right fun e => by unfold inTask at e; exact Decidable.not_not.mp (of_decide_eq_false e)))]; rw [List.append_nil], if_neg (fun h => hb (h.imp_right I.none'.mp)), .nil⟩
  | [] :: _, _, _, _, h, _ => absurd rfl (h [] (List.mem_cons_self ..))
  | (a :: r) :: wss, fs, bs, s, hn, I => by
    unfold readAll lawBad
    have hp : s.counts (.k .task) = 0 → bs = [] := fun z => (I.out z).1
    have hz : inTask fs = true ↔ 0 < s.counts (.k .task) := by rw [I.task]; exact inTask_iff fs
    rcases fine_all (pl fs.length (inTask fs)) a r with ⟨k, f, hc, hf, m⟩ | ⟨hf, hno⟩
    · have hk := m.kind
      have tk := pk_task hk
      have pi := placed_iff I hc hk
      have ha : addLine fs bs (a :: r) = if f.kind.group = some .task ∧ lastTask fs = true then .error (fs.length - 1) else if 80 ≤ fs.length ∨ canStand bs fs f.kind = false then .error fs.length else .ok (f, change bs f.kind) := by
        unfold addLine
        rw [hf]
      rw [ha]
      by_cases h1 : f.kind.group = some .task ∧ lastTask fs = true
      · rw [if_pos h1]
        refine .inl ⟨fs.length - 1, rfl, ?_⟩
        have h := I.last.mpr h1.2
        rw [if_pos ⟨h, by rw [kindOf_some hc]; exact tk.mp h1.1⟩]
        cases e : s.last with
        | none => rw [e] at h; cases h
        | some l => rw [e] at h; simp at h; rw [← h]; rfl
      · rw [if_neg h1]
        have hA : ¬ (s.last.map (· + 1) = some fs.length ∧ kindOf (a :: r) = .k .task) := fun e => h1 ⟨tk.mpr (by rw [← kindOf_some hc]; exact e.2), I.last.mp e.1⟩
        by_cases h2 : 80 ≤ fs.length ∨ canStand bs fs f.kind = false
        · rw [if_pos h2, if_neg hA, pi]
          refine .inl ⟨fs.length, rfl, if_pos ?_⟩
          rcases h2 with h2 | h2
          · rw [decide_eq_false (by omega)]; rfl
          · rw [h2, Bool.and_false]
        · rw [if_neg h2, if_neg hA, pi, if_neg ?_]
          · have J := step_inv I hc hk
            have len : (fs ++ [f]).length = fs.length + 1 := List.length_append
            rcases read_sim wss (fs ++ [f]) (change bs f.kind) _ (fun ws h => hn ws (List.mem_cons_of_mem _ h)) J with ⟨n, e1, e2⟩ | ⟨gs, e1, e2, e3⟩
            · rw [len] at e2
              exact .inl ⟨n, e1, e2⟩
            · rw [len] at e2 e3
              rw [tOf_step hk] at e3
              exact .inr ⟨f :: gs, e1.trans (by rw [List.append_assoc]; rfl), e2, .cons hc m e3⟩
          · intro e
            rw [Bool.and_eq_false_iff, decide_eq_false_iff_not] at e
            exact h2 (e.imp (fun x => by omega) id)
    · have ha : addLine fs bs (a :: r) = .error fs.length := by unfold addLine; rw [hf]
      rw [ha]
      refine .inl ⟨fs.length, rfl, ?_⟩
      rw [I.blocks, placed_no hz hp hno, if_pos rfl, if_neg ?_]
      rintro ⟨h1, h2⟩
      have h3 := lastTask_in (I.last.mp h1)
      cases hc : cls (a :: r) with
      | none => rw [kindOf_none hc] at h2; cases h2
      | some k =>
        rw [kindOf_some hc] at h2
        have hk := hno k hc
        have h4 : inTask fs = true := decide_eq_true h3
        rcases pl_cases fs.length (inTask fs) with ⟨e, _⟩ | ⟨e, _⟩ | ⟨_, _, ep⟩ | ⟨_, et, _⟩
        · exact h3 (I.first (by omega))
        · exact h3 (I.first (by omega))
        · rw [ep] at hk
          cases k <;> simp [K.lk, K.kwOf] at h2 <;> simp [K.pk] at hk
        · rw [h4] at et; cases et
end Mi

/-! whole texts: names declared twice, names that are not there, and what is due -/
namespace Mi
open PySem
inductive D where
  | lock | queue | cell | part | task | later
  deriving DecidableEq
noncomputable def PK.d : PK → Option D
  | .lock | .lent => some .lock
  | .queue => some .queue
  | .cell => some .cell
  | .part => some .part
  | .task => some .task
  | .later => some .later
  | _ => none
noncomputable def Fm.nm (f : Fm) : Str := match f.found[1]? with
  | some (Fd.w x) => x
  | _ => ""
/-! ### the package's -/
noncomputable def doubledP : Nat → List Str → List Fm → Option Nat
  | _, _, [] => none
  | n, ds, f :: fs => if f.kind.declares = true then (if f.nm ∈ ds then some n else doubledP (n + 1) (f.nm :: ds) fs) else doubledP (n + 1) ds fs
noncomputable def look {α : Type} (l : List (Str × α)) : Str → Option α := l.foldl (fun g p => fun y => if y = p.1 then some p.2 else g y) (fun _ => none)
noncomputable def kindsP (fs : List Fm) : Str → Option PK := look ((fs.filter fun f => f.kind.declares).map fun f => (f.nm, f.kind))
noncomputable def wantedP : Wn → Option PK → Bool
  | .LOCK, k => decide (k = some .lock ∨ k = some .lent)
  | .QUEUE, k => decide (k = some .queue)
  | .PART, k => decide (k = some .part)
  | .TASK, k => decide (k = some .task ∨ k = some .later)
  | .LATER, k => decide (k = some .later)
  | .VARIABLE, k => decide (k = some .cell ∨ k = none)
noncomputable def unnamedP (g : Str → Option PK) : Nat → List Fm → Option Nat
  | _, [] => none
  | n, f :: fs => if f.uses.all (fun z => wantedP z.1 (g z.2)) = true then unnamedP g (n + 1) fs else some n
inductive Due where
  | fine | bad (n : Nat) | doubled (n : Nat) | unnamed (n : Nat)
  deriving DecidableEq
noncomputable def dueP (wss : List (List Str)) : Due := match readAll [] [] wss with
  | .error n => .bad n
  | .ok fs => match doubledP 0 [] fs with
    | some n => .doubled n
    | none => match unnamedP (kindsP fs) 0 fs with
      | some n => .unnamed n
      | none => .fine
/-! ### the law's -/
noncomputable def dOf (k : Kw) (ws : List Str) : Option D := match k with
  | .lock => some .lock
  | .queue => some .queue
  | .cell => some .cell
  | .part => some .part
  | .task => if ws.length = 4 then some .later else some .task
  | _ => none
noncomputable def declL (t : Bool) (a : Str) (r : List Str) : Option D := if kw a = .queue ∨ kw a = .cell ∨ kw a = .part ∨ kw a = .task ∨ (kw a = .lock ∧ t = false) then dOf (kw a) (a :: r) else none
noncomputable def declaredL : Nat → Bool → List (List Str) → List (Nat × D × Str)
  | _, _, [] => []
  | n, t, [] :: wss => declaredL (n + 1) t wss
  | n, t, (a :: r) :: wss => match declL t a r with
    | some d => (n, d, r.getD 0 "") :: declaredL (n + 1) (t || decide (kw a = .task)) wss
    | none => declaredL (n + 1) (t || decide (kw a = .task)) wss
noncomputable def doubledL : List Str → List (Nat × D × Str) → Option Nat
  | _, [] => none
  | ds, (n, _, x) :: l => if x ∈ ds then some n else doubledL (x :: ds) l
noncomputable def kindsL (l : List (Nat × D × Str)) : Str → Option D := look (l.map fun z => (z.2.2, z.2.1))
noncomputable def firstL (n : Nat) (l : List (Nat × D × Str)) : Nat := l.foldl (fun m z => if z.2.1 = .task ∨ z.2.1 = .later then min m z.1 else m) n
noncomputable def variablesL (a : Str) (r : List Str) : List Str :=
  (if kw a = .ifk ∨ kw a = .whilek ∨ kw a = .say then r else if kw a = .put ∨ kw a = .take then r.drop 1 else if r.take 1 ≠ [("=" : Str)] then [] else a :: r).filter isName
noncomputable def wantsL (g : Str → Option D) (a : Str) (r : List Str) : Bool :=
  let x := g (r.getD 0 "")
  if kw a = .lock ∨ kw a = .unlock then decide (x = some .lock)
  else if kw a = .put ∨ kw a = .take then decide (x = some .queue)
  else if kw a = .start then decide (x = some .later)
  else if kw a = .wait then decide (x = some .task ∨ x = some .later)
  else true
noncomputable def lineL (g : Str → Option D) : List Str → Bool
  | [] => true
  | a :: r => wantsL g a r && ((!(decide (kw a = .work) && decide (r.length = 2)) || decide (g (r.getD 1 "") = some .part)) && (variablesL a r).all (fun x => decide (g x = none ∨ g x = some .cell)))
noncomputable def unnamedL (g : Str → Option D) (first : Nat) : Nat → List (List Str) → Option Nat
  | _, [] => none
  | n, ws :: wss => if decide (first < n) && (!decide (kw (ws.getD 0 "") = .task) && !lineL g ws) then some n else unnamedL g first (n + 1) wss
noncomputable def dueL (wss : List (List Str)) : Due := match lawBad 0 ⟨[], fun _ => 0, none⟩ wss with
  | some n => .bad n
  | none => match doubledL [] (declaredL 0 false wss) with
    | some n => .doubled n
    | none => match unnamedL (kindsL (declaredL 0 false wss)) (firstL wss.length (declaredL 0 false wss)) 0 wss with
      | some n => .unnamed n
      | none => .fine
/-! ### both are the same -/
theorem inv0 : Inv [] [] ⟨[], fun _ => 0, none⟩ := ⟨rfl, rfl, fun _ => ⟨rfl, rfl, rfl, rfl, rfl⟩, ⟨fun h => (by cases h), fun h => (by cases h)⟩, fun _ h => (by cases h), ⟨fun _ => rfl, fun _ => rfl⟩, fun _ => rfl⟩
theorem decl_some {n : Nat} {t : Bool} {a : Str} {r : List Str} {k : K} {q : PK} (hc : cls (a :: r) = some k) (hk : k.pk (pl n t) = some q) (hn : n < 2 → t = false) :
    declL t a r = q.d ∧ (q.declares = true ↔ q.d ≠ none) ∧ (q.declares = true → k.name = some (r.getD 0 "")) := by
  have hkw : kw a = k.kwOf := (clsK_kw (show clsK (kw a) a r = some k from hc)).symm
  have h' : clsK (kw a) a r = some k := hc
  unfold declL
  have e3 : kw a = .task → (∃ x, k = .task x) ∨ ∃ x, k = .later x := by
    intro z
    rw [z] at hkw
    cases k <;> simp [K.kwOf] at hkw
    · exact .inl ⟨_, rfl⟩
    · exact .inr ⟨_, rfl⟩
  generalize hA : kw a = A at *
  unfold clsK at h'
  split at h'
  all_goals first
    | (cases h'; done)
    | (split at h'
       · cases h'
         rcases pl_cases n t with ⟨e, ep⟩ | ⟨e, ep⟩ | ⟨_, et, ep⟩ | ⟨_, et, ep⟩
         all_goals (rw [ep] at hk; simp only [K.pk, Option.some.injEq, reduceCtorEq] at hk)
         all_goals (subst hk; first | (simp [et, dOf, PK.d, PK.declares, K.name]; done) | (have et := hn (by omega); simp [et, dOf, PK.d, PK.declares, K.name]))
       · cases h'; done)
    | (cases h'
       rcases pl_cases n t with ⟨e, ep⟩ | ⟨e, ep⟩ | ⟨_, et, ep⟩ | ⟨_, et, ep⟩
       all_goals (rw [ep] at hk; simp only [K.pk, Option.some.injEq, reduceCtorEq] at hk)
       all_goals (subst hk; first | (simp [et, dOf, PK.d, PK.declares, K.name]; done) | (have et := hn (by omega); simp [et, dOf, PK.d, PK.declares, K.name])))
end Mi

/-! whole texts: what is due is the same -/
namespace Mi
open PySem
theorem all_mem {α : Type} {l m : List α} {p : α → Bool} (h : ∀ z, z ∈ l ↔ z ∈ m) : l.all p = m.all p := by
  rw [Bool.eq_iff_iff, List.all_eq_true, List.all_eq_true]
  exact ⟨fun g z hz => g z ((h z).mpr hz), fun g z hz => g z ((h z).mp hz)⟩
noncomputable def declP : Nat → List Fm → List (Nat × D × Str)
  | _, [] => []
  | n, f :: fs => match f.kind.d with
    | some d => (n, d, f.nm) :: declP (n + 1) fs
    | none => declP (n + 1) fs
theorem declares_d (q : PK) : q.declares = true ↔ q.d ≠ none := by cases q <;> simp [PK.declares, PK.d]
theorem kw_of {a : Str} {r : List Str} {k : K} (hc : cls (a :: r) = some k) : kw a = k.kwOf := (clsK_kw (show clsK (kw a) a r = some k from hc)).symm
theorem first_next {n : Nat} {t : Bool} {k : K} {q : PK} (hk : k.pk (pl n t) = some q) (hn : n < 2 → t = false) : n + 1 < 2 → (t || decide (k.kwOf = .task)) = false := by
  intro h
  have n0 : n = 0 := by omega
  rw [hn (by omega)]
  subst n0
  have hk' : k.pk .first = some q := hk
  cases k <;> simp [K.pk] at hk' <;> simp [K.kwOf]
theorem decl_same : ∀ {n : Nat} {t : Bool} {fs : List Fm} {wss : List (List Str)}, Rel n t fs wss → (n < 2 → t = false) → declaredL n t wss = declP n fs := by
  intro n t fs wss h
  induction h with
  | nil => intro _; rfl
  | cons h1 h2 _ ih =>
    intro hn
    rename_i n t f fs a r wss k _
    obtain ⟨e1, e2, e3⟩ := decl_some h1 h2.kind hn
    have ih := ih (first_next h2.kind hn)
    unfold declaredL declP
    rw [e1, kw_of h1]
    cases hd : f.kind.d with
    | none => exact ih
    | some d =>
      show _ :: _ = _ :: _
      rw [ih]
      have hq : f.kind.declares = true := (declares_d _).mpr (by rw [hd]; simp)
      obtain ⟨x, x1, x2⟩ := h2.name hq
      have := e3 hq
      rw [x1] at this
      have nm : f.nm = x := by unfold Fm.nm; rw [x2]
      rw [nm, ← Option.some.inj this]
theorem doubled_same : ∀ (fs : List Fm) (n : Nat) (ds : List Str), doubledP n ds fs = doubledL ds (declP n fs)
  | [], _, _ => rfl
  | f :: fs, n, ds => by
    unfold doubledP declP
    cases hd : f.kind.d with
    | none =>
      rw [if_neg (fun e => (declares_d _).mp e hd)]
      exact doubled_same fs (n + 1) ds
    | some d =>
      rw [if_pos ((declares_d _).mpr (by rw [hd]; simp))]
      show _ = (if f.nm ∈ ds then some n else doubledL (f.nm :: ds) (declP (n + 1) fs))
      rw [doubled_same fs (n + 1) (f.nm :: ds)]
/-! ### what names are -/
theorem look_go {α β : Type} {c : α → Option β} : ∀ (l : List (Str × α)) (l' : List (Str × β)) (g : Str → Option α) (g' : Str → Option β), (l.map fun p => (p.1, c p.2)) = (l'.map fun p => (p.1, some p.2)) → (∀ x, g' x = (g x).bind c) →
    ∀ x, (l'.foldl (fun g p => fun y => if y = p.1 then some p.2 else g y) g') x = ((l.foldl (fun g p => fun y => if y = p.1 then some p.2 else g y) g) x).bind c
  | [], [], g, g', _, h, x => h x
  | [], _ :: _, _, _, h, _, _ => by cases h
  | _ :: _, [], _, _, h, _, _ => by cases h
  | p :: l, p' :: l', g, g', h, hg, x => by
    rw [List.map_cons, List.map_cons, List.cons.injEq, Prod.mk.injEq] at h
    refine look_go l l' _ _ h.2 (fun y => ?_) x
    show (if y = p'.1 then some p'.2 else g' y) = (if y = p.1 then some p.2 else g y).bind c
    rw [← h.1.1, ← h.1.2]
    by_cases e : y = p.1
    · rw [if_pos e, if_pos e]; rfl
    · rw [if_neg e, if_neg e]; exact hg y
theorem declP_map : ∀ (fs : List Fm) (n : Nat), (((fs.filter fun f => f.kind.declares).map fun f => (f.nm, f.kind)).map fun p => (p.1, p.2.d)) = ((declP n fs).map fun z => (z.2.2, z.2.1)).map fun p => (p.1, some p.2)
  | [], _ => rfl
  | f :: fs, n => by
    unfold declP
    cases hd : f.kind.d with
    | none =>
      have hq : ¬ f.kind.declares = true := fun e => (declares_d _).mp e hd
      rw [List.filter_cons_of_neg (p := fun f : Fm => f.kind.declares) hq]
      exact declP_map fs (n + 1)
    | some d =>
      have hq : f.kind.declares = true := (declares_d _).mpr (by rw [hd]; simp)
      rw [List.filter_cons_of_pos (p := fun f : Fm => f.kind.declares) hq]
      simp only [List.map_cons, hd]
      rw [declP_map fs (n + 1)]
theorem kinds_same (fs : List Fm) (n : Nat) (x : Str) : kindsL (declP n fs) x = (kindsP fs x).bind PK.d := by
  unfold kindsL kindsP look
  exact look_go _ _ (fun _ => none) (fun _ => none) (declP_map fs n) (fun _ => rfl) x
theorem look_mem {α : Type} {P : α → Prop} : ∀ (l : List (Str × α)) (g : Str → Option α), (∀ p ∈ l, P p.2) → (∀ x k, g x = some k → P k) → ∀ x k, (l.foldl (fun g p => fun y => if y = p.1 then some p.2 else g y) g) x = some k → P k
  | [], _, _, h, x, k, e => h x k e
  | p :: l, g, hl, h, x, k, e => by
    refine look_mem l _ (fun q hq => hl q (List.mem_cons_of_mem _ hq)) (fun y j ej => ?_) x k e
    have ej' : (if y = p.1 then some p.2 else g y) = some j := ej
    by_cases e : y = p.1
    · rw [if_pos e] at ej'; cases ej'; exact hl p (List.mem_cons_self ..)
    · rw [if_neg e] at ej'; exact h y j ej'
theorem kinds_d {fs : List Fm} {x : Str} {k : PK} (h : kindsP fs x = some k) : k.d ≠ none := by
  refine look_mem (P := fun k : PK => k.d ≠ none) _ _ (fun p hp => ?_) (fun _ _ e => (by cases e)) x k h
  obtain ⟨f, hf, e⟩ := List.mem_map.mp hp
  rw [← e]
  exact (declares_d _).mp (List.mem_filter.mp hf).2
noncomputable def wantedD : Wn → Option D → Bool
  | .LOCK, k => decide (k = some .lock)
  | .QUEUE, k => decide (k = some .queue)
  | .PART, k => decide (k = some .part)
  | .TASK, k => decide (k = some .task ∨ k = some .later)
  | .LATER, k => decide (k = some .later)
  | .VARIABLE, k => decide (k = none ∨ k = some .cell)
theorem wanted_eq {o : Option PK} (h : ∀ k, o = some k → k.d ≠ none) (w : Wn) : wantedP w o = wantedD w (o.bind PK.d) := by
  cases o with
  | none => cases w <;> simp [wantedP, wantedD]
  | some k =>
    have := h k rfl
    cases w <;> cases k <;> simp [PK.d] at this <;> simp [wantedP, wantedD, PK.d]
theorem whole_eqs {w : Str} {lo hi : Int} (h : wholeL w lo hi = true) : w ≠ "=" := fun e => by
  rw [e] at h
  exact absurd h (by simp [wholeL, show allIn ("=" : Str) DIGITS = false from by decide +kernel])
theorem name_eqs {w : Str} (h : isName w = true) : w ≠ "=" := fun e => by rw [e] at h; exact absurd h (by decide +kernel)
theorem line_same {g : Str → Option D} {a : Str} {r : List Str} {k : K} (hc : cls (a :: r) = some k) (hs : k.pk .stmt ≠ none) (ht : k.kwOf ≠ .task) : lineL g (a :: r) = (k.usesAt .stmt).all fun z => wantedD z.1 (g z.2) := by
  have h' : clsK (kw a) a r = some k := hc
  have ea : kw a = k.kwOf := kw_of hc
  have n1 : ∀ w, isName w = true → ¬ w = "=" := fun w h => name_eqs h
  have n2 : ∀ w lo hi, wholeL w lo hi = true → ¬ w = "=" := fun w lo hi h => whole_eqs h
  have n3 : isName "=" = false := by decide +kernel
  unfold lineL variablesL wantsL
  generalize hA : kw a = A at *
  unfold clsK at h'
  split at h'
  all_goals first
    | (cases h'; done)
    | (split at h'
       · rename_i c
         cases h'
         first
           | exact absurd rfl hs
           | exact absurd rfl ht
           | (simp [hA, K.usesAt, K.uses, wantedD, names, c, n1 _ c, List.all_map, Function.comp_def]; done)
           | (simp [hA, K.usesAt, K.uses, wantedD, names, c, n2 _ _ _ c, List.all_map, Function.comp_def]; done)
           | (simp [hA, K.usesAt, K.uses, wantedD, names, c, List.all_map, Function.comp_def]; done)
           | (simp [hA, K.usesAt, K.uses, wantedD, names, c, n2 _ _ _ c.1, List.all_map, Function.comp_def]; done)
           | (simp [hA, K.usesAt, K.uses, wantedD, names, c, n3, kw_eqs.mpr c.2.1, List.all_map, Function.comp_def]; done)
           | trace_state
       · cases h'; done)
    | (cases h'; first | exact absurd rfl hs | exact absurd rfl ht | (simp [hA, K.usesAt, K.uses, wantedD, names, List.all_map, Function.comp_def]; done) | trace_state)
end Mi

/-! whole texts: both readers tell the same -/
namespace Mi
open PySem
noncomputable def isTaskL (z : Nat × D × Str) : Prop := z.2.1 = .task ∨ z.2.1 = .later
noncomputable instance (z : Nat × D × Str) : Decidable (isTaskL z) := by unfold isTaskL; infer_instance
theorem firstL_spec : ∀ (l : List (Nat × D × Str)) (n : Nat), (firstL n l ≤ n ∧ ∀ z ∈ l, isTaskL z → firstL n l ≤ z.1) ∧ (firstL n l = n ∨ ∃ z ∈ l, isTaskL z ∧ firstL n l = z.1)
  | [], n => ⟨⟨Nat.le_refl _, fun _ h => (by cases h)⟩, .inl rfl⟩
  | z :: l, n => by
    have e : firstL n (z :: l) = firstL (if z.2.1 = .task ∨ z.2.1 = .later then min n z.1 else n) l := rfl
    rw [e]
    obtain ⟨⟨h1, h2⟩, h3⟩ := firstL_spec l (if z.2.1 = .task ∨ z.2.1 = .later then min n z.1 else n)
    generalize hm : (if z.2.1 = .task ∨ z.2.1 = .later then min n z.1 else n) = m at *
    by_cases ht : isTaskL z
    · have hm' : min n z.1 = m := by rw [← hm]; exact (if_pos ht).symm
      refine ⟨⟨by omega, fun y hy hyt => ?_⟩, ?_⟩
      · rcases List.mem_cons.mp hy with e | hy
        · rw [e]; omega
        · exact h2 y hy hyt
      · rcases h3 with h3 | ⟨y, hy, hyt, e⟩
        · by_cases hle : n ≤ z.1
          · left; omega
          · right; exact ⟨z, List.mem_cons_self .., ht, by omega⟩
        · exact .inr ⟨y, List.mem_cons_of_mem _ hy, hyt, e⟩
    · have hm' : n = m := by rw [← hm]; exact (if_neg ht).symm
      refine ⟨⟨by omega, fun y hy hyt => ?_⟩, ?_⟩
      · rcases List.mem_cons.mp hy with e | hy
        · rw [e] at hyt; exact absurd hyt ht
        · exact h2 y hy hyt
      · rcases h3 with h3 | ⟨y, hy, hyt, e⟩
        · left; omega
        · exact .inr ⟨y, List.mem_cons_of_mem _ hy, hyt, e⟩
theorem declaredL_cons (n : Nat) (t : Bool) (a : Str) (r : List Str) (wss : List (List Str)) : declaredL n t ((a :: r) :: wss) = match declL t a r with
    | some d => (n, d, r.getD 0 "") :: declaredL (n + 1) (t || decide (kw a = .task)) wss
    | none => declaredL (n + 1) (t || decide (kw a = .task)) wss := rfl
/-- the tasks among what is declared are the lines of tasks -/
theorem task_decl : ∀ (wss : List (List Str)) (n : Nat) (t : Bool) (j : Nat), (∃ z ∈ declaredL n t wss, isTaskL z ∧ z.1 = n + j) ↔ ∃ a r, wss[j]? = some (a :: r) ∧ kw a = .task
  | [], _, _, j => ⟨fun ⟨_, h, _⟩ => (by cases h), fun ⟨_, _, h, _⟩ => (by cases h)⟩
  | ws :: wss, n, t, j => by
    have low : ∀ (wss : List (List Str)) (n : Nat) (t : Bool), ∀ z ∈ declaredL n t wss, n ≤ z.1 := by
      intro wss
      induction wss with
      | nil => intro n t z h; cases h
      | cons ws wss ih =>
        intro n t z h
        cases ws with
        | nil => exact Nat.le_of_succ_le (ih _ _ z h)
        | cons a r =>
          unfold declaredL at h
          split at h
          · rcases List.mem_cons.mp h with e | h
            · rw [e]; exact Nat.le_refl _
            · exact Nat.le_of_succ_le (ih _ _ z h)
          · exact Nat.le_of_succ_le (ih _ _ z h)
    cases ws with
    | nil =>
      cases j with
      | zero =>
        refine ⟨fun ⟨z, h, _, e⟩ => ?_, fun ⟨a, r, h, _⟩ => (by cases h)⟩
        have := low wss (n + 1) t z h
        omega
      | succ j =>
        have := task_decl wss (n + 1) t j
        rw [show n + 1 + j = n + (j + 1) from by omega] at this
        exact this
    | cons a r =>
      cases j with
      | zero =>
        unfold declaredL
        constructor
        · rintro ⟨z, h, hz, e⟩
          split at h
          · rename_i d hd
            rcases List.mem_cons.mp h with e2 | h
            · rw [e2] at hz
              refine ⟨a, r, rfl, ?_⟩
              unfold declL at hd
              split at hd
              · generalize kw a = A at *
                cases A <;> simp [dOf] at hd <;> first | rfl | (rw [← hd] at hz; rcases hz with hz | hz <;> cases hz)
              · cases hd
            · have := low wss (n + 1) _ z h
              omega
          · have := low wss (n + 1) _ z h
            omega
        · rintro ⟨a', r', h, ht⟩
          cases h
          have hd : declL t a r = some (if (a :: r).length = 4 then .later else .task) := by
            unfold declL
            rw [if_pos (by simp [ht]), ht]
            show (if _ then _ else _) = _
            by_cases h4 : (a :: r).length = 4
            · rw [if_pos h4, if_pos h4]
            · rw [if_neg h4, if_neg h4]
          rw [hd]
          refine ⟨_, List.mem_cons_self .., ?_, rfl⟩
          unfold isTaskL
          by_cases h4 : (a :: r).length = 4
          · rw [if_pos h4]; exact .inr rfl
          · rw [if_neg h4]; exact .inl rfl
      | succ j =>
        have := task_decl wss (n + 1) (t || decide (kw a = .task)) j
        rw [show n + 1 + j = n + (j + 1) from by omega] at this
        rw [show ((a :: r) :: wss)[j + 1]? = wss[j]? from rfl, ← this]
        rw [declaredL_cons]
        constructor
        · rintro ⟨z, h, hz, e⟩
          split at h
          · rcases List.mem_cons.mp h with e2 | h
            · rw [e2] at e
              have e' : n = n + (j + 1) := e
              omega
            · exact ⟨z, h, hz, e⟩
          · exact ⟨z, h, hz, e⟩
        · rintro ⟨z, h, hz, e⟩
          split
          · exact ⟨z, List.mem_cons_of_mem _ h, hz, e⟩
          · exact ⟨z, h, hz, e⟩
theorem first_iff (wss : List (List Str)) (j : Nat) (hj : j < wss.length) : firstL wss.length (declaredL 0 false wss) < j ↔ ∃ i, i < j ∧ ∃ a r, wss[i]? = some (a :: r) ∧ kw a = .task := by
  obtain ⟨⟨h1, h2⟩, h3⟩ := firstL_spec (declaredL 0 false wss) wss.length
  generalize firstL wss.length (declaredL 0 false wss) = m at *
  constructor
  · intro h
    rcases h3 with h3 | ⟨z, hz, ht, e⟩
    · omega
    · exact ⟨m, h, (task_decl wss 0 false m).mp ⟨z, hz, ht, by omega⟩⟩
  · rintro ⟨i, hi, h⟩
    obtain ⟨z, hz, ht, e⟩ := (task_decl wss 0 false i).mpr h
    have := h2 z hz ht
    omega
theorem uses_out {p : Pl} {k : K} {q : PK} (h : k.pk p = some q) (hp : p ≠ .stmt ∨ k.kwOf = .task) : k.usesAt p = [] := by
  cases p <;> cases k <;> simp [K.pk, K.kwOf] at h hp <;> rfl
theorem unnamed_same {g : Str → Option PK} {g' : Str → Option D} (hg : ∀ x, g' x = (g x).bind PK.d) (hd : ∀ x k, g x = some k → k.d ≠ none) {first : Nat} : ∀ {n : Nat} {t : Bool} {fs : List Fm} {wss : List (List Str)}, Rel n t fs wss → (n < 2 → t = false) →
    (∀ j, j < wss.length → (first < n + j ↔ t = true ∨ ∃ i, i < j ∧ ∃ a r, wss[i]? = some (a :: r) ∧ kw a = .task)) → unnamedP g n fs = unnamedL g' first n wss := by
  intro n t fs wss h
  induction h with
  | nil => intro _ _; rfl
  | cons h1 h2 _ ih =>
    intro hn hf
    rename_i n t f fs a r wss k _
    have hk := h2.kind
    have ih := ih (first_next hk hn) (fun j hj => by
      have := hf (j + 1) (by simpa using hj)
      rw [show n + 1 + j = n + (j + 1) from by omega, this, Bool.or_eq_true, decide_eq_true_iff, ← kw_of h1]
      constructor
      · rintro (h | ⟨i, hi, h⟩)
        · exact .inl (.inl h)
        · cases i with
          | zero => obtain ⟨a', r', e, ht⟩ := h; cases e; exact .inl (.inr ht)
          | succ i => exact .inr ⟨i, by omega, h⟩
      · rintro ((h | h) | ⟨i, hi, h⟩)
        · exact .inl h
        · exact .inr ⟨0, by omega, a, r, rfl, h⟩
        · exact .inr ⟨i + 1, by omega, h⟩)
    have h0 := hf 0 (by simp)
    have h0' : first < n ↔ t = true := by
      rw [Nat.add_zero] at h0
      rw [h0]
      exact ⟨fun h => h.elim id (fun ⟨i, hi, _⟩ => absurd hi (Nat.not_lt_zero _)), .inl⟩
    unfold unnamedP unnamedL
    rw [all_mem h2.uses, ih]
    have e0 : ((a :: r).getD 0 "") = a := rfl
    rw [e0, kw_of h1]
    by_cases hs : pl n t = .stmt ∧ k.kwOf ≠ .task
    · obtain ⟨hs, ht⟩ := hs
      have tt : t = true := by
        rcases pl_cases n t with ⟨_, ep⟩ | ⟨_, ep⟩ | ⟨_, et, _⟩ | ⟨_, _, ep⟩
        · rw [hs] at ep; cases ep
        · rw [hs] at ep; cases ep
        · exact et
        · rw [hs] at ep; cases ep
      rw [hs] at hk
      rw [hs, line_same h1 (by rw [hk]; simp) ht, decide_eq_true (h0'.mpr tt), decide_eq_false ht]
      have e : ((k.usesAt .stmt).all fun z => wantedP z.1 (g z.2)) = (k.usesAt .stmt).all fun z => wantedD z.1 (g' z.2) := by
        congr 1
        funext z
        rw [hg]
        exact wanted_eq (hd z.2) z.1
      rw [e]
      cases (k.usesAt .stmt).all fun z => wantedD z.1 (g' z.2) <;> rfl
    · have hs' : pl n t ≠ .stmt ∨ k.kwOf = .task := by
        by_cases h : pl n t = .stmt
        · exact .inr (Decidable.not_not.mp fun e => hs ⟨h, e⟩)
        · exact .inl h
      rw [uses_out hk hs']
      show unnamedL g' first (n + 1) wss = _
      rw [if_neg ?_]
      rw [Bool.and_eq_true, decide_eq_true_iff, h0', Bool.and_eq_true]
      rintro ⟨tt, hnt, _⟩
      rcases hs' with hp | ht
      · refine hp ?_
        rcases pl_cases n t with ⟨e, _⟩ | ⟨e, _⟩ | ⟨_, _, ep⟩ | ⟨_, et, _⟩
        · rw [hn (by omega)] at tt; cases tt
        · rw [hn (by omega)] at tt; cases tt
        · exact ep
        · rw [et] at tt; cases tt
      · rw [decide_eq_true ht] at hnt; cases hnt
/-- what the package's reading is due to tell is what the law's own reader is due to tell -/
theorem due_same (wss : List (List Str)) (hn : ∀ ws ∈ wss, ws ≠ []) : dueP wss = dueL wss := by
  unfold dueP dueL
  rcases read_sim wss [] [] _ hn inv0 with ⟨n, e1, e2⟩ | ⟨fs, e1, e2, e3⟩
  · rw [e1, show lawBad 0 ⟨[], fun _ => 0, none⟩ wss = _ from e2]
  · rw [e1, show lawBad 0 ⟨[], fun _ => 0, none⟩ wss = _ from e2]
    have e3' : Rel 0 false fs wss := e3
    have hd := decl_same e3' (fun _ => rfl)
    rw [hd, ← doubled_same fs 0 []]
    simp only [List.nil_append]
    show (match doubledP 0 [] fs with | some n => _ | none => _) = (match doubledP 0 [] fs with | some n => _ | none => _)
    have hu := unnamed_same (g := kindsP fs) (g' := kindsL (declP 0 fs)) (kinds_same fs 0) (fun x k h => kinds_d h) (first := firstL wss.length (declP 0 fs)) e3' (fun _ => rfl) (fun j hj => by
      rw [← hd, Nat.zero_add, first_iff wss j hj]
      exact ⟨.inr, fun h => h.elim (fun z => by cases z) id⟩)
    rw [hu]
end Mi

/-! the tables of the module's text, read from what is written -/
namespace Ws
open PySem PySem.Spec PyProof.Rows L2
noncomputable def pkTxt : Mi.PK → Str
  | .cores => "cores" | .slice => "slice" | .lock => "lock" | .lent => "lent" | .queue => "queue" | .cell => "cell" | .part => "part" | .task => "task" | .later => "later" | .work => "work" | .set => "set" | .ifk => "if" | .elsek => "else" | .endk => "end" | .whilek => "while"
  | .repeatk => "repeat" | .get => "get" | .unlock => "unlock" | .put => "put" | .take => "take" | .sleep => "sleep" | .start => "start" | .wait => "wait" | .say => "say"
noncomputable def pkAll : List Mi.PK := [.cores, .slice, .lock, .lent, .queue, .cell, .part, .task, .later, .work, .set, .ifk, .elsek, .endk, .whilek, .repeatk, .get, .unlock, .put, .take, .sleep, .start, .wait, .say]
noncomputable def wnTxt : Mi.Wn → Str
  | .LOCK => "LOCK" | .QUEUE => "QUEUE" | .PART => "PART" | .TASK => "TASK" | .LATER => "LATER" | .VARIABLE => "VARIABLE"
noncomputable def wnAll : List Mi.Wn := [.LOCK, .QUEUE, .PART, .TASK, .LATER, .VARIABLE]
theorem pk_inj {a b : Mi.PK} (h : pkTxt a = pkTxt b) : a = b := by
  revert h
  cases a <;> cases b <;> first | (intro _; rfl) | (intro h; exact absurd h (by decide +kernel))
/-- the items of a written tuple -/
noncomputable def kTup (K : PySem.W.Frag) : Value → Option (List Value)
  | .ref a => match K.lookup a with
    | some ⟨.type "tuple", _, .seq its _, _⟩ => if its.size ≤ 1000 then some its.toList else none
    | _ => none
  | _ => none
noncomputable def slStr (x : Str) : Option Mi.Sl :=
  if x = "NEW" then some .new else if x = "VALUE" then some .value else match wnAll.find? (fun w => decide (wnTxt w = x)) with
    | some w => some (.want w)
    | none => match Mi.kw x with
      | .other => none
      | k => some (.lit k)
noncomputable def rdSl (K : PySem.W.Frag) (v : Value) : Option Mi.Sl := match v with
  | .str x _ => slStr x
  | v => match kTup K v with
    | some [.int lo _, .int hi _] => if 0 ≤ hi ∧ hi < 1000 then some (.num lo hi) else none
    | _ => none
noncomputable def rdRow (K : PySem.W.Frag) (v : Value) : Option (Mi.PK × List Mi.Sl) := match kTup K v with
  | some [.str x _, s] => match pkAll.find? (fun p => decide (pkTxt p = x)), (kTup K s).bind (fun l => l.mapM (rdSl K)) with
    | some p, some sl => some (p, sl)
    | _, _ => none
  | _ => none
noncomputable def rdTab (K : PySem.W.Frag) (v : Value) : Option Mi.Rows := (kTup K v).bind fun l => l.mapM (rdRow K)
/-! ### what they tell -/
noncomputable def SlAt (K : PySem.W.Frag) : Mi.Sl → V → Prop
  | .lit k, v => v = .str k.txt ∧ k ≠ .other
  | .num lo hi, v => (0 ≤ hi ∧ hi < 1000) ∧ ∃ t, v = .ref t ∧ ∀ H, SqT K H t [.int lo, .int hi]
  | .new, v => v = .str "NEW"
  | .want w, v => v = .str (wnTxt w)
  | .value, v => v = .str "VALUE"
noncomputable def SlotsAt (K : PySem.W.Frag) (a : Addr) (sl : List Mi.Sl) : Prop := ∃ vs, (∀ H, SqT K H a vs) ∧ Paired (SlAt K) sl vs
noncomputable def RowAt (K : PySem.W.Frag) (r : Mi.PK × List Mi.Sl) (v : V) : Prop := ∃ a b, v = .ref a ∧ (∀ H, SqT K H a [.str (pkTxt r.1), .ref b]) ∧ SlotsAt K b r.2
noncomputable def TabAt (K : PySem.W.Frag) (rows : Mi.Rows) (a : Addr) : Prop := ∃ vs, (∀ H, SqT K H a vs) ∧ Paired (RowAt K) rows vs
theorem kTup_at {K : PySem.W.Frag} {v : Value} {l : List Value} (h : kTup K v = some l) : ∃ a, v = .ref a ∧ l.length ≤ 1000 ∧ ∀ (vs : List V) (H : Hp), Vals vs l → SqT K H a vs := by
  unfold kTup at h
  split at h
  · rename_i a
    split at h
    · rename_i d its n sl hl
      split at h
      · rename_i hz
        cases h
        refine ⟨a, rfl, by simpa using hz, fun vs H r => .inr ⟨_, its, n, hl, rfl, rfl, Nat.le_trans hz (by decide), r⟩⟩
      · cases h
    · cases h
  · cases h
theorem slStr_at {K : PySem.W.Frag} {x : Str} {s : Mi.Sl} (h : slStr x = some s) : SlAt K s (.str x) := by
  unfold slStr at h
  split at h
  · rename_i e; cases h; rw [e]; rfl
  · split at h
    · rename_i e; cases h; rw [e]; rfl
    · split at h
      · rename_i w hw
        cases h
        have := List.find?_some hw
        have e : wnTxt w = x := of_decide_eq_true this
        show V.str x = V.str (wnTxt w)
        rw [e]
      · split at h
        · cases h
        · rename_i k hk
          cases h
          have e := Mi.kwIn_txt (show Mi.kwIn Mi.Kw.all x = Mi.kw x from rfl) hk
          show V.str x = V.str (Mi.kw x).txt ∧ _
          exact ⟨congrArg V.str e, hk⟩
theorem rdSl_at {K : PySem.W.Frag} {v : Value} {s : Mi.Sl} (h : rdSl K v = some s) : ∃ u, RelV u v ∧ SlAt K s u := by
  unfold rdSl at h
  split at h
  · rename_i x t
    exact ⟨.str x, ⟨t, rfl⟩, slStr_at h⟩
  · split at h
    · rename_i lo t1 hi t2 hk
      split at h
      case isFalse => cases h
      rename_i hb
      cases h
      obtain ⟨a, e, _, k⟩ := kTup_at hk
      subst e
      exact ⟨.ref a, rfl, hb, a, rfl, fun H => k [.int lo, .int hi] H (.cons ⟨_, rfl⟩ (.cons ⟨_, rfl⟩ .nil))⟩
    · cases h
theorem mapM_pair {α : Type} {f : Value → Option α} {R : α → V → Prop} (hf : ∀ v a, f v = some a → ∃ u, RelV u v ∧ R a u) : ∀ {l : List Value} {as : List α}, l.mapM f = some as → ∃ us, Vals us l ∧ Paired R as us
  | [], as, h => by
    cases h
    exact ⟨[], .nil, .nil⟩
  | v :: l, as, h => by
    rw [List.mapM_cons] at h
    cases e1 : f v with
    | none => rw [e1] at h; cases h
    | some a =>
      rw [e1] at h
      cases e2 : l.mapM f with
      | none => rw [e2] at h; cases h
      | some bs =>
        rw [e2] at h
        cases h
        obtain ⟨u, h1, h2⟩ := hf v a e1
        obtain ⟨us, h3, h4⟩ := mapM_pair hf e2
        exact ⟨u :: us, .cons h1 h3, .cons h2 h4⟩
theorem rdRow_at {K : PySem.W.Frag} {v : Value} {r : Mi.PK × List Mi.Sl} (h : rdRow K v = some r) : ∃ u, RelV u v ∧ RowAt K r u := by
  unfold rdRow at h
  split at h
  · rename_i x t s hk
    split at h
    · rename_i p sl hp hs
      cases h
      obtain ⟨a, e, _, k⟩ := kTup_at hk
      subst e
      have hp2 := List.find?_some hp
      have e2 : pkTxt p = x := of_decide_eq_true hp2
      cases hks : kTup K s with
      | none => rw [hks] at hs; cases hs
      | some l =>
        rw [hks] at hs
        obtain ⟨b, eb, _, kb⟩ := kTup_at hks
        subst eb
        obtain ⟨us, h3, h4⟩ := mapM_pair (R := SlAt K) (fun v a e => rdSl_at e) (show l.mapM (rdSl K) = some sl from hs)
        exact ⟨.ref a, rfl, a, b, rfl, fun H => k _ H (.cons ⟨t, by rw [e2]⟩ (.cons rfl .nil)), us, fun H => kb us H h3, h4⟩
    · cases h
  · cases h
theorem rdTab_at {K : PySem.W.Frag} {a : Addr} {rows : Mi.Rows} (h : rdTab K (.ref a) = some rows) : TabAt K rows a := by
  unfold rdTab at h
  cases hk : kTup K (.ref a) with
  | none => rw [hk] at h; cases h
  | some l =>
    rw [hk] at h
    obtain ⟨b, eb, _, kb⟩ := kTup_at hk
    cases eb
    obtain ⟨us, h3, h4⟩ := mapM_pair (R := RowAt K) (fun v a e => rdRow_at e) (show l.mapM (rdRow K) = some rows from h)
    exact ⟨us, fun H => kb us H h3, h4⟩
/-! ### dicts -/
inductive DV where
  | s (x : Str) | i (n : Int) | t (xs : List (Option Str))
  deriving DecidableEq
noncomputable def dvOf (K : PySem.W.Frag) (v : Value) : Option DV := match v with
  | .str x _ => some (.s x)
  | .int n _ => some (.i n)
  | v => (kTup K v).bind fun l => (l.mapM fun u => match u with | Value.str x _ => some (some x) | Value.none => some none | _ => none).map .t
noncomputable def rdDict (K : PySem.W.Frag) (a : Addr) : Option (List (Str × DV)) := match K.lookup a with
  | some ⟨_, _, .dict es _, _⟩ => es.toList.mapM fun e => match e.key with
    | .str x _ => (dvOf K e.val).map fun d => (x, d)
    | _ => none
  | _ => none
noncomputable def DvAt (K : PySem.W.Frag) : DV → V → Prop
  | .s x, v => v = .str x
  | .i n, v => v = .int n
  | .t xs, v => ∃ a, v = .ref a ∧ ∀ H, SqT K H a (xs.map fun o => match o with | some x => V.str x | none => V.non)
theorem dvOf_at {K : PySem.W.Frag} {v : Value} {d : DV} (h : dvOf K v = some d) : ∃ u, RelV u v ∧ DvAt K d u := by
  unfold dvOf at h
  split at h
  · rename_i x t; cases h; exact ⟨.str x, ⟨t, rfl⟩, rfl⟩
  · rename_i x t; cases h; exact ⟨.int x, ⟨t, rfl⟩, rfl⟩
  · cases hk : kTup K v with
    | none => rw [hk] at h; cases h
    | some l =>
      rw [hk] at h
      obtain ⟨b, eb, _, kb⟩ := kTup_at hk
      subst eb
      obtain ⟨xs, h1, h2⟩ := Option.map_eq_some_iff.mp (show Option.map DV.t (l.mapM _) = some d from h)
      subst h2
      obtain ⟨us, h3, h4⟩ := mapM_pair (R := fun (o : Option Str) u => u = match o with | some x => V.str x | none => V.non) (fun v a e => by
        split at e
        · rename_i x t; cases e; exact ⟨.str x, ⟨t, rfl⟩, rfl⟩
        · cases e; exact ⟨.non, rfl, rfl⟩
        · cases e) h1
      refine ⟨.ref b, rfl, b, rfl, fun H => ?_⟩
      have : us = xs.map fun o => match o with | some x => V.str x | none => V.non := by
        clear h1 h3 hk h kb
        induction h4 with
        | nil => rfl
        | cons e _ ih => rw [e, ih]; rfl
      rw [← this]
      exact kb us H h3
noncomputable def findD (l : List (Str × DV)) (x : Str) : Option DV := (l.find? fun p => decide (p.1 = x)).map (·.2)
/-- what such a dict holds at a text -/
theorem rdDict_at {K : PySem.W.Frag} {w : World} {a : Addr} {l : List (Str × DV)} {ks : List Str} (h : rdDict K a = some l) (hd : He.dicW K a = some (He.keysIn w.params ks)) (x : Str) :
    (findD l x = none ∧ KHas K w a x none) ∨ ∃ d v, findD l x = some d ∧ DvAt K d v ∧ KHas K w a x (some v) := by
  obtain ⟨es0, n0, D⟩ := He.dicW_ok hd
  unfold rdDict at h
  rw [D.at_] at h
  have hm : es0.toList.mapM (fun e => match e.key with | .str x _ => (dvOf K e.val).map fun d => (x, d) | _ => none) = some l := h
  have key : ∀ (es : List DictEntry) (l : List (Str × DV)), es.mapM (fun e => match e.key with | .str x _ => (dvOf K e.val).map fun d => (x, d) | _ => none) = some l →
      (findD l x = none ∧ es.find? (·.key.isStr x) = none ∧ es.any (·.refKey) = false) ∨ ∃ d v e, findD l x = some d ∧ DvAt K d v ∧ es.find? (·.key.isStr x) = some e ∧ RelV v e.val := by
    intro es
    induction es with
    | nil => intro l h; cases h; exact .inl ⟨rfl, rfl, rfl⟩
    | cons e es ih =>
      intro l h
      rw [List.mapM_cons] at h
      cases hk : e.key with
      | str y t =>
        rw [hk] at h
        cases hv : dvOf K e.val with
        | none => rw [hv] at h; cases h
        | some d =>
          rw [hv] at h
          cases hr : es.mapM (fun e => match e.key with | .str x _ => (dvOf K e.val).map fun d => (x, d) | _ => none) with
          | none =>
            have h' : (match es.mapM (fun e => match e.key with | .str x _ => (dvOf K e.val).map fun d => (x, d) | _ => none) with | none => none | some r => some ((y, d) :: r)) = some l := by
              rw [← h]; cases es.mapM (fun e => match e.key with | .str x _ => (dvOf K e.val).map fun d => (x, d) | _ => none) <;> rfl
            rw [hr] at h'; cases h'
          | some r =>
            have h' : (match es.mapM (fun e => match e.key with | .str x _ => (dvOf K e.val).map fun d => (x, d) | _ => none) with | none => none | some r => some ((y, d) :: r)) = some l := by
              rw [← h]; cases es.mapM (fun e => match e.key with | .str x _ => (dvOf K e.val).map fun d => (x, d) | _ => none) <;> rfl
            rw [hr] at h'
            cases h'
            have hs : e.key.isStr x = decide (y = x) := by
              rw [hk]
              show (y == x) = _
              rw [Bool.eq_iff_iff, beq_iff_eq, decide_eq_true_iff]
            by_cases e1 : y = x
            · obtain ⟨u, ru, du⟩ := dvOf_at hv
              refine .inr ⟨d, u, e, ?_, du, ?_, ru⟩
              · unfold findD
                rw [List.find?_cons, decide_eq_true (show (y, d).1 = x from e1)]
                rfl
              · rw [List.find?_cons, hs, decide_eq_true e1]
            · have f1 : findD ((y, d) :: r) x = findD r x := by
                unfold findD
                rw [List.find?_cons, decide_eq_false (show ¬ (y, d).1 = x from e1)]
              have f2 : (e :: es).find? (·.key.isStr x) = es.find? (·.key.isStr x) := by
                rw [List.find?_cons, hs, decide_eq_false e1]
              rw [f1, f2]
              rcases ih r hr with ⟨i1, i2, i3⟩ | i
              · refine .inl ⟨i1, i2, ?_⟩
                rw [List.any_cons, i3, Bool.or_false]
                show e.refKey = false
                unfold DictEntry.refKey
                rw [hk]
              · exact .inr i
      | _ => rw [hk] at h; cases h
  rcases key _ _ hm with ⟨i1, i2, i3⟩ | ⟨d, v, e, i1, i2, i3, i4⟩
  · refine .inl ⟨i1, es0, n0, none, D, ?_, trivial⟩
    unfold PySem.W.nsIn
    rw [D.at_]
    show (match es0.toList.find? (·.key.isStr x) with | some e => some (some e.val) | none => if es0.toList.any (·.refKey) then none else some none) = some none
    rw [i2, i3]
    rfl
  · refine .inr ⟨d, v, i1, i2, es0, n0, some e.val, D, ?_, i4⟩
    unfold PySem.W.nsIn
    rw [D.at_]
    show (match es0.toList.find? (·.key.isStr x) with | some e => some (some e.val) | none => if es0.toList.any (·.refKey) then none else some none) = some (some e.val)
    rw [i3]
end Ws

namespace Ws
open PySem PySem.Spec PyProof.Rows L2
/-! ### the head by one kernel run: what the top has laid, told by names -/
/-- the addresses that are looked at: the module's globals, and what the top has laid (from lo on, so many) -/
noncomputable def adrs (lo n : Nat) : List Addr := mainGlobals :: List.range' lo n
/-- a def: where it stands, its name, its qualified name, its statement, its defaults -/
structure DnD where
  at_ : PySem.W.Frag → Addr
  name : Str
  qual : Str
  st : Stmt
  dfl : List He.Dv := []
  kwd : List (Str × He.Dv) := []
noncomputable def fnWa (K : PySem.W.Frag) (a : Addr) : He.FnW := match K.lookup a with
  | some ⟨_, _, .func fd, _⟩ => some (fd.name, fd.qualname, fd.params, fd.body, fd.scope, fd.globals, fd.closure, fd.builtins)
  | _ => none
noncomputable def DnD.val (d : DnD) : He.FnW := some (d.name, d.qual, defArgs d.st, .stmts (defBody d.st), defScope d.st, mainGlobals, [], builtinsNs)
noncomputable def DnD.dvs (K : PySem.W.Frag) (d : DnD) : List V := d.dfl.map (He.Dv.v K)
noncomputable def DnD.kws (K : PySem.W.Frag) (d : DnD) : List (Str × V) := d.kwd.map fun q => (q.1, q.2.v K)
noncomputable def DnD.ok (K : PySem.W.Frag) (d : DnD) : Bool := PySem.W.keepIn K (.ref (d.at_ K)) && (match K.lookup (d.at_ K) with
  | some ⟨_, _, .func fd, _⟩ => PySem.W.codeIn K fd.code d.qual && (He.dflB K fd.defaults (d.dvs K) && He.kwdB K fd.kwdefaults (d.kws K))
  | _ => false)
theorem DnD.funD {K : PySem.W.Frag} {d : DnD} (e : fnWa K (d.at_ K) = d.val) (c : d.ok K = true) : ∃ fd, FunD K d.name d.qual (defArgs d.st) (defBody d.st) (defScope d.st) (d.dvs K) (d.kws K) (d.at_ K) fd := by
  obtain ⟨kp, c2⟩ := He.ba c
  unfold fnWa at e
  cases q : K.lookup (d.at_ K) with
  | none =>
    rw [q] at c2
    cases c2
  | some o =>
    obtain ⟨oc, od, dt, osl⟩ := o
    rw [q] at c2 e
    cases dt with
    | func fd =>
      obtain ⟨n1, n2, n3, n4, n5, n6, n7, n8, n9, n10, n11, n12, n13, n14, n15⟩ := fd
      have e2 : (some (n1, n2, n3, n4, n5, n6, n7, n15) : He.FnW) = some (d.name, d.qual, defArgs d.st, .stmts (defBody d.st), defScope d.st, mainGlobals, [], builtinsNs) := e
      simp only [Option.some.injEq, Prod.mk.injEq] at e2
      obtain ⟨h1, h2, h3, h4, h5, h6, h7, h8⟩ := e2
      subst h1 h2 h3 h4 h5 h6 h7 h8
      have c3 : (PySem.W.codeIn K n13 d.qual && (He.dflB K n8 (d.dvs K) && He.kwdB K n9 (d.kws K))) = true := c2
      obtain ⟨k1, k2⟩ := He.ba c3
      obtain ⟨k3, k4⟩ := He.ba k2
      exact ⟨_, ⟨oc, od, n8, n9, n10, n11, n12, n13, n14, osl, rfl, q, k1, He.dflB_ok k3, He.kwdB_ok k4⟩, kp⟩
    | _ => cases c2
theorem fun_of_funD {K : PySem.W.Frag} {x qual : Str} {st : Stmt} {f : Addr} {fd : FuncData} (F : FunD K x qual (defArgs st) (defBody st) (defScope st) [] [] f fd) : L2.Fun K x qual st f fd := by
  obtain ⟨oc, od, dV, kV, doc, pm, an, cdv, ct, osl, h1, h2, h3, h4, _⟩ := F.ex
  rcases h4 with ⟨_, e⟩ | ⟨e, _⟩
  · subst e
    exact ⟨⟨oc, od, kV, doc, pm, an, cdv, ct, osl, h1, h2, h3⟩, F.kp⟩
  · exact absurd rfl e
noncomputable abbrev FaW : Type := PySem.W.Frag → Bool
noncomputable abbrev AlW : Type := Bool × List He.FnW × List (Option (List (Option (Str × Int))))
noncomputable def obsW (fa : List FaW) (fn : List DnD) (ts : List He.Tab) (K : PySem.W.Frag) : AlW := ((fa.all fun f => f K) && fn.all fun d => d.ok K, fn.map fun d => fnWa K (d.at_ K), ts.map fun t => He.dicW K (t.1 K))
noncomputable def valW (fn : List DnD) (ts : List He.Tab) (w : World) : AlW := (true, fn.map DnD.val, ts.map fun t => some (He.keysIn w.params t.2))
noncomputable def SaysW (fa : List FaW) (fn : List DnD) (ts : List He.Tab) (w : World) (K : PySem.W.Frag) : Prop := obsW fa fn ts K = valW fn ts w
noncomputable def hookW (lo n : Nat) (fa : List FaW) (fn : List DnD) (ts : List He.Tab) : PySem.W.Hook where
  α := AlW
  obs := fun s => obsW fa fn ts (He.frG s.heap.get? (adrs lo n))
  val := fun w => valW fn ts w
  says := fun w h => ∃ K : PySem.W.Frag, K.In h ∧ SaysW fa fn ts w K
  of := fun _ _ e => ⟨_, He.frG_in, e⟩
  keeps := fun _ _ _ ⟨K, hK, c⟩ k => ⟨K, PySem.W.Frag.In.keeps hK k, c⟩
noncomputable def obW (lo n : Nat) (fa : List FaW) (fn : List DnD) (ts : List He.Tab) (s : PySem.W.SharedT) : AlW := obsW fa fn ts (He.frG (HandSHeadRun.getT s) (adrs lo n))
theorem obW_eq {lo n : Nat} {fa : List FaW} {fn : List DnD} {ts : List He.Tab} (s : PySem.W.SharedT) : obW lo n fa fn ts s = (hookW lo n fa fn ts).obs s.abs := by
  have e : HandSHeadRun.getT s = s.abs.heap.get? := funext fun a => HandSHeadRun.getT_eq s a
  show obsW fa fn ts (He.frG (HandSHeadRun.getT s) (adrs lo n)) = obsW fa fn ts (He.frG s.abs.heap.get? (adrs lo n))
  rw [e]
section
variable {fa : List FaW} {fn : List DnD} {ts : List He.Tab} {w : World} {K : PySem.W.Frag}
theorem SaysW.fact (c : SaysW fa fn ts w K) (i : Nat) {f : FaW} (h : fa[i]? = some f) : f K = true := by
  have c1 := (He.ba (show ((fa.all fun f => f K) && fn.all fun d => d.ok K) = true from congrArg (fun z : AlW => z.1) c)).1
  exact List.all_eq_true.mp c1 f (List.mem_of_getElem? h)
theorem SaysW.is (c : SaysW fa fn ts w K) (i : Nat) {p : PySem.W.Frag → Prop} [∀ K, Decidable (p K)] (h : fa[i]? = some fun K => decide (p K)) : p K := of_decide_eq_true (c.fact i h)
theorem SaysW.def_ (c : SaysW fa fn ts w K) (i : Nat) {d : DnD} (h : fn[i]? = some d) : ∃ fd, FunD K d.name d.qual (defArgs d.st) (defBody d.st) (defScope d.st) (d.dvs K) (d.kws K) (d.at_ K) fd := by
  have c2 := (He.ba (show ((fa.all fun f => f K) && fn.all fun d => d.ok K) = true from congrArg (fun z : AlW => z.1) c)).2
  have e : fn.map (fun d => fnWa K (d.at_ K)) = fn.map DnD.val := congrArg (fun z : AlW => z.2.1) c
  have e2 : (fn.map fun d => fnWa K (d.at_ K))[i]? = (fn.map DnD.val)[i]? := by rw [e]
  rw [List.getElem?_map, List.getElem?_map, h] at e2
  exact DnD.funD (Option.some.inj e2) (List.all_eq_true.mp c2 d (List.mem_of_getElem? h))
theorem SaysW.tab (c : SaysW fa fn ts w K) (i : Nat) {t : He.Tab} (h : ts[i]? = some t) : He.dicW K (t.1 K) = some (He.keysIn w.params t.2) := by
  have e : ts.map (fun t => He.dicW K (t.1 K)) = ts.map fun t => some (He.keysIn w.params t.2) := congrArg (fun z : AlW => z.2.2) c
  have e2 : (ts.map fun t => He.dicW K (t.1 K))[i]? = (ts.map fun t => some (He.keysIn w.params t.2))[i]? := by rw [e]
  rw [List.getElem?_map, List.getElem?_map, h] at e2
  exact Option.some.inj e2
end
/-! ### addresses by names, recognizers -/
/-- the function of the property m of the class at C -/
noncomputable def prG (K : PySem.W.Frag) (C : Addr) (m : Str) : Addr := match PySem.W.recIn K (He.ma K C m) "property" with
  | some (.ref f :: _) => f
  | _ => 0
noncomputable def prB (K : PySem.W.Frag) (C : Addr) (m : Str) : Bool := match PySem.W.recIn K (He.ma K C m) "property" with
  | some (.ref _ :: _) => true
  | _ => false
theorem prB_ok {K : PySem.W.Frag} {C : Addr} {m : Str} (h : prB K C m = true) : ∃ r, PySem.W.recIn K (He.ma K C m) "property" = some (.ref (prG K C m) :: r) := by
  unfold prB at h
  unfold prG
  split at h
  · rename_i f r e
    rw [e]
    exact ⟨r, rfl⟩
  · cases h
/-- a class that stands written: the pieces of its object -/
noncomputable def clB (K : PySem.W.Frag) (C : Addr) (p : ClassData → List Value → String → Bool) : Bool := match K.lookup C with
  | some ⟨.type "type", _, .cls cd, sl⟩ => (match cd.mro, sl.toList with
    | .ref C' :: bm, [_, _, _, _, some (.builtin n), _] => C' == C && (!cd.hasDel && p cd bm n)
    | _, _ => false)
  | _ => false
theorem clB_ok {K : PySem.W.Frag} {C : Addr} {p : ClassData → List Value → String → Bool} (q : clB K C p = true) : ∃ nm qn N bs bm hdct sn sub ab col dd k0 k1 k2 k3 k5 nid,
    K.lookup C = some (excClassObj nm qn C N bs bm hdct sn sub ab col dd k0 k1 k2 k3 k5 nid) ∧ p { name := nm, bases := bs, mro := .ref C :: bm, ns := N, qualname := qn, hasDict := hdct, slotNames := sn, subclasses := sub, abstract := ab, collection := col, hasDel := false } bm nid = true := by
  unfold clB at q
  split at q
  · rename_i dd cd sl ho
    split at q
    · rename_i C' bm k0 k1 k2 k3 n k5 hm hs
      simp only [Bool.and_eq_true, beq_iff_eq, Bool.not_eq_true'] at q
      obtain ⟨rfl, hdel, ht⟩ := q
      obtain ⟨nm, bs, mro, ns, qn, hd, sn, sub, ab, col, del⟩ := cd
      dsimp only at hm hdel
      subst hm hdel
      have hsl : sl = #[k0, k1, k2, k3, some (.builtin n), k5] := by
        obtain ⟨l⟩ := sl
        simp only at hs
        rw [hs]
      subst hsl
      exact ⟨nm, qn, ns, bs, bm, hd, sn, sub, ab, col, dd, k0, k1, k2, k3, k5, n, ho, ht⟩
    · cases q
  · cases q
noncomputable def exB (K : PySem.W.Frag) (C : Addr) : Bool := clB K C fun cd bm n => cd.hasDict && (n == "ValueError.__new__" && PySem.HandSPX.refsVE bm)
theorem exB_ok {K : PySem.W.Frag} {C : Addr} (q : exB K C = true) : ∃ nm qn N bs bm sn sub ab col dd k0 k1 k2 k3 k5, K.lookup C = some (excClassObj nm qn C N bs bm true sn sub ab col dd k0 k1 k2 k3 k5 "ValueError.__new__") ∧ PySem.HandSPX.refsVE bm = true := by
  obtain ⟨nm, qn, N, bs, bm, hdct, sn, sub, ab, col, dd, k0, k1, k2, k3, k5, nid, h1, h2⟩ := clB_ok q
  obtain ⟨h3, h4⟩ := He.ba h2
  obtain ⟨h5, h6⟩ := He.ba h4
  have h3 : hdct = true := h3
  have h5 : nid = "ValueError.__new__" := beq_iff_eq.mp h5
  subst h3 h5
  exact ⟨nm, qn, N, bs, bm, sn, sub, ab, col, dd, k0, k1, k2, k3, k5, h1, h6⟩
noncomputable def neB (K : PySem.W.Frag) (C : Addr) : Bool := clB K C fun _ bm _ => bm.contains (.type "object")
theorem neC_of {K : PySem.W.Frag} {C : Addr} (ne : PySem.W.findIn K (.ref C) "__ne__" = some (some (.builtin "object.__ne__"))) (q : neB K C = true) : NeC K C := by
  obtain ⟨nm, qn, N, bs, bm, hdct, sn, sub, ab, col, dd, k0, k1, k2, k3, k5, nid, h1, h2⟩ := clB_ok q
  exact ⟨ne, nm, qn, N, bs, bm, hdct, sn, sub, ab, col, dd, k0, k1, k2, k3, k5, nid, h1, h2⟩
/-- a constant of the module -/
noncomputable def conI (K : PySem.W.Frag) (x : Str) (i : Int) : Bool := match PySem.W.nsIn K mainGlobals x with
  | some (some (.int j _)) => decide (j = i)
  | _ => false
theorem conI_ok {K : PySem.W.Frag} {x : Str} {i : Int} (h : conI K x i = true) : ∃ t, PySem.W.nsIn K mainGlobals x = some (some (.int i t)) := by
  unfold conI at h
  split at h
  · rename_i j t e
    rw [e, of_decide_eq_true h]
    exact ⟨t, rfl⟩
  · cases h
noncomputable def conS (K : PySem.W.Frag) (x : Str) (z : Str) : Bool := match PySem.W.nsIn K mainGlobals x with
  | some (some (.str y _)) => decide (y = z)
  | _ => false
theorem conS_ok {K : PySem.W.Frag} {x z : Str} (h : conS K x z = true) : ∃ t, PySem.W.nsIn K mainGlobals x = some (some (.str z t)) := by
  unfold conS at h
  split at h
  · rename_i j t e
    rw [e, of_decide_eq_true h]
    exact ⟨t, rfl⟩
  · cases h
/-! ### the end -/
theorem walk_W {l : PySem.W.OpenLaw} {n k : Nat} {q : Program} {loose : List Str} {XP : (Str → Option Value) → Heap → Prop} {fa : List FaW} {fn : List DnD} {ts : List He.Tab} {lo m : Nat} {d : DefRec} {sp : PySem.W.Frag → Sp}
    (hn : l.most = some n) (hn2 : n ≤ sizeLine) (hdf : d.params.defaults = []) (hr : Room k callerA)
    (F : ∀ (w : World) (mg : Str → Option Value) (fa' : Addr) (h : Heap) (K : PySem.W.Frag), K.In h → SaysW fa fn ts w K → h.Ns mainGlobals mg → mg d.name = some (.ref fa') → ∀ base : Heap, K.In base → base.Ns mainGlobals mg → FnG l.prog w K mg base CX0 k fa' (sp K))
    (hsp : ∀ (K : PySem.W.Frag) (H : Hp) (a : Addr) (ns : List Int), ns.length ≤ n → Only H → SqL K H a (ns.map V.int) → sp K [.ref a] H (fun v _ => v = .bl true) fun _ _ _ => False) :
    PySem.W.WalkO q loose XP (hookW lo m fa fn ts).says l.row.toRowW d [] (fun f vs => PySem.call f vs) :=
  Att.attach_call hn hdf fun w s₀ s mg mb fa' o pm cd doc a vs ns G Y ho hd hcd hmg hobj hints hlen hg => by
    obtain ⟨K, KX, c⟩ := Y
    exact law_G KX G.T.g G.T.b G.T.builtins G.T.nolimit hg hobj hints (Nat.le_trans hlen hn2) hr (F w mg fa' _ K KX c G.T.g hmg) fun H hO hS => hsp K H a ns hlen hO hS
end Ws

/-! written tuples of texts; what the written dicts of the reader hold -/
namespace Ws
open PySem PySem.Spec PyProof.Rows L2
noncomputable def rdTxts (K : PySem.W.Frag) (v : Value) : Option (List Str) := (kTup K v).bind fun l => l.mapM fun u => match u with
  | .str x _ => some x
  | _ => none
theorem rdTxts_at {K : PySem.W.Frag} {a : Addr} {xs : List Str} (h : rdTxts K (.ref a) = some xs) : ∀ H, SqT K H a (xs.map V.str) := by
  unfold rdTxts at h
  obtain ⟨l, h1, h2⟩ := Option.bind_eq_some_iff.mp h
  obtain ⟨b, e, _, hb⟩ := kTup_at h1
  cases e
  intro H
  refine hb _ H ?_
  have key : ∀ (l : List Value) (xs : List Str), (l.mapM fun u => match u with | Value.str x _ => some x | _ => none) = some xs → Vals (xs.map V.str) l := by
    intro l
    induction l with
    | nil => intro xs h; cases h; exact .nil
    | cons u l ih =>
      intro xs h
      rw [List.mapM_cons] at h
      cases u with
      | str x t =>
        cases hr : (l.mapM fun u => match u with | Value.str x _ => some x | _ => none) with
        | none =>
          exfalso
          have h' : (match (l.mapM fun u => match u with | Value.str x _ => some x | _ => none) with | none => none | some r => some (x :: r)) = some xs := by
            rw [← h]; cases (l.mapM fun u => match u with | Value.str x _ => some x | _ => none) <;> rfl
          rw [hr] at h'; cases h'
        | some r =>
          have h' : (match (l.mapM fun u => match u with | Value.str x _ => some x | _ => none) with | none => none | some r => some (x :: r)) = some xs := by
            rw [← h]; cases (l.mapM fun u => match u with | Value.str x _ => some x | _ => none) <;> rfl
          rw [hr] at h'
          cases h'
          exact .cons ⟨t, rfl⟩ (ih r hr)
      | _ => exact absurd h (by intro z; cases z)
  exact key l xs h2
theorem find_cons (p : Str × DV) (l : List (Str × DV)) (x : Str) : findD (p :: l) x = if p.1 = x then some p.2 else findD l x := by
  unfold findD
  rw [List.find?_cons]
  by_cases h : p.1 = x
  · rw [decide_eq_true h, if_pos h]; rfl
  · rw [decide_eq_false h, if_neg h]
noncomputable def declList : List (Str × DV) := [("lock", .s "lock"), ("lent", .s "lock"), ("queue", .s "queue"), ("cell", .s "cell"), ("part", .s "part"), ("task", .s "task"), ("later", .s "task")]
noncomputable def mostList : List (Str × DV) := [("lock", .i 4), ("queue", .i 3), ("cell", .i 4), ("part", .i 5), ("task", .i 6)]
noncomputable def wantList : List (Str × DV) := [("LOCK", .t [some "lock", some "lent"]), ("QUEUE", .t [some "queue"]), ("PART", .t [some "part"]), ("TASK", .t [some "task", some "later"]), ("LATER", .t [some "later"]), ("VARIABLE", .t [some "cell", none])]
end Ws

namespace Ws
open PySem PySem.Spec PyProof.Rows L2
noncomputable def hkFa0 : List FaW := [
  fun K => decide (PySem.W.nsIn K mainGlobals "Form" = some (some (.ref (He.ga K "Form")))),
  fun K => decide (PySem.W.plainGet K (He.ga K "Form") Str.empty = true),
  fun K => decide (PySem.W.hasDictIn K (He.ga K "Form") = true),
  fun K => decide (PySem.W.plainOver K (He.ga K "Form") = true),
  fun K => decide (PySem.W.findIn K (.ref (He.ga K "Form")) "__setattr__" = some (some (.builtin "object.__setattr__"))),
  fun K => decide (PySem.W.makesIn K (He.ga K "Form") = true),
  fun K => decide (PySem.W.keepIn K (.ref (He.ga K "Form")) = true),
  fun K => decide (PySem.W.findIn K (.ref (He.ga K "Form")) "kind" = some none),
  fun K => decide (PySem.W.findIn K (.ref (He.ga K "Form")) "slots" = some none),
  fun K => decide (PySem.W.findIn K (.ref (He.ga K "Form")) "found" = some none),
  fun K => decide (PySem.W.nsIn K mainGlobals "Reading" = some (some (.ref (He.ga K "Reading")))),
  fun K => decide (PySem.W.plainGet K (He.ga K "Reading") Str.empty = true),
  fun K => decide (PySem.W.hasDictIn K (He.ga K "Reading") = true),
  fun K => decide (PySem.W.plainOver K (He.ga K "Reading") = true),
  fun K => decide (PySem.W.findIn K (.ref (He.ga K "Reading")) "__setattr__" = some (some (.builtin "object.__setattr__"))),
  fun K => decide (PySem.W.makesIn K (He.ga K "Reading") = true),
  fun K => decide (PySem.W.keepIn K (.ref (He.ga K "Reading")) = true),
  fun K => decide (PySem.W.findIn K (.ref (He.ga K "Reading")) "_forms" = some none),
  fun K => decide (PySem.W.findIn K (.ref (He.ga K "Reading")) "_blocks" = some none),
  fun K => decide (PySem.W.nsIn K mainGlobals "Statement" = some (some (.ref (He.ga K "Statement"))))]
noncomputable def hkFa1 : List FaW := [
  fun K => decide (PySem.W.plainGet K (He.ga K "Statement") Str.empty = true),
  fun K => decide (PySem.W.hasDictIn K (He.ga K "Statement") = true),
  fun K => decide (PySem.W.plainOver K (He.ga K "Statement") = true),
  fun K => decide (PySem.W.findIn K (.ref (He.ga K "Statement")) "__setattr__" = some (some (.builtin "object.__setattr__"))),
  fun K => decide (PySem.W.makesIn K (He.ga K "Statement") = true),
  fun K => decide (PySem.W.keepIn K (.ref (He.ga K "Statement")) = true),
  fun K => decide (PySem.W.findIn K (.ref (He.ga K "Statement")) "line" = some none),
  fun K => decide (PySem.W.findIn K (.ref (He.ga K "Statement")) "kind" = some none),
  fun K => decide (PySem.W.findIn K (.ref (He.ga K "Statement")) "found" = some none),
  fun K => decide (PySem.W.findIn K (.ref (He.ga K "Statement")) "onward" = some none),
  fun K => decide (PySem.W.findIn K (.ref (He.ga K "Statement")) "aside" = some none),
  fun K => decide (PySem.W.nsIn K mainGlobals "Task" = some (some (.ref (He.ga K "Task")))),
  fun K => decide (PySem.W.plainGet K (He.ga K "Task") Str.empty = true),
  fun K => decide (PySem.W.hasDictIn K (He.ga K "Task") = true),
  fun K => decide (PySem.W.plainOver K (He.ga K "Task") = true),
  fun K => decide (PySem.W.findIn K (.ref (He.ga K "Task")) "__setattr__" = some (some (.builtin "object.__setattr__"))),
  fun K => decide (PySem.W.makesIn K (He.ga K "Task") = true),
  fun K => decide (PySem.W.keepIn K (.ref (He.ga K "Task")) = true),
  fun K => decide (PySem.W.findIn K (.ref (He.ga K "Task")) "line" = some none),
  fun K => decide (PySem.W.findIn K (.ref (He.ga K "Task")) "name" = some none)]
noncomputable def hkFa2 : List FaW := [
  fun K => decide (PySem.W.findIn K (.ref (He.ga K "Task")) "rank" = some none),
  fun K => decide (PySem.W.findIn K (.ref (He.ga K "Task")) "is_later" = some none),
  fun K => decide (PySem.W.findIn K (.ref (He.ga K "Task")) "entry" = some none),
  fun K => decide (PySem.W.nsIn K mainGlobals "Layout" = some (some (.ref (He.ga K "Layout")))),
  fun K => decide (PySem.W.plainGet K (He.ga K "Layout") Str.empty = true),
  fun K => decide (PySem.W.hasDictIn K (He.ga K "Layout") = true),
  fun K => decide (PySem.W.plainOver K (He.ga K "Layout") = true),
  fun K => decide (PySem.W.findIn K (.ref (He.ga K "Layout")) "__setattr__" = some (some (.builtin "object.__setattr__"))),
  fun K => decide (PySem.W.makesIn K (He.ga K "Layout") = true),
  fun K => decide (PySem.W.keepIn K (.ref (He.ga K "Layout")) = true),
  fun K => decide (PySem.W.findIn K (.ref (He.ga K "Layout")) "_forms" = some none),
  fun K => decide (PySem.W.findIn K (.ref (He.ga K "Layout")) "_openers" = some none),
  fun K => decide (PySem.W.findIn K (.ref (He.ga K "Layout")) "_elses" = some none),
  fun K => decide (PySem.W.findIn K (.ref (He.ga K "Layout")) "_ends" = some none),
  fun K => decide (PySem.W.nsIn K mainGlobals "Plan" = some (some (.ref (He.ga K "Plan")))),
  fun K => decide (PySem.W.plainGet K (He.ga K "Plan") Str.empty = true),
  fun K => decide (PySem.W.hasDictIn K (He.ga K "Plan") = true),
  fun K => decide (PySem.W.plainOver K (He.ga K "Plan") = true),
  fun K => decide (PySem.W.findIn K (.ref (He.ga K "Plan")) "__setattr__" = some (some (.builtin "object.__setattr__"))),
  fun K => decide (PySem.W.makesIn K (He.ga K "Plan") = true)]
noncomputable def hkFa3 : List FaW := [
  fun K => decide (PySem.W.keepIn K (.ref (He.ga K "Plan")) = true),
  fun K => decide (PySem.W.findIn K (.ref (He.ga K "Plan")) "core_count" = some none),
  fun K => decide (PySem.W.findIn K (.ref (He.ga K "Plan")) "slice_length" = some none),
  fun K => decide (PySem.W.findIn K (.ref (He.ga K "Plan")) "lock_names" = some none),
  fun K => decide (PySem.W.findIn K (.ref (He.ga K "Plan")) "lent_names" = some none),
  fun K => decide (PySem.W.findIn K (.ref (He.ga K "Plan")) "queue_rooms" = some none),
  fun K => decide (PySem.W.findIn K (.ref (He.ga K "Plan")) "cell_firsts" = some none),
  fun K => decide (PySem.W.findIn K (.ref (He.ga K "Plan")) "task_plans" = some none),
  fun K => decide (PySem.W.findIn K (.ref (He.ga K "Plan")) "statements" = some none),
  fun K => decide (PySem.W.nsIn K mainGlobals "Program" = some (some (.ref (He.ga K "Program")))),
  fun K => decide (PySem.W.plainGet K (He.ga K "Program") Str.empty = true),
  fun K => decide (PySem.W.hasDictIn K (He.ga K "Program") = true),
  fun K => decide (PySem.W.plainOver K (He.ga K "Program") = true),
  fun K => decide (PySem.W.findIn K (.ref (He.ga K "Program")) "__setattr__" = some (some (.builtin "object.__setattr__"))),
  fun K => decide (PySem.W.makesIn K (He.ga K "Program") = true),
  fun K => decide (PySem.W.keepIn K (.ref (He.ga K "Program")) = true),
  fun K => decide (PySem.W.findIn K (.ref (He.ga K "Program")) "_text" = some none),
  fun K => decide (PySem.W.findIn K (.ref (He.ga K "Program")) "_lines" = some none),
  fun K => decide (PySem.W.findIn K (.ref (He.ga K "Program")) "_parts" = some none),
  fun K => decide (PySem.W.findIn K (.ref (He.ga K "Program")) "_tasks" = some none)]
noncomputable def hkFa4 : List FaW := [
  fun K => decide (PySem.W.findIn K (.ref (He.ga K "Program")) "_plan" = some none),
  fun K => decide (PySem.W.findIn K (.ref (He.ga K "Program")) "__class__" = some (some (.builtin "object.__class__"))),
  fun K => decide (PySem.W.specialIn K (.builtin "object.__class__") "__get__" = some (some (.builtin "getset_descriptor.__get__"))),
  fun K => decide (PySem.W.takesIn K (.builtin "object.__class__") = some true),
  fun K => decide (PySem.W.mroIn K (He.ga K "Program") (.type "object") = some true),
  fun K => decide (PySem.W.selfFirst K (He.ga K "Program") = true),
  fun K => decide (PySem.W.notFirst K (He.ga K "Program") (.ref (He.ga K "Program")) = true),
  fun K => decide (PySem.W.isClsIn K (He.ga K "Program") = true),
  fun K => decide (PySem.W.typeIn K (.ref (He.ga K "Program")) = some (.type "type")),
  fun K => decide (PySem.W.subIn K (.type "NoneType") (.ref (He.ga K "Program")) = some false),
  fun K => decide (PySem.W.subIn K (.type "int") (.ref (He.ga K "Program")) = some false),
  fun K => decide (PySem.W.subIn K (.type "str") (.ref (He.ga K "Program")) = some false),
  fun K => decide (PySem.W.subIn K (.type "tuple") (.ref (He.ga K "Program")) = some false),
  fun K => decide (PySem.W.subIn K (.type "list") (.ref (He.ga K "Program")) = some false),
  fun K => decide (PySem.W.findIn K (.ref (He.ga K "Program")) "text" = some (some (.ref (He.ma K (He.ga K "Program") "text")))),
  fun K => decide (PySem.W.specialIn K (.ref (He.ma K (He.ga K "Program") "text")) "__get__" = some (some (.builtin "property.__get__"))),
  fun K => decide (PySem.W.takesIn K (.ref (He.ma K (He.ga K "Program") "text")) = some true),
  fun K => prB K (He.ga K "Program") "text",
  fun K => decide (PySem.W.findIn K (.ref (He.ga K "Program")) "lines" = some (some (.ref (He.ma K (He.ga K "Program") "lines")))),
  fun K => decide (PySem.W.specialIn K (.ref (He.ma K (He.ga K "Program") "lines")) "__get__" = some (some (.builtin "property.__get__")))]
noncomputable def hkFa5 : List FaW := [
  fun K => decide (PySem.W.takesIn K (.ref (He.ma K (He.ga K "Program") "lines")) = some true),
  fun K => prB K (He.ga K "Program") "lines",
  fun K => decide (PySem.W.findIn K (.ref (He.ga K "Program")) "parts" = some (some (.ref (He.ma K (He.ga K "Program") "parts")))),
  fun K => decide (PySem.W.specialIn K (.ref (He.ma K (He.ga K "Program") "parts")) "__get__" = some (some (.builtin "property.__get__"))),
  fun K => decide (PySem.W.takesIn K (.ref (He.ma K (He.ga K "Program") "parts")) = some true),
  fun K => prB K (He.ga K "Program") "parts",
  fun K => decide (PySem.W.findIn K (.ref (He.ga K "Program")) "tasks" = some (some (.ref (He.ma K (He.ga K "Program") "tasks")))),
  fun K => decide (PySem.W.specialIn K (.ref (He.ma K (He.ga K "Program") "tasks")) "__get__" = some (some (.builtin "property.__get__"))),
  fun K => decide (PySem.W.takesIn K (.ref (He.ma K (He.ga K "Program") "tasks")) = some true),
  fun K => prB K (He.ga K "Program") "tasks",
  fun K => decide (PySem.W.nsIn K mainGlobals "SpeedError" = some (some (.ref (He.ga K "SpeedError")))),
  fun K => decide (PySem.W.subIn K (.ref (He.ga K "SpeedError")) (.type "BaseException") = some true),
  fun K => decide (PySem.W.typeIn K (.ref (He.ga K "SpeedError")) = some (.type "type")),
  fun K => decide (PySem.W.hasDictIn K (He.ga K "SpeedError") = true),
  fun K => decide (PySem.W.nsIn K mainGlobals "BadProgram" = some (some (.ref (He.ga K "BadProgram")))),
  fun K => exB K (He.ga K "BadProgram"),
  fun K => decide (PySem.W.findIn K (.ref (He.ga K "BadProgram")) "__setattr__" = some (some (.builtin "object.__setattr__"))),
  fun K => decide (PySem.W.subIn K (.ref (He.ga K "BadProgram")) (.type "BaseException") = some true),
  fun K => decide (PySem.W.typeIn K (.ref (He.ga K "BadProgram")) = some (.type "type")),
  fun K => decide (PySem.W.keepIn K (.ref (He.ga K "BadProgram")) = true)]
noncomputable def hkFa6 : List FaW := [
  fun K => decide (PySem.W.findIn K (.ref (He.ga K "BadProgram")) "__getattribute__" = some (some (.builtin "BaseException.__getattribute__"))),
  fun K => decide (PySem.W.findIn K (.ref (He.ga K "BadProgram")) "__getattr__" = some none),
  fun K => decide (PySem.W.hasDictIn K (He.ga K "BadProgram") = true),
  fun K => decide (PySem.W.findIn K (.ref (He.ga K "BadProgram")) "__class__" = some (some (.builtin "object.__class__"))),
  fun K => decide (PySem.W.mroIn K (He.ga K "BadProgram") (.type "object") = some true),
  fun K => decide (PySem.W.isClsIn K (He.ga K "BadProgram") = true),
  fun K => decide (PySem.W.subIn K (.ref (He.ga K "BadProgram")) (.ref (He.ga K "BadProgram")) = some true),
  fun K => decide (PySem.W.findIn K (.ref (He.ga K "BadProgram")) "line" = some none),
  fun K => decide (PySem.W.findIn K (.ref (He.ga K "BadProgram")) "__init__" = some (some (.ref (He.ma K (He.ga K "BadProgram") "__init__")))),
  fun K => decide (PySem.W.isFn K (.ref (He.ma K (He.ga K "BadProgram") "__init__")) = true),
  fun K => decide (PySem.W.nsIn K mainGlobals "Doubled" = some (some (.ref (He.ga K "Doubled")))),
  fun K => exB K (He.ga K "Doubled"),
  fun K => decide (PySem.W.findIn K (.ref (He.ga K "Doubled")) "__setattr__" = some (some (.builtin "object.__setattr__"))),
  fun K => decide (PySem.W.subIn K (.ref (He.ga K "Doubled")) (.type "BaseException") = some true),
  fun K => decide (PySem.W.typeIn K (.ref (He.ga K "Doubled")) = some (.type "type")),
  fun K => decide (PySem.W.keepIn K (.ref (He.ga K "Doubled")) = true),
  fun K => decide (PySem.W.findIn K (.ref (He.ga K "Doubled")) "__getattribute__" = some (some (.builtin "BaseException.__getattribute__"))),
  fun K => decide (PySem.W.findIn K (.ref (He.ga K "Doubled")) "__getattr__" = some none),
  fun K => decide (PySem.W.hasDictIn K (He.ga K "Doubled") = true),
  fun K => decide (PySem.W.findIn K (.ref (He.ga K "Doubled")) "__class__" = some (some (.builtin "object.__class__")))]
noncomputable def hkFa7 : List FaW := [
  fun K => decide (PySem.W.mroIn K (He.ga K "Doubled") (.type "object") = some true),
  fun K => decide (PySem.W.isClsIn K (He.ga K "Doubled") = true),
  fun K => decide (PySem.W.subIn K (.ref (He.ga K "Doubled")) (.ref (He.ga K "Doubled")) = some true),
  fun K => decide (PySem.W.findIn K (.ref (He.ga K "Doubled")) "line" = some none),
  fun K => decide (PySem.W.findIn K (.ref (He.ga K "Doubled")) "__init__" = some (some (.ref (He.ma K (He.ga K "Doubled") "__init__")))),
  fun K => decide (PySem.W.isFn K (.ref (He.ma K (He.ga K "Doubled") "__init__")) = true),
  fun K => decide (PySem.W.nsIn K mainGlobals "Unnamed" = some (some (.ref (He.ga K "Unnamed")))),
  fun K => exB K (He.ga K "Unnamed"),
  fun K => decide (PySem.W.findIn K (.ref (He.ga K "Unnamed")) "__setattr__" = some (some (.builtin "object.__setattr__"))),
  fun K => decide (PySem.W.subIn K (.ref (He.ga K "Unnamed")) (.type "BaseException") = some true),
  fun K => decide (PySem.W.typeIn K (.ref (He.ga K "Unnamed")) = some (.type "type")),
  fun K => decide (PySem.W.keepIn K (.ref (He.ga K "Unnamed")) = true),
  fun K => decide (PySem.W.findIn K (.ref (He.ga K "Unnamed")) "__getattribute__" = some (some (.builtin "BaseException.__getattribute__"))),
  fun K => decide (PySem.W.findIn K (.ref (He.ga K "Unnamed")) "__getattr__" = some none),
  fun K => decide (PySem.W.hasDictIn K (He.ga K "Unnamed") = true),
  fun K => decide (PySem.W.findIn K (.ref (He.ga K "Unnamed")) "__class__" = some (some (.builtin "object.__class__"))),
  fun K => decide (PySem.W.mroIn K (He.ga K "Unnamed") (.type "object") = some true),
  fun K => decide (PySem.W.isClsIn K (He.ga K "Unnamed") = true),
  fun K => decide (PySem.W.subIn K (.ref (He.ga K "Unnamed")) (.ref (He.ga K "Unnamed")) = some true),
  fun K => decide (PySem.W.findIn K (.ref (He.ga K "Unnamed")) "line" = some none)]
noncomputable def hkFa8 : List FaW := [
  fun K => decide (PySem.W.findIn K (.ref (He.ga K "Unnamed")) "__init__" = some (some (.ref (He.ma K (He.ga K "Unnamed") "__init__")))),
  fun K => decide (PySem.W.isFn K (.ref (He.ma K (He.ga K "Unnamed") "__init__")) = true),
  fun K => decide (PySem.W.specialIn K (.builtin "object.__class__") "__get__" = some (some (.builtin "getset_descriptor.__get__"))),
  fun K => decide (PySem.W.takesIn K (.builtin "object.__class__") = some true),
  fun K => decide (PySem.W.subIn K (.ref (He.ga K "BadProgram")) (.ref (He.ga K "Doubled")) = some false),
  fun K => decide (PySem.W.subIn K (.ref (He.ga K "BadProgram")) (.ref (He.ga K "Unnamed")) = some false),
  fun K => decide (PySem.W.subIn K (.ref (He.ga K "BadProgram")) (.ref (He.ga K "SpeedError")) = some true),
  fun K => decide (PySem.W.subIn K (.ref (He.ga K "BadProgram")) (.type "ValueError") = some true),
  fun K => decide (PySem.W.subIn K (.ref (He.ga K "Doubled")) (.ref (He.ga K "BadProgram")) = some false),
  fun K => decide (PySem.W.subIn K (.ref (He.ga K "Doubled")) (.ref (He.ga K "Unnamed")) = some false),
  fun K => decide (PySem.W.subIn K (.ref (He.ga K "Doubled")) (.ref (He.ga K "SpeedError")) = some true),
  fun K => decide (PySem.W.subIn K (.ref (He.ga K "Doubled")) (.type "ValueError") = some true),
  fun K => decide (PySem.W.subIn K (.ref (He.ga K "Unnamed")) (.ref (He.ga K "BadProgram")) = some false),
  fun K => decide (PySem.W.subIn K (.ref (He.ga K "Unnamed")) (.ref (He.ga K "Doubled")) = some false),
  fun K => decide (PySem.W.subIn K (.ref (He.ga K "Unnamed")) (.ref (He.ga K "SpeedError")) = some true),
  fun K => decide (PySem.W.subIn K (.ref (He.ga K "Unnamed")) (.type "ValueError") = some true),
  fun K => decide (PySem.W.nsIn K mainGlobals "_made_of" = some (some (.ref (He.ga K "_made_of")))),
  fun K => decide (PySem.W.nsIn K mainGlobals "is_name" = some (some (.ref (He.ga K "is_name")))),
  fun K => decide (PySem.W.nsIn K mainGlobals "read_whole" = some (some (.ref (He.ga K "read_whole")))),
  fun K => decide (PySem.W.nsIn K mainGlobals "_most_opened" = some (some (.ref (He.ga K "_most_opened"))))]
noncomputable def hkFa9 : List FaW := [
  fun K => decide (PySem.W.nsIn K mainGlobals "_last_outside" = some (some (.ref (He.ga K "_last_outside")))),
  fun K => decide (PySem.W.nsIn K mainGlobals "_joined" = some (some (.ref (He.ga K "_joined")))),
  fun K => decide (PySem.W.nsIn K mainGlobals "_read_value" = some (some (.ref (He.ga K "_read_value")))),
  fun K => decide (PySem.W.nsIn K mainGlobals "_read_sum" = some (some (.ref (He.ga K "_read_sum")))),
  fun K => decide (PySem.W.nsIn K mainGlobals "_read_product" = some (some (.ref (He.ga K "_read_product")))),
  fun K => decide (PySem.W.nsIn K mainGlobals "_read_factor" = some (some (.ref (He.ga K "_read_factor")))),
  fun K => decide (PySem.W.nsIn K mainGlobals "read_expression" = some (some (.ref (He.ga K "read_expression")))),
  fun K => decide (PySem.W.nsIn K mainGlobals "variables_of" = some (some (.ref (He.ga K "variables_of")))),
  fun K => decide (PySem.W.nsIn K mainGlobals "_has_length" = some (some (.ref (He.ga K "_has_length")))),
  fun K => decide (PySem.W.nsIn K mainGlobals "_read_word" = some (some (.ref (He.ga K "_read_word")))),
  fun K => decide (PySem.W.nsIn K mainGlobals "_read_slots" = some (some (.ref (He.ga K "_read_slots")))),
  fun K => decide (PySem.W.nsIn K mainGlobals "read_form" = some (some (.ref (He.ga K "read_form")))),
  fun K => decide (PySem.W.nsIn K mainGlobals "declared_names" = some (some (.ref (He.ga K "declared_names")))),
  fun K => decide (PySem.W.nsIn K mainGlobals "read_forms" = some (some (.ref (He.ga K "read_forms")))),
  fun K => decide (PySem.W.nsIn K mainGlobals "check_doubled" = some (some (.ref (He.ga K "check_doubled")))),
  fun K => decide (PySem.W.nsIn K mainGlobals "check_named" = some (some (.ref (He.ga K "check_named")))),
  fun K => decide (PySem.W.nsIn K mainGlobals "_law_made" = some (some (.ref (He.ga K "_law_made")))),
  fun K => decide (PySem.W.nsIn K mainGlobals "_law_pot" = some (some (.ref (He.ga K "_law_pot")))),
  fun K => decide (PySem.W.nsIn K mainGlobals "_law_take" = some (some (.ref (He.ga K "_law_take")))),
  fun K => decide (PySem.W.nsIn K mainGlobals "_law_of" = some (some (.ref (He.ga K "_law_of"))))]
noncomputable def hkFa10 : List FaW := [
  fun K => decide (PySem.W.nsIn K mainGlobals "_law_factor" = some (some (.ref (He.ga K "_law_factor")))),
  fun K => decide (PySem.W.nsIn K mainGlobals "_law_sum" = some (some (.ref (He.ga K "_law_sum")))),
  fun K => decide (PySem.W.nsIn K mainGlobals "_law_value" = some (some (.ref (He.ga K "_law_value")))),
  fun K => decide (PySem.W.nsIn K mainGlobals "_law_said" = some (some (.ref (He.ga K "_law_said")))),
  fun K => decide (PySem.W.nsIn K mainGlobals "_law_plain" = some (some (.ref (He.ga K "_law_plain")))),
  fun K => decide (PySem.W.nsIn K mainGlobals "_law_block" = some (some (.ref (He.ga K "_law_block")))),
  fun K => decide (PySem.W.nsIn K mainGlobals "_law_rows" = some (some (.ref (He.ga K "_law_rows")))),
  fun K => decide (PySem.W.nsIn K mainGlobals "_law_right" = some (some (.ref (He.ga K "_law_right")))),
  fun K => decide (PySem.W.nsIn K mainGlobals "law" = some (some (.ref (He.ga K "law")))),
  fun K => decide (PySem.W.findIn K (.ref (He.ga K "Form")) "__init__" = some (some (.ref (He.ma K (He.ga K "Form") "__init__")))),
  fun K => decide (PySem.W.isFn K (.ref (He.ma K (He.ga K "Form") "__init__")) = true),
  fun K => decide (PySem.W.findIn K (.ref (He.ga K "Form")) "uses" = some (some (.ref (He.ma K (He.ga K "Form") "uses")))),
  fun K => decide (PySem.W.isFn K (.ref (He.ma K (He.ga K "Form") "uses")) = true),
  fun K => decide (PySem.W.findIn K (.ref (He.ga K "Reading")) "__init__" = some (some (.ref (He.ma K (He.ga K "Reading") "__init__")))),
  fun K => decide (PySem.W.isFn K (.ref (He.ma K (He.ga K "Reading") "__init__")) = true),
  fun K => decide (PySem.W.findIn K (.ref (He.ga K "Reading")) "forms" = some (some (.ref (He.ma K (He.ga K "Reading") "forms")))),
  fun K => decide (PySem.W.isFn K (.ref (He.ma K (He.ga K "Reading") "forms")) = true),
  fun K => decide (PySem.W.findIn K (.ref (He.ga K "Reading")) "_table" = some (some (.ref (He.ma K (He.ga K "Reading") "_table")))),
  fun K => decide (PySem.W.isFn K (.ref (He.ma K (He.ga K "Reading") "_table")) = true),
  fun K => decide (PySem.W.findIn K (.ref (He.ga K "Reading")) "_check_last_task" = some (some (.ref (He.ma K (He.ga K "Reading") "_check_last_task"))))]
noncomputable def hkFa11 : List FaW := [
  fun K => decide (PySem.W.isFn K (.ref (He.ma K (He.ga K "Reading") "_check_last_task")) = true),
  fun K => decide (PySem.W.findIn K (.ref (He.ga K "Reading")) "_can_stand" = some (some (.ref (He.ma K (He.ga K "Reading") "_can_stand")))),
  fun K => decide (PySem.W.isFn K (.ref (He.ma K (He.ga K "Reading") "_can_stand")) = true),
  fun K => decide (PySem.W.findIn K (.ref (He.ga K "Reading")) "_change_blocks" = some (some (.ref (He.ma K (He.ga K "Reading") "_change_blocks")))),
  fun K => decide (PySem.W.isFn K (.ref (He.ma K (He.ga K "Reading") "_change_blocks")) = true),
  fun K => decide (PySem.W.findIn K (.ref (He.ga K "Reading")) "end" = some (some (.ref (He.ma K (He.ga K "Reading") "end")))),
  fun K => decide (PySem.W.isFn K (.ref (He.ma K (He.ga K "Reading") "end")) = true),
  fun K => decide (PySem.W.findIn K (.ref (He.ga K "Reading")) "add_line" = some (some (.ref (He.ma K (He.ga K "Reading") "add_line")))),
  fun K => decide (PySem.W.isFn K (.ref (He.ma K (He.ga K "Reading") "add_line")) = true),
  fun K => decide (PySem.W.findIn K (.ref (He.ga K "Statement")) "__init__" = some (some (.ref (He.ma K (He.ga K "Statement") "__init__")))),
  fun K => decide (PySem.W.isFn K (.ref (He.ma K (He.ga K "Statement") "__init__")) = true),
  fun K => decide (PySem.W.findIn K (.ref (He.ga K "Task")) "__init__" = some (some (.ref (He.ma K (He.ga K "Task") "__init__")))),
  fun K => decide (PySem.W.isFn K (.ref (He.ma K (He.ga K "Task") "__init__")) = true),
  fun K => decide (PySem.W.findIn K (.ref (He.ga K "Layout")) "_landing" = some (some (.ref (He.ma K (He.ga K "Layout") "_landing")))),
  fun K => decide (PySem.W.isFn K (.ref (He.ma K (He.ga K "Layout") "_landing")) = true),
  fun K => decide (PySem.W.findIn K (.ref (He.ga K "Layout")) "_aside" = some (some (.ref (He.ma K (He.ga K "Layout") "_aside")))),
  fun K => decide (PySem.W.isFn K (.ref (He.ma K (He.ga K "Layout") "_aside")) = true),
  fun K => decide (PySem.W.findIn K (.ref (He.ga K "Layout")) "find_tasks" = some (some (.ref (He.ma K (He.ga K "Layout") "find_tasks")))),
  fun K => decide (PySem.W.isFn K (.ref (He.ma K (He.ga K "Layout") "find_tasks")) = true),
  fun K => decide (PySem.W.findIn K (.ref (He.ga K "Layout")) "find_statements" = some (some (.ref (He.ma K (He.ga K "Layout") "find_statements"))))]
noncomputable def hkFa12 : List FaW := [
  fun K => decide (PySem.W.isFn K (.ref (He.ma K (He.ga K "Layout") "find_statements")) = true),
  fun K => decide (PySem.W.findIn K (.ref (He.ga K "Layout")) "_find_blocks" = some (some (.ref (He.ma K (He.ga K "Layout") "_find_blocks")))),
  fun K => decide (PySem.W.isFn K (.ref (He.ma K (He.ga K "Layout") "_find_blocks")) = true),
  fun K => decide (PySem.W.findIn K (.ref (He.ga K "Layout")) "__init__" = some (some (.ref (He.ma K (He.ga K "Layout") "__init__")))),
  fun K => decide (PySem.W.isFn K (.ref (He.ma K (He.ga K "Layout") "__init__")) = true),
  fun K => decide (PySem.W.findIn K (.ref (He.ga K "Plan")) "__init__" = some (some (.ref (He.ma K (He.ga K "Plan") "__init__")))),
  fun K => decide (PySem.W.isFn K (.ref (He.ma K (He.ga K "Plan") "__init__")) = true),
  fun K => decide (PySem.W.findIn K (.ref (He.ga K "Program")) "__init__" = some (some (.ref (He.ma K (He.ga K "Program") "__init__")))),
  fun K => decide (PySem.W.isFn K (.ref (He.ma K (He.ga K "Program") "__init__")) = true),
  fun K => decide (PySem.W.findIn K (.ref (He.ga K "Program")) "__eq__" = some (some (.ref (He.ma K (He.ga K "Program") "__eq__")))),
  fun K => decide (PySem.W.isFn K (.ref (He.ma K (He.ga K "Program") "__eq__")) = true),
  fun K => decide (PySem.W.nsIn K mainGlobals "CORES" = some (some (.ref (He.ga K "CORES")))),
  fun K => decide (rdTab K (.ref (He.ga K "CORES")) = some Mi.CORES),
  fun K => decide (PySem.W.nsIn K mainGlobals "SLICE" = some (some (.ref (He.ga K "SLICE")))),
  fun K => decide (rdTab K (.ref (He.ga K "SLICE")) = some Mi.SLICE),
  fun K => decide (PySem.W.nsIn K mainGlobals "STATEMENTS" = some (some (.ref (He.ga K "STATEMENTS")))),
  fun K => decide (rdTab K (.ref (He.ga K "STATEMENTS")) = some Mi.STATEMENTS),
  fun K => decide (PySem.W.nsIn K mainGlobals "DECLARATIONS" = some (some (.ref (He.ga K "DECLARATIONS")))),
  fun K => decide (rdTab K (.ref (He.ga K "DECLARATIONS")) = some Mi.DECLARATIONS),
  fun K => decide (PySem.W.nsIn K mainGlobals "TASKS" = some (some (.ref (He.ga K "TASKS"))))]
noncomputable def hkFa13 : List FaW := [
  fun K => decide (rdTab K (.ref (He.ga K "TASKS")) = some Mi.TASKS),
  fun K => decide (PySem.W.nsIn K mainGlobals "KEPT" = some (some (.ref (He.ga K "KEPT")))),
  fun K => decide (rdTxts K (.ref (He.ga K "KEPT")) = some Mi.KEPT),
  fun K => decide (PySem.W.nsIn K mainGlobals "BLOCKS" = some (some (.ref (He.ga K "BLOCKS")))),
  fun K => decide (rdTxts K (.ref (He.ga K "BLOCKS")) = some [("if" : Str), "while", "repeat"]),
  fun K => decide (PySem.W.nsIn K mainGlobals "DECLARES" = some (some (.ref (He.ga K "DECLARES")))),
  fun K => decide (rdDict K (He.ga K "DECLARES") = some declList),
  fun K => decide (PySem.W.nsIn K mainGlobals "MOST" = some (some (.ref (He.ga K "MOST")))),
  fun K => decide (rdDict K (He.ga K "MOST") = some mostList),
  fun K => decide (PySem.W.nsIn K mainGlobals "WANTED" = some (some (.ref (He.ga K "WANTED")))),
  fun K => decide (rdDict K (He.ga K "WANTED") = some wantList),
  fun K => conS K "LETTERS" Mi.LETTERS,
  fun K => conS K "DIGITS" Mi.DIGITS,
  fun K => conI K "LONGEST_NAME" 8,
  fun K => conI K "GREATEST" 999,
  fun K => conI K "MOST_WORDS" 40,
  fun K => conI K "MOST_OPENED" 6,
  fun K => conI K "MOST_LINES" 80,
  fun K => conI K "DEEPEST" 6,
  fun K => decide (PySem.W.nsIn K mainGlobals "len" = some none)]
noncomputable def hkFa14 : List FaW := [
  fun K => decide (PySem.W.nsIn K mainGlobals "abs" = some none),
  fun K => decide (PySem.W.nsIn K mainGlobals "int" = some none),
  fun K => decide (PySem.W.nsIn K mainGlobals "bool" = some none),
  fun K => decide (PySem.W.nsIn K mainGlobals "max" = some none),
  fun K => decide (PySem.W.nsIn K mainGlobals "min" = some none),
  fun K => decide (PySem.W.nsIn K mainGlobals "range" = some none),
  fun K => decide (PySem.W.nsIn K mainGlobals "all" = some none),
  fun K => decide (PySem.W.nsIn K mainGlobals "any" = some none),
  fun K => decide (PySem.W.nsIn K mainGlobals "isinstance" = some none),
  fun K => decide (PySem.W.nsIn K mainGlobals "repr" = some none),
  fun K => decide (PySem.W.nsIn K mainGlobals "ValueError" = some none),
  fun K => decide (PySem.W.nsIn K mainGlobals "str" = some none),
  fun K => decide (PySem.W.nsIn K mainGlobals "tuple" = some none),
  fun K => decide (PySem.W.nsIn K mainGlobals "enumerate" = some none),
  fun K => decide (PySem.W.nsIn K mainGlobals "zip" = some none),
  fun K => decide (PySem.W.nsIn K mainGlobals "reversed" = some none),
  fun K => decide (PySem.W.nsIn K mainGlobals "set" = some none)]
noncomputable def hkFa : List FaW := hkFa0 ++ (hkFa1 ++ (hkFa2 ++ (hkFa3 ++ (hkFa4 ++ (hkFa5 ++ (hkFa6 ++ (hkFa7 ++ (hkFa8 ++ (hkFa9 ++ (hkFa10 ++ (hkFa11 ++ (hkFa12 ++ (hkFa13 ++ (hkFa14))))))))))))))
noncomputable def hkFn0 : List DnD := [
  ⟨fun K => (prG K (He.ga K "Program") "text"), "text", "Program.text", (inClass (PySem.Challenge.pw_whatspeed_k17_what_a_program_tells.main.body.getD 56 (.Pass ⟨0, 0, 0, 0⟩)) 1), [], []⟩,
  ⟨fun K => (prG K (He.ga K "Program") "lines"), "lines", "Program.lines", (inClass (PySem.Challenge.pw_whatspeed_k17_what_a_program_tells.main.body.getD 56 (.Pass ⟨0, 0, 0, 0⟩)) 2), [], []⟩,
  ⟨fun K => (prG K (He.ga K "Program") "parts"), "parts", "Program.parts", (inClass (PySem.Challenge.pw_whatspeed_k17_what_a_program_tells.main.body.getD 56 (.Pass ⟨0, 0, 0, 0⟩)) 3), [], []⟩,
  ⟨fun K => (prG K (He.ga K "Program") "tasks"), "tasks", "Program.tasks", (inClass (PySem.Challenge.pw_whatspeed_k17_what_a_program_tells.main.body.getD 56 (.Pass ⟨0, 0, 0, 0⟩)) 4), [], []⟩,
  ⟨fun K => (He.ma K (He.ga K "BadProgram") "__init__"), "__init__", "BadProgram.__init__", (inClass (PySem.Challenge.pw_whatspeed_k17_what_a_program_tells.main.body.getD 3 (.Pass ⟨0, 0, 0, 0⟩)) 0), [], []⟩,
  ⟨fun K => (He.ma K (He.ga K "Doubled") "__init__"), "__init__", "Doubled.__init__", (inClass (PySem.Challenge.pw_whatspeed_k17_what_a_program_tells.main.body.getD 4 (.Pass ⟨0, 0, 0, 0⟩)) 0), [], []⟩,
  ⟨fun K => (He.ma K (He.ga K "Unnamed") "__init__"), "__init__", "Unnamed.__init__", (inClass (PySem.Challenge.pw_whatspeed_k17_what_a_program_tells.main.body.getD 5 (.Pass ⟨0, 0, 0, 0⟩)) 0), [], []⟩,
  ⟨fun K => (He.ga K "_made_of"), "_made_of", "_made_of", (PySem.Challenge.pw_whatspeed_k17_what_a_program_tells.main.body.getD 13 (.Pass ⟨0, 0, 0, 0⟩)), [], []⟩,
  ⟨fun K => (He.ga K "is_name"), "is_name", "is_name", (PySem.Challenge.pw_whatspeed_k17_what_a_program_tells.main.body.getD 11 (.Pass ⟨0, 0, 0, 0⟩)), [], []⟩,
  ⟨fun K => (He.ga K "read_whole"), "read_whole", "read_whole", (PySem.Challenge.pw_whatspeed_k17_what_a_program_tells.main.body.getD 12 (.Pass ⟨0, 0, 0, 0⟩)), [], []⟩,
  ⟨fun K => (He.ga K "_most_opened"), "_most_opened", "_most_opened", (PySem.Challenge.pw_whatspeed_k17_what_a_program_tells.main.body.getD 20 (.Pass ⟨0, 0, 0, 0⟩)), [], []⟩,
  ⟨fun K => (He.ga K "_last_outside"), "_last_outside", "_last_outside", (PySem.Challenge.pw_whatspeed_k17_what_a_program_tells.main.body.getD 21 (.Pass ⟨0, 0, 0, 0⟩)), [], []⟩,
  ⟨fun K => (He.ga K "_joined"), "_joined", "_joined", (PySem.Challenge.pw_whatspeed_k17_what_a_program_tells.main.body.getD 22 (.Pass ⟨0, 0, 0, 0⟩)), [], []⟩,
  ⟨fun K => (He.ga K "_read_value"), "_read_value", "_read_value", (PySem.Challenge.pw_whatspeed_k17_what_a_program_tells.main.body.getD 23 (.Pass ⟨0, 0, 0, 0⟩)), [], []⟩,
  ⟨fun K => (He.ga K "_read_sum"), "_read_sum", "_read_sum", (PySem.Challenge.pw_whatspeed_k17_what_a_program_tells.main.body.getD 24 (.Pass ⟨0, 0, 0, 0⟩)), [], []⟩,
  ⟨fun K => (He.ga K "_read_product"), "_read_product", "_read_product", (PySem.Challenge.pw_whatspeed_k17_what_a_program_tells.main.body.getD 25 (.Pass ⟨0, 0, 0, 0⟩)), [], []⟩,
  ⟨fun K => (He.ga K "_read_factor"), "_read_factor", "_read_factor", (PySem.Challenge.pw_whatspeed_k17_what_a_program_tells.main.body.getD 26 (.Pass ⟨0, 0, 0, 0⟩)), [], []⟩,
  ⟨fun K => (He.ga K "read_expression"), "read_expression", "read_expression", (PySem.Challenge.pw_whatspeed_k17_what_a_program_tells.main.body.getD 18 (.Pass ⟨0, 0, 0, 0⟩)), [], []⟩,
  ⟨fun K => (He.ga K "variables_of"), "variables_of", "variables_of", (PySem.Challenge.pw_whatspeed_k17_what_a_program_tells.main.body.getD 19 (.Pass ⟨0, 0, 0, 0⟩)), [], []⟩,
  ⟨fun K => (He.ga K "_has_length"), "_has_length", "_has_length", (PySem.Challenge.pw_whatspeed_k17_what_a_program_tells.main.body.getD 36 (.Pass ⟨0, 0, 0, 0⟩)), [], []⟩]
noncomputable def hkFn1 : List DnD := [
  ⟨fun K => (He.ga K "_read_word"), "_read_word", "_read_word", (PySem.Challenge.pw_whatspeed_k17_what_a_program_tells.main.body.getD 38 (.Pass ⟨0, 0, 0, 0⟩)), [], []⟩,
  ⟨fun K => (He.ga K "_read_slots"), "_read_slots", "_read_slots", (PySem.Challenge.pw_whatspeed_k17_what_a_program_tells.main.body.getD 37 (.Pass ⟨0, 0, 0, 0⟩)), [], []⟩,
  ⟨fun K => (He.ga K "read_form"), "read_form", "read_form", (PySem.Challenge.pw_whatspeed_k17_what_a_program_tells.main.body.getD 35 (.Pass ⟨0, 0, 0, 0⟩)), [], []⟩,
  ⟨fun K => (He.ga K "declared_names"), "declared_names", "declared_names", (PySem.Challenge.pw_whatspeed_k17_what_a_program_tells.main.body.getD 48 (.Pass ⟨0, 0, 0, 0⟩)), [], []⟩,
  ⟨fun K => (He.ga K "read_forms"), "read_forms", "read_forms", (PySem.Challenge.pw_whatspeed_k17_what_a_program_tells.main.body.getD 45 (.Pass ⟨0, 0, 0, 0⟩)), [], []⟩,
  ⟨fun K => (He.ga K "check_doubled"), "check_doubled", "check_doubled", (PySem.Challenge.pw_whatspeed_k17_what_a_program_tells.main.body.getD 46 (.Pass ⟨0, 0, 0, 0⟩)), [], []⟩,
  ⟨fun K => (He.ga K "check_named"), "check_named", "check_named", (PySem.Challenge.pw_whatspeed_k17_what_a_program_tells.main.body.getD 47 (.Pass ⟨0, 0, 0, 0⟩)), [], []⟩,
  ⟨fun K => (He.ga K "_law_made"), "_law_made", "_law_made", (PySem.Challenge.pw_whatspeed_k17_what_a_program_tells.main.body.getD 68 (.Pass ⟨0, 0, 0, 0⟩)), [], []⟩,
  ⟨fun K => (He.ga K "_law_pot"), "_law_pot", "_law_pot", (PySem.Challenge.pw_whatspeed_k17_what_a_program_tells.main.body.getD 58 (.Pass ⟨0, 0, 0, 0⟩)), [], []⟩,
  ⟨fun K => (He.ga K "_law_take"), "_law_take", "_law_take", (PySem.Challenge.pw_whatspeed_k17_what_a_program_tells.main.body.getD 59 (.Pass ⟨0, 0, 0, 0⟩)), [], []⟩,
  ⟨fun K => (He.ga K "_law_of"), "_law_of", "_law_of", (PySem.Challenge.pw_whatspeed_k17_what_a_program_tells.main.body.getD 60 (.Pass ⟨0, 0, 0, 0⟩)), [], []⟩,
  ⟨fun K => (He.ga K "_law_factor"), "_law_factor", "_law_factor", (PySem.Challenge.pw_whatspeed_k17_what_a_program_tells.main.body.getD 61 (.Pass ⟨0, 0, 0, 0⟩)), [], []⟩,
  ⟨fun K => (He.ga K "_law_sum"), "_law_sum", "_law_sum", (PySem.Challenge.pw_whatspeed_k17_what_a_program_tells.main.body.getD 62 (.Pass ⟨0, 0, 0, 0⟩)), [], []⟩,
  ⟨fun K => (He.ga K "_law_value"), "_law_value", "_law_value", (PySem.Challenge.pw_whatspeed_k17_what_a_program_tells.main.body.getD 63 (.Pass ⟨0, 0, 0, 0⟩)), [], []⟩,
  ⟨fun K => (He.ga K "_law_said"), "_law_said", "_law_said", (PySem.Challenge.pw_whatspeed_k17_what_a_program_tells.main.body.getD 64 (.Pass ⟨0, 0, 0, 0⟩)), [], []⟩,
  ⟨fun K => (He.ga K "_law_plain"), "_law_plain", "_law_plain", (PySem.Challenge.pw_whatspeed_k17_what_a_program_tells.main.body.getD 65 (.Pass ⟨0, 0, 0, 0⟩)), [], []⟩,
  ⟨fun K => (He.ga K "_law_block"), "_law_block", "_law_block", (PySem.Challenge.pw_whatspeed_k17_what_a_program_tells.main.body.getD 66 (.Pass ⟨0, 0, 0, 0⟩)), [], []⟩,
  ⟨fun K => (He.ga K "_law_rows"), "_law_rows", "_law_rows", (PySem.Challenge.pw_whatspeed_k17_what_a_program_tells.main.body.getD 67 (.Pass ⟨0, 0, 0, 0⟩)), [], []⟩,
  ⟨fun K => (He.ga K "_law_right"), "_law_right", "_law_right", (PySem.Challenge.pw_whatspeed_k17_what_a_program_tells.main.body.getD 69 (.Pass ⟨0, 0, 0, 0⟩)), [], []⟩,
  ⟨fun K => (He.ga K "law"), "law", "law", (PySem.Challenge.pw_whatspeed_k17_what_a_program_tells.main.body.getD 70 (.Pass ⟨0, 0, 0, 0⟩)), [], []⟩]
noncomputable def hkFn2 : List DnD := [
  ⟨fun K => (He.ma K (He.ga K "Form") "__init__"), "__init__", "Form.__init__", (inClass (PySem.Challenge.pw_whatspeed_k17_what_a_program_tells.main.body.getD 34 (.Pass ⟨0, 0, 0, 0⟩)) 0), [], []⟩,
  ⟨fun K => (He.ma K (He.ga K "Form") "uses"), "uses", "Form.uses", (inClass (PySem.Challenge.pw_whatspeed_k17_what_a_program_tells.main.body.getD 34 (.Pass ⟨0, 0, 0, 0⟩)) 1), [], []⟩,
  ⟨fun K => (He.ma K (He.ga K "Reading") "__init__"), "__init__", "Reading.__init__", (inClass (PySem.Challenge.pw_whatspeed_k17_what_a_program_tells.main.body.getD 49 (.Pass ⟨0, 0, 0, 0⟩)) 0), [], []⟩,
  ⟨fun K => (He.ma K (He.ga K "Reading") "forms"), "forms", "Reading.forms", (inClass (PySem.Challenge.pw_whatspeed_k17_what_a_program_tells.main.body.getD 49 (.Pass ⟨0, 0, 0, 0⟩)) 1), [], []⟩,
  ⟨fun K => (He.ma K (He.ga K "Reading") "_table"), "_table", "Reading._table", (inClass (PySem.Challenge.pw_whatspeed_k17_what_a_program_tells.main.body.getD 49 (.Pass ⟨0, 0, 0, 0⟩)) 4), [], []⟩,
  ⟨fun K => (He.ma K (He.ga K "Reading") "_check_last_task"), "_check_last_task", "Reading._check_last_task", (inClass (PySem.Challenge.pw_whatspeed_k17_what_a_program_tells.main.body.getD 49 (.Pass ⟨0, 0, 0, 0⟩)) 5), [], []⟩,
  ⟨fun K => (He.ma K (He.ga K "Reading") "_can_stand"), "_can_stand", "Reading._can_stand", (inClass (PySem.Challenge.pw_whatspeed_k17_what_a_program_tells.main.body.getD 49 (.Pass ⟨0, 0, 0, 0⟩)) 6), [], []⟩,
  ⟨fun K => (He.ma K (He.ga K "Reading") "_change_blocks"), "_change_blocks", "Reading._change_blocks", (inClass (PySem.Challenge.pw_whatspeed_k17_what_a_program_tells.main.body.getD 49 (.Pass ⟨0, 0, 0, 0⟩)) 7), [], []⟩,
  ⟨fun K => (He.ma K (He.ga K "Reading") "end"), "end", "Reading.end", (inClass (PySem.Challenge.pw_whatspeed_k17_what_a_program_tells.main.body.getD 49 (.Pass ⟨0, 0, 0, 0⟩)) 3), [], []⟩,
  ⟨fun K => (He.ma K (He.ga K "Reading") "add_line"), "add_line", "Reading.add_line", (inClass (PySem.Challenge.pw_whatspeed_k17_what_a_program_tells.main.body.getD 49 (.Pass ⟨0, 0, 0, 0⟩)) 2), [], []⟩,
  ⟨fun K => (He.ma K (He.ga K "Statement") "__init__"), "__init__", "Statement.__init__", (inClass (PySem.Challenge.pw_whatspeed_k17_what_a_program_tells.main.body.getD 51 (.Pass ⟨0, 0, 0, 0⟩)) 0), [], []⟩,
  ⟨fun K => (He.ma K (He.ga K "Task") "__init__"), "__init__", "Task.__init__", (inClass (PySem.Challenge.pw_whatspeed_k17_what_a_program_tells.main.body.getD 52 (.Pass ⟨0, 0, 0, 0⟩)) 0), [], []⟩,
  ⟨fun K => (He.ma K (He.ga K "Layout") "_landing"), "_landing", "Layout._landing", (inClass (PySem.Challenge.pw_whatspeed_k17_what_a_program_tells.main.body.getD 54 (.Pass ⟨0, 0, 0, 0⟩)) 4), [], []⟩,
  ⟨fun K => (He.ma K (He.ga K "Layout") "_aside"), "_aside", "Layout._aside", (inClass (PySem.Challenge.pw_whatspeed_k17_what_a_program_tells.main.body.getD 54 (.Pass ⟨0, 0, 0, 0⟩)) 5), [], []⟩,
  ⟨fun K => (He.ma K (He.ga K "Layout") "find_tasks"), "find_tasks", "Layout.find_tasks", (inClass (PySem.Challenge.pw_whatspeed_k17_what_a_program_tells.main.body.getD 54 (.Pass ⟨0, 0, 0, 0⟩)) 1), [], []⟩,
  ⟨fun K => (He.ma K (He.ga K "Layout") "find_statements"), "find_statements", "Layout.find_statements", (inClass (PySem.Challenge.pw_whatspeed_k17_what_a_program_tells.main.body.getD 54 (.Pass ⟨0, 0, 0, 0⟩)) 2), [], []⟩,
  ⟨fun K => (He.ma K (He.ga K "Layout") "_find_blocks"), "_find_blocks", "Layout._find_blocks", (inClass (PySem.Challenge.pw_whatspeed_k17_what_a_program_tells.main.body.getD 54 (.Pass ⟨0, 0, 0, 0⟩)) 3), [], []⟩,
  ⟨fun K => (He.ma K (He.ga K "Layout") "__init__"), "__init__", "Layout.__init__", (inClass (PySem.Challenge.pw_whatspeed_k17_what_a_program_tells.main.body.getD 54 (.Pass ⟨0, 0, 0, 0⟩)) 0), [], []⟩,
  ⟨fun K => (He.ma K (He.ga K "Plan") "__init__"), "__init__", "Plan.__init__", (inClass (PySem.Challenge.pw_whatspeed_k17_what_a_program_tells.main.body.getD 53 (.Pass ⟨0, 0, 0, 0⟩)) 0), [], []⟩,
  ⟨fun K => (He.ma K (He.ga K "Program") "__init__"), "__init__", "Program.__init__", (inClass (PySem.Challenge.pw_whatspeed_k17_what_a_program_tells.main.body.getD 56 (.Pass ⟨0, 0, 0, 0⟩)) 0), [], []⟩]
noncomputable def hkFn3 : List DnD := [
  ⟨fun K => (He.ma K (He.ga K "Program") "__eq__"), "__eq__", "Program.__eq__", (inClass (PySem.Challenge.pw_whatspeed_k17_what_a_program_tells.main.body.getD 56 (.Pass ⟨0, 0, 0, 0⟩)) 6), [], []⟩]
noncomputable def hkFn : List DnD := hkFn0 ++ (hkFn1 ++ (hkFn2 ++ (hkFn3)))
noncomputable def hkTs0 : List He.Tab := [
  (fun K => (He.ga K "DECLARES"), ["lock", "lent", "queue", "cell", "part", "task", "later"]),
  (fun K => (He.ga K "MOST"), ["lock", "queue", "cell", "part", "task"]),
  (fun K => (He.ga K "WANTED"), ["LOCK", "QUEUE", "PART", "TASK", "LATER", "VARIABLE"])]
noncomputable def hkTs : List He.Tab := hkTs0
end Ws
namespace Ws
open PySem PySem.W PySem.Calls PyProof.Rows
noncomputable abbrev hkR : OpenRow := OpenLaw.row PySem.Challenge.rw_whatspeed_k17_what_a_program_tells
noncomputable abbrev hkQ : Program := view hkR.prog [70]
noncomputable def hkN0 : List PySem.Str := [("_wall" : PySem.Str), ("__name__" : PySem.Str), ("SpeedError" : PySem.Str), ("BadProgram" : PySem.Str), ("Doubled" : PySem.Str), ("Unnamed" : PySem.Str), ("KEPT" : PySem.Str), ("LETTERS" : PySem.Str), ("DIGITS" : PySem.Str), ("LONGEST_NAME" : PySem.Str), ("is_name" : PySem.Str), ("read_whole" : PySem.Str), ("_made_of" : PySem.Str), ("MOST_WORDS" : PySem.Str), ("MOST_OPENED" : PySem.Str), ("GREATEST" : PySem.Str), ("read_expression" : PySem.Str), ("variables_of" : PySem.Str), ("_most_opened" : PySem.Str), ("_last_outside" : PySem.Str)]
noncomputable def hkN1 : List PySem.Str := [("_joined" : PySem.Str), ("_read_value" : PySem.Str), ("_read_sum" : PySem.Str), ("_read_product" : PySem.Str), ("_read_factor" : PySem.Str), ("CORES" : PySem.Str), ("SLICE" : PySem.Str), ("DECLARATIONS" : PySem.Str), ("TASKS" : PySem.Str), ("STATEMENTS" : PySem.Str), ("WANTED" : PySem.Str), ("Form" : PySem.Str), ("read_form" : PySem.Str), ("_has_length" : PySem.Str), ("_read_slots" : PySem.Str), ("_read_word" : PySem.Str), ("MOST_LINES" : PySem.Str), ("DEEPEST" : PySem.Str), ("BLOCKS" : PySem.Str), ("DECLARES" : PySem.Str)]
noncomputable def hkN2 : List PySem.Str := [("MOST" : PySem.Str), ("read_forms" : PySem.Str), ("check_doubled" : PySem.Str), ("check_named" : PySem.Str), ("declared_names" : PySem.Str), ("Reading" : PySem.Str), ("Statement" : PySem.Str), ("Task" : PySem.Str), ("Plan" : PySem.Str), ("Layout" : PySem.Str), ("Program" : PySem.Str), ("_law_pot" : PySem.Str), ("_law_take" : PySem.Str), ("_law_of" : PySem.Str), ("_law_factor" : PySem.Str), ("_law_sum" : PySem.Str), ("_law_value" : PySem.Str), ("_law_said" : PySem.Str), ("_law_plain" : PySem.Str), ("_law_block" : PySem.Str)]
noncomputable def hkN3 : List PySem.Str := [("_law_rows" : PySem.Str), ("_law_made" : PySem.Str), ("_law_right" : PySem.Str)]
noncomputable def hkN : List PySem.Str := hkN0 ++ hkN1 ++ hkN2 ++ hkN3
noncomputable abbrev hkH : Hook := hookW 11 1000 hkFa hkFn hkTs
theorem hkRun0 (w : World) : HandSHeadRun.RunEq hkR hkQ hkH (obW 11 1000 hkFa hkFn hkTs) 30000 hkN (w.withFollow "special-get-raises" false) := by
  intro os
  kernel_rfl
theorem hkRun1 (w : World) : HandSHeadRun.RunEq hkR hkQ hkH (obW 11 1000 hkFa hkFn hkTs) 30000 hkN (w.withFollow "special-get-raises" true) := by
  intro os
  kernel_rfl
theorem hkRun (w : World) : HandSHeadRun.RunEq hkR hkQ hkH (obW 11 1000 hkFa hkFn hkTs) 30000 hkN w := byRow2 "special-get-raises" (P := fun w => HandSHeadRun.RunEq hkR hkQ hkH (obW 11 1000 hkFa hkFn hkTs) 30000 hkN w) hkRun0 hkRun1 w
end Ws

namespace Ws
open PySem PySem.Spec PyProof.Rows L2
noncomputable abbrev sMade : Stmt := (PySem.Challenge.pw_whatspeed_k17_what_a_program_tells.main.body.getD 13 (.Pass ⟨0, 0, 0, 0⟩))
noncomputable abbrev NMade : List Str := ["word", "signs", "sign"]
noncomputable abbrev PMade : List Str := ["word", "signs"]
theorem scMade : FnScope NMade PMade (defScope sMade) := ⟨rfl, rfl, rfl, by decide +kernel, rfl, by decide +kernel, by decide +kernel⟩
noncomputable abbrev sIsName : Stmt := (PySem.Challenge.pw_whatspeed_k17_what_a_program_tells.main.body.getD 11 (.Pass ⟨0, 0, 0, 0⟩))
noncomputable abbrev NIsName : List Str := ["word"]
noncomputable abbrev PIsName : List Str := ["word"]
theorem scIsName : FnScope NIsName PIsName (defScope sIsName) := ⟨rfl, rfl, rfl, by decide +kernel, rfl, by decide +kernel, by decide +kernel⟩
noncomputable abbrev sRWhole : Stmt := (PySem.Challenge.pw_whatspeed_k17_what_a_program_tells.main.body.getD 12 (.Pass ⟨0, 0, 0, 0⟩))
noncomputable abbrev NRWhole : List Str := ["word", "low", "high", "number"]
noncomputable abbrev PRWhole : List Str := ["word", "low", "high"]
theorem scRWhole : FnScope NRWhole PRWhole (defScope sRWhole) := ⟨rfl, rfl, rfl, by decide +kernel, rfl, by decide +kernel, by decide +kernel⟩
/-! ### words: the package's -/
noncomputable def spMade : Sp := fun vs H Q _ => ∃ w s : Str, vs = [.str w, .str s] ∧ w.length ≤ 1000 ∧ ∀ H', Same H H' → Q (.bl (Mi.allIn w s)) H'
noncomputable def spIsName : Sp := fun vs H Q _ => ∃ w : Str, vs = [.str w] ∧ w.length ≤ sizeLine ∧ ∀ H', Same H H' → Q (.bl (Mi.isName w)) H'
noncomputable def oI : Option Int → V
  | none => .non
  | some i => .int i
noncomputable def spRWhole : Sp := fun vs H Q _ => ∃ (w : Str) (lo hi : Int), vs = [.str w, .int lo, .int hi] ∧ w.length ≤ sizeLine ∧ 0 ≤ hi ∧ hi < 1000 ∧ ∀ H', Same H H' → Q (oI (Mi.wholeP w lo hi)) H'
section
variable {P : Program} {w : World} {K : PySem.W.Frag} {mg : Str → Option Value} {base : Heap} {f : Addr} {fd : FuncData}
theorem ok_made (F : L2.Fun K "_made_of" "_made_of" sMade f fd) (b : Binds K fd PMade []) (B : Bi mg) : FnR P w K mg base CX0 1 f spMade := by
  refine fnR_of F b scMade (fun vs H Q E h => ?_) (fun cdv A outer s H vs Q E hr h => ?_)
  · obtain ⟨_, _, rfl, _⟩ := h
    rfl
  · have sc := scMade
    obtain ⟨x, z, rfl, hx, k⟩ := h
    refine ⟨_, (pss_one (ps_ret (pe_callB (cr_all rfl) (by rfl) B.all (by decide +kernel) (pa_cons (pe_lc (own := [("sign", 2)]) rfl sc.nd (pi_str (pv 0)) (blkOk_by (N := NMade) (sc := defScope sMade) (by decide +kernel)) (fun _ _ _ _ _ => by exact (pg_name (i := 2) sc.nd rfl (Or.inl rfl))) (fun _ _ _ _ _ => by exact pts_nil) (fun _ _ _ _ _ => by exact (pe_cmpR op_in_sign (pv 2) (pv 1) rfl))) pa_nil)))), ?_⟩
    refine ⟨_, rfl, x, rfl, fun D nD => ?_⟩
    refine lc_str (fun i G => G D = some (.lst ((x.cps.toList.take i).map fun c => V.bl (decide (c ∈ z.cps.toList)))) ∧ Same H G) ⟨upd_same, Same.new nD⟩ (fun i c G hc hp => ?_) (fun G hp => ?_)
    · have e2 : x.cps.toList[i]? = some c := by rw [Array.getElem?_toList]; exact hc
      have il : i < x.cps.size := (Array.getElem?_eq_some_iff.mp hc).1
      have ne : (x.cps.toList.take (i + 1)).map (fun c => V.bl (decide (c ∈ z.cps.toList))) = (x.cps.toList.take i).map (fun c => V.bl (decide (c ∈ z.cps.toList))) ++ [V.bl (decide (c ∈ z.cps.toList))] := by
        rw [List.take_add_one, e2, List.map_append]; rfl
      refine ⟨rfl, ?_⟩
      refine ⟨_, rfl, _, rfl, c, z, rfl, rfl, _, hp.1, ?_, ?_, ?_⟩
      · rw [List.length_map, List.length_take]
        have hx' : x.cps.size ≤ 1000 := hx
        exact Nat.lt_of_le_of_lt (Nat.min_le_left _ _) (Nat.lt_of_lt_of_le il (Nat.le_trans hx' (by decide)))
      · rw [ne]; exact upd_same
      · exact fun b o h => (upd_ne (ne_of_none h nD)).trans (hp.2 b o h)
    · refine ⟨D, x.cps.toList.map (fun c => decide (c ∈ z.cps.toList)), rfl, .inl (.inl ?_), ?_⟩
      · rw [hp.1, List.map_map]
        have : x.cps.size = x.cps.toList.length := rfl
        rw [this, List.take_length]
        rfl
      · have e : ((x.cps.toList.map fun c => decide (c ∈ z.cps.toList)).all id) = Mi.allIn x z := by
          unfold Mi.allIn
          rw [List.all_map]; rfl
        show Q _ _
        rw [e]
        exact k G hp.2
theorem ok_isName {T : Addr} (F : L2.Fun K "is_name" "is_name" sIsName f fd) (b : Binds K fd PIsName []) (B : Bi mg) (gK : mg "KEPT" = some (.ref T)) (hK : ∀ H, SqT K H T (Mi.KEPT.map V.str)) (gL : ∃ t, mg "LETTERS" = some (.str Mi.LETTERS t)) (gLN : ∃ t, mg "LONGEST_NAME" = some (.int 8 t))
    (cM : CalF P w K mg base 1 "_made_of" spMade) : FnR P w K mg base CX0 2 f spIsName := by
  refine fnR_of F b scIsName (fun vs H Q E h => ?_) (fun cdv A outer s H vs Q E hr h => ?_)
  · obtain ⟨_, rfl, _⟩ := h
    rfl
  · have sc := scIsName
    obtain ⟨x, rfl, hx, k⟩ := h
    obtain ⟨tL, gL⟩ := gL
    obtain ⟨tN, gLN⟩ := gLN
    refine ⟨_, (pss_one (ps_ret (pe_and (pe_chain op_le op_le pe_int (pe_callB call_len_str (by rfl) B.len PySem.boot_len (pa_cons (pv 0) pa_nil)) (pe_glob (v := .int 8) rfl gLN ⟨_, rfl⟩)) (pe_and (pe_cmpR op_notIn_seq (pv 0) (pe_glob (v := .ref T) rfl gK rfl) rfl) (pe_one (pe_f cM hr (by omega) rfl (pa_cons (pv 0) (pa_cons (pe_glob (v := .str Mi.LETTERS) rfl gL ⟨_, rfl⟩) pa_nil)))))))), ?_⟩
    refine ⟨_, rfl, x, rfl, hx, _, _, rfl, rfl, _, rfl, ?_⟩
    have hl : x.length = x.cps.size := rfl
    by_cases h1 : (1 : Int) ≤ (x.length : Int)
    · refine ifT (decide_eq_true h1) ⟨_, _, rfl, rfl, _, rfl, ?_⟩
      by_cases h2 : (x.length : Int) ≤ 8
      · refine ifT (decide_eq_true h2) ⟨_, rfl, T, _, rfl, .inr (hK H), rfl, rfl, ?_⟩
        have e1 : (!inV (.str x) (Mi.KEPT.map V.str)) = decide (x ∉ Mi.KEPT) := by
          unfold inV
          rw [List.any_map]
          have : (Mi.KEPT.any ((fun y => eqV y (.str x)) ∘ V.str)) = decide (x ∈ Mi.KEPT) := by
            rw [Bool.eq_iff_iff, List.any_eq_true, decide_eq_true_iff]
            constructor
            · rintro ⟨y, hy, e⟩
              have e' : y = x := by simpa [eqV] using e
              exact e' ▸ hy
            · exact fun h => ⟨x, h, by simp [eqV]⟩
          rw [this]
          by_cases h : x ∈ Mi.KEPT <;> simp [h]
        refine ⟨_, rfl, ?_⟩
        show if (!inV (.str x) (Mi.KEPT.map V.str)) = true then _ else _
        rw [e1]
        by_cases h3 : x ∉ Mi.KEPT
        · refine ifT (decide_eq_true h3) ⟨_, rfl, ?_⟩
          refine ⟨x, _, rfl, by omega, fun H' s1 => ?_⟩
          have := k H' s1
          have e2 : Mi.isName x = Mi.allIn x Mi.LETTERS := by
            unfold Mi.isName
            rw [decide_eq_true (show 1 ≤ x.cps.size by omega), decide_eq_true (show x.cps.size ≤ 8 by omega), decide_eq_true h3]
            rfl
          rw [e2] at this
          exact this
        · refine ifF (by simpa using h3) ?_
          have e2 : Mi.isName x = false := by
            unfold Mi.isName
            rw [decide_eq_false h3]
            simp
          have := k H (Same.refl H)
          rw [e2] at this
          exact this
      · refine ifF (by simpa using h2) ?_
        have e2 : Mi.isName x = false := by
          unfold Mi.isName
          rw [decide_eq_false (show ¬ x.cps.size ≤ 8 by omega)]
          simp
        have := k H (Same.refl H)
        rw [e2] at this
        exact this
    · refine ifF (by simpa using h1) ⟨_, rfl, iteF ?_⟩
      have e2 : Mi.isName x = false := by
        unfold Mi.isName
        rw [decide_eq_false (show ¬ 1 ≤ x.cps.size by omega)]
        rfl
      have := k H (Same.refl H)
      rw [e2] at this
      exact this
theorem digits_len : ∀ n : Fin 1000, (Str.ofString (toString ((n.val : Nat) : Int))).length = Mi.digits n.val := by decide +kernel
theorem ok_rwhole (F : L2.Fun K "read_whole" "read_whole" sRWhole f fd) (b : Binds K fd PRWhole []) (B : Bi mg) (gS : mg "str" = none) (gD : ∃ t, mg "DIGITS" = some (.str Mi.DIGITS t))
    (cM : CalF P w K mg base 1 "_made_of" spMade) : FnR P w K mg base CX0 2 f spRWhole := by
  refine fnR_of F b scRWhole (fun vs H Q E h => ?_) (fun cdv A outer s H vs Q E hr h => ?_)
  · obtain ⟨_, _, _, rfl, _⟩ := h
    rfl
  · have sc := scRWhole
    obtain ⟨x, lo, hi, rfl, hx, h0, h1, k⟩ := h
    obtain ⟨tD, gD⟩ := gD
    refine ⟨_, (pss_cons (ps_if (PW.pt (pw_or (pt_not (pt_chain op_le op_le pe_int (pe_callB call_len_str (by rfl) B.len PySem.boot_len (pa_cons (pv 0) pa_nil)) (pe_callB call_len_str (by rfl) B.len PySem.boot_len (pa_cons (pe_callTy call_str_int (by rfl) gS (by decide +kernel) (pa_cons (pv 2) pa_nil)) pa_nil)))) (pw_or1 (pt_not (pt_val (pe_f cM hr (by omega) rfl (pa_cons (pv 0) (pa_cons (pe_glob (v := .str Mi.DIGITS) rfl gD ⟨_, rfl⟩) pa_nil)))))))) (pss_one (ps_ret pe_non)) pss_nil) (pss_cons (ps_if (PW.pt (pw_and (pt_cmpR op_eq (pe_ix ix_str (pv 0) pe_int (fun _ _ => rfl)) pe_str (nomark _)) (pw_and1 (pt_cmpR op_gt (pe_callB call_len_str (by rfl) B.len PySem.boot_len (pa_cons (pv 0) pa_nil)) pe_int (nomark _))))) (pss_one (ps_ret pe_non)) pss_nil) (pss_cons (ps_set (i := 3) sc.nd rfl (Or.inl rfl) (pe_callTy call_int_str (by rfl) B.int (by decide +kernel) (pa_cons (pv 0) pa_nil))) (pss_one (ps_ret (pe_ifExp (pt_chain op_le op_le (pv 1) (pv 3) (pv 2)) (pv 3) pe_non)))))), ?_⟩
    have hl : x.length = x.cps.size := rfl
    have hw : Mi.wholeP x lo hi = if (decide (1 ≤ x.cps.size) && decide (x.cps.size ≤ Mi.digits hi)) && Mi.allIn x Mi.DIGITS then (if x.cps.toList.head? = some 48 ∧ x.cps.size > 1 then none else if lo ≤ Mi.dig x ∧ Mi.dig x ≤ hi then some (Mi.dig x) else none) else none := rfl
    have hd : (Str.ofString (toString hi)).length = Mi.digits hi := by
      have := digits_len ⟨hi.toNat, by omega⟩
      rw [show ((⟨hi.toNat, by omega⟩ : Fin 1000).val : Int) = hi from by show (hi.toNat : Int) = hi; omega] at this
      exact this
    have d3 : Mi.digits hi ≤ 3 := by unfold Mi.digits; split <;> (try split) <;> decide
    have bad : (¬ (1 ≤ x.cps.size ∧ x.cps.size ≤ Mi.digits hi) ∨ Mi.allIn x Mi.DIGITS = false) → ∀ H', Same H H' → Q .non H' := fun h H' s1 => by
      have := k H' s1
      rw [hw, if_neg (by rcases h with h | h <;> simp [h])] at this
      exact this
    refine ⟨_, rfl, x, rfl, hx, _, _, rfl, rfl, _, rfl, ?_⟩
    by_cases h1 : (1 : Int) ≤ (x.length : Int)
    · refine ifT (decide_eq_true h1) ⟨_, rfl, hi, rfl, Nat.lt_of_le_of_lt (Nat.log2_le_self _) (by omega), _, rfl, by rw [hd]; exact Nat.le_trans d3 (by decide), _, _, rfl, rfl, _, rfl, ?_⟩
      have bad2 : ¬ (1 ≤ x.cps.size ∧ x.cps.size ≤ Mi.digits hi) → Q .non H := fun h => bad (.inl h) H (Same.refl H)
      show if (!decide ((x.length : Int) ≤ ((Str.ofString (toString hi)).length : Int))) = true then _ else _
      rw [hd]
      by_cases h2 : (x.length : Int) ≤ (Mi.digits hi : Int)
      · refine ifF (by simpa using h2) ?_
        refine ⟨_, rfl, x, _, rfl, by omega, fun H1 s1 => ⟨_, rfl, ?_⟩⟩
        cases ha : Mi.allIn x Mi.DIGITS with
        | false => exact iteT (bad (.inr ha) H1 s1)
        | true =>
          refine iteF ?_
          have hw2 : Mi.wholeP x lo hi = (if x.cps.toList.head? = some 48 ∧ x.cps.size > 1 then none else if lo ≤ Mi.dig x ∧ Mi.dig x ≤ hi then some (Mi.dig x) else none) := by
            rw [hw, if_pos (by rw [ha]; simp; omega)]
          cases hc : x.cps.toList with
          | nil =>
            have : x.cps.toList.length = x.cps.size := rfl
            rw [hc] at this
            have : (0 : Nat) = x.cps.size := this
            omega
          | cons c r =>
            have hat : atI x.cps.toList 0 = some c := by rw [hc]; simp [atI, ixN]
            have txt : intText? x = some (Mi.dig x) := digits_text (by rw [hc]; simp) ha (by omega)
            have e0 : decide (V.str ⟨#[c]⟩ = V.str "0") = decide (c = 48) := by
              by_cases h : c = 48
              · subst h; rfl
              · rw [decide_eq_false h, decide_eq_false]
                intro e
                injection e with e
                have e2 : (#[c] : Array Nat) = #[48] := congrArg Str.cps e
                simp at e2
                exact h e2
            have fin : ¬ (c = 48 ∧ x.cps.size > 1) → Q (oI (if lo ≤ Mi.dig x ∧ Mi.dig x ≤ hi then some (Mi.dig x) else none)) H1 := fun h => by
              have := k H1 s1
              rw [hw2, hc, if_neg (by simpa using h)] at this
              exact this
            have tail : Q (oI (if lo ≤ Mi.dig x ∧ Mi.dig x ≤ hi then some (Mi.dig x) else none)) H1 → tSeq (tAsg (tCB (fun xs H Q => ∃ a n, xs = [V.str a] ∧ intText? a = some n ∧ a.length ≤ 640 ∧ Q (V.int n) H) (tCons (tVar 0) tNil)) (gName 3)) (tRet (tIf (tTest (tChain (rI0 fun i j => V.bl (decide (i ≤ j))) (rI0 fun i j => V.bl (decide (i ≤ j))) (tVar 1) (tVar 3) (tVar 2))) (tVar 3) (tC V.non))) { nx := fun x H' => Q V.non H', rt := Q } (L2.start NRWhole [V.str x, V.int lo, V.int hi]) H1 := fun q => by
              refine ⟨_, rfl, x, _, rfl, txt, by omega, ?_⟩
              refine ⟨_, rfl, _, rfl, _, _, rfl, rfl, _, rfl, ?_⟩
              by_cases g1 : lo ≤ Mi.dig x
              · refine ifT (decide_eq_true g1) ⟨_, rfl, _, _, rfl, rfl, _, rfl, ?_⟩
                by_cases g2 : Mi.dig x ≤ hi
                · refine ifT (decide_eq_true g2) ⟨_, rfl, ?_⟩
                  rw [if_pos ⟨g1, g2⟩] at q
                  exact q
                · refine ifF (by simpa using g2) ?_
                  rw [if_neg (fun z => g2 z.2)] at q
                  exact q
              · refine ifF (by simpa using g1) ⟨_, rfl, iteF ?_⟩
                rw [if_neg (fun z => g1 z.1)] at q
                exact q
            refine ⟨_, rfl, x, 0, c, rfl, rfl, hx, hat, rfl, _, rfl, ?_⟩
            rw [e0]
            by_cases h4 : c = 48
            · refine ifT (decide_eq_true h4) ⟨_, rfl, x, rfl, hx, _, _, rfl, rfl, _, rfl, ?_⟩
              by_cases h5 : (1 : Int) < (x.length : Int)
              · refine ifT (decide_eq_true h5) ?_
                have := k H1 s1
                rw [hw2, hc, if_pos ⟨by rw [h4]; rfl, by omega⟩] at this
                exact this
              · refine ifF (by simpa using h5) ?_
                refine tail (fin fun z => h5 (by omega))
            · refine ifF (by simpa using h4) ?_
              refine tail (fin fun z => h4 z.1)
      · refine ifT (by simpa using h2) ?_
        exact bad2 (by omega)
    · refine ifF (by simpa using h1) ⟨_, rfl, ?_⟩
      exact bad (.inl (by omega)) H (Same.refl H)
end
end Ws

namespace Ws
open PySem PySem.Spec PyProof.Rows L2
noncomputable abbrev sMostO : Stmt := (PySem.Challenge.pw_whatspeed_k17_what_a_program_tells.main.body.getD 20 (.Pass ⟨0, 0, 0, 0⟩))
noncomputable abbrev NMostO : List Str := ["words", "depth", "most", "word"]
noncomputable abbrev PMostO : List Str := ["words"]
theorem scMostO : FnScope NMostO PMostO (defScope sMostO) := ⟨rfl, rfl, rfl, by decide +kernel, rfl, by decide +kernel, by decide +kernel⟩
noncomputable abbrev sLastO : Stmt := (PySem.Challenge.pw_whatspeed_k17_what_a_program_tells.main.body.getD 21 (.Pass ⟨0, 0, 0, 0⟩))
noncomputable abbrev NLastO : List Str := ["words", "signs", "depth", "at"]
noncomputable abbrev PLastO : List Str := ["words", "signs"]
theorem scLastO : FnScope NLastO PLastO (defScope sLastO) := ⟨rfl, rfl, rfl, by decide +kernel, rfl, by decide +kernel, by decide +kernel⟩
noncomputable abbrev sJoined : Stmt := (PySem.Challenge.pw_whatspeed_k17_what_a_program_tells.main.body.getD 22 (.Pass ⟨0, 0, 0, 0⟩))
noncomputable abbrev NJoined : List Str := ["sign", "left", "right"]
noncomputable abbrev PJoined : List Str := ["sign", "left", "right"]
theorem scJoined : FnScope NJoined PJoined (defScope sJoined) := ⟨rfl, rfl, rfl, by decide +kernel, rfl, by decide +kernel, by decide +kernel⟩
/-! ### expressions: the package's -/
/-- a list of words -/
noncomputable def Wds (K : PySem.W.Frag) (H : Hp) (l : Addr) (ws : List Str) : Prop := SqL K H l (ws.map V.str)
theorem Wds.same {K : PySem.W.Frag} {H H' : Hp} {l : Addr} {ws : List Str} (h : Wds K H l ws) (s : Same H H') : Wds K H' l ws := by
  rcases h with (h | ⟨o, h⟩) | h
  · exact .inl (.inl (s _ _ h))
  · exact .inl (.inr ⟨o, s _ _ h⟩)
  · exact .inr h
noncomputable def spMostO (K : PySem.W.Frag) : Sp := fun vs H Q _ => ∃ (l : Addr) (ws : List Str), vs = [.ref l] ∧ Wds K H l ws ∧ Q (.int (Gr.most 0 (ws.map Mi.tok))) H
noncomputable def atV : Option Nat → V
  | some k => .int k
  | none => .int (-1)
noncomputable def spLastO (K : PySem.W.Frag) : Sp := fun vs H Q _ => ∃ (l t : Addr) (ws ss : List Str) (p : Gr.T → Bool), vs = [.ref l, .ref t] ∧ Wds K H l ws ∧ SqT K H t (ss.map V.str) ∧ ws.length ≤ 1000 ∧ (∀ w, p (Mi.tok w) = decide (w ∈ ss)) ∧
  Q (atV (Mi.outP p ws)) H
theorem most_go : ∀ (ws : List Gr.T) (d : Int), d ≤ Gr.most d ws
  | [], d => Int.le_refl _
  | _ :: _, d => Int.le_max_left ..
theorem tok_opn (w : Str) : (Mi.tok w = .opn) ↔ w = "(" := by
  constructor
  · intro h
    have e := Mi.head_tok [w]
    simp only [List.map_cons, List.head?_cons, h] at e
    simpa using e.symm
  · intro h; subst h; decide +kernel
theorem tok_cls (w : Str) : (Mi.tok w = .cls) ↔ w = ")" := by
  constructor
  · intro h
    unfold Mi.tok at h
    split at h
    · cases h
    · split at h
      · assumption
      · split at h
        · cases h
        · split at h
          · cases h
          · split at h
            · cases h
            · split at h <;> cases h
  · intro h; subst h; decide +kernel
section
variable {P : Program} {w : World} {K : PySem.W.Frag} {mg : Str → Option Value} {base : Heap} {f : Addr} {fd : FuncData}
theorem ok_mostO (F : L2.Fun K "_most_opened" "_most_opened" sMostO f fd) (b : Binds K fd PMostO []) (B : Bi mg) : FnR P w K mg base CX0 1 f (spMostO K) := by
  refine fnR_of F b scMostO (fun vs H Q E h => ?_) (fun cdv A outer s H vs Q E hr h => ?_)
  · obtain ⟨_, _, rfl, _⟩ := h
    rfl
  · have sc := scMostO
    obtain ⟨l, ws, rfl, hl, k⟩ := h
    refine ⟨_, (pss_cons (ps_asg2 pe_int (pg_name (i := 1) sc.nd rfl (Or.inl rfl)) (pg_name (i := 2) sc.nd rfl (Or.inl rfl))) (pss_cons (ps_for PassesOwn.never rfl (pi_list (pv 0)) (pg_name (i := 3) sc.nd rfl (Or.inl rfl)) (pss_cons (ps_if (pt_cmpR op_eq (pv 3) pe_str (nomark _)) (pss_one (ps_aug (i := 1) sc.nd rfl (Or.inl rfl) pe_int ip_add)) (pss_one (ps_if (pt_cmpR op_eq (pv 3) pe_str (nomark _)) (pss_one (ps_aug (i := 1) sc.nd rfl (Or.inl rfl) pe_int ip_sub)) pss_nil))) (pss_one (ps_set (i := 2) sc.nd rfl (Or.inl rfl) (pe_callB (call_max2 rfl) (by rfl) B.max (by decide +kernel) (pa_cons (pv 2) (pa_cons (pv 1) pa_nil))))))) (pss_one (ps_ret (pv 2))))), ?_⟩
    refine ⟨_, rfl, l, rfl, ⟨_, hl⟩, ?_⟩
    refine for_list (xs := ws.map V.str) (fun i σ H' => H' = H ∧ ∃ (d m : Int) (o : Option V), σ = [some (.ref l), some (.int d), some (.int m), o] ∧ d ≤ m ∧ max m (Gr.most d ((ws.drop i).map Mi.tok)) = Gr.most 0 (ws.map Mi.tok)) ?_ ?_ ?_ ?_
    · refine ⟨rfl, 0, 0, none, rfl, Int.le_refl _, ?_⟩
      have := most_go (ws.map Mi.tok) 0
      rw [List.drop_zero]
      omega
    · rintro i σ H' _ ⟨rfl, _⟩
      exact hl
    · rintro i x σ H' hx ⟨rfl, d, m, o, rfl, hdm, he⟩
      rw [List.getElem?_map] at hx
      obtain ⟨wd, hw, rfl⟩ := Option.map_eq_some_iff.mp hx
      have dr : ws.drop i = wd :: ws.drop (i + 1) := by
        obtain ⟨hlt, e⟩ := List.getElem?_eq_some_iff.mp hw
        rw [List.drop_eq_getElem_cons hlt, e]
      rw [dr, List.map_cons] at he
      have fin : ∀ d' : Int, (if Mi.tok wd = .opn then d + 1 else if Mi.tok wd = .cls then d - 1 else d) = d' → d' ≤ (if d' > m then d' else m) ∧ max (if d' > m then d' else m) (Gr.most d' ((ws.drop (i + 1)).map Mi.tok)) = Gr.most 0 (ws.map Mi.tok) := by
        intro d' hd'
        have e2 : Gr.most d (Mi.tok wd :: (ws.drop (i + 1)).map Mi.tok) = max d (Gr.most d' ((ws.drop (i + 1)).map Mi.tok)) := by rw [← hd']; rfl
        rw [e2] at he
        have := most_go ((ws.drop (i + 1)).map Mi.tok) d'
        refine ⟨?_, ?_⟩
        · split <;> omega
        · split <;> omega
      have nxt : ∀ d' : Int, (if Mi.tok wd = .opn then d + 1 else if Mi.tok wd = .cls then d - 1 else d) = d' → ∀ D : Ends, (∀ σ' H'', (H'' = H' ∧ ∃ (d m : Int) (o : Option V), σ' = [some (.ref l), some (.int d), some (.int m), o] ∧ d ≤ m ∧ max m (Gr.most d ((ws.drop (i + 1)).map Mi.tok)) = Gr.most 0 (ws.map Mi.tok)) → D.nx σ' H'') → tAsg (tCB (fun xs H Q => ∃ i j, xs = [V.int i, V.int j] ∧ Q (V.int (if j > i then j else i)) H) (tCons (tVar 2) (tCons (tVar 1) tNil))) (gName 2) D [some (.ref l), some (.int d'), some (.int m), some (.str wd)] H' := by
        intro d' hd' D hD
        obtain ⟨f1, f2⟩ := fin d' hd'
        refine ⟨_, rfl, _, rfl, m, d', rfl, ?_⟩
        exact hD _ _ ⟨rfl, d', _, some (.str wd), rfl, f1, f2⟩
      refine ⟨_, rfl, rfl, _, rfl, ?_⟩
      by_cases h1 : wd = "("
      · refine ifT (by rw [h1]; exact decide_eq_true rfl) ?_
        refine ⟨_, rfl, _, _, rfl, rfl, ?_⟩
        refine nxt _ (if_pos ((tok_opn wd).mpr h1)) _ fun _ _ h => h
      · refine ifF (by simp [h1]) ?_
        refine ⟨_, rfl, rfl, _, rfl, ?_⟩
        by_cases h2 : wd = ")"
        · refine ifT (by rw [h2]; exact decide_eq_true rfl) ?_
          refine ⟨_, rfl, _, _, rfl, rfl, ?_⟩
          refine nxt _ ?_ _ fun _ _ h => h
          rw [if_neg (fun e => h1 ((tok_opn wd).mp e)), if_pos ((tok_cls wd).mpr h2)]
        · refine ifF (by simp [h2]) ?_
          refine nxt _ ?_ _ fun _ _ h => h
          rw [if_neg (fun e => h1 ((tok_opn wd).mp e)), if_neg (fun e => h2 ((tok_cls wd).mp e))]
    · rintro σ H' ⟨rfl, d, m, o, rfl, hdm, he⟩
      refine ⟨_, rfl, ?_⟩
      rw [List.length_map, List.drop_length] at he
      have : max m d = Gr.most 0 (ws.map Mi.tok) := he
      rw [← this, Int.max_eq_left hdm] at k
      exact k
theorem ok_lastO (F : L2.Fun K "_last_outside" "_last_outside" sLastO f fd) (b : Binds K fd PLastO []) (B : Bi mg) (gRev : mg "reversed" = none) : FnR P w K mg base CX0 1 f (spLastO K) := by
  refine fnR_of F b scLastO (fun vs H Q E h => ?_) (fun cdv A outer s H vs Q E hr h => ?_)
  · obtain ⟨_, _, _, _, _, rfl, _⟩ := h
    rfl
  · have sc := scLastO
    obtain ⟨l, t, ws, ss, p, rfl, hl, ht, hn, hp, k⟩ := h
    refine ⟨_, (pss_cons (ps_set (i := 2) sc.nd rfl (Or.inl rfl) pe_int) (pss_cons (ps_for PassesOwn.never rfl (pi_revR (by rfl) gRev (prg_1 (by rfl) B.range (pe_callB call_len_seq (by rfl) B.len PySem.boot_len (pa_cons (pv 0) pa_nil)))) (pg_name (i := 3) sc.nd rfl (Or.inl rfl)) (pss_one (ps_if (pt_cmpR op_eq (pe_ix ix_list (pv 0) (pv 3) (fun _ _ => rfl)) pe_str (nomark _)) (pss_one (ps_aug (i := 2) sc.nd rfl (Or.inl rfl) pe_int ip_add)) (pss_one (ps_if (pt_cmpR op_eq (pe_ix ix_list (pv 0) (pv 3) (fun _ _ => rfl)) pe_str (nomark _)) (pss_one (ps_aug (i := 2) sc.nd rfl (Or.inl rfl) pe_int ip_sub)) (pss_one (ps_if (PW.pt (pw_and (pt_cmpR op_eq (pv 2) pe_int (nomark _)) (pw_and1 (pt_cmpR op_in_seq (pe_ix ix_list (pv 0) (pv 3) (fun _ _ => rfl)) (pv 1) rfl)))) (pss_one (ps_ret (pv 3))) pss_nil))))))) (pss_one (ps_ret (pe_un un_neg pe_int))))), ?_⟩
    have len : (ws.map V.str).length = ws.length := List.length_map ..
    refine ⟨_, rfl, l, _, rfl, .inl hl, _, rfl, by decide, by decide, by rw [len]; omega, by rw [len]; omega, ?_⟩
    rw [len]
    have e0 : (((ws.length : Nat) : Int) - 0).toNat = ws.length := by omega
    rw [e0]
    refine for_rangeC (fun i σ H' => H' = H ∧ i ≤ ws.length ∧ ∃ (d : Int) (o : Option V), σ = [some (.ref l), some (.ref t), some (.int d), o] ∧ Gr.scan p 0 (ws.map Mi.tok).reverse = (Gr.scan p d ((ws.map Mi.tok).reverse.drop i)).map (· + i)) ?_ ?_ ?_
    · refine ⟨rfl, Nat.zero_le _, 0, none, rfl, ?_⟩
      rw [List.drop_zero]
      cases Gr.scan p 0 (ws.map Mi.tok).reverse <;> rfl
    · rintro i σ H' hi ⟨rfl, _, d, o, rfl, he⟩
      have hj : ws.length - 1 - i < ws.length := by omega
      have hat : atI (ws.map V.str) (0 + (ws.length : Int) - 1 + (i : Int) * (-1)) = some (V.str (ws[ws.length - 1 - i])) := by
        rw [show (0 + (ws.length : Int) - 1 + (i : Int) * (-1)) = ((ws.length - 1 - i : Nat) : Int) from by omega]
        refine atI_nat ?_
        rw [List.getElem?_map, List.getElem?_eq_getElem hj]
        rfl
      have dr : (ws.map Mi.tok).reverse.drop i = Mi.tok ws[ws.length - 1 - i] :: (ws.map Mi.tok).reverse.drop (i + 1) := by
        have hl2 : i < (ws.map Mi.tok).reverse.length := by rw [List.length_reverse, List.length_map]; exact hi
        rw [List.drop_eq_getElem_cons hl2]
        congr 1
        rw [List.getElem_reverse, List.getElem_map]
        simp only [List.length_map]
      generalize hwd : ws[ws.length - 1 - i] = wd at *
      rw [dr] at he
      have shift : ∀ (e : Int) , Gr.scan p 0 (ws.map Mi.tok).reverse = ((Gr.scan p e ((ws.map Mi.tok).reverse.drop (i + 1))).map (· + 1)).map (· + i) → Gr.scan p 0 (ws.map Mi.tok).reverse = (Gr.scan p e ((ws.map Mi.tok).reverse.drop (i + 1))).map (· + (i + 1)) := by
        intro e h
        rw [h]
        cases Gr.scan p e ((ws.map Mi.tok).reverse.drop (i + 1)) with
        | none => rfl
        | some k => show some (k + 1 + i) = some (k + (i + 1)); congr 1; omega
      refine ⟨_, rfl, _, rfl, l, _, _, _, rfl, rfl, hl, hat, rfl, _, rfl, ?_⟩
      by_cases h1 : wd = ")"
      · refine ifT (by rw [h1]; exact decide_eq_true rfl) ⟨_, rfl, _, _, rfl, rfl, ?_⟩
        refine ⟨rfl, hi, d + 1, some (.int _), rfl, shift _ (he.trans ?_)⟩
        rw [Gr.scan, if_pos ((tok_cls wd).mpr h1)]
      · refine ifF (by simp [h1]) ⟨_, rfl, _, rfl, l, _, _, _, rfl, rfl, hl, hat, rfl, _, rfl, ?_⟩
        by_cases h2 : wd = "("
        · refine ifT (by rw [h2]; exact decide_eq_true rfl) ⟨_, rfl, _, _, rfl, rfl, ?_⟩
          refine ⟨rfl, hi, d - 1, some (.int _), rfl, shift _ (he.trans ?_)⟩
          rw [Gr.scan, if_neg (fun e => h1 ((tok_cls wd).mp e)), if_pos ((tok_opn wd).mpr h2)]
        · refine ifF (by simp [h2]) ⟨_, rfl, rfl, _, rfl, ?_⟩
          have sc1 : Gr.scan p d (Mi.tok wd :: (ws.map Mi.tok).reverse.drop (i + 1)) = if d = 0 ∧ p (Mi.tok wd) = true then some 0 else (Gr.scan p d ((ws.map Mi.tok).reverse.drop (i + 1))).map (· + 1) := by
            rw [Gr.scan, if_neg (fun e => h1 ((tok_cls wd).mp e)), if_neg (fun e => h2 ((tok_opn wd).mp e))]
          rw [sc1] at he
          by_cases h3 : d = 0
          · refine ifT (by rw [h3]; exact decide_eq_true rfl) ⟨_, rfl, _, rfl, l, _, _, _, rfl, rfl, hl, hat, _, rfl, t, _, rfl, .inr ht, rfl, by rw [List.all_map]; exact List.all_eq_true.mpr fun _ _ => rfl, _, rfl, ?_⟩
            have hin : inV (.str wd) (ss.map V.str) = p (Mi.tok wd) := by
              rw [hp]
              unfold inV
              rw [List.any_map, Bool.eq_iff_iff, List.any_eq_true, decide_eq_true_iff]
              constructor
              · rintro ⟨y, hy, e⟩
                have e' : y = wd := by simpa [eqV] using e
                exact e' ▸ hy
              · exact fun h => ⟨wd, h, by simp [eqV]⟩
            show if inV (.str wd) (ss.map V.str) = true then _ else _
            rw [hin]
            by_cases h4 : p (Mi.tok wd) = true
            · refine ifT h4 ⟨_, rfl, ?_⟩
              rw [if_pos ⟨h3, h4⟩] at he
              have e2 : Mi.outP p ws = some (ws.length - 1 - i) := by
                unfold Mi.outP Gr.lastOut
                rw [he, List.length_map]
                show some (ws.length - 1 - (0 + i)) = _
                rw [Nat.zero_add]
              rw [e2] at k
              rw [show (0 + (ws.length : Int) - 1 + (i : Int) * (-1)) = ((ws.length - 1 - i : Nat) : Int) from by omega]
              exact k
            · refine ifF (by simpa using h4) ?_
              refine ⟨rfl, hi, d, some (.int _), rfl, shift _ (he.trans ?_)⟩
              rw [if_neg (fun z => h4 z.2)]
          · refine ifF (by simp [h3]) ?_
            refine ⟨rfl, hi, d, some (.int _), rfl, shift _ (he.trans ?_)⟩
            rw [if_neg (fun z => h3 z.1)]
    · rintro σ H' ⟨rfl, _, d, o, rfl, he⟩
      have e1 : (ws.map Mi.tok).reverse.drop ws.length = [] := by
        rw [List.drop_eq_nil_iff]; simp
      rw [e1] at he
      have e2 : Mi.outP p ws = none := by
        unfold Mi.outP Gr.lastOut
        rw [he]; rfl
      rw [e2] at k
      exact ⟨_, rfl, k⟩
end
end Ws

namespace Ws
open PySem PySem.Spec PyProof.Rows L2
noncomputable abbrev sJoinedT : Stmt := (PySem.Challenge.pw_whatspeed_k17_what_a_program_tells.main.body.getD 22 (.Pass ⟨0, 0, 0, 0⟩))
noncomputable abbrev NJoinedT : List Str := ["sign", "left", "right"]
noncomputable abbrev PJoinedT : List Str := ["sign", "left", "right"]
theorem scJoinedT : FnScope NJoinedT PJoinedT (defScope sJoinedT) := ⟨rfl, rfl, rfl, by decide +kernel, rfl, by decide +kernel, by decide +kernel⟩
noncomputable abbrev sRdV : Stmt := (PySem.Challenge.pw_whatspeed_k17_what_a_program_tells.main.body.getD 23 (.Pass ⟨0, 0, 0, 0⟩))
noncomputable abbrev NRdV : List Str := ["words", "at"]
noncomputable abbrev PRdV : List Str := ["words"]
theorem scRdV : FnScope NRdV PRdV (defScope sRdV) := ⟨rfl, rfl, rfl, by decide +kernel, rfl, by decide +kernel, by decide +kernel⟩
noncomputable abbrev sRdS : Stmt := (PySem.Challenge.pw_whatspeed_k17_what_a_program_tells.main.body.getD 24 (.Pass ⟨0, 0, 0, 0⟩))
noncomputable abbrev NRdS : List Str := ["words", "at"]
noncomputable abbrev PRdS : List Str := ["words"]
theorem scRdS : FnScope NRdS PRdS (defScope sRdS) := ⟨rfl, rfl, rfl, by decide +kernel, rfl, by decide +kernel, by decide +kernel⟩
noncomputable abbrev sRdP : Stmt := (PySem.Challenge.pw_whatspeed_k17_what_a_program_tells.main.body.getD 25 (.Pass ⟨0, 0, 0, 0⟩))
noncomputable abbrev NRdP : List Str := ["words", "at"]
noncomputable abbrev PRdP : List Str := ["words"]
theorem scRdP : FnScope NRdP PRdP (defScope sRdP) := ⟨rfl, rfl, rfl, by decide +kernel, rfl, by decide +kernel, by decide +kernel⟩
noncomputable abbrev sRdF : Stmt := (PySem.Challenge.pw_whatspeed_k17_what_a_program_tells.main.body.getD 26 (.Pass ⟨0, 0, 0, 0⟩))
noncomputable abbrev NRdF : List Str := ["words"]
noncomputable abbrev PRdF : List Str := ["words"]
theorem scRdF : FnScope NRdF PRdF (defScope sRdF) := ⟨rfl, rfl, rfl, by decide +kernel, rfl, by decide +kernel, by decide +kernel⟩
/-! ### expressions: trees -/
/-- a tree in the heap -/
noncomputable def TrAt (H : Hp) : Mi.Tr → V → Prop
  | .num i, v => v = .int i
  | .var x, v => v = .str x
  | .bin s l r, v => ∃ (a : Addr) (vl vr : V), v = .ref a ∧ H a = some (.tup [.str s, vl, vr]) ∧ TrAt H l vl ∧ TrAt H r vr
theorem TrAt.same {H H' : Hp} (s : Same H H') : ∀ {t : Mi.Tr} {v : V}, TrAt H t v → TrAt H' t v
  | .num _, _, h => h
  | .var _, _, h => h
  | .bin _ _ _, _, ⟨a, vl, vr, e, ha, hl, hr⟩ => ⟨a, vl, vr, e, s _ _ ha, hl.same s, hr.same s⟩
theorem TrAt.some {H : Hp} : ∀ {t : Mi.Tr} {v : V}, TrAt H t v → v ≠ .non
  | .num _, _, h, e => by rw [e] at h; cases h
  | .var _, _, h, e => by rw [e] at h; cases h
  | .bin _ _ _, _, ⟨_, _, _, h, _⟩, e => by rw [e] at h; cases h
noncomputable def OTr (H : Hp) (v : V) : Option Mi.Tr → Prop
  | none => v = .non
  | some t => TrAt H t v
theorem OTr.same {H H' : Hp} {v : V} {o : Option Mi.Tr} (s : Same H H') (h : OTr H v o) : OTr H' v o := by
  cases o with
  | none => exact h
  | some t => exact TrAt.same s h
noncomputable def spJoined : Sp := fun vs H Q _ => ∃ (s : Str) (vl vr : V) (tl tr : Option Mi.Tr), vs = [.str s, vl, vr] ∧ OTr H vl tl ∧ OTr H vr tr ∧ ∀ v H', Same H H' → OTr H' v (Mi.join (some s) tl tr) → Q v H'
noncomputable def spRd (K : PySem.W.Frag) (tf : Nat → List Str → Option Mi.Tr) (c n : Nat) : Sp := fun vs H Q _ => ∃ (l : Addr) (ws : List Str), vs = [.ref l] ∧ Wds K H l ws ∧ (∀ x ∈ ws, x.length ≤ sizeLine) ∧ ws.length ≤ 1000 ∧ 4 * ws.length + c ≤ n ∧ ∀ v H', Same H H' → OTr H' v (tf n ws) → Q v H'
section
variable {P : Program} {w : World} {K : PySem.W.Frag} {mg : Str → Option Value} {base : Heap} {f : Addr} {fd : FuncData}
theorem ok_joined (F : L2.Fun K "_joined" "_joined" sJoinedT f fd) (b : Binds K fd PJoinedT []) : FnR P w K mg base CX0 1 f spJoined := by
  refine fnR_of F b scJoinedT (fun vs H Q E h => ?_) (fun cdv A outer s H vs Q E hr h => ?_)
  · obtain ⟨_, _, _, _, _, rfl, _⟩ := h
    rfl
  · have sc := scJoinedT
    obtain ⟨x, vl, vr, tl, tr, rfl, hl, hr2, k⟩ := h
    refine ⟨_, (pss_cons (ps_if (PW.pt (pw_or (pt_cmpR op_isN (pv 1) pe_non (nomark _)) (pw_or1 (pt_cmpR op_isN (pv 2) pe_non (nomark _))))) (pss_one (ps_ret pe_non)) pss_nil) (pss_one (ps_ret (pe_tup (pa_cons (pv 0) (pa_cons (pv 1) (pa_cons (pv 2) pa_nil))))))), ?_⟩
    refine ⟨_, rfl, rfl, _, rfl, ?_⟩
    cases tl with
    | none =>
      refine ifT (decide_eq_true hl) (iteT ?_)
      exact k _ _ (Same.refl H) rfl
    | some tl =>
      refine ifF (decide_eq_false hl.some) ?_
      refine ⟨_, rfl, rfl, _, rfl, ?_⟩
      cases tr with
      | none =>
        refine ifT (decide_eq_true hr2) ?_
        exact k _ _ (Same.refl H) rfl
      | some tr =>
        refine ifF (decide_eq_false hr2.some) ?_
        refine ⟨_, rfl, _, rfl, _, rfl, (by show 3 ≤ 2 ^ 24; decide), fun a na => ?_⟩
        have s1 : Same H (upd H a (.tup [.str x, vl, vr])) := Same.new na
        exact k _ _ s1 ⟨a, vl, vr, rfl, upd_same, TrAt.same s1 hl, TrAt.same s1 hr2⟩
theorem cut_take (ws : List Str) {k : Nat} (h : k ≤ ws.length) : cutV (ws.map V.str) none (some (k : Int)) = (ws.take k).map V.str := by
  unfold cutV HT.sIx
  have e : ¬ (k : Int) < 0 := by omega
  simp only [e, if_false, List.length_map, List.drop_zero, Int.toNat_natCast, Nat.sub_zero, Nat.min_eq_left h, List.map_take]
theorem cut_drop (ws : List Str) {k : Nat} (h : k + 1 ≤ ws.length) : cutV (ws.map V.str) (some ((k : Int) + 1)) none = (ws.drop (k + 1)).map V.str := by
  unfold cutV HT.sIx
  have e : ¬ (k : Int) + 1 < 0 := by omega
  have e2 : ((k : Int) + 1).toNat = k + 1 := by omega
  simp only [e, if_false, List.length_map, e2, Nat.min_eq_left h, List.map_drop]
  exact List.take_of_length_le (by rw [List.length_drop, List.length_map]; exact Nat.le_refl _)
noncomputable def splitT (t0 t1 t2 : List Str → Option Mi.Tr) (ws : List Str) : Option Nat → Option Mi.Tr
  | none => t0 ws
  | some k => Mi.join ws[k]? (t1 (ws.take k)) (t2 (ws.drop (k + 1)))
/-- behind the look for a sign -/
theorem rd_tail {t0 t1 t2 : Nat → List Str → Option Mi.Tr} {c0 c1 c2 n : Nat} {Q : VK} {l : Addr} {ws : List Str} {H : Hp} {o : Option Nat} (hl : Wds K H l ws) (hw : ∀ x ∈ ws, x.length ≤ sizeLine) (hn : ws.length ≤ 1000) (h0 : 4 * ws.length + c0 ≤ n) (h1 : c1 ≤ 4) (h2 : c2 ≤ 4) (ho : ∀ k, o = some k → k < ws.length)
    (k : ∀ v H', Same H H' → OTr H' v (splitT (t0 n) (t1 n) (t2 n) ws o) → Q v H') {nx : L2.St → Hp → Prop} :
    tSeq (tIfS (tTest (tOp (rI0 fun i j => V.bl (decide (i < j))) (tVar 1) (tC (V.int 0)))) (tRet (tF (spRd K t0 c0 n) (tCons (tVar 0) tNil))) tNext)
      (tRet (tF spJoined (tCons (tOp (rIxL K) (tVar 0) (tVar 1)) (tCons (tF (spRd K t1 c1 n) (tCons (tSl (rSlL K) (tVar 0) tNoPart (tPart (tVar 1))) tNil)) (tCons (tF (spRd K t2 c2 n) (tCons (tSl (rSlL K) (tVar 0) (tPart (tOp (rI0 fun i j => V.int (i + j)) (tVar 1) (tC (V.int 1)))) tNoPart) tNil)) tNil)))))
      { nx := nx, rt := Q } [some (.ref l), some (atV o)] H := by
  cases o with
  | none =>
    refine ⟨_, rfl, _, _, rfl, rfl, _, rfl, ?_⟩
    refine ifT (by decide) ?_
    exact ⟨_, rfl, l, ws, rfl, hl, hw, hn, h0, k⟩
  | some i =>
    have hi := ho i rfl
    refine ⟨_, rfl, _, _, rfl, rfl, _, rfl, ?_⟩
    refine ifF (decide_eq_false (by omega)) ?_
    have hat : atI (ws.map V.str) (i : Int) = some (V.str ws[i]) := by
      refine atI_nat ?_
      rw [List.getElem?_map, List.getElem?_eq_getElem hi]
      rfl
    refine ⟨_, rfl, _, rfl, l, _, _, _, rfl, rfl, hl, hat, ?_⟩
    refine ⟨_, rfl, _, rfl, _, rfl, l, _, rfl, hl, fun p np => ?_⟩
    have s1 : Same H (upd H p (.lst (cutV (ws.map V.str) none (some (i : Int))))) := Same.new np
    refine ⟨p, ws.take i, rfl, .inl (.inl (upd_same.trans (by rw [cut_take ws (Nat.le_of_lt hi)]))), fun x hx => hw x (List.mem_of_mem_take hx), by rw [List.length_take]; omega, by rw [List.length_take]; omega, fun v1 H1 s2 o1 => ?_⟩
    refine ⟨_, rfl, _, rfl, _, _, rfl, rfl, _, rfl, l, _, rfl, (hl.same s1).same s2, fun p2 np2 => ?_⟩
    have s3 : Same H1 (upd H1 p2 (.lst (cutV (ws.map V.str) (some ((i : Int) + 1)) none))) := Same.new np2
    refine ⟨p2, ws.drop (i + 1), rfl, .inl (.inl (upd_same.trans (by rw [cut_drop ws hi]))), fun x hx => hw x (List.mem_of_mem_drop hx), by rw [List.length_drop]; omega, by rw [List.length_drop]; omega, fun v2 H2 s4 o2 => ?_⟩
    refine ⟨ws[i], v1, v2, _, _, rfl, o1.same (s3.trans s4), o2, fun v H' s5 o3 => ?_⟩
    refine k v H' ((((s1.trans s2).trans s3).trans s4).trans s5) ?_
    show OTr H' v (Mi.join ws[i]? _ _)
    rw [List.getElem?_eq_getElem hi]
    exact o3
theorem out_lt {p : Gr.T → Bool} {ws : List Str} {k : Nat} (h : Mi.outP p ws = some k) : k < ws.length := by
  have := Mi.at_some h
  cases e : ws[k]? with
  | none => rw [e] at this; cases this
  | some x => exact (List.getElem?_eq_some_iff.mp e).1
theorem tok_sgn (w : Str) : Gr.isCmp (Mi.tok w) = decide (w ∈ (["=", "<", ">"] : List Str)) ∧ Gr.isAdd (Mi.tok w) = decide (w ∈ (["+", "-"] : List Str)) ∧ Gr.isStar (Mi.tok w) = decide (w ∈ (["*"] : List Str)) := by
  by_cases h : w ∈ (["(", ")", "*", "+", "-", "=", "<", ">"] : List Str)
  · simp only [List.mem_cons, List.not_mem_nil, or_false] at h
    rcases h with h | h | h | h | h | h | h | h <;> subst h <;> decide +kernel
  · simp only [List.mem_cons, List.not_mem_nil, or_false, not_or] at h
    obtain ⟨a1, a2, a3, a4, a5, a6, a7, a8⟩ := h
    unfold Mi.tok
    rw [if_neg a1, if_neg a2, if_neg a3, if_neg (by simp [a4, a5]), if_neg (by simp [a6, a7, a8])]
    simp only [List.mem_cons, List.not_mem_nil, or_false, a3, a4, a5, a6, a7, a8]
    split <;> simp [Gr.isCmp, Gr.isAdd, Gr.isStar]
theorem ok_rdV {n j : Nat} (F : L2.Fun K "_read_value" "_read_value" sRdV f fd) (b : Binds K fd PRdV []) (B : Bi mg) (cO : CalF P w K mg base 1 "_last_outside" (spLastO K)) (cJ : CalF P w K mg base 1 "_joined" spJoined) (cS : CalF P w K mg base (j + 1) "_read_sum" (spRd K Mi.tS 3 n)) : FnR P w K mg base CX0 (j + 2) f (spRd K Mi.tV 4 (n + 1)) := by
  refine fnR_of F b scRdV (fun vs H Q E h => ?_) (fun cdv A outer s H vs Q E hr h => ?_)
  · obtain ⟨_, _, rfl, _⟩ := h
    rfl
  · have sc := scRdV
    obtain ⟨l, ws, rfl, hl, hw, hn, hf, k⟩ := h
    refine ⟨_, (pss_cons (ps_set (i := 1) sc.nd rfl (Or.inl rfl) (pe_f cO hr (by omega) rfl (pa_cons (pv 0) (pa_cons (pe_tup (pa_cons pe_str (pa_cons pe_str (pa_cons pe_str pa_nil)))) pa_nil)))) (pss_cons (ps_if (pt_cmpR op_lt (pv 1) pe_int (nomark _)) (pss_one (ps_ret (pe_f cS hr (by omega) rfl (pa_cons (pv 0) pa_nil)))) pss_nil) (pss_one (ps_ret (pe_f cJ hr (by omega) rfl (pa_cons (pe_ix ix_list (pv 0) (pv 1) (fun _ _ => rfl)) (pa_cons (pe_f cS hr (by omega) rfl (pa_cons (pe_slice sl_list (pv 0) po_none (po_some (pv 1))) pa_nil)) (pa_cons (pe_f cS hr (by omega) rfl (pa_cons (pe_slice sl_list (pv 0) (po_some (pe_op op_add (pv 1) pe_int)) po_none) pa_nil)) pa_nil)))))))), ?_⟩
    refine ⟨_, rfl, by decide, fun t nt => ?_⟩
    have s0 : Same H (upd H t (.tup [.str "=", .str "<", .str ">"])) := Same.new nt
    refine ⟨l, t, ws, ["=", "<", ">"], Gr.isCmp, rfl, hl.same s0, .inl (.inl upd_same), hn, fun x => (tok_sgn x).1, ?_⟩
    refine rd_tail (hl.same s0) hw hn (by omega) (by decide) (by decide) (fun i hi => out_lt hi) fun v H' s1 h1 => k v H' (s0.trans s1) ?_
    rw [Mi.tV]
    cases hO : Mi.outP Gr.isCmp ws <;> rw [hO] at h1 <;> exact h1
theorem ok_rdS {n j : Nat} (F : L2.Fun K "_read_sum" "_read_sum" sRdS f fd) (b : Binds K fd PRdS []) (B : Bi mg) (cO : CalF P w K mg base 1 "_last_outside" (spLastO K)) (cJ : CalF P w K mg base 1 "_joined" spJoined) (cS : CalF P w K mg base (j + 1) "_read_sum" (spRd K Mi.tS 3 n)) (cP : CalF P w K mg base (j + 1) "_read_product" (spRd K Mi.tP 2 n)) : FnR P w K mg base CX0 (j + 2) f (spRd K Mi.tS 3 (n + 1)) := by
  refine fnR_of F b scRdS (fun vs H Q E h => ?_) (fun cdv A outer s H vs Q E hr h => ?_)
  · obtain ⟨_, _, rfl, _⟩ := h
    rfl
  · have sc := scRdS
    obtain ⟨l, ws, rfl, hl, hw, hn, hf, k⟩ := h
    refine ⟨_, (pss_cons (ps_set (i := 1) sc.nd rfl (Or.inl rfl) (pe_f cO hr (by omega) rfl (pa_cons (pv 0) (pa_cons (pe_tup (pa_cons pe_str (pa_cons pe_str pa_nil))) pa_nil)))) (pss_cons (ps_if (pt_cmpR op_lt (pv 1) pe_int (nomark _)) (pss_one (ps_ret (pe_f cP hr (by omega) rfl (pa_cons (pv 0) pa_nil)))) pss_nil) (pss_one (ps_ret (pe_f cJ hr (by omega) rfl (pa_cons (pe_ix ix_list (pv 0) (pv 1) (fun _ _ => rfl)) (pa_cons (pe_f cS hr (by omega) rfl (pa_cons (pe_slice sl_list (pv 0) po_none (po_some (pv 1))) pa_nil)) (pa_cons (pe_f cP hr (by omega) rfl (pa_cons (pe_slice sl_list (pv 0) (po_some (pe_op op_add (pv 1) pe_int)) po_none) pa_nil)) pa_nil)))))))), ?_⟩
    refine ⟨_, rfl, by decide, fun t nt => ?_⟩
    have s0 : Same H (upd H t (.tup [.str "+", .str "-"])) := Same.new nt
    refine ⟨l, t, ws, ["+", "-"], Gr.isAdd, rfl, hl.same s0, .inl (.inl upd_same), hn, fun x => (tok_sgn x).2.1, ?_⟩
    refine rd_tail (hl.same s0) hw hn (by omega) (by decide) (by decide) (fun i hi => out_lt hi) fun v H' s1 h1 => k v H' (s0.trans s1) ?_
    rw [Mi.tS]
    cases hO : Mi.outP Gr.isAdd ws <;> rw [hO] at h1 <;> exact h1
theorem ok_rdP {n j : Nat} (F : L2.Fun K "_read_product" "_read_product" sRdP f fd) (b : Binds K fd PRdP []) (B : Bi mg) (cO : CalF P w K mg base 1 "_last_outside" (spLastO K)) (cJ : CalF P w K mg base 1 "_joined" spJoined) (cP : CalF P w K mg base (j + 1) "_read_product" (spRd K Mi.tP 2 n)) (cF : CalF P w K mg base (j + 1) "_read_factor" (spRd K Mi.tF 1 n)) : FnR P w K mg base CX0 (j + 2) f (spRd K Mi.tP 2 (n + 1)) := by
  refine fnR_of F b scRdP (fun vs H Q E h => ?_) (fun cdv A outer s H vs Q E hr h => ?_)
  · obtain ⟨_, _, rfl, _⟩ := h
    rfl
  · have sc := scRdP
    obtain ⟨l, ws, rfl, hl, hw, hn, hf, k⟩ := h
    refine ⟨_, (pss_cons (ps_set (i := 1) sc.nd rfl (Or.inl rfl) (pe_f cO hr (by omega) rfl (pa_cons (pv 0) (pa_cons (pe_tup (pa_cons pe_str pa_nil)) pa_nil)))) (pss_cons (ps_if (pt_cmpR op_lt (pv 1) pe_int (nomark _)) (pss_one (ps_ret (pe_f cF hr (by omega) rfl (pa_cons (pv 0) pa_nil)))) pss_nil) (pss_one (ps_ret (pe_f cJ hr (by omega) rfl (pa_cons (pe_ix ix_list (pv 0) (pv 1) (fun _ _ => rfl)) (pa_cons (pe_f cP hr (by omega) rfl (pa_cons (pe_slice sl_list (pv 0) po_none (po_some (pv 1))) pa_nil)) (pa_cons (pe_f cF hr (by omega) rfl (pa_cons (pe_slice sl_list (pv 0) (po_some (pe_op op_add (pv 1) pe_int)) po_none) pa_nil)) pa_nil)))))))), ?_⟩
    refine ⟨_, rfl, by decide, fun t nt => ?_⟩
    have s0 : Same H (upd H t (.tup [.str "*"])) := Same.new nt
    refine ⟨l, t, ws, ["*"], Gr.isStar, rfl, hl.same s0, .inl (.inl upd_same), hn, fun x => (tok_sgn x).2.2, ?_⟩
    refine rd_tail (hl.same s0) hw hn (by omega) (by decide) (by decide) (fun i hi => out_lt hi) fun v H' s1 h1 => k v H' (s0.trans s1) ?_
    rw [Mi.tP]
    cases hO : Mi.outP Gr.isStar ws <;> rw [hO] at h1 <;> exact h1
theorem ok_rdF {n j : Nat} (F : L2.Fun K "_read_factor" "_read_factor" sRdF f fd) (b : Binds K fd PRdF []) (B : Bi mg) (gGr : ∃ t, mg "GREATEST" = some (.int 999 t)) (cN : CalF P w K mg base 2 "is_name" spIsName) (cW : CalF P w K mg base 2 "read_whole" spRWhole) (cV : CalF P w K mg base (j + 2) "_read_value" (spRd K Mi.tV 4 n)) : FnR P w K mg base CX0 (j + 3) f (spRd K Mi.tF 1 (n + 1)) := by
  refine fnR_of F b scRdF (fun vs H Q E h => ?_) (fun cdv A outer s H vs Q E hr h => ?_)
  · obtain ⟨_, _, rfl, _⟩ := h
    rfl
  · have sc := scRdF
    obtain ⟨l, ws, rfl, hl, hw, hn, hf, k⟩ := h
    obtain ⟨tG, gGr⟩ := gGr
    refine ⟨_, (pss_cons (ps_if (pt_cmpR op_eq (pe_callB call_len_seq (by rfl) B.len PySem.boot_len (pa_cons (pv 0) pa_nil)) pe_int (nomark _)) (pss_one (ps_ret (pe_ifExp (pt_val (pe_f cN hr (by omega) rfl (pa_cons (pe_ix ix_list (pv 0) pe_int (fun _ _ => rfl)) pa_nil))) (pe_ix ix_list (pv 0) pe_int (fun _ _ => rfl)) (pe_f cW hr (by omega) rfl (pa_cons (pe_ix ix_list (pv 0) pe_int (fun _ _ => rfl)) (pa_cons pe_int (pa_cons (pe_glob (v := .int 999) rfl gGr ⟨_, rfl⟩) pa_nil))))))) pss_nil) (pss_cons (ps_if (PW.pt (pw_and (pt_cmpR op_gt (pe_callB call_len_seq (by rfl) B.len PySem.boot_len (pa_cons (pv 0) pa_nil)) pe_int (nomark _)) (pw_and (pt_cmpR op_eq (pe_ix ix_list (pv 0) pe_int (fun _ _ => rfl)) pe_str (nomark _)) (pw_and1 (pt_cmpR op_eq (pe_ix ix_list (pv 0) (pe_un un_neg pe_int) (fun _ _ => rfl)) pe_str (nomark _)))))) (pss_one (ps_ret (pe_f cV hr (by omega) rfl (pa_cons (pe_slice sl_list (pv 0) (po_some pe_int) (po_some (pe_un un_neg pe_int))) pa_nil)))) pss_nil) (pss_one (ps_ret pe_non)))), ?_⟩
    have out : (∀ x, ws ≠ [x]) → ¬ (ws.length > 2 ∧ ws.head? = some ("(" : Str) ∧ ws.getLast? = some (")" : Str)) → ∀ H', Same H H' → Q .non H' := fun h1 h2 H' s1 => k .non H' s1 (by
      have : Mi.tF (n + 1) ws = none := by
        cases ws with
        | nil => rfl
        | cons x r =>
          cases r with
          | nil => exact absurd rfl (h1 x)
          | cons y r =>
            unfold Mi.tF
            refine if_neg fun e => h2 ?_
            simp only [Bool.and_eq_true, decide_eq_true_iff, beq_iff_eq] at e
            exact ⟨e.1.1, e.1.2, e.2⟩
      rw [this]
      rfl)
    refine ⟨_, rfl, l, _, rfl, .inl hl, rfl, _, rfl, ?_⟩
    have len : (ws.map V.str).length = ws.length := List.length_map ..
    rw [len]
    by_cases h1 : ws.length = 1
    · obtain ⟨x, rfl⟩ := List.length_eq_one_iff.mp h1
      have hat : atI (([x] : List Str).map V.str) 0 = some (V.str x) := rfl
      have hx := hw x (List.mem_cons_self ..)
      refine ifT (by rw [h1]; decide) ?_
      refine ⟨_, rfl, l, _, 0, _, rfl, rfl, hl, hat, x, rfl, hx, fun H1 s1 => ⟨_, rfl, ?_⟩⟩
      cases hN : Mi.isName x with
      | true =>
        refine iteT ⟨_, rfl, l, _, 0, _, rfl, rfl, hl.same s1, hat, k _ _ s1 ?_⟩
        have : Mi.tF (n + 1) [x] = some (.var x) := by
          show Mi.atomT x = _
          unfold Mi.atomT
          rw [if_pos hN]
        rw [this]; rfl
      | false =>
        refine iteF ⟨_, rfl, l, _, 0, _, rfl, rfl, hl.same s1, hat, x, 0, 999, rfl, hx, by decide, by decide, fun H2 s2 => k _ _ (s1.trans s2) ?_⟩
        have : Mi.tF (n + 1) [x] = (Mi.wholeP x 0 999).map .num := by
          show Mi.atomT x = _
          unfold Mi.atomT
          rw [if_neg (by rw [hN]; simp)]
        rw [this]
        cases Mi.wholeP x 0 999 <;> rfl
    · have n1 : ∀ x, ws ≠ [x] := fun x e => h1 (by rw [e]; rfl)
      refine ifF (by simpa using fun z => h1 (by omega)) ?_
      refine ⟨_, rfl, l, _, rfl, .inl hl, _, _, rfl, rfl, _, rfl, ?_⟩
      rw [len]
      by_cases h2 : ws.length > 2
      · refine ifT (decide_eq_true (by omega)) ?_
        have hat : atI (ws.map V.str) 0 = some (V.str (ws[0]'(by omega))) := by
          refine atI_nat (j := 0) ?_
          rw [List.getElem?_map, List.getElem?_eq_getElem (by omega)]
          rfl
        have hat2 : atI (ws.map V.str) (-1) = some (V.str (ws[ws.length - 1]'(by omega))) := by
          have hne : ws ≠ [] := fun e => by rw [e] at h2; exact absurd h2 (by decide)
          have e1 : ws.map V.str = ws.dropLast.map V.str ++ [V.str (ws.getLast hne)] := by
            have e := congrArg (List.map V.str) (List.dropLast_concat_getLast hne)
            rw [List.map_append] at e
            exact e.symm
          rw [e1, atI_last, List.getLast_eq_getElem]
        have hd : ws.head? = some (ws[0]'(by omega)) := by rw [List.head?_eq_getElem?, List.getElem?_eq_getElem (by omega)]
        have hg : ws.getLast? = some (ws[ws.length - 1]'(by omega)) := by rw [List.getLast?_eq_getElem?, List.getElem?_eq_getElem (by omega)]
        refine ⟨_, rfl, l, _, 0, _, rfl, rfl, hl, hat, rfl, _, rfl, ?_⟩
        by_cases h3 : ws[0]'(by omega) = "("
        · refine ifT (by rw [h3]; exact decide_eq_true rfl) ?_
          refine ⟨_, rfl, 1, rfl, l, _, _, _, rfl, rfl, hl, hat2, rfl, _, rfl, ?_⟩
          by_cases h4 : ws[ws.length - 1]'(by omega) = ")"
          · refine ifT (by rw [h4]; exact decide_eq_true rfl) ?_
            refine ⟨_, rfl, _, rfl, 1, rfl, _, rfl, l, _, rfl, hl, fun q nq => ?_⟩
            have s1 : Same H (upd H q (.lst (cutV (ws.map V.str) (some 1) (some (-1))))) := Same.new nq
            have ec : cutV (ws.map V.str) (some 1) (some (-1)) = ((ws.drop 1).dropLast).map V.str := by
              unfold cutV HT.sIx
              have a1 : ¬ (1 : Int) < 0 := by decide
              have a2 : (-1 : Int) < 0 := by decide
              have a3 : (-1 + (ws.length : Int)).toNat = ws.length - 1 := by omega
              have a4 : min (1 : Int).toNat ws.length = 1 := by show min 1 ws.length = 1; omega
              simp only [a1, a2, if_false, if_true, List.length_map, a3, a4, List.dropLast_eq_take, List.length_drop, List.map_take, List.map_drop]
            have l2 : ((ws.drop 1).dropLast).length = ws.length - 2 := by rw [List.length_dropLast, List.length_drop]; omega
            refine ⟨q, (ws.drop 1).dropLast, rfl, .inl (.inl (upd_same.trans (by rw [ec]))), fun x hx => hw x (List.mem_of_mem_drop (List.dropLast_subset _ hx)), by omega, by omega, fun v H1 s2 o1 => k v H1 (s1.trans s2) ?_⟩
            have : Mi.tF (n + 1) ws = Mi.tV n (ws.drop 1).dropLast := by
              cases ws with
              | nil => exact absurd h2 (by decide)
              | cons x r =>
                cases r with
                | nil => exact absurd h2 (by simp)
                | cons y r =>
                  unfold Mi.tF
                  refine if_pos ?_
                  rw [decide_eq_true h2, hd, hg, h3, h4]
                  decide
            rw [this]
            exact o1
          · refine ifF (by simp [h4]) ?_
            exact out n1 (fun z => h4 (by rw [hg] at z; exact Option.some.inj z.2.2)) H (Same.refl H)
        · refine ifF (by simp [h3]) ?_
          exact out n1 (fun z => h3 (by rw [hd] at z; exact Option.some.inj z.2.1)) H (Same.refl H)
      · refine ifF (decide_eq_false (by omega)) ?_
        exact out n1 (fun z => h2 z.1) H (Same.refl H)
/-- a call by its name -/
theorem calF_of {k : Nat} {x : Str} {sp : Sp} (h : FnR P w K mg base CX0 k f sp) (g : mg x = some (.ref f)) (kp : PySem.W.keepIn K (.ref f) = true) : CalF P w K mg base k x sp := ⟨f, h, g, kp⟩
theorem fnR_no {k : Nat} {sp : Sp} (h : ∀ vs H Q E, ¬ sp vs H Q E) : FnR P w K mg base CX0 k f sp := fun _ _ _ _ _ vs Q E _ _ _ z => absurd z (h vs _ Q E)
/-- the reader of expressions, level by level -/
theorem ok_readers {f1 f2 f3 f4 : Addr} {d1 d2 d3 d4 : FuncData} (F1 : L2.Fun K "_read_value" "_read_value" sRdV f1 d1) (b1 : Binds K d1 PRdV []) (g1 : mg "_read_value" = some (.ref f1)) (k1 : PySem.W.keepIn K (.ref f1) = true)
    (F2 : L2.Fun K "_read_sum" "_read_sum" sRdS f2 d2) (b2 : Binds K d2 PRdS []) (g2 : mg "_read_sum" = some (.ref f2)) (k2 : PySem.W.keepIn K (.ref f2) = true)
    (F3 : L2.Fun K "_read_product" "_read_product" sRdP f3 d3) (b3 : Binds K d3 PRdP []) (g3 : mg "_read_product" = some (.ref f3)) (k3 : PySem.W.keepIn K (.ref f3) = true)
    (F4 : L2.Fun K "_read_factor" "_read_factor" sRdF f4 d4) (b4 : Binds K d4 PRdF []) (g4 : mg "_read_factor" = some (.ref f4)) (k4 : PySem.W.keepIn K (.ref f4) = true)
    (B : Bi mg) (gGr : ∃ t, mg "GREATEST" = some (.int 999 t)) (cO : CalF P w K mg base 1 "_last_outside" (spLastO K)) (cJ : CalF P w K mg base 1 "_joined" spJoined) (cN : CalF P w K mg base 2 "is_name" spIsName) (cW : CalF P w K mg base 2 "read_whole" spRWhole) :
    ∀ n, CalF P w K mg base (n + 3) "_read_value" (spRd K Mi.tV 4 n) ∧ CalF P w K mg base (n + 3) "_read_sum" (spRd K Mi.tS 3 n) ∧ CalF P w K mg base (n + 3) "_read_product" (spRd K Mi.tP 2 n) ∧ CalF P w K mg base (n + 3) "_read_factor" (spRd K Mi.tF 1 n)
  | 0 => ⟨calF_of (fnR_no fun vs H Q E ⟨l, ws, _, _, _, _, h, _⟩ => by omega) g1 k1, calF_of (fnR_no fun vs H Q E ⟨l, ws, _, _, _, _, h, _⟩ => by omega) g2 k2, calF_of (fnR_no fun vs H Q E ⟨l, ws, _, _, _, _, h, _⟩ => by omega) g3 k3, calF_of (fnR_no fun vs H Q E ⟨l, ws, _, _, _, _, h, _⟩ => by omega) g4 k4⟩
  | n + 1 => by
    obtain ⟨cV, cS, cP, cF⟩ := ok_readers F1 b1 g1 k1 F2 b2 g2 k2 F3 b3 g3 k3 F4 b4 g4 k4 B gGr cO cJ cN cW n
    exact ⟨calF_of (ok_rdV (j := n + 2) F1 b1 B cO cJ cS) g1 k1, calF_of (ok_rdS (j := n + 2) F2 b2 B cO cJ cS cP) g2 k2, calF_of (ok_rdP (j := n + 2) F3 b3 B cO cJ cP cF) g3 k3, calF_of (ok_rdF (j := n + 1) F4 b4 B gGr cN cW cV) g4 k4⟩
end
end Ws

namespace Ws
open PySem PySem.Spec PyProof.Rows L2
noncomputable abbrev sRdX : Stmt := (PySem.Challenge.pw_whatspeed_k17_what_a_program_tells.main.body.getD 18 (.Pass ⟨0, 0, 0, 0⟩))
noncomputable abbrev NRdX : List Str := ["words"]
noncomputable abbrev PRdX : List Str := ["words"]
theorem scRdX : FnScope NRdX PRdX (defScope sRdX) := ⟨rfl, rfl, rfl, by decide +kernel, rfl, by decide +kernel, by decide +kernel⟩
noncomputable abbrev sVarsO : Stmt := (PySem.Challenge.pw_whatspeed_k17_what_a_program_tells.main.body.getD 19 (.Pass ⟨0, 0, 0, 0⟩))
noncomputable abbrev NVarsO : List Str := ["tree", "_", "left", "right"]
noncomputable abbrev PVarsO : List Str := ["tree"]
theorem scVarsO : FnScope NVarsO PVarsO (defScope sVarsO) := ⟨rfl, rfl, rfl, by decide +kernel, rfl, by decide +kernel, by decide +kernel⟩
noncomputable def spRdX (K : PySem.W.Frag) : Sp := fun vs H Q _ => ∃ (l : Addr) (ws : List Str), vs = [.ref l] ∧ Wds K H l ws ∧ (∀ x ∈ ws, x.length ≤ sizeLine) ∧ ∀ v H', Same H H' → OTr H' v (Mi.readExpr ws) → Q v H'
noncomputable def high : Mi.Tr → Nat
  | .bin _ l r => max (high l) (high r) + 1
  | _ => 0
noncomputable def spVars (n : Nat) : Sp := fun vs H Q _ => ∃ (v : V) (t : Mi.Tr), vs = [v] ∧ TrAt H t v ∧ high t < n ∧ (t.vars.length < 1000000) ∧ ∀ p H', H p = none → Same H H' → H' p = some (.lst (t.vars.map V.str)) → Q (.ref p) H'
section
variable {P : Program} {w : World} {K : PySem.W.Frag} {mg : Str → Option Value} {base : Heap} {f : Addr} {fd : FuncData}
theorem ok_rdX (F : L2.Fun K "read_expression" "read_expression" sRdX f fd) (b : Binds K fd PRdX []) (B : Bi mg) (gMW : ∃ t, mg "MOST_WORDS" = some (.int 40 t)) (gMO : ∃ t, mg "MOST_OPENED" = some (.int 6 t)) (cMo : CalF P w K mg base 1 "_most_opened" (spMostO K)) (cVs : ∀ n, CalF P w K mg base (n + 3) "_read_value" (spRd K Mi.tV 4 n)) : FnR P w K mg base CX0 168 f (spRdX K) := by
  refine fnR_of F b scRdX (fun vs H Q E h => ?_) (fun cdv A outer s H vs Q E hr h => ?_)
  · obtain ⟨_, _, rfl, _⟩ := h
    rfl
  · have sc := scRdX
    obtain ⟨l, ws, rfl, hl, hw, k⟩ := h
    obtain ⟨tW, gMW⟩ := gMW
    obtain ⟨tO, gMO⟩ := gMO
    obtain ⟨n, hn, hn2⟩ : ∃ n, n ≤ 164 ∧ (ws.length ≤ 40 → n = 4 * ws.length + 4) := by
      by_cases h : ws.length ≤ 40
      · exact ⟨4 * ws.length + 4, by omega, fun _ => rfl⟩
      · exact ⟨0, by omega, fun z => absurd z h⟩
    have cV := cVs n
    refine ⟨_, (pss_cons (ps_if (PW.pt (pw_or (pt_cmpR op_gt (pe_callB call_len_seq (by rfl) B.len PySem.boot_len (pa_cons (pv 0) pa_nil)) (pe_glob (v := .int 40) rfl gMW ⟨_, rfl⟩) (nomark _)) (pw_or1 (pt_cmpR op_gt (pe_f cMo hr (by omega) rfl (pa_cons (pv 0) pa_nil)) (pe_glob (v := .int 6) rfl gMO ⟨_, rfl⟩) (nomark _))))) (pss_one (ps_ret pe_non)) pss_nil) (pss_one (ps_ret (pe_f cV hr (by omega) rfl (pa_cons (pv 0) pa_nil))))), ?_⟩
    have len : (ws.map V.str).length = ws.length := List.length_map ..
    refine ⟨_, rfl, l, _, rfl, .inl hl, _, _, rfl, rfl, _, rfl, ?_⟩
    rw [len]
    by_cases h1 : ws.length ≤ 40
    · refine ifF (decide_eq_false (by omega)) ?_
      refine ⟨_, rfl, l, ws, rfl, hl, _, _, rfl, rfl, _, rfl, ?_⟩
      by_cases h2 : Gr.most 0 (ws.map Mi.tok) ≤ 6
      · refine ifF (decide_eq_false (by omega)) ?_
        refine ⟨_, rfl, l, ws, rfl, hl, hw, by omega, by rw [hn2 h1]; exact Nat.le_refl _, fun v H' s1 o1 => k v H' s1 ?_⟩
        unfold Mi.readExpr
        rw [if_pos ⟨h1, h2⟩, ← hn2 h1]
        exact o1
      · refine ifT (decide_eq_true (by omega)) ?_
        refine k _ _ (Same.refl H) ?_
        unfold Mi.readExpr
        rw [if_neg (fun z => h2 z.2)]
        rfl
    · refine ifT (decide_eq_true (by omega)) (iteT ?_)
      refine k _ _ (Same.refl H) ?_
      unfold Mi.readExpr
      rw [if_neg (fun z => h1 z.1)]
      rfl
theorem ok_varsO {n : Nat} (F : L2.Fun K "variables_of" "variables_of" sVarsO f fd) (b : Binds K fd PVarsO []) (B : Bi mg) (gSt : mg "str" = none) (cS : CalF P w K mg base (n + 1) "variables_of" (spVars n)) : FnR P w K mg base CX0 (n + 2) f (spVars (n + 1)) := by
  refine fnR_of F b scVarsO (fun vs H Q E h => ?_) (fun cdv A outer s H vs Q E hr h => ?_)
  · obtain ⟨_, _, rfl, _⟩ := h
    rfl
  · have sc := scVarsO
    obtain ⟨v, t, rfl, ht, hh, hz, k⟩ := h
    refine ⟨_, (pss_cons (ps_if (pt_val (pe_callB (show CallR _ (.builtin "isinstance") (rIsi K) from call_isi) (by rfl) B.isinstance (by decide +kernel) (pa_cons (pv 0) (pa_cons (pe_bltn (v := .ty "int") (by rfl) B.int (by decide +kernel) rfl) pa_nil)))) (pss_one (ps_ret (pe_lst pa_nil))) pss_nil) (pss_cons (ps_if (pt_val (pe_callB (show CallR _ (.builtin "isinstance") (rIsi K) from call_isi) (by rfl) B.isinstance (by decide +kernel) (pa_cons (pv 0) (pa_cons (pe_bltn (v := .ty "str") (by rfl) gSt (by decide +kernel) rfl) pa_nil)))) (pss_one (ps_ret (pe_lst (pa_cons (pv 0) pa_nil)))) pss_nil) (pss_cons (ps_asg (pv 0) (pg_tup rfl (pgs_cons (pg_name (i := 1) sc.nd rfl (Or.inl rfl)) (pgs_cons (pg_name (i := 2) sc.nd rfl (Or.inl rfl)) (pgs_cons (pg_name (i := 3) sc.nd rfl (Or.inl rfl)) pgs_nil))))) (pss_one (ps_ret (pe_op op_cat (pe_f cS hr (by omega) rfl (pa_cons (pv 2) pa_nil)) (pe_f cS hr (by omega) rfl (pa_cons (pv 3) pa_nil)))))))), ?_⟩
    cases t with
    | num i =>
      cases ht
      refine ⟨_, rfl, _, _, _, _, true, rfl, .ty _, .base (.int i), kit_ty (by decide +kernel), true, rfl, iteT ?_⟩
      refine ⟨by decide, fun p np => ?_⟩
      exact k p _ np (Same.new np) upd_same
    | var x =>
      cases ht
      refine ⟨_, rfl, _, _, _, _, false, rfl, .ty _, .base (.str x), kit_ty (by decide +kernel), false, rfl, iteF ?_⟩
      refine ⟨_, rfl, _, _, _, _, true, rfl, .ty _, .base (.str x), kit_ty (by decide +kernel), true, rfl, iteT ?_⟩
      refine ⟨_, rfl, (by show 1 ≤ 2 ^ 24; decide), fun p np => ?_⟩
      exact k p _ np (Same.new np) upd_same
    | bin x tl tr =>
      obtain ⟨a, vl, vr, rfl, ha, hl, hr2⟩ := ht
      refine ⟨_, rfl, _, _, _, _, false, rfl, .ty _, .base (.tup ha), kit_ty (by decide +kernel), false, rfl, iteF ?_⟩
      refine ⟨_, rfl, _, _, _, _, false, rfl, .ty _, .base (.tup ha), kit_ty (by decide +kernel), false, rfl, iteF ?_⟩
      have h1 : high tl < n ∧ high tr < n := by
        have : high (.bin x tl tr) = max (high tl) (high tr) + 1 := rfl
        omega
      have hv : (Mi.Tr.bin x tl tr).vars = tl.vars ++ tr.vars := rfl
      rw [hv, List.length_append] at hz
      refine ⟨_, rfl, a, _, rfl, .inl (.inl ha), rfl, _, _, rfl, _, _, rfl, _, _, rfl, rfl, ?_⟩
      refine ⟨_, rfl, vl, tl, rfl, hl, h1.1, by omega, fun p H1 np s1 e1 => ?_⟩
      refine ⟨_, rfl, vr, tr, rfl, TrAt.same s1 hr2, h1.2, by omega, fun p2 H2 np2 s2 e2 => ?_⟩
      refine ⟨p, p2, _, _, rfl, rfl, s2 _ _ e1, e2, ?_, fun q nq => ?_⟩
      · rw [List.length_map, List.length_map]
        exact Nat.le_trans (Nat.le_of_lt hz) (by decide)
      · refine k q _ ?_ ((s1.trans s2).trans (Same.new nq)) ?_
        · exact Same.free (s1.trans s2) nq
        · rw [hv, List.map_append]
          exact upd_same
/-- the names of a tree, level by level -/
theorem ok_vars (F : L2.Fun K "variables_of" "variables_of" sVarsO f fd) (b : Binds K fd PVarsO []) (B : Bi mg) (gSt : mg "str" = none) (g : mg "variables_of" = some (.ref f)) (kp : PySem.W.keepIn K (.ref f) = true) : ∀ n, CalF P w K mg base (n + 1) "variables_of" (spVars n)
  | 0 => calF_of (fnR_no fun vs H Q E ⟨v, t, _, _, h, _⟩ => absurd h (Nat.not_lt_zero _)) g kp
  | n + 1 => calF_of (ok_varsO F b B gSt (ok_vars F b B gSt g kp n)) g kp
/-! ### how high a tree is that was read -/
theorem join_high {s : Option Str} {l r : Option Mi.Tr} {t : Mi.Tr} {n : Nat} (h : Mi.join s l r = some t) (hl : ∀ u, l = some u → high u ≤ n) (hr : ∀ u, r = some u → high u ≤ n) : high t ≤ n + 1 := by
  unfold Mi.join at h
  split at h
  · rename_i s a b
    cases h
    have h1 := hl a rfl
    have h2 := hr b rfl
    show max (high a) (high b) + 1 ≤ n + 1
    omega
  · cases h
theorem read_high : ∀ (n : Nat), (∀ ws t, Mi.tV n ws = some t → high t ≤ n) ∧ (∀ ws t, Mi.tS n ws = some t → high t ≤ n) ∧ (∀ ws t, Mi.tP n ws = some t → high t ≤ n) ∧ (∀ ws t, Mi.tF n ws = some t → high t ≤ n)
  | 0 => ⟨fun _ _ h => (by unfold Mi.tV at h; cases h), fun _ _ h => (by unfold Mi.tS at h; cases h), fun _ _ h => (by unfold Mi.tP at h; cases h), fun _ _ h => (by unfold Mi.tF at h; cases h)⟩
  | n + 1 => by
    obtain ⟨i1, i2, i3, i4⟩ := read_high n
    refine ⟨fun ws t h => ?_, fun ws t h => ?_, fun ws t h => ?_, fun ws t h => ?_⟩
    · unfold Mi.tV at h
      split at h
      · exact Nat.le_succ_of_le (i2 _ _ h)
      · exact join_high h (fun u e => i2 _ _ e) (fun u e => i2 _ _ e)
    · unfold Mi.tS at h
      split at h
      · exact Nat.le_succ_of_le (i3 _ _ h)
      · exact join_high h (fun u e => i2 _ _ e) (fun u e => i3 _ _ e)
    · unfold Mi.tP at h
      split at h
      · exact Nat.le_succ_of_le (i4 _ _ h)
      · exact join_high h (fun u e => i3 _ _ e) (fun u e => i4 _ _ e)
    · unfold Mi.tF at h
      split at h
      · rename_i x
        unfold Mi.atomT at h
        split at h
        · cases h; exact Nat.zero_le _
        · obtain ⟨i, _, rfl⟩ := Option.map_eq_some_iff.mp h
          exact Nat.zero_le _
      · split at h
        · exact Nat.le_succ_of_le (i1 _ _ h)
        · cases h
theorem expr_high {ws : List Str} {t : Mi.Tr} (h : Mi.readExpr ws = some t) : high t ≤ 164 := by
  unfold Mi.readExpr at h
  split at h
  · rename_i c
    exact Nat.le_trans ((read_high _).1 _ _ h) (by omega)
  · cases h
end
end Ws

namespace Ws
open PySem PySem.Spec PyProof.Rows L2
/-! ### enumerate of a tuple -/
open AutoSeq1 (wpAny_loadPart') in
theorem enumT_new (t : Addr) (vs : Array Value) (m : Nat) (q : Option Addr) (sl : Array (Option Value)) :
    Meets (Builtin.«enumerate.__new__» ⟨[.type "enumerate", .ref t], []⟩) (fun _ R s => s.heap.get? t = some { cls := .type "tuple", dict := q, data := .seq vs m, slots := sl } ∧ R (.ok (.ret (.ref (s.heap.push { cls := .type "tuple_iterator", data := .fields #[.ref t, .int 0 0] }).objs.size))) { s with heap := (s.heap.push { cls := .type "tuple_iterator", data := .fields #[.ref t, .int 0 0] }).push { cls := .type "enumerate", data := .fields #[.none, .bool false, .ref s.heap.objs.size, rawInt 0, .none, .none] } }) :=
  .of_wp fun prog w A R s h => by
    obtain ⟨hp, g, d, tk, os⟩ := s; obtain ⟨ht, h⟩ := h
    have ssub := sub_enumerate
    have hT : Heap.IsTuple (Shared.heap ⟨hp, g, d, tk, os⟩) t vs := ⟨_, ht, rfl, m, rfl⟩
    wp_walk using wpAny_loadPart' ht
    refine wpAny_stack_any fun _ => wpAny_pure ?_
    split
    · rename_i c _ _ _ _ _
      cases (c == Value.type "enumerate") <;> (wp_walk using wpAny_loadPart' ht, wpAny_pyIter_tuple hT; exact ⟨_, rfl, h⟩)
    · wp_walk using wpAny_loadPart' ht, wpAny_pyIter_tuple hT
      exact ⟨_, rfl, h⟩
section
variable {prog : Program} {w : World} {A : Around} {E : Value → Shared → Prop} {s : Shared}
theorem enumT_call {t : Addr} {vs : Array Value} {Q : Value → Shared → Prop} (hT : s.heap.IsTuple t vs)
    (h : ∀ g, IsEnum g (s.heap.objs.size + 1) s.heap.objs.size 0 .none → g.IsTupleIter s.heap.objs.size t 0 → g.objs.size = s.heap.objs.size + 2 → (∀ b o, s.heap.get? b = some o → g.get? b = some o) → Q (.ref (s.heap.objs.size + 1)) { s with heap := g }) : wpAny (model prog w) A (call (.type "enumerate") [.ref t]) Q E s := by
  obtain ⟨⟨c, q, d, sl⟩, ht, e1, m, e2⟩ := hT
  replace e1 : c = .type "tuple" := e1
  replace e2 : d = .seq vs m := e2
  subst e1 e2
  refine callType_new F.called_enumerate (by decide) (F.typeCall_enumerate_1 _) (F.newCall_enumerate_1 _) (fun obj => F.args_object_init_2 obj _) F.entry_enumerate_new (enumT_new t vs m q sl) ⟨ht, ?_⟩
  let it0 : Obj := { cls := .type "tuple_iterator", data := .fields #[.ref t, .int 0 0] }
  have z1 : (s.heap.push it0).objs.size = s.heap.objs.size + 1 := Heap.size_push ..
  let en0 : Obj := { cls := .type "enumerate", data := .fields #[.none, .bool false, .ref s.heap.objs.size, rawInt 0, .none, .none] }
  have he : IsEnum ((s.heap.push it0).push en0) (s.heap.objs.size + 1) s.heap.objs.size 0 .none := by
    have z := Heap.get?_push_size (s.heap.push it0) (o := en0) rfl
    rw [z1] at z
    exact z
  have hi : ((s.heap.push it0).push en0).IsTupleIter s.heap.objs.size t 0 := ⟨it0, Heap.get?_push_of_some _ (Heap.get?_push_size _ rfl), rfl, rfl⟩
  show _ ∧ _
  have z1' : (s.heap.push { cls := .type "tuple_iterator", data := .fields #[.ref t, .int 0 0] }).objs.size = s.heap.objs.size + 1 := z1
  rw [z1']
  exact ⟨⟨_, he, rfl⟩, h _ he hi (by rw [Heap.size_push, z1']) fun b o x => Heap.get?_push_of_some _ (Heap.get?_push_of_some _ x)⟩
end
/-- the tuple at a, each item in a new pair -/
noncomputable def IteT (K : PySem.W.Frag) (a : Addr) : It :=
  ⟨fun i H => ∃ (xs : List V) (x : V), SqT K H a xs ∧ xs[i]? = some x, fun i H v H' => ∃ T x, v = .ref T ∧ H T = none ∧ H' = upd H T (.tup [.int (i : Nat), x]) ∧ ∀ xs, SqT K H a xs → xs[i]? = some x, fun i H => ∃ xs : List V, SqT K H a xs ∧ xs.length = i⟩
theorem turnT {P : Program} {w : World} {K : PySem.W.Frag} {elts : List Expr} {kk : Nat} {tpos : Pos} (a e it : Addr) :
    Turn P w K (.Tuple elts kk tpos) (IteT K a) [e, it] e (fun i h => (∃ old, IsEnum h e it ((i : Nat) : Int) old) ∧ h.IsTupleIter it a i ∧ e ≠ it) where
  mem := by simp
  obj := fun i h st b hb => by
    obtain ⟨⟨old, he⟩, ⟨oi, hoi, _, hdi⟩, _⟩ := st
    rcases (show b = e ∨ b = it by simpa using hb) with z | z
    · subst z; exact ⟨_, he, fun v q => nomatch q⟩
    · subst z; exact ⟨oi, hoi, fun v q => by rw [hdi] at q; cases q⟩
  keep := fun i h h' st k => let ⟨⟨old, he⟩, hi, ht⟩ := st; ⟨⟨old, k e (by simp) _ he⟩, hi.at fun o q => k it (by simp) o q, ht⟩
  item := by
    intro X hP hw hK hc i pins s σ H E I hf st hg
    subst hP hw hK
    obtain ⟨⟨old, he⟩, hit, hei⟩ := st
    obtain ⟨xs, x, hq, hx⟩ := hg
    obtain ⟨its, rv, p, hz⟩ := I.tuple hq
    obtain ⟨u, hu, ru⟩ := rv.get hx
    have hlt : i < its.toArray.size := by simpa using (List.getElem?_eq_some_iff.mp hu).1
    have hel : e < s.heap.objs.size := Heap.lt_size he
    have hil : it < s.heap.objs.size := by obtain ⟨_, q, _⟩ := hit; exact Heap.lt_size q
    have hai : a ≠ it := fun z => by
      obtain ⟨o1, g1, c1, _⟩ := p
      obtain ⟨o2, g2, c2, _⟩ := hit
      rw [z, g2] at g1
      cases g1
      rw [c2] at c1
      injection c1 with c1
      exact absurd c1 (by decide)
    have hea : e ≠ a := fun z => by
      obtain ⟨o1, g1, c1, _⟩ := p
      rw [← z, he] at g1
      cases g1
      injection c1 with c1
      exact absurd c1 (by decide)
    have hh : X.A.in1.handled = none := I.ok.hd hc
    refine wpAny_pyNext_enum_itemD (Draws.tuple hh it a hai its.toArray) he ⟨hit, p⟩ hlt hei (by simp [hei, hea]) fun u' g tk hu' ho hst hT hsz hk => ?_
    have eu : u' = u := by
      have z : its.toArray[i]? = some u := by simpa using hu
      exact Option.some.inj ((show its.toArray[i]? = some u' from hu').symm.trans z)
    subst eu
    refine ⟨_, rfl, wpAny_letOwnedTupleGo_enum (s := { s with heap := g, toks := tk + 1 }) ho fun g2 he2 sb => ?_⟩
    have hT2 : g2.get? s.heap.objs.size = some { cls := .type "tuple", data := .seq #[.int i tk, u'] } := (sb.2 _ (Nat.ne_of_gt hel)).trans hT
    have new : ObjOk X.prog X.w (upd H s.heap.objs.size (.tup [.int (i : Nat), x])) g2 s.heap.objs.size (.tup [.int (i : Nat), x]) :=
      ⟨(by show 2 ≤ sizeLine; decide), [.int i tk, u'], .cons ⟨_, rfl⟩ (.cons ru .nil), ⟨_, hT2, rfl, _, rfl⟩⟩
    have I1 : Inv X pins σ (upd H s.heap.objs.size (.tup [.int (i : Nat), x])) { s with heap := g2, toks := tk + 1 } :=
      I.turnedNew (ch := [e, it]) (fun b ob hb q => (sb.2 b (fun z => hb (by simp [z]))).trans (hk b ob (fun z => hb (by simp [z])) (fun z => hb (by simp [z])) q)) hf (Nat.le_refl _) new
    refine ⟨.ref s.heap.objs.size, _, I1, rfl, ⟨_, x, rfl, I.hok.fresh (Nat.le_refl _), rfl, fun ys hy => by rw [I.tuple_inj hy hq]; exact hx⟩, ⟨⟨u', ?_⟩, hst.1.at fun o q => (sb.2 it (Ne.symm hei)).trans q, hei⟩, fun b hb => ?_⟩
    · rw [show ((i + 1 : Nat) : Int) = (i : Int) + 1 from by omega]
      exact he2
    · have hb' : b < s.heap.objs.size := by
        rcases (show b = e ∨ b = it by simpa using hb) with z | z <;> (rw [z]; assumption)
      rw [upd_ne (Nat.ne_of_lt hb')]
      exact (hf b hb).1
  done := by
    intro X hP hw hK hc i pins s σ H E I hf st hg
    subst hP hw hK
    obtain ⟨⟨old, he⟩, hit, hei⟩ := st
    obtain ⟨xs, hq, hx⟩ := hg
    obtain ⟨its, rv, p, hz⟩ := I.tuple hq
    have hai : a ≠ it := fun z => by
      obtain ⟨o1, g1, c1, _⟩ := p
      obtain ⟨o2, g2, c2, _⟩ := hit
      rw [z, g2] at g1
      cases g1
      rw [c2] at c1
      injection c1 with c1
      exact absurd c1 (by decide)
    have hh : X.A.in1.handled = none := I.ok.hd hc
    have ei : i = its.toArray.size := by rw [← hx, rv.length]; simp
    subst ei
    obtain ⟨f0, f1, f2, f3, f4, f5⟩ := hf it (by simp)
    exact wpAny_pyNext_enum_endD (Draws.tuple (prog := X.prog) (w := X.w) hh it a hai its.toArray) he ⟨hit, p⟩ fun g eb => ⟨rfl, I.turned (t' := s.toks) (fun b o hb q => eb b o hb q) f0 f1 f3 f4 f5⟩
  self := fun A i s Q E st h => let ⟨⟨_, he⟩, _⟩ := st; wpAny_pyIter_enum he h
noncomputable def iEnT (K : PySem.W.Frag) (ta : TA) : TI := fun σ H R => ta σ H fun vs H1 => ∃ a xs, vs = [.ref a] ∧ SqT K H1 a xs ∧ R (IteT K a) H1
theorem pi_enT {X : Cx} {e : Expr} {ta : TA} {p pos tpos : Pos} {elts : List Expr} {kk : Nat} (hg : Gl X "enumerate") (hm : X.mg "enumerate" = none) (ha : PA X [e] ta) (hst : starEach [e] X.env = [(false, eval e X.env)] := by rfl) : PI X (.Tuple elts kk tpos) (.Call (.Name "enumerate" p) [e] [] pos) (iEnT X.K ta) := by
  refine ⟨fun pins s σ H R I h => ?_⟩
  refine Call_ (ld_blt I hg hm boot_enumerate (PyProof.Rows.callWith_type1 (thn (ha.run pos pins s σ H _ I h) fun us s1 ⟨vs, H1, I1, r1, a, xs, ex, hq, q⟩ => ?_) hst rfl))
  subst ex
  cases r1 with
  | cons r rr =>
    cases rr
    cases r
    obtain ⟨its, rv, p', hz⟩ := I1.tuple hq
    refine enumT_call p' fun g he hit hsz hk => wpAny_pyIter_enum he ?_
    have I2 : Inv X pins σ H1 { s1 with heap := g } := I1.kept (t' := s1.toks) hk
    refine ⟨s1.heap.objs.size + 1, [s1.heap.objs.size + 1, s1.heap.objs.size], _, _, H1, rfl, I2, turnT a (s1.heap.objs.size + 1) s1.heap.objs.size, ⟨⟨.none, he⟩, hit, Nat.succ_ne_self _⟩, fun b hb => ?_, q⟩
    have hle : s1.heap.objs.size ≤ b := by
      rcases (show b = s1.heap.objs.size + 1 ∨ b = s1.heap.objs.size by simpa using hb) with z | z
      · rw [z]; exact Nat.le_succ _
      · rw [z]; exact Nat.le_refl _
    exact I1.fpOk hle (I1.hok.fresh hle)
theorem for_enT {K : PySem.W.Frag} {a : Addr} {xs : List V} {g : TG} {tb : TS} {D : Ends} {σ : L2.St} {H : Hp} (Pv : Nat → L2.St → Hp → Prop) (h0 : Pv 0 σ H) (hl : ∀ i σ H, i ≤ xs.length → Pv i σ H → SqT K H a xs)
    (st : ∀ (i : Nat) (x : V) (σ : L2.St) (H : Hp) (T : Addr), xs[i]? = some x → Pv i σ H → H T = none → g (.ref T) σ (upd H T (.tup [.int i, x])) fun σ2 H2 => tb { nx := Pv (i + 1), rt := D.rt, bk := D.nx, ct := Pv (i + 1) } σ2 H2)
    (hd : ∀ σ H, Pv xs.length σ H → D.nx σ H) :
    ∃ W : Nat → Nat → L2.St → Hp → Prop, (∃ m, W 0 m σ H) ∧ ∀ (i m : Nat) (σ : L2.St) (H : Hp), W i m σ H → (IteT K a).stop i H ∧ D.nx σ H ∨ (IteT K a).go i H ∧ ∃ N : L2.St → Hp → Prop, (∀ σ' H', N σ' H' → ∃ m', m' < m ∧ W (i + 1) m' σ' H') ∧ ∀ (x : V) (H' : Hp), (IteT K a).yld i H x H' → g x σ H' fun σ2 H2 => tb { nx := N, rt := D.rt, bk := D.nx, ct := N } σ2 H2 := by
  refine ⟨fun i m σ H => i ≤ xs.length ∧ m = xs.length - i ∧ Pv i σ H, ⟨_, Nat.zero_le _, rfl, h0⟩, ?_⟩
  rintro i m σ H ⟨hi, rfl, hp⟩
  have hs := hl i σ H hi hp
  by_cases e : i = xs.length
  · subst e
    exact .inl ⟨⟨xs, hs, rfl⟩, hd σ H hp⟩
  · have il : i < xs.length := by omega
    refine .inr ⟨⟨xs, xs[i], hs, List.getElem?_eq_getElem il⟩, fun σ' H' => Pv (i + 1) σ' H', fun σ' H' h => ⟨xs.length - (i + 1), by omega, by omega, rfl, h⟩, ?_⟩
    rintro x H' ⟨T, y, rfl, nT, rfl, hy⟩
    exact st i y σ H T (hy xs hs) hp nT
/-- the same, within a comprehension -/
theorem lc_enT {K : PySem.W.Frag} {a : Addr} {xs : List V} {g : TG} {tt : TT} {te : TE} {vs : List Nat} {σ : L2.St} {G1 : Hp} {D : Addr} {Qd : Hp → Prop} (Pv : Nat → Hp → Prop) (h0 : Pv 0 (upd G1 D (.lst []))) (hl : ∀ i G, i ≤ xs.length → Pv i G → SqT K G a xs)
    (st : ∀ (i : Nat) (x : V) (G : Hp) (T : Addr), xs[i]? = some x → Pv i G → G T = none → g (.ref T) (wipe σ vs) (upd G T (.tup [.int i, x])) fun σ2 G2 => wipe σ2 vs = wipe σ vs ∧ tt σ2 G2 fun b G3 => if b = true then te σ2 G3 fun y G4 => ∃ acc, G4 D = some (.lst acc) ∧ acc.length < sizeLine ∧ Pv (i + 1) (upd G4 D (.lst (acc ++ [y]))) else Pv (i + 1) G3)
    (hd : ∀ G, Pv xs.length G → Qd G) :
    ∃ W : Nat → Nat → Hp → Prop, (∃ m, W 0 m (upd G1 D (.lst []))) ∧ ∀ (i m : Nat) (G : Hp), W i m G → (IteT K a).stop i G ∧ Qd G ∨ (IteT K a).go i G ∧ ∃ Nx : Hp → Prop, (∀ G', Nx G' → ∃ m', m' < m ∧ W (i + 1) m' G') ∧
      ∀ (x : V) (G' : Hp), (IteT K a).yld i G x G' → g x (wipe σ vs) G' fun σ2 G2 => wipe σ2 vs = wipe σ vs ∧ tt σ2 G2 fun b G3 => if b = true then te σ2 G3 fun y G4 => ∃ acc, G4 D = some (.lst acc) ∧ acc.length < sizeLine ∧ Nx (upd G4 D (.lst (acc ++ [y]))) else Nx G3 := by
  refine ⟨fun i m G => i ≤ xs.length ∧ m = xs.length - i ∧ Pv i G, ⟨_, Nat.zero_le _, rfl, h0⟩, ?_⟩
  rintro i m G ⟨hi, rfl, hp⟩
  have hs := hl i G hi hp
  by_cases e : i = xs.length
  · subst e
    exact .inl ⟨⟨xs, hs, rfl⟩, hd G hp⟩
  · have il : i < xs.length := by omega
    refine .inr ⟨⟨xs, xs[i], hs, List.getElem?_eq_getElem il⟩, fun G' => Pv (i + 1) G', fun G' h => ⟨xs.length - (i + 1), by omega, by omega, rfl, h⟩, ?_⟩
    rintro x G' ⟨T, y, rfl, nT, rfl, hy⟩
    exact st i y G T (hy xs hs) hp nT
end Ws

namespace Ws
open PySem PySem.W PySem.Calls PyProof.Rows
section
variable {prog : Program} {w : World} {A : Around} {E : Value → Shared → Prop} {s : Shared} {K : Frag} {c C L f : Addr} {x : Value} {h₀ : Heap} {m : Str → Option Value} {oc : Obj} {od : Option Obj}
theorem in_K {Q : Value → Shared → Prop} (X : K.In s.heap) (I : InstAt s.heap c oc C od) (hs : findIn K (.ref C) "__contains__" = some (some (.ref f))) (hf : isFn K (.ref f) = true)
    (h : wpAny (model prog w) A (call (.ref f) [.ref c, x]) (fun v s' => ∃ b, v = .bool b ∧ Q (.bool b) s') E s) : wpAny (model prog w) A (compareOp .In x (.ref c)) Q E s := by
  show wpAny _ _ (do return .bool (← contains (.ref c) x)) Q E s
  refine wpAny_bind ?_
  unfold contains
  refine wpAny_holding ?_
  have e0 : stdlibNamesSay? (.ref c) x = none := by cases x <;> rfl
  rw [e0]
  refine wpAny_bind (wpAny_bind (I.type.here ((looks_findIn X hs).here ?_)))
  rw [if_neg (by simp)]
  refine wpAny_bind ?_
  unfold callSpecialUnlessNone?
  refine wpAny_bind (wpAny_bind (I.type.here ((looks_findIn X hs).here (wpAny_holding (wpAny_bind ((bind_fn X _ (beq_iff_eq.mp hf)).here ?_))))))
  dsimp only
  rw [if_neg (by simp)]
  refine wpAny_bind (wpAny_mono h (fun v s' hv => ?_) fun _ _ z => z)
  obtain ⟨b, rfl, q⟩ := hv
  exact wpAny_pure (wpAny_truthy_bool (wpAny_pure q))
end
end Ws
namespace Ws
open PySem PySem.Spec PyProof.Rows L2
section
variable {X : Cx} {k j : Nat} {C : Addr} {sp : Sp}
/-- v in a, by a's own __contains__ -/
noncomputable def rInO (C : Addr) (sp : Sp) : R2 := fun x y H Q => ∃ a dx fs, y = .ref a ∧ H a = some (.ins C dx fs) ∧ sp [.ref a, x] H (fun v H' => ∃ b, v = .bl b ∧ Q (.bl b) H') E0
theorem op_inO (c : OpnF X.prog X.w X.K X.mg X.base k C "__contains__" sp) (hr : Room j X.A) (hk : k ≤ j) : OpR X (compareOp .In) (rInO C sp) := by
  obtain ⟨f, h1, h2, F⟩ := c
  intro pins s σ H x y v u Q I rx ry h
  obtain ⟨a, dx, fs, rfl, ea, q⟩ := h
  cases (show u = Value.ref a from ry)
  obtain ⟨ox, od, J⟩ := inst_of I ea
  refine in_K I.kIn J h1 h2 (wpAny_mono (run_R (us := [.ref a, v]) (vs := [.ref a, x]) F (hr.mono hk) pass0 I (.cons rfl (.cons rx .nil)) q) (fun r s' hv => ?_) fun _ _ z => z)
  obtain ⟨z, H', I', rz, b, rfl, q'⟩ := hv
  cases (show r = Value.bool b from rz)
  exact ⟨b, rfl, .bl b, H', I', rfl, q'⟩
/-- one of several ways of an operator -/
theorem OpR.or {op : Value → Value → Sem Value} {r r' : R2} (h : OpR X op r) (h' : OpR X op r') : OpR X op (fun x y H Q => r x y H Q ∨ r' x y H Q) := by
  intro pins s σ H x y v u Q I rx ry q
  rcases q with q | q
  · exact h pins s σ H x y v u Q I rx ry q
  · exact h' pins s σ H x y v u Q I rx ry q
end
end Ws
namespace Ws
open PySem PySem.Spec PyProof.Rows L2
section
variable {X : Cx}
/-- xs.count(c), xs and c truths -/
noncomputable def isB (c : Bool) : Value → Bool
  | .bool b => b == c
  | _ => false
theorem bools_of : ∀ {bs : List Bool} {us : List Value}, Vals (bs.map V.bl) us → us = bs.map Value.bool
  | [], _, .nil => rfl
  | b :: bs, _, .cons h t => by
    cases (show _ = Value.bool b from h)
    rw [bools_of t]
    rfl
noncomputable def rCntB (K : PySem.W.Frag) : V → List V → Hp → VK → Prop := fun x xs H Q => ∃ (p : Addr) (bs : List Bool) (c : Bool), x = .ref p ∧ xs = [.bl c] ∧ SqL K H p (bs.map V.bl) ∧ Q (.int ((bs.countP (· == c) : Nat) : Int)) H
theorem mt_countB : MtR X "list.count" (rCntB X.K) := by
  intro pins s σ H x xs v us Q I rx rxs h
  obtain ⟨p, bs, c, rfl, rfl, hs, q⟩ := h
  cases rx
  obtain ⟨u, rfl, ru⟩ := rxs.one
  cases (show u = Value.bool c from ru)
  obtain ⟨its, rv, ⟨⟨cls, dd, data, sl⟩, n, ho, hc, hdn, hd⟩, hlen⟩ := I.list hs
  dsimp only at hc hd
  subst hc hd
  have hb := bools_of rv
  subst hb
  refine call_meets PySem.F.slot_list_count ⟨_, ho, rfl⟩ PySem.F.entry_list_count (PySem.F.args_list_count_2 _ _) (SeqAt.list_countAt p _ n dd sl (.bool c) (isB c)) ⟨ho, fun y hy => ?_, ?_⟩
  · have hy' : y ∈ bs.map Value.bool := by simpa using hy
    obtain ⟨b, _, rfl⟩ := List.mem_map.mp hy'
    exact SeqAt.EqAt.bool_bool b c
  · refine ⟨.int _, H, I.tok _, ⟨s.toks, ?_⟩, q⟩
    have e : (bs.map Value.bool).toArray.toList.countP (isB c) = bs.countP (· == c) := by
      rw [List.toList_toArray, List.countP_map]
      rfl
    rw [e]
end
end Ws

namespace Ws
open PySem PySem.Spec PyProof.Rows L2
noncomputable abbrev sFInit : Stmt := (inClass (PySem.Challenge.pw_whatspeed_k17_what_a_program_tells.main.body.getD 34 (.Pass ⟨0, 0, 0, 0⟩)) 0)
noncomputable abbrev NFInit : List Str := ["self", "kind", "slots", "found"]
noncomputable abbrev PFInit : List Str := ["self", "kind", "slots", "found"]
theorem scFInit : FnScope NFInit PFInit (defScope sFInit) := ⟨rfl, rfl, rfl, by decide +kernel, rfl, by decide +kernel, by decide +kernel⟩
noncomputable abbrev sHasL : Stmt := (PySem.Challenge.pw_whatspeed_k17_what_a_program_tells.main.body.getD 36 (.Pass ⟨0, 0, 0, 0⟩))
noncomputable abbrev NHasL : List Str := ["words", "slots"]
noncomputable abbrev PHasL : List Str := ["words", "slots"]
theorem scHasL : FnScope NHasL PHasL (defScope sHasL) := ⟨rfl, rfl, rfl, by decide +kernel, rfl, by decide +kernel, by decide +kernel⟩
noncomputable abbrev sRdW : Stmt := (PySem.Challenge.pw_whatspeed_k17_what_a_program_tells.main.body.getD 38 (.Pass ⟨0, 0, 0, 0⟩))
noncomputable abbrev NRdW : List Str := ["word", "slot", "low", "high"]
noncomputable abbrev PRdW : List Str := ["word", "slot"]
theorem scRdW : FnScope NRdW PRdW (defScope sRdW) := ⟨rfl, rfl, rfl, by decide +kernel, rfl, by decide +kernel, by decide +kernel⟩
noncomputable abbrev sRdSl : Stmt := (PySem.Challenge.pw_whatspeed_k17_what_a_program_tells.main.body.getD 37 (.Pass ⟨0, 0, 0, 0⟩))
noncomputable abbrev NRdSl : List Str := ["words", "slots", "found", "at", "slot", "one"]
noncomputable abbrev PRdSl : List Str := ["words", "slots"]
theorem scRdSl : FnScope NRdSl PRdSl (defScope sRdSl) := ⟨rfl, rfl, rfl, by decide +kernel, rfl, by decide +kernel, by decide +kernel⟩
noncomputable abbrev sRdFm : Stmt := (PySem.Challenge.pw_whatspeed_k17_what_a_program_tells.main.body.getD 35 (.Pass ⟨0, 0, 0, 0⟩))
noncomputable abbrev NRdFm : List Str := ["words", "table", "kind", "slots", "found"]
noncomputable abbrev PRdFm : List Str := ["words", "table"]
theorem scRdFm : FnScope NRdFm PRdFm (defScope sRdFm) := ⟨rfl, rfl, rfl, by decide +kernel, rfl, by decide +kernel, by decide +kernel⟩
/-! ### forms of lines, by the package -/
theorem sqtK {K : PySem.W.Frag} {t : Addr} {xs : List V} (h : ∀ H, SqT K H t xs) : ∃ o, K.lookup t = some o ∧ o.cls = .type "tuple" := by
  rcases h (fun _ => none) with (z | ⟨o, z⟩) | ⟨o, its, n, e, c, _⟩
  · cases z
  · cases z
  · exact ⟨o, e, c⟩
/-- what stands in a slot == a written text -/
noncomputable def rEqSl (K : PySem.W.Frag) : R2 := fun x y H Q => ∃ sl z, SlAt K sl x ∧ y = .str z ∧ PyData.strOk z = true ∧ Q (.bl (decide (x = .str z))) H
theorem op_eqSl {X : Cx} {k : Nat} (hr : Room k X.A) : OpR X (compareOp .Eq) (rEqSl X.K) := by
  intro pins s σ H x y v u Q I rx ry h
  obtain ⟨sl, z, hs, rfl, hz, q⟩ := h
  have str : ∀ a : Str, x = .str a → wpAny (model X.prog X.w) X.A (compareOp .Eq v u) (EP X pins σ Q) X.xe s := fun a e => by
    subst e
    exact op_eq pins s σ H _ _ v u Q I rx ry ⟨rfl, q⟩
  cases sl with
  | lit k => exact str _ hs.1
  | new => exact str _ hs
  | want w => exact str _ hs
  | value => exact str _ hs
  | num lo hi =>
    obtain ⟨_, t, rfl, ht⟩ := hs
    refine op_eqD hr.units pins s σ H _ _ v u Q I rx ry ⟨.tuple [.int lo, .int hi], .str z, .tup (ht H) (.cons (.int lo) (.cons (.int hi) .nil)), .str z, rfl, by show (PyData.strOk z && _) = true; rw [hz]; rfl, ?_⟩
    have e : PyData.eqv (.tuple [.int lo, .int hi]) (.str z) = false := by simp [PyData.eqv]
    rw [e]
    have e2 : decide (V.ref t = V.str z) = false := decide_eq_false (fun z => by cases z)
    rw [e2] at q
    exact q
noncomputable def FdAt (H : Hp) : Mi.Fd → V → Prop
  | .w x, v => v = .str x
  | .i n, v => v = .int n
  | .t tr, v => TrAt H tr v
theorem FdAt.same {H H' : Hp} (s : Same H H') : ∀ {f : Mi.Fd} {v : V}, FdAt H f v → FdAt H' f v
  | .w _, _, h => h
  | .i _, _, h => h
  | .t _, _, h => TrAt.same s h
noncomputable abbrev FdsAt (H : Hp) := Paired (FdAt H)
theorem FdsAt.same {H H' : Hp} (s : Same H H') {fs : List Mi.Fd} {vs : List V} (h : FdsAt H fs vs) : FdsAt H' fs vs := by
  induction h with
  | nil => exact .nil
  | cons h _ ih => exact .cons (h.same s) ih
/-- a form in the heap -/
noncomputable def FmAt (K : PySem.W.Frag) (CF : Addr) (H : Hp) (f : Mi.Fm) (v : V) : Prop := ∃ (a dx s u : Addr) (vs : List V), v = .ref a ∧ H a = some (.ins CF dx [("kind", .str (pkTxt f.kind)), ("slots", .ref s), ("found", .ref u)]) ∧ SlotsAt K s f.slots ∧ H u = some (.tup vs) ∧ FdsAt H f.found vs
theorem FmAt.same {K : PySem.W.Frag} {CF : Addr} {H H' : Hp} (s : Same H H') {f : Mi.Fm} {v : V} (h : FmAt K CF H f v) : FmAt K CF H' f v := by
  obtain ⟨a, dx, t, u, vs, e, h1, h2, h3, h4⟩ := h
  exact ⟨a, dx, t, u, vs, e, s _ _ h1, h2, s _ _ h3, h4.same s⟩
structure FormC (K : PySem.W.Frag) (CF : Addr) : Prop where
  cl : Cls K CF
  nK : NoAttr K CF "kind"
  nS : NoAttr K CF "slots"
  nF : NoAttr K CF "found"
noncomputable def spFInit (CF : Addr) : Sp := fun vs H Q _ => ∃ (x dx : Addr) (k s f : V), vs = [.ref x, k, s, f] ∧ H x = some (.ins CF dx []) ∧ ∀ H', Ch x H H' → H' x = some (.ins CF dx [("kind", k), ("slots", s), ("found", f)]) → Q .non H'
noncomputable def spHasL (K : PySem.W.Frag) : Sp := fun vs H Q _ => ∃ (l s : Addr) (ws : List Str) (sl : List Mi.Sl), vs = [.ref l, .ref s] ∧ Wds K H l ws ∧ SlotsAt K s sl ∧ sl ≠ [] ∧ Q (.bl (Mi.hasLen ws sl)) H
noncomputable def oFd (o : Option Mi.Fd) : V := match o with
  | some (.w x) => .str x
  | some (.i n) => .int n
  | _ => .non
noncomputable def spRdW (K : PySem.W.Frag) : Sp := fun vs H Q _ => ∃ (w : Str) (sl : Mi.Sl) (v : V), vs = [.str w, v] ∧ SlAt K sl v ∧ sl ≠ .value ∧ w.length ≤ sizeLine ∧ ∀ H', Same H H' → Q (oFd (Mi.readWord w sl)) H'
noncomputable def OFds (H : Hp) (v : V) : Option (List Mi.Fd) → Prop
  | none => v = .non
  | some fs => ∃ u vs, v = .ref u ∧ H u = some (.tup vs) ∧ FdsAt H fs vs
noncomputable def spRdS (K : PySem.W.Frag) : Sp := fun vs H Q _ => ∃ (l s : Addr) (ws : List Str) (sl : List Mi.Sl), vs = [.ref l, .ref s] ∧ Wds K H l ws ∧ SlotsAt K s sl ∧ sl.length ≤ ws.length ∧ (∀ x ∈ ws, x.length ≤ sizeLine) ∧ ∀ v H', Same H H' → OFds H' v (Mi.readSlots ws sl) → Q v H'
theorem paired_last {α : Type} {R : α → V → Prop} : ∀ {xs : List α} {vs : List V}, Paired R xs vs → ∀ x, xs.getLast? = some x → ∃ v, vs[vs.length - 1]? = some v ∧ vs.length = xs.length ∧ R x v
  | _, _, .nil, x, h => by cases h
  | [a], _, .cons h .nil, x, e => by
    cases e
    exact ⟨_, rfl, rfl, h⟩
  | a :: b :: xs, _ :: vs, .cons h t, x, e => by
    rw [List.getLast?_cons_cons] at e
    obtain ⟨v, h1, h2, h3⟩ := paired_last t x e
    refine ⟨v, ?_, by rw [List.length_cons, List.length_cons, h2], h3⟩
    have hl : 0 < vs.length := by rw [h2]; simp
    rw [List.length_cons, show vs.length + 1 - 1 = (vs.length - 1) + 1 from by omega, List.getElem?_cons_succ]
    exact h1
theorem paired_len {α β : Type} {R : α → β → Prop} : ∀ {xs : List α} {vs : List β}, Paired R xs vs → xs.length = vs.length
  | _, _, .nil => rfl
  | _, _, .cons _ t => congrArg (· + 1) (paired_len t)
theorem slAt_value {K : PySem.W.Frag} {sl : Mi.Sl} {v : V} (h : SlAt K sl v) : decide (v = .str "VALUE") = decide (sl = .value) := by
  cases sl with
  | value => rw [show v = .str "VALUE" from h]; decide +kernel
  | new => rw [show v = .str "NEW" from h]; decide +kernel
  | want w =>
    rw [show v = .str (wnTxt w) from h]
    cases w <;> decide +kernel
  | lit k =>
    rw [h.1]
    cases k <;> decide +kernel
  | num lo hi =>
    obtain ⟨_, t, rfl, _⟩ := h
    rw [decide_eq_false (fun z => by cases z), decide_eq_false (fun z => by cases z)]
noncomputable def wantL (x : Str) : Option (List (Option Str)) := if x = "LOCK" then some [some "lock", some "lent"] else if x = "QUEUE" then some [some "queue"] else if x = "PART" then some [some "part"] else if x = "TASK" then some [some "task", some "later"] else if x = "LATER" then some [some "later"] else if x = "VARIABLE" then some [some "cell", none] else none
/-- the dict of what is wanted -/
structure WantK (K : PySem.W.Frag) (w : World) (a : Addr) : Prop where
  no : ∀ x, wantL x = none → KHas K w a x none
  yes : ∀ x xs, wantL x = some xs → ∃ v, DvAt K (.t xs) v ∧ KHas K w a x (some v)
theorem WantK.get {K : PySem.W.Frag} {w : World} {a : Addr} (h : WantK K w a) (x : Str) : ∃ o, KHas K w a x o ∧ o.isSome = (wantL x).isSome := by
  cases e : wantL x with
  | none => exact ⟨none, h.no x e, rfl⟩
  | some xs =>
    obtain ⟨v, _, k⟩ := h.yes x xs e
    exact ⟨some v, k, rfl⟩
theorem paired_get {α β : Type} {R : α → β → Prop} : ∀ {xs : List α} {vs : List β}, Paired R xs vs → ∀ (i : Nat) (v : β), vs[i]? = some v → ∃ x, xs[i]? = some x ∧ R x v
  | _, _, .nil, i, v, h => by cases i <;> cases h
  | _, _, .cons h t, 0, v, e => by cases e; exact ⟨_, rfl, h⟩
  | _, _, .cons h t, i + 1, v, e => paired_get t i v e
theorem TrAt.chl {H H' : Hp} {p : Addr} {xs : List V} (c : Ch p H H') (e : H p = Option.some (HO.lst xs)) : ∀ {t : Mi.Tr} {v : V}, TrAt H t v → TrAt H' t v
  | .num i, _, h => h
  | .var x, _, h => h
  | .bin x l r, v, h => by
    obtain ⟨a, vl, vr, rfl, ha, hl, hr⟩ := h
    exact ⟨a, vl, vr, rfl, c _ _ (fun z => by rw [z, e] at ha; cases ha) ha, TrAt.chl c e hl, TrAt.chl c e hr⟩
theorem FdAt.chl {H H' : Hp} {p : Addr} {xs : List V} (c : Ch p H H') (e : H p = some (.lst xs)) : ∀ {f : Mi.Fd} {v : V}, FdAt H f v → FdAt H' f v
  | .w _, _, h => h
  | .i _, _, h => h
  | .t _, _, h => TrAt.chl c e h
theorem FdsAt.chl {H H' : Hp} {p : Addr} {xs : List V} (c : Ch p H H') (e : H p = some (.lst xs)) {fs : List Mi.Fd} {vs : List V} (h : FdsAt H fs vs) : FdsAt H' fs vs := by
  induction h with
  | nil => exact .nil
  | cons h _ ih => exact .cons (h.chl c e) ih
theorem paired_snoc {α β : Type} {R : α → β → Prop} {x : α} {v : β} (h : R x v) : ∀ {xs : List α} {vs : List β}, Paired R xs vs → Paired R (xs ++ [x]) (vs ++ [v])
  | _, _, .nil => .cons h .nil
  | _, _, .cons g t => .cons g (paired_snoc h t)
theorem cut_all (ws : List Str) (k : Nat) : cutV (ws.map V.str) (some (k : Int)) none = (ws.drop k).map V.str := by
  unfold cutV HT.sIx
  have e : ¬ (k : Int) < 0 := by omega
  simp only [e, if_false, List.length_map, Int.toNat_natCast]
  by_cases h : k ≤ ws.length
  · rw [Nat.min_eq_left h, List.map_drop]
    exact List.take_of_length_le (by rw [List.length_drop, List.length_map]; exact Nat.le_refl _)
  · have e2 : min k ws.length = ws.length := by omega
    rw [e2, List.drop_eq_nil_of_le (show ws.length ≤ k by omega), Nat.sub_self, List.take_zero]
    rfl
theorem SqT.same {K : PySem.W.Frag} {H H' : Hp} {l : Addr} {ws : List V} (h : SqT K H l ws) (s : Same H H') : SqT K H' l ws := by
  rcases h with (h | ⟨o, h⟩) | h
  · exact .inl (.inl (s _ _ h))
  · exact .inl (.inr ⟨o, s _ _ h⟩)
  · exact .inr h
theorem hasLen_le {ws : List Str} {sl : List Mi.Sl} (h : Mi.hasLen ws sl = true) : sl.length ≤ ws.length := by
  unfold Mi.hasLen at h
  split at h
  · exact of_decide_eq_true h
  · rw [of_decide_eq_true h]; exact Nat.le_refl _
noncomputable def OFm (K : PySem.W.Frag) (CF : Addr) (H : Hp) (v : V) : Option Mi.Fm → Prop
  | none => v = .non
  | some f => FmAt K CF H f v
noncomputable def spRdF (K : PySem.W.Frag) (CF : Addr) : Sp := fun vs H Q _ => ∃ (l t : Addr) (ws : List Str) (rows : Mi.Rows) (us : List V), vs = [.ref l, .ref t] ∧ Wds K H l ws ∧ SqT K H t us ∧ Paired (RowAt K) rows us ∧ (∀ r ∈ rows, r.2 ≠ []) ∧ (∀ x ∈ ws, x.length ≤ sizeLine) ∧ ∀ v H', Same H H' → OFm K CF H' v (Mi.readForm ws rows) → Q v H'
section
variable {P : Program} {w : World} {K : PySem.W.Frag} {mg : Str → Option Value} {base : Heap} {f : Addr} {fd : FuncData}
theorem ok_finit {CF : Addr} (F : L2.Fun K "__init__" "Form.__init__" sFInit f fd) (b : Binds K fd PFInit []) (FC : FormC K CF) : FnR P w K mg base CX0 1 f (spFInit CF) := by
  refine fnR_of F b scFInit (fun vs H Q E h => ?_) (fun cdv A outer s H vs Q E hr h => ?_)
  · obtain ⟨_, _, _, _, _, rfl, _⟩ := h
    rfl
  · have sc := scFInit
    obtain ⟨x, dx, k, t, u, rfl, hx, q⟩ := h
    refine ⟨_, (pss_cons (ps_fld (pv 0) (pv 1) rfl) (pss_cons (ps_fld (pv 0) (pv 2) rfl) (pss_one (ps_fld (pv 0) (pv 3) rfl)))), ?_⟩
    refine ⟨_, rfl, _, rfl, x, CF, dx, [], rfl, hx, FC.cl, FC.nK, (by show 0 < 1000; decide), ?_⟩
    refine ⟨_, rfl, _, rfl, x, CF, dx, _, rfl, upd_same, FC.cl, FC.nS, (by show 1 < 1000; decide), ?_⟩
    refine ⟨_, rfl, _, rfl, x, CF, dx, _, rfl, upd_same, FC.cl, FC.nF, (by show 2 < 1000; decide), ?_⟩
    refine q _ (fun a o n e => ?_) (upd_same.trans (congrArg some (congrArg (HO.ins CF dx) ?_)))
    · rw [upd_ne n, upd_ne n, upd_ne n]
      exact e
    · exact (put_past (by decide +kernel)).trans rfl
theorem ok_hasl (F : L2.Fun K "_has_length" "_has_length" sHasL f fd) (b : Binds K fd PHasL []) (B : Bi mg) : FnR P w K mg base CX0 1 f (spHasL K) := by
  refine fnR_of F b scHasL (fun vs H Q E h => ?_) (fun cdv A outer s H vs Q E hr h => ?_)
  · obtain ⟨_, _, _, _, rfl, _⟩ := h
    rfl
  · have sc := scHasL
    obtain ⟨l, t, ws, sl, rfl, hl, ⟨us, hs, hp⟩, hne, q⟩ := h
    refine ⟨_, (pss_cons (ps_if (pt_cmpR (op_eqSl hr) (pe_ix ix_tup (pv 1) (pe_un un_neg pe_int) (fun _ _ => rfl)) pe_str (nomark _)) (pss_one (ps_ret (pe_cmpR op_ge (pe_callB call_len_seq (by rfl) B.len PySem.boot_len (pa_cons (pv 0) pa_nil)) (pe_callB call_len_seq (by rfl) B.len PySem.boot_len (pa_cons (pv 1) pa_nil)) (nomark _)))) pss_nil) (pss_one (ps_ret (pe_cmpR op_eq (pe_callB call_len_seq (by rfl) B.len PySem.boot_len (pa_cons (pv 0) pa_nil)) (pe_callB call_len_seq (by rfl) B.len PySem.boot_len (pa_cons (pv 1) pa_nil)) (nomark _))))), ?_⟩
    obtain ⟨x, hx⟩ : ∃ x, sl.getLast? = some x := by
      cases e : sl.getLast? with
      | none => exact absurd (List.getLast?_eq_none_iff.mp e) hne
      | some y => exact ⟨y, rfl⟩
    obtain ⟨v, hv, hlen, hxv⟩ := paired_last hp x hx
    have hat : atI us (-1) = some v := at_last (by rw [hlen]; exact List.length_pos_iff.mpr hne) rfl hv
    refine ⟨_, rfl, _, rfl, t, _, _, _, rfl, rfl, hs H, hat, x, _, hxv, rfl, by decide +kernel, _, rfl, ?_⟩
    rw [slAt_value hxv]
    unfold Mi.hasLen at q
    rw [hx] at q
    by_cases hvx : x = .value
    · refine ifT (decide_eq_true hvx) ⟨_, rfl, l, _, rfl, .inl hl, _, rfl, t, _, rfl, .inr (hs H), _, _, rfl, rfl, ?_⟩
      rw [if_pos (by rw [hvx])] at q
      rw [List.length_map, hlen]
      show Q (.bl (decide ((sl.length : Int) ≤ (ws.length : Int)))) _
      rw [show decide ((sl.length : Int) ≤ (ws.length : Int)) = decide (sl.length ≤ ws.length) from by rw [decide_eq_decide]; omega]
      exact q
    · refine ifF (decide_eq_false hvx) ⟨_, rfl, l, _, rfl, .inl hl, _, rfl, t, _, rfl, .inr (hs H), rfl, ?_⟩
      rw [if_neg (fun z => hvx (Option.some.inj z))] at q
      rw [List.length_map, hlen, decI]
      rw [show decide ((ws.length : Int) = (sl.length : Int)) = decide (ws.length = sl.length) from by rw [decide_eq_decide]; omega]
      exact q
theorem ok_rdw {aW : Addr} (F : L2.Fun K "_read_word" "_read_word" sRdW f fd) (b : Binds K fd PRdW []) (B : Bi mg) (gTu : mg "tuple" = none) (gWa : mg "WANTED" = some (.ref aW)) (hW : WantK K w aW) (cN : CalF P w K mg base 2 "is_name" spIsName) (cW : CalF P w K mg base 2 "read_whole" spRWhole) : FnR P w K mg base CX0 3 f (spRdW K) := by
  refine fnR_of F b scRdW (fun vs H Q E h => ?_) (fun cdv A outer s H vs Q E hr h => ?_)
  · obtain ⟨_, _, _, rfl, _⟩ := h
    rfl
  · have sc := scRdW
    obtain ⟨x, sl, v, rfl, hs, hv, hx, q⟩ := h
    refine ⟨_, (pss_cons (ps_if (pt_val (pe_callB (show CallR _ (.builtin "isinstance") (rIsi K) from call_isi) (by rfl) B.isinstance (by decide +kernel) (pa_cons (pv 1) (pa_cons (pe_bltn (v := .ty "tuple") (by rfl) gTu (by decide +kernel) rfl) pa_nil)))) (pss_cons (ps_asg (pv 1) (pg_tup rfl (pgs_cons (pg_name (i := 2) sc.nd rfl (Or.inl rfl)) (pgs_cons (pg_name (i := 3) sc.nd rfl (Or.inl rfl)) pgs_nil)))) (pss_one (ps_ret (pe_f cW hr (by omega) rfl (pa_cons (pv 0) (pa_cons (pv 2) (pa_cons (pv 3) pa_nil))))))) pss_nil) (pss_cons (ps_if (PW.pt (pw_or (pt_cmpR op_eq (pv 1) pe_str (nomark _)) (pw_or1 (pt_cmpR op_in_k (pv 1) (pe_glob (v := .ref aW) rfl gWa rfl) rfl)))) (pss_one (ps_ret (pe_ifExp (pt_val (pe_f cN hr (by omega) rfl (pa_cons (pv 0) pa_nil))) (pv 0) pe_non))) pss_nil) (pss_one (ps_ret (pe_ifExp (pt_cmpR op_eq (pv 0) (pv 1) (nomark _)) (pv 0) pe_non))))), ?_⟩
    -- a name or none
    have nm : ∀ H', Same H H' → Mi.readWord x sl = (if Mi.isName x = true then some (.w x) else none) → tRet (tIf (tB (tF spIsName (tCons (tVar 0) tNil))) (tVar 0) (tC V.non)) { nx := fun x H' => Q V.non H', rt := Q } (L2.start NRdW [.str x, v]) H' := fun H' s1 e => by
      rw [e] at q
      refine ⟨_, rfl, x, rfl, hx, fun H2 s2 => ⟨_, rfl, ?_⟩⟩
      cases hn : Mi.isName x with
      | true =>
        have := q _ (s1.trans s2)
        rw [if_pos hn] at this
        exact iteT ⟨_, rfl, this⟩
      | false =>
        have := q _ (s1.trans s2)
        rw [if_neg (by rw [hn]; simp)] at this
        exact iteF this
    have str : ∀ z : Str, v = .str z → TyX K H v (.type "str") := fun z e => by subst e; exact .base (.str z)
    have notT : PySem.W.kitOne K (.type "str") (.type "tuple") = some false := kit_ty (by decide +kernel)
    cases sl with
    | value => exact absurd rfl hv
    | num lo hi =>
      obtain ⟨hb, t, rfl, ht⟩ := hs
      obtain ⟨o, ho, hoc⟩ := sqtK ht
      refine ⟨_, rfl, _, _, _, _, true, rfl, .ty _, .kTuple ho hoc, kit_ty (by decide +kernel), true, rfl, iteT ?_⟩
      refine ⟨_, rfl, t, _, rfl, ht H, rfl, _, _, rfl, _, _, rfl, rfl, ?_⟩
      refine ⟨_, rfl, _, rfl, _, rfl, x, lo, hi, rfl, hx, hb.1, hb.2, fun H1 s1 => ?_⟩
      have := q _ s1
      have e : oFd (Mi.readWord x (.num lo hi)) = oI (Mi.wholeP x lo hi) := by
        show oFd ((Mi.wholeP x lo hi).map .i) = _
        cases Mi.wholeP x lo hi <;> rfl
      rw [e] at this
      exact this
    | new =>
      cases hs
      refine ⟨_, rfl, _, _, _, _, false, rfl, .ty _, str _ rfl, notT, false, rfl, iteF ?_⟩
      exact t_eqS rfl (iteT (iteT (nm _ (Same.refl H) rfl)))
    | want n =>
      cases (show v = .str (wnTxt n) from hs)
      refine ⟨_, rfl, _, _, _, _, false, rfl, .ty _, str _ rfl, notT, false, rfl, iteF ?_⟩
      obtain ⟨o, ho, e⟩ := hW.get (wnTxt n)
      refine t_eqS rfl (ifF (by cases n <;> decide +kernel) ⟨_, rfl, _, aW, o, rfl, rfl, ho, _, rfl, ?_⟩)
      rw [e]
      exact ifT (by cases n <;> decide +kernel) (nm _ (Same.refl H) rfl)
    | lit k =>
      obtain ⟨hs1, hs2⟩ := hs
      subst hs1
      refine ⟨_, rfl, _, _, _, _, false, rfl, .ty _, str _ rfl, notT, false, rfl, iteF ?_⟩
      obtain ⟨o, ho, e⟩ := hW.get k.txt
      refine t_eqS rfl (ifF (by cases k <;> decide +kernel) ⟨_, rfl, _, aW, o, rfl, rfl, ho, _, rfl, ?_⟩)
      rw [e]
      refine ifF (by cases k <;> decide +kernel) ⟨_, rfl, _, rfl, rfl, _, rfl, ?_⟩
      rw [decS]
      have er : Mi.readWord x (.lit k) = if Mi.kw x = k then some (.w x) else none := rfl
      have := q _ (Same.refl H)
      rw [er] at this
      by_cases hk : x = k.txt
      · rw [if_pos ((Mi.kw_iff hs2).mpr hk)] at this
        exact ifT (decide_eq_true hk) ⟨_, rfl, this⟩
      · rw [if_neg (fun z => hk ((Mi.kw_iff hs2).mp z))] at this
        exact ifF (decide_eq_false hk) this
theorem ok_rdsl (F : L2.Fun K "_read_slots" "_read_slots" sRdSl f fd) (b : Binds K fd PRdSl []) (B : Bi mg) (gTu : mg "tuple" = none) (gEn : mg "enumerate" = none) (cX : CalF P w K mg base 168 "read_expression" (spRdX K)) (cRw : CalF P w K mg base 3 "_read_word" (spRdW K)) : FnR P w K mg base CX0 169 f (spRdS K) := by
  refine fnR_of F b scRdSl (fun vs H Q E h => ?_) (fun cdv A outer s H vs Q E hr h => ?_)
  · obtain ⟨_, _, _, _, rfl, _⟩ := h
    rfl
  · have sc := scRdSl
    obtain ⟨l, t, ws, sl, rfl, hl, ⟨us, hs, hp⟩, hle, hx, q⟩ := h
    refine ⟨_, (pss_cons (ps_set (i := 2) sc.nd rfl (Or.inl rfl) (pe_lst pa_nil)) (pss_cons (ps_for PassesOwn.never rfl (pi_enT (by rfl) gEn (pa_cons (pv 1) pa_nil)) (pg_tup rfl (pgs_cons (pg_name (i := 3) sc.nd rfl (Or.inl rfl)) (pgs_cons (pg_name (i := 4) sc.nd rfl (Or.inl rfl)) pgs_nil))) (pss_cons (ps_set (i := 5) sc.nd rfl (Or.inl rfl) (pe_ifExp (pt_cmpR (op_eqSl hr) (pv 4) pe_str (nomark _)) (pe_f cX hr (by omega) rfl (pa_cons (pe_slice sl_list (pv 0) (po_some (pv 3)) po_none) pa_nil)) (pe_f cRw hr (by omega) rfl (pa_cons (pe_ix ix_list (pv 0) (pv 3) (fun _ _ => rfl)) (pa_cons (pv 4) pa_nil))))) (pss_cons (ps_if (pt_cmpR op_isN (pv 5) pe_non (nomark _)) (pss_one (ps_ret pe_non)) pss_nil) (pss_one (ps_expr (pe_bm PySem.F.plainAttrs_list PySem.F.slot_list_append PySem.F.type_list_append mt_append (pv 2) (pa_cons (pv 5) pa_nil))))))) (pss_one (ps_ret (pe_callTy call_tuple_of (by rfl) gTu (by decide +kernel) (pa_cons (pv 2) pa_nil)))))), ?_⟩
    have hlen := paired_len hp
    refine ⟨(by show 0 ≤ 2 ^ 24; decide), fun p np => ?_⟩
    have s0 := Same.new (o := .lst []) np
    refine ⟨_, rfl, t, us, rfl, hs _, ?_⟩
    refine for_enT (xs := us) (fun i σ G => Same H G ∧ ∃ (fs : List Mi.Fd) (vs : List V) (o1 o2 o3 : Option V), σ = [some (.ref l), some (.ref t), some (.ref p), o1, o2, o3] ∧ G p = some (.lst vs) ∧ FdsAt G fs vs ∧ vs.length ≤ i ∧ Mi.readSlots ws sl = (Mi.readSlots (ws.drop i) (sl.drop i)).map (fs ++ ·)) ?_ ?_ ?_ ?_
    · refine ⟨s0, [], [], none, none, none, rfl, upd_same, .nil, Nat.le_refl _, ?_⟩
      rw [List.drop_zero, List.drop_zero]
      cases Mi.readSlots ws sl <;> rfl
    · intro i σ G _ _
      exact hs G
    · rintro i u σ G T hu ⟨sG, fs, vs, o1, o2, o3, rfl, hG, hF, hvl, he⟩ nT
      obtain ⟨x, hxi, hxu⟩ := paired_get hp i u hu
      have il : i < sl.length := (List.getElem?_eq_some_iff.mp hxi).1
      have sT : Same G (upd G T (.tup [.int i, u])) := Same.new nT
      have dr : sl.drop i = x :: sl.drop (i + 1) := by
        obtain ⟨hlt, e⟩ := List.getElem?_eq_some_iff.mp hxi
        rw [List.drop_eq_getElem_cons hlt, e]
      obtain ⟨y, hy⟩ : ∃ y, ws[i]? = some y := ⟨_, List.getElem?_eq_getElem (by omega)⟩
      have dw : ws.drop i = y :: ws.drop (i + 1) := by
        obtain ⟨hlt, e⟩ := List.getElem?_eq_some_iff.mp hy
        rw [List.drop_eq_getElem_cons hlt, e]
      rw [dr, dw] at he
      refine ⟨T, _, rfl, .inl (.inl upd_same), rfl, _, _, rfl, _, _, rfl, rfl, ?_⟩
      -- behind the word or the expression
      have fin : ∀ (v : V) (G2 : Hp) (od : Option Mi.Fd), Same G G2 → (match od with | none => v = .non | some d => FdAt G2 d v ∧ v ≠ .non) → Mi.readSlots ws sl = (match od with | none => none | some d => ((Mi.readSlots (ws.drop (i + 1)) (sl.drop (i + 1))).map (d :: ·)).map (fs ++ ·)) →
          tSeq (tIfS (tTest (tOp (fun x y H Q => y = V.non ∧ Q (V.bl (decide (x = V.non))) H) (tVar 5) (tC V.non))) (tRet (tC V.non)) tNext) (tDrop (tBM K "list" rAppend (tVar 2) (tCons (tVar 5) tNil)))
            { nx := fun σ G => Same H G ∧ ∃ (fs : List Mi.Fd) (vs : List V) (o1 o2 o3 : Option V), σ = [some (.ref l), some (.ref t), some (.ref p), o1, o2, o3] ∧ G p = some (.lst vs) ∧ FdsAt G fs vs ∧ vs.length ≤ i + 1 ∧ Mi.readSlots ws sl = (Mi.readSlots (ws.drop (i + 1)) (sl.drop (i + 1))).map (fs ++ ·), rt := Q } [some (.ref l), some (.ref t), some (.ref p), some (.int i), some u, some v] G2 := by
        intro v G2 od s2 hv e
        have hG2 := s2 _ _ hG
        refine ⟨_, rfl, rfl, _, rfl, ?_⟩
        cases od with
        | none =>
          refine ifT (decide_eq_true hv) ?_
          refine q _ _ (sG.trans s2) ?_
          rw [e]
          rfl
        | some d =>
          obtain ⟨hv1, hv2⟩ := hv
          refine ifF (decide_eq_false hv2) ⟨_, rfl, .inl ⟨rfl, _, SqL.of hG2⟩, _, rfl, p, vs, v, rfl, rfl, hG2, Nat.lt_of_le_of_lt hvl (Nat.lt_of_lt_of_le il ?_), ?_⟩
          · rw [hlen]
            rcases hs G with (z | ⟨o, z⟩) | ⟨o, its, n, _, _, _, hz, r⟩
            all_goals first | (rw [r.length]; simpa using hz) | skip
            all_goals (rcases hs (fun _ => none) with (z | ⟨o, z⟩) | ⟨o, its, n, _, _, _, hz, r⟩ <;> first | (cases z; done) | (rw [r.length]; simpa using hz))
          · have cp : Ch p G2 (upd G2 p (.lst (vs ++ [v]))) := Ch.upd
            refine ⟨fun b o e => cp _ _ (ne_of_none e np) (s2 _ _ (sG _ _ e)), fs ++ [d], vs ++ [v], _, _, _, rfl, upd_same, paired_snoc (hv1.chl cp hG2) ((hF.same s2).chl cp hG2), by rw [List.length_append]; exact Nat.succ_le_succ hvl, ?_⟩
            rw [e]
            cases Mi.readSlots (ws.drop (i + 1)) (sl.drop (i + 1)) with
            | none => rfl
            | some gs =>
              show some (fs ++ d :: gs) = some ((fs ++ [d]) ++ gs)
              rw [List.append_assoc]
              rfl
      refine ⟨_, rfl, x, _, hxu, rfl, by decide +kernel, _, rfl, ?_⟩
      rw [slAt_value hxu]
      by_cases hv : x = .value
      · subst hv
        refine ifT (by rfl) ⟨_, rfl, _, rfl, _, rfl, l, _, rfl, hl.same (sG.trans sT), fun c nc => ?_⟩
        have sc2 := Same.new (o := .lst (cutV (ws.map V.str) (some (i : Int)) none)) nc
        refine ⟨c, ws.drop i, rfl, .inl (.inl (upd_same.trans (congrArg (fun z => some (HO.lst z)) (cut_all ws i)))), fun z hz => hx z (List.mem_of_mem_drop hz), fun v H2 s2 o2 => ?_⟩
        have er : Mi.readSlots (y :: ws.drop (i + 1)) (.value :: sl.drop (i + 1)) = match Mi.readExpr (y :: ws.drop (i + 1)) with
          | none => none
          | some t => (Mi.readSlots (ws.drop (i + 1)) (sl.drop (i + 1))).map (.t t :: ·) := rfl
        rw [er] at he
        rw [dw] at o2
        refine fin v H2 ((Mi.readExpr (y :: ws.drop (i + 1))).map .t) ((sT.trans sc2).trans s2) ?_ ?_
        · cases hre : Mi.readExpr (y :: ws.drop (i + 1)) with
          | none => rw [hre] at o2; exact o2
          | some tr =>
            rw [hre] at o2
            refine ⟨o2, fun z => ?_⟩
            have o3 : TrAt H2 tr v := o2
            rw [z] at o3
            cases tr with
            | num i => cases o3
            | var x => cases o3
            | bin x a b => obtain ⟨_, _, _, e, _⟩ := o3; cases e
        · rw [he]
          cases Mi.readExpr (y :: ws.drop (i + 1)) <;> rfl
      · refine ifF (decide_eq_false hv) ?_
        refine ⟨_, rfl, _, rfl, l, _, _, _, rfl, rfl, hl.same (sG.trans sT), atI_nat (j := i) (by rw [List.getElem?_map, hy]; rfl), _, rfl, y, x, u, rfl, hxu, hv, hx y (List.mem_of_getElem? hy), fun H2 s2 => ?_⟩
        have er : Mi.readSlots (y :: ws.drop (i + 1)) (x :: sl.drop (i + 1)) = match Mi.readWord y x with
          | none => none
          | some d => (Mi.readSlots (ws.drop (i + 1)) (sl.drop (i + 1))).map (d :: ·) := by
          cases x with
          | value => exact absurd rfl hv
          | _ => rfl
        rw [er] at he
        refine fin _ H2 (Mi.readWord y x) (sT.trans s2) ?_ ?_
        · cases hw : Mi.readWord y x with
          | none => rfl
          | some d =>
            cases d with
            | w z => exact ⟨rfl, fun z => by cases z⟩
            | i n => exact ⟨rfl, fun z => by cases z⟩
            | t tr =>
              exfalso
              cases x with
              | value => exact hv rfl
              | num lo hi =>
                obtain ⟨i, _, e⟩ := Option.map_eq_some_iff.mp (show Option.map Mi.Fd.i (Mi.wholeP y lo hi) = some (Mi.Fd.t tr) from hw)
                cases e
              | new =>
                have h2 : (if Mi.isName y = true then some (Mi.Fd.w y) else none) = some (.t tr) := hw
                split at h2 <;> cases h2
              | want n =>
                have h2 : (if Mi.isName y = true then some (Mi.Fd.w y) else none) = some (.t tr) := hw
                split at h2 <;> cases h2
              | lit k =>
                have h2 : (if Mi.kw y = k then some (Mi.Fd.w y) else none) = some (.t tr) := hw
                split at h2 <;> cases h2
        · rw [he]
          cases Mi.readWord y x <;> rfl
    · rintro σ G ⟨sG, fs, vs, o1, o2, o3, rfl, hG, hF, hvl, he⟩
      have e0 : sl.drop us.length = [] := by rw [← hlen, List.drop_length]
      rw [e0] at he
      have he' : Mi.readSlots ws sl = some fs := by
        rw [he]
        have : Mi.readSlots (ws.drop us.length) [] = some [] := by cases ws.drop us.length <;> rfl
        rw [this]
        show some (fs ++ []) = some fs
        rw [List.append_nil]
      refine ⟨_, rfl, p, vs, rfl, .inl ⟨SqL.of hG, fun c nc => ?_⟩⟩
      have s1 := Same.new (o := .tup vs) nc
      refine q _ _ (sG.trans s1) ?_
      rw [he']
      exact ⟨c, vs, rfl, upd_same, hF.same s1⟩
theorem ok_rdf {CF : Addr} (F : L2.Fun K "read_form" "read_form" sRdFm f fd) (b : Binds K fd PRdFm []) (B : Bi mg) (cHl : CalF P w K mg base 1 "_has_length" (spHasL K)) (cRs : CalF P w K mg base 169 "_read_slots" (spRdS K)) (mF : MakF P w K mg base 1 "Form" CF (spFInit CF)) : FnR P w K mg base CX0 170 f (spRdF K CF) := by
  refine fnR_of F b scRdFm (fun vs H Q E h => ?_) (fun cdv A outer s H vs Q E hr h => ?_)
  · obtain ⟨_, _, _, _, _, rfl, _⟩ := h
    rfl
  · have sc := scRdFm
    obtain ⟨l, t, ws, rows, us, rfl, hl, ht, hp, hne, hx, q⟩ := h
    refine ⟨_, (pss_cons (ps_for PassesOwn.never rfl (pi_tup (pv 1)) (pg_tup rfl (pgs_cons (pg_name (i := 2) sc.nd rfl (Or.inl rfl)) (pgs_cons (pg_name (i := 3) sc.nd rfl (Or.inl rfl)) pgs_nil))) (pss_one (ps_if (pt_val (pe_f cHl hr (by omega) rfl (pa_cons (pv 0) (pa_cons (pv 3) pa_nil)))) (pss_cons (ps_set (i := 4) sc.nd rfl (Or.inl rfl) (pe_f cRs hr (by omega) rfl (pa_cons (pv 0) (pa_cons (pv 3) pa_nil)))) (pss_one (ps_if (pt_cmpR op_notN (pv 4) pe_non (nomark _)) (pss_one (ps_ret (pe_mk mF hr (by omega) rfl (pa_cons (pv 2) (pa_cons (pv 3) (pa_cons (pv 4) pa_nil)))))) pss_nil))) pss_nil))) (pss_one (ps_ret pe_non))), ?_⟩
    refine ⟨_, rfl, t, rfl, ⟨us, ht⟩, ?_⟩
    refine for_tup (xs := us) (fun i σ G => Same H G ∧ (∃ o1 o2 o3 : Option V, σ = [some (.ref l), some (.ref t), o1, o2, o3]) ∧ Mi.readForm ws rows = Mi.readForm ws (rows.drop i)) ⟨Same.refl H, ⟨_, _, _, rfl⟩, rfl⟩ (fun i σ G _ h => SqT.same ht h.1) ?_ ?_
    · rintro i u σ G hu ⟨sG, ⟨o1, o2, o3, rfl⟩, he⟩
      obtain ⟨r, hri, hru⟩ := paired_get hp i u hu
      obtain ⟨a, c, rfl, ha, hc⟩ := hru
      have hr0 : r ∈ rows := List.mem_of_getElem? hri
      have dr : rows.drop i = r :: rows.drop (i + 1) := by
        obtain ⟨hlt, e⟩ := List.getElem?_eq_some_iff.mp hri
        rw [List.drop_eq_getElem_cons hlt, e]
      rw [dr] at he
      have e2 : Mi.readForm ws (r :: rows.drop (i + 1)) = match Mi.rowRead ws r with | some f => some f | none => Mi.readForm ws (rows.drop (i + 1)) := by
        unfold Mi.readForm
        rw [List.findSome?_cons]
        cases Mi.rowRead ws r <;> rfl
      rw [e2] at he
      refine ⟨a, _, rfl, ha G, rfl, _, _, rfl, _, _, rfl, rfl, ?_⟩
      refine ⟨_, rfl, _, rfl, l, c, ws, r.2, rfl, hl.same sG, hc, hne r hr0, ⟨_, rfl, ?_⟩⟩
      cases hL : Mi.hasLen ws r.2 with
      | false =>
        rw [show Mi.rowRead ws r = none from if_neg (by rw [hL]; simp)] at he
        exact iteF ⟨sG, ⟨_, _, _, rfl⟩, he⟩
      | true =>
        rw [show Mi.rowRead ws r = (Mi.readSlots ws r.2).map (Mi.Fm.mk r.1 r.2 ·) from if_pos hL] at he
        refine iteT ⟨_, rfl, _, rfl, l, c, ws, r.2, rfl, hl.same sG, hc, hasLen_le hL, hx, fun v G2 s2 o2 => ?_⟩
        refine ⟨_, rfl, rfl, _, rfl, ?_⟩
        cases hR : Mi.readSlots ws r.2 with
        | none =>
          rw [hR] at he o2
          exact ifF (by rw [show v = .non from o2]; rfl) ⟨sG.trans s2, ⟨_, _, _, rfl⟩, he⟩
        | some fs =>
          rw [hR] at he o2
          obtain ⟨u, vs, rfl, hu2, hf2⟩ := o2
          refine ifT rfl ⟨_, rfl, _, rfl, _, rfl, fun y dx ny nd hne => ⟨y, dx, _, _, _, rfl, upd_same, fun G3 cG hG => ⟨rfl, ?_⟩⟩⟩
          have s3 : Same G2 G3 := fun b o e => cG _ _ (ne_of_none e ny) (by rw [upd_ne (ne_of_none e ny), upd_ne (ne_of_none e nd)]; exact e)
          refine q _ _ ((sG.trans s2).trans s3) ?_
          rw [he]
          exact ⟨y, dx, c, u, vs, rfl, hG, hc, s3 _ _ hu2, hf2.same s3⟩
    · rintro σ G ⟨sG, ⟨o1, o2, o3, rfl⟩, he⟩
      refine q _ _ sG ?_
      have e0 : rows.drop us.length = [] := by rw [← paired_len hp, List.drop_length]
      rw [e0] at he
      rw [he]
      rfl
end
end Ws

namespace Ws
open PySem PySem.Spec PyProof.Rows L2
noncomputable abbrev sUses : Stmt := (inClass (PySem.Challenge.pw_whatspeed_k17_what_a_program_tells.main.body.getD 34 (.Pass ⟨0, 0, 0, 0⟩)) 1)
noncomputable abbrev NUses : List Str := ["self", "pairs", "slot", "found", "name"]
noncomputable abbrev PUses : List Str := ["self"]
theorem scUses : FnScope NUses PUses (defScope sUses) := ⟨rfl, rfl, rfl, by decide +kernel, rfl, by decide +kernel, by decide +kernel⟩
/-! ### what a line uses -/
theorem t_len : ∀ (n : Nat), (∀ ws t, Mi.tV n ws = some t → t.vars.length ≤ ws.length) ∧ (∀ ws t, Mi.tS n ws = some t → t.vars.length ≤ ws.length) ∧ (∀ ws t, Mi.tP n ws = some t → t.vars.length ≤ ws.length) ∧ (∀ ws t, Mi.tF n ws = some t → t.vars.length ≤ ws.length)
  | 0 => ⟨fun _ _ h => (by unfold Mi.tV at h; cases h), fun _ _ h => (by unfold Mi.tS at h; cases h), fun _ _ h => (by unfold Mi.tP at h; cases h), fun _ _ h => (by unfold Mi.tF at h; cases h)⟩
  | n + 1 => by
    obtain ⟨i1, i2, i3, i4⟩ := t_len n
    have jn : ∀ {ws : List Str} {k : Nat} {l r : Option Mi.Tr} {t : Mi.Tr}, Mi.join ws[k]? l r = some t → (∀ u, l = some u → u.vars.length ≤ (ws.take k).length) → (∀ u, r = some u → u.vars.length ≤ (ws.drop (k + 1)).length) → t.vars.length ≤ ws.length := by
      intro ws k l r t h hl hr
      obtain ⟨s, a, b, e1, e2, e3, rfl⟩ := Mi.join_eq h
      have h1 := hl a e2
      have h2 := hr b e3
      have hk := (List.getElem?_eq_some_iff.mp e1).1
      show (a.vars ++ b.vars).length ≤ _
      rw [List.length_append]
      rw [List.length_take] at h1
      rw [List.length_drop] at h2
      omega
    refine ⟨fun ws t h => ?_, fun ws t h => ?_, fun ws t h => ?_, fun ws t h => ?_⟩
    · unfold Mi.tV at h
      split at h
      · exact i2 _ _ h
      · exact jn h (fun u e => i2 _ _ e) (fun u e => i2 _ _ e)
    · unfold Mi.tS at h
      split at h
      · exact i3 _ _ h
      · exact jn h (fun u e => i2 _ _ e) (fun u e => i3 _ _ e)
    · unfold Mi.tP at h
      split at h
      · exact i4 _ _ h
      · exact jn h (fun u e => i3 _ _ e) (fun u e => i4 _ _ e)
    · unfold Mi.tF at h
      split at h
      · rename_i x
        unfold Mi.atomT at h
        split at h
        · cases h; exact Nat.le_refl _
        · obtain ⟨i, _, rfl⟩ := Option.map_eq_some_iff.mp h
          exact Nat.zero_le _
      · split at h
        · refine Nat.le_trans (i1 _ _ h) ?_
          rw [List.length_dropLast, List.length_drop]
          omega
        · cases h
theorem expr_len {ws : List Str} {t : Mi.Tr} (h : Mi.readExpr ws = some t) : t.vars.length ≤ 40 := by
  unfold Mi.readExpr at h
  split at h
  · rename_i c
    have := (t_len _).1 _ _ h
    have c2 := c
    omega
  · cases h
/-- what was found fits the slots -/
inductive Fits : List Mi.Sl → List Mi.Fd → Prop where
  | nil : Fits [] []
  | lit {k s x f} : Fits s f → Fits (.lit k :: s) (.w x :: f)
  | num {lo hi s i f} : Fits s f → Fits (.num lo hi :: s) (.i i :: f)
  | new {s x f} : Fits s f → Fits (.new :: s) (.w x :: f)
  | want {n s x f} : Fits s f → Fits (.want n :: s) (.w x :: f)
  | value {s t f} : high t ≤ 164 → t.vars.length ≤ 40 → Fits s f → Fits (.value :: s) (.t t :: f)
theorem Fits.len {s : List Mi.Sl} {f : List Mi.Fd} (h : Fits s f) : s.length = f.length := by
  induction h with
  | nil => rfl
  | lit _ ih => exact congrArg (· + 1) ih
  | num _ ih => exact congrArg (· + 1) ih
  | new _ ih => exact congrArg (· + 1) ih
  | want _ ih => exact congrArg (· + 1) ih
  | value _ _ _ ih => exact congrArg (· + 1) ih
theorem Fits.uses {s : List Mi.Sl} {f : List Mi.Fd} (h : Fits s f) : (Mi.usesOf s f).length ≤ 40 * s.length := by
  induction h with
  | nil => exact Nat.le_refl _
  | lit _ ih => exact Nat.le_trans ih (by rw [List.length_cons]; omega)
  | num _ ih => exact Nat.le_trans ih (by rw [List.length_cons]; omega)
  | new _ ih => exact Nat.le_trans ih (by rw [List.length_cons]; omega)
  | want _ ih => 
    show _ + 1 ≤ _
    rw [List.length_cons]
    omega
  | value _ hv _ ih =>
    rename_i s t f _ _
    show (t.vars.map (fun x => (Mi.Wn.VARIABLE, x)) ++ Mi.usesOf s f).length ≤ _
    rw [List.length_append, List.length_map, List.length_cons]
    omega
theorem fits_of : ∀ {sl : List Mi.Sl} {ws : List Str} {fs : List Mi.Fd}, Mi.readSlots ws sl = some fs → Fits sl fs
  | [], ws, fs, h => by
    have h2 : some [] = some fs := by cases ws <;> exact h
    cases h2
    exact .nil
  | x :: sl, ws, fs, h => by
    by_cases hv : x = .value
    · subst hv
      have h2 : (match Mi.readExpr ws with | none => none | some t => (Mi.readSlots (ws.drop 1) sl).map (.t t :: ·)) = some fs := by cases ws <;> exact h
      cases hr : Mi.readExpr ws with
      | none => rw [hr] at h2; cases h2
      | some t =>
        rw [hr] at h2
        obtain ⟨gs, hg, rfl⟩ := Option.map_eq_some_iff.mp h2
        exact .value (expr_high hr) (expr_len hr) (fits_of hg)
    · cases ws with
      | nil => cases x <;> first | exact absurd rfl hv | cases h
      | cons w ws =>
        have h2 : (match Mi.readWord w x with | none => none | some y => (Mi.readSlots ws sl).map (y :: ·)) = some fs := by
          cases x with
          | value => exact absurd rfl hv
          | _ => exact h
        cases hr : Mi.readWord w x with
        | none => rw [hr] at h2; cases h2
        | some d =>
          rw [hr] at h2
          obtain ⟨gs, hg, rfl⟩ := Option.map_eq_some_iff.mp h2
          have ih := fits_of hg
          cases x with
          | value => exact absurd rfl hv
          | num lo hi =>
            obtain ⟨i, _, rfl⟩ := Option.map_eq_some_iff.mp (show Option.map Mi.Fd.i (Mi.wholeP w lo hi) = some d from hr)
            exact .num ih
          | new =>
            have h3 : (if Mi.isName w = true then some (Mi.Fd.w w) else none) = some d := hr
            split at h3 <;> cases h3
            exact .new ih
          | want n =>
            have h3 : (if Mi.isName w = true then some (Mi.Fd.w w) else none) = some d := hr
            split at h3 <;> cases h3
            exact .want ih
          | lit k =>
            have h3 : (if Mi.kw w = k then some (Mi.Fd.w w) else none) = some d := hr
            split at h3 <;> cases h3
            exact .lit ih
/-- a use, as the package has it -/
noncomputable def UseAt (H : Hp) (u : Mi.Wn × Str) (v : V) : Prop := ∃ a, v = .ref a ∧ H a = some (.tup [.str (wnTxt u.1), .str u.2])
theorem paired_imp {α : Type} {R S : α → V → Prop} (h : ∀ x v, R x v → S x v) : ∀ {xs : List α} {vs : List V}, Paired R xs vs → Paired S xs vs
  | _, _, .nil => .nil
  | _, _, .cons a t => .cons (h _ _ a) (paired_imp h t)
theorem paired_app {α : Type} {R : α → V → Prop} : ∀ {xs ys : List α} {vs us : List V}, Paired R xs vs → Paired R ys us → Paired R (xs ++ ys) (vs ++ us)
  | _, _, _, _, .nil, h => h
  | _, _, _, _, .cons a t, h => .cons a (paired_app t h)
theorem UseAt.ch {H H' : Hp} {p : Addr} {xs : List V} (c : Ch p H H') (e : H p = some (HO.lst xs)) {u : Mi.Wn × Str} {v : V} (h : UseAt H u v) : UseAt H' u v := by
  obtain ⟨a, rfl, ha⟩ := h
  exact ⟨a, rfl, c _ _ (fun z => by rw [z, e] at ha; cases ha) ha⟩
theorem UseAt.same {H H' : Hp} (s : Same H H') {u : Mi.Wn × Str} {v : V} (h : UseAt H u v) : UseAt H' u v := by
  obtain ⟨a, rfl, ha⟩ := h
  exact ⟨a, rfl, s _ _ ha⟩
noncomputable def spUses (K : PySem.W.Frag) (CF : Addr) : Sp := fun vs H Q _ => ∃ (x : Addr) (f : Mi.Fm), vs = [.ref x] ∧ FmAt K CF H f (.ref x) ∧ Fits f.slots f.found ∧ f.slots.length ≤ 100 ∧ ∀ p us H', H p = none → Same H H' → H' p = some (.lst us) → Paired (UseAt H') f.uses us → Q (.ref p) H'
section
variable {P : Program} {w : World} {K : PySem.W.Frag} {mg : Str → Option Value} {base : Heap} {f : Addr} {fd : FuncData}
theorem ok_uses {CF aW : Addr} (F : L2.Fun K "uses" "Form.uses" sUses f fd) (b : Binds K fd PUses []) (B : Bi mg) (FC : FormC K CF) (gZip : mg "zip" = none) (gWa : mg "WANTED" = some (.ref aW)) (hW : WantK K w aW) (cVo : CalF P w K mg base 166 "variables_of" (spVars 165)) : FnR P w K mg base CX0 167 f (spUses K CF) := by
  refine fnR_of F b scUses (fun vs H Q E h => ?_) (fun cdv A outer s H vs Q E hr h => ?_)
  · obtain ⟨_, _, rfl, _⟩ := h
    rfl
  · have sc := scUses
    obtain ⟨x, fm, rfl, ⟨_, dx, sA, uA, vs, e, h1, ⟨ss, hss, hp⟩, h3, h4⟩, hfit, hfl, q⟩ := h
    cases e
    refine ⟨_, (pss_cons (ps_set (i := 1) sc.nd rfl (Or.inl rfl) (pe_lst pa_nil)) (pss_cons (ps_for PassesOwn.never rfl (RZ.pi_zipA (by rfl) gZip (pa_cons (pe_fld (pv 0) rfl) (pa_cons (pe_fld (pv 0) rfl) pa_nil))) (pg_tup rfl (pgs_cons (pg_name (i := 2) sc.nd rfl (Or.inl rfl)) (pgs_cons (pg_name (i := 3) sc.nd rfl (Or.inl rfl)) pgs_nil))) (pss_one (ps_if (pt_cmpR ((op_in_k).or (op_in_kT (hu_of hr))) (pv 2) (pe_glob (v := .ref aW) rfl gWa rfl) rfl) (pss_one (ps_expr (pe_bm PySem.F.plainAttrs_list PySem.F.slot_list_append PySem.F.type_list_append mt_append (pv 1) (pa_cons (pe_tup (pa_cons (pv 2) (pa_cons (pv 3) pa_nil))) pa_nil)))) (pss_one (ps_if (pt_cmpR (op_eqSl hr) (pv 2) pe_str (nomark _)) (pss_one (ps_expr (pe_bm PySem.F.plainAttrs_list PySem.F.slot_list_extend PySem.F.type_list_extend mt_extend (pv 1) (pa_cons (pe_lc (own := [("name", 4)]) rfl sc.nd (pi_list (pe_f cVo hr (by omega) rfl (pa_cons (pv 3) pa_nil))) (blkOk_by (N := NUses) (sc := defScope sUses) (by decide +kernel)) (fun _ _ _ _ _ => by exact (pg_name (i := 4) sc.nd rfl (Or.inl rfl))) (fun _ _ _ _ _ => by exact pts_nil) (fun _ _ _ _ _ => by exact (pe_tup (pa_cons pe_str (pa_cons (pv 4) pa_nil))))) pa_nil)))) pss_nil))))) (pss_one (ps_ret (pv 1))))), ?_⟩
    have hl1 : fm.slots.length = ss.length := paired_len hp
    have hl2 : fm.found.length = vs.length := paired_len h4
    have hl3 : fm.slots.length = fm.found.length := hfit.len
    have hbound : fm.uses.length ≤ 4000 := Nat.le_trans hfit.uses (by omega)
    obtain ⟨_, ⟨esW, nW, _, hKD, _⟩, _⟩ := hW.get ""
    refine ⟨(by show 0 ≤ 2 ^ 24; decide), fun p np => ?_⟩
    have s0 : Same H (upd H p (.lst [])) := Same.new np
    refine ⟨_, rfl, x, CF, dx, _, _, rfl, s0 _ _ h1, FC.cl, FC.nS, rfl, _, rfl, x, CF, dx, _, _, rfl, s0 _ _ h1, FC.cl, FC.nF, rfl, sA, uA, ss, vs, rfl, .inr ⟨hss _, SqT.of (s0 _ _ h3), ?_⟩⟩
    refine RZ.for_zipT (xs := ss) (ys := vs) (by omega) (fun i σ G => Same H G ∧ ∃ (o1 o2 : Option V) (us : List V) (pre : List (Mi.Wn × Str)), σ = [some (.ref x), some (.ref p), o1, o2, none] ∧ G p = some (.lst us) ∧ Paired (UseAt G) pre us ∧ Fits (fm.slots.drop i) (fm.found.drop i) ∧ fm.uses = pre ++ Mi.usesOf (fm.slots.drop i) (fm.found.drop i)) ?_ ?_ ?_ ?_
    · exact ⟨s0, _, _, _, [], rfl, upd_same, .nil, hfit, rfl⟩
    · rintro i σ G ⟨sG, _⟩
      exact ⟨hss G, SqT.of (sG _ _ h3)⟩
    · rintro i a c T σ G ha hc ⟨sG, o1, o2, us, pre, rfl, hG, hP, hF, he⟩ nT
      have sT : Same G (upd G T (.tup [a, c])) := Same.new nT
      obtain ⟨x1, hx1, hxa⟩ := paired_get hp i a ha
      obtain ⟨y1, hy1, hyc⟩ := paired_get h4 i c hc
      have d1 : fm.slots.drop i = x1 :: fm.slots.drop (i + 1) := by
        obtain ⟨hlt, e⟩ := List.getElem?_eq_some_iff.mp hx1
        rw [List.drop_eq_getElem_cons hlt, e]
      have d2 : fm.found.drop i = y1 :: fm.found.drop (i + 1) := by
        obtain ⟨hlt, e⟩ := List.getElem?_eq_some_iff.mp hy1
        rw [List.drop_eq_getElem_cons hlt, e]
      rw [d1, d2] at hF he
      refine ⟨T, _, rfl, SqT.of upd_same, rfl, _, _, rfl, _, _, rfl, rfl, ?_⟩
      have hplen := paired_len hP
      have hul : us.length ≤ 4000 := by
        rw [← hplen]
        have := congrArg List.length he
        rw [List.length_append] at this
        omega
      have skip : Fits (fm.slots.drop (i + 1)) (fm.found.drop (i + 1)) → Mi.usesOf (x1 :: fm.slots.drop (i + 1)) (y1 :: fm.found.drop (i + 1)) = Mi.usesOf (fm.slots.drop (i + 1)) (fm.found.drop (i + 1)) → ∃ (o1 o2 : Option V) (us : List V) (pre : List (Mi.Wn × Str)), [some (V.ref x), some (.ref p), some a, some c, none] = [some (V.ref x), some (.ref p), o1, o2, none] ∧ (upd G T (.tup [a, c])) p = some (.lst us) ∧ Paired (UseAt (upd G T (.tup [a, c]))) pre us ∧ Fits (fm.slots.drop (i + 1)) (fm.found.drop (i + 1)) ∧ fm.uses = pre ++ Mi.usesOf (fm.slots.drop (i + 1)) (fm.found.drop (i + 1)) := fun hf hu => ⟨_, _, us, pre, rfl, sT _ _ hG, paired_imp (fun _ _ => UseAt.same sT) hP, hf, by rw [he, hu]⟩
      cases hF with
      | lit hF =>
        rename_i k y
        obtain ⟨o, ho, e⟩ := hW.get k.txt
        have hxa2 : a = .str k.txt ∧ k ≠ .other := hxa
        obtain ⟨rfl, hko⟩ := hxa2
        refine ⟨_, rfl, .inl ⟨_, aW, o, rfl, rfl, ho, _, rfl, ?_⟩⟩
        rw [e]
        refine ifF (by cases k <;> decide +kernel) ⟨_, rfl, _, _, hxa, rfl, by decide +kernel, _, rfl, ?_⟩
        rw [slAt_value hxa]
        exact ifF rfl ⟨sG.trans sT, skip hF rfl⟩
      | num hF =>
        rename_i lo hi n
        obtain ⟨hb, t, rfl, ht⟩ := hxa
        refine ⟨_, rfl, .inr ⟨t, aW, [.inl lo, .inl hi], esW, nW, rfl, rfl, ht _, hKD, _, rfl, ?_⟩⟩
        refine ifF rfl ⟨_, rfl, .num lo hi, _, ⟨hb, t, rfl, ht⟩, rfl, by decide +kernel, _, rfl, ?_⟩
        exact ifF (decide_eq_false (fun z => by cases z)) ⟨sG.trans sT, skip hF rfl⟩
      | new hF =>
        cases hxa
        obtain ⟨o, ho, e⟩ := hW.get "NEW"
        refine ⟨_, rfl, .inl ⟨_, aW, o, rfl, rfl, ho, _, rfl, ?_⟩⟩
        rw [e]
        refine ifF (by decide +kernel) ⟨_, rfl, .new, _, rfl, rfl, by decide +kernel, _, rfl, ?_⟩
        exact ifF (by decide +kernel) ⟨sG.trans sT, skip hF rfl⟩
      | want hF =>
        rename_i n y
        cases (show a = .str (wnTxt n) from hxa)
        cases (show c = .str y from hyc)
        obtain ⟨o, ho, e⟩ := hW.get (wnTxt n)
        refine ⟨_, rfl, .inl ⟨_, aW, o, rfl, rfl, ho, _, rfl, ?_⟩⟩
        rw [e]
        refine ifT (by cases n <;> decide +kernel) ⟨_, rfl, .inl ⟨rfl, _, SqL.of (sT _ _ hG)⟩, _, rfl, _, rfl, by show 2 ≤ sizeLine; decide, fun C nC => ?_⟩
        have sC : Same (upd G T (.tup [.str (wnTxt n), .str y])) (upd (upd G T (.tup [.str (wnTxt n), .str y])) C (.tup [.str (wnTxt n), .str y])) := Same.new nC
        have hG2 := sC _ _ (sT _ _ hG)
        refine ⟨p, us, .ref C, rfl, rfl, hG2, Nat.lt_of_le_of_lt hul (by show 4000 < 2 ^ 24; decide), ?_⟩
        have cp : Ch p _ (upd (upd (upd G T (.tup [.str (wnTxt n), .str y])) C (.tup [.str (wnTxt n), .str y])) p (.lst (us ++ [.ref C]))) := Ch.upd
        refine ⟨fun b o e => cp _ _ (ne_of_none e np) (sC _ _ (sT _ _ (sG _ _ e))), _, _, _, pre ++ [(n, y)], rfl, upd_same, ?_, hF, ?_⟩
        · exact paired_snoc (UseAt.ch cp hG2 ⟨C, rfl, upd_same⟩) (paired_imp (fun _ _ z => (z.same sT).same sC |>.ch cp hG2) hP)
        · rw [he, List.append_assoc]
          rfl
      | value hv1 hv2 hF =>
        rename_i tr
        cases (show a = .str "VALUE" from hxa)
        obtain ⟨o, ho, e⟩ := hW.get "VALUE"
        refine ⟨_, rfl, .inl ⟨_, aW, o, rfl, rfl, ho, _, rfl, ?_⟩⟩
        rw [e]
        refine ifF (by decide +kernel) ⟨_, rfl, .value, _, rfl, rfl, by decide +kernel, _, rfl, ?_⟩
        refine ifT (by decide +kernel) ⟨_, rfl, .inl ⟨rfl, _, SqL.of (sT _ _ hG)⟩, ?_⟩
        have hyc2 : TrAt G tr c := TrAt.same sG hyc
        refine ⟨_, rfl, c, tr, rfl, hyc2.same sT, by omega, by omega, fun l G2 nl s2 hl => ?_⟩
        refine ⟨l, rfl, ⟨_, SqL.of hl⟩, fun D nD => ?_⟩
        refine lc_list (xs := tr.vars.map V.str) (fun j G3 => Same G2 G3 ∧ ∃ zs, G3 D = some (.lst zs) ∧ zs.length ≤ j ∧ Paired (UseAt G3) ((tr.vars.take j).map fun x => (Mi.Wn.VARIABLE, x)) zs) ?_ ?_ ?_ ?_
        · exact ⟨Same.new nD, [], upd_same, Nat.le_refl _, .nil⟩
        · intro j G3 _ h
          exact SqL.of (h.1 _ _ hl)
        · rintro j z G3 hz ⟨s3, zs, hD, hzl, hZ⟩
          have hz2 := hz
          rw [List.getElem?_map] at hz2
          obtain ⟨y, hy, rfl⟩ := Option.map_eq_some_iff.mp hz2
          refine ⟨rfl, ?_⟩
          simp only [tYes]
          rw [if_pos trivial]
          refine ⟨_, rfl, by show 2 ≤ sizeLine; decide, fun C nC => ?_⟩
          have sC : Same G3 (upd G3 C (.tup [.str "VARIABLE", .str y])) := Same.new nC
          have hD2 := sC _ _ hD
          have jl : j < tr.vars.length := (List.getElem?_eq_some_iff.mp hy).1
          have cD : Ch D _ (upd (upd G3 C (.tup [.str "VARIABLE", .str y])) D (.lst (zs ++ [.ref C]))) := Ch.upd
          refine ⟨zs, hD2, Nat.lt_of_le_of_lt (show zs.length ≤ 40 by omega) (by show 40 < 2 ^ 24; decide), fun b o e => cD _ _ (ne_of_none e nD) (sC _ _ (s3 _ _ e)), _, upd_same, by rw [List.length_append]; exact Nat.succ_le_succ hzl, ?_⟩
          rw [List.take_succ, hy, List.map_append]
          exact paired_snoc (x := (Mi.Wn.VARIABLE, y)) (UseAt.ch cD hD2 ⟨C, rfl, upd_same⟩) (paired_imp (fun _ _ z => (z.same sC).ch cD hD2) hZ)
        · rintro G3 ⟨s3, zs, hD, hzl, hZ⟩
          have hall : tr.vars.take (tr.vars.map V.str).length = tr.vars := by rw [List.length_map, List.take_length]
          rw [hall] at hZ
          have s23 := s2.trans s3
          have hGp := s23 _ _ (sT _ _ hG)
          rw [List.length_map] at hzl
          refine ⟨p, D, us, zs, rfl, rfl, hGp, hD, Nat.le_trans (show us.length + zs.length ≤ 4040 by omega) (by show 4040 ≤ 2 ^ 24; decide), ?_⟩
          have cp : Ch p G3 (upd G3 p (.lst (us ++ zs))) := Ch.upd
          refine ⟨fun b o e => cp _ _ (ne_of_none e np) (s23 _ _ (sT _ _ (sG _ _ e))), _, _, _, pre ++ tr.vars.map (fun x => (Mi.Wn.VARIABLE, x)), rfl, upd_same, ?_, hF, ?_⟩
          · exact paired_app (paired_imp (fun _ _ z => ((z.same sT).same s23).ch cp hGp) hP) (paired_imp (fun _ _ z => z.ch cp hGp) hZ)
          · rw [he, List.append_assoc]
            rfl
    · rintro σ G ⟨sG, o1, o2, us, pre, rfl, hG, hP, hF, he⟩
      refine ⟨_, rfl, q p us G np sG hG ?_⟩
      have e0 : fm.slots.drop ss.length = [] := by rw [← hl1, List.drop_length]
      rw [e0] at he
      rw [he, show Mi.usesOf [] (fm.found.drop ss.length) = [] from by cases fm.found.drop ss.length <;> rfl, List.append_nil]
      exact hP
end
end Ws

/-! lists of texts as data -/
namespace Ws
open PySem PySem.Spec PyProof.Rows L2
theorem dp_strs {K : PySem.W.Frag} {H : Hp} : ∀ l : List Str, DpAll K H (l.map V.str) (l.map PyData.str)
  | [] => .nil
  | x :: r => .cons (.str x) (dp_strs r)
theorem lay_strs : ∀ l : List Str, (∀ x ∈ l, PyData.strOk x = true) → PyData.canLayAll0 (l.map PyData.str) = true ∧ PyData.depthAll (l.map PyData.str) ≤ 1
  | [], _ => ⟨by simp [PyData.canLayAll0], by simp [PyData.depthAll]⟩
  | x :: r, h => by
    obtain ⟨h1, h2⟩ := lay_strs r fun z hz => h z (List.mem_cons_of_mem _ hz)
    refine ⟨by simp [PyData.canLayAll0, PyData.canLay0, h1, h x (List.mem_cons_self ..)], ?_⟩
    simp only [List.map_cons, PyData.depthAll, PyData.depth]
    omega
theorem shaped_strs (l : List Str) (h : ∀ x ∈ l, PyData.strOk x = true) : SeqAt.shaped (.list (l.map PyData.str)) = true := by
  obtain ⟨h1, h2⟩ := lay_strs l h
  show ((PyData.list (l.map PyData.str)).canLay0 && decide ((PyData.list (l.map PyData.str)).depth ≤ 64)) = true
  rw [Bool.and_eq_true]
  refine ⟨by simp only [PyData.canLay0]; exact h1, decide_eq_true ?_⟩
  simp only [PyData.depth]
  omega
theorem eqv_strs : ∀ u v : List Str, PyData.eqv (.list (u.map PyData.str)) (.list (v.map PyData.str)) = decide (u = v)
  | [], [] => by simp [PyData.eqv, PyData.eqvAll]
  | [], _ :: _ => by simp [PyData.eqv, PyData.eqvAll]
  | _ :: _, [] => by simp [PyData.eqv, PyData.eqvAll]
  | x :: u, y :: v => by
    have := eqv_strs u v
    simp only [PyData.eqv, List.map_cons, PyData.eqvAll] at this ⊢
    rw [this, Bool.eq_iff_iff]
    simp
theorem dp_strL {K : PySem.W.Frag} {H : Hp} {a : Addr} {l : List Str} (h : SqL K H a (l.map V.str)) : Dp K H (.ref a) (.list (l.map PyData.str)) := .lst h (dp_strs l)
theorem cut_last (xs : List V) : cutV xs (some (-1)) none = xs.drop (xs.length - 1) := by
  unfold cutV HT.sIx
  have e : ((-1 : Int) < 0) := by decide
  simp only [e, if_true]
  cases h : xs with
  | nil => rfl
  | cons a r =>
    rw [← h]
    have hl : 0 < xs.length := by rw [h]; simp
    have e2 : (-1 + (xs.length : Int)).toNat = xs.length - 1 := by omega
    rw [e2]
    exact List.take_of_length_le (by rw [List.length_drop]; omega)
theorem parts_ne (x : Str) (cuts : List Nat) (n : Nat) : Builtin.Str.partsBetween x cuts n ≠ [] := by
  unfold Builtin.Str.partsBetween
  cases cuts <;> simp
theorem split_ne (x y : Str) : Txt.split x y ≠ [] := by
  unfold Txt.split
  split
  · simp
  · split
    · simp
    · exact parts_ne _ _ _
theorem split_len (x y : Str) : ∀ z ∈ Txt.split x y, z.length ≤ x.length := by
  intro z hz
  unfold Txt.split at hz
  split at hz
  · rw [List.mem_singleton.mp hz]; exact Nat.le_refl _
  · split at hz
    · rw [List.mem_singleton.mp hz]; exact Nat.le_refl _
    · unfold Builtin.Str.partsBetween at hz
      obtain ⟨⟨i, j⟩, _, rfl⟩ := List.mem_map.mp hz
      unfold Builtin.Str.strSub Str.length
      simp
      omega
theorem split_ok {x : Str} (y : Str) (h : PyData.strOk x = true) : ∀ z ∈ Txt.split x y, PyData.strOk z = true := by
  intro z hz
  unfold Txt.split at hz
  split at hz
  · rw [List.mem_singleton.mp hz]; exact h
  · split at hz
    · rw [List.mem_singleton.mp hz]; exact h
    · unfold Builtin.Str.partsBetween at hz
      obtain ⟨⟨i, j⟩, _, rfl⟩ := List.mem_map.mp hz
      unfold PyData.strOk at h ⊢
      rw [Array.all_eq_true'] at h ⊢
      intro c hc
      refine h c ?_
      unfold Builtin.Str.strSub at hc
      have h2 := Array.mem_toList_iff.mpr hc
      rw [Array.toList_extract] at h2
      unfold List.extract at h2
      exact Array.mem_toList_iff.mp (List.mem_of_mem_drop (List.mem_of_mem_take h2))
end Ws

/-! calls with nothing in the parentheses; a row that is a list or a tuple -/
namespace Ws
open PySem PySem.Spec PyProof.Rows L2
section
variable {X : Cx} {CX : CXT} {k j : Nat} {C f : Addr} {sp : Sp} {E : L2.St → XK} {x m : Str} {p pos apos : Pos} {o : Expr} {ta : TE}
/-- o.m() -/
theorem pe_mtS0 {pl : Sem Bool} (c : MetE X.prog X.w X.K X.mg X.base CX k C m sp) (hr : Room j X.A) (hk : k ≤ j) (hx : ∀ σ, PassesAt CX X σ (E σ)) (he : PE X o ta)
    (ht : eval (.Call (.Attribute o m apos) [] [] pos) X.env = (do
      let ov ← eval o X.env
      standAt apos.atName
      let (f, first) ← holding [ov] (getMethod ov m pl)
      callWith pos f first (backTo pos (starEach [] X.env)) (backToKw pos (keywordEach [] X.env))) := by rfl) :
    PE X (.Call (.Attribute o m apos) [] [] pos) (tMtS C m sp E ta tNil) := by
  obtain ⟨fa, hc, hm, F⟩ := c
  refine ⟨fun pi st σ G Q J hq => ?_⟩
  refine PySem.W.methodCall_KW (pl := pl) (thn (he.run pi st σ G _ J hq) fun u s1 ⟨y, G1, J1, rx, a, dx, fs, ex, ea, l, q⟩ => ?_) ht
  subst ex
  obtain rfl : u = Value.ref a := rx
  refine getmeth_ok J1 ea hc hm l ?_
  exact PySem.W.callWith_K0 (first := [.ref a]) J1.kIn hm.kp (run_S (us := [.ref a]) (vs := [.ref a]) F (hr.mono hk) (hx σ) J1 (.cons rfl .nil) q)
theorem pe_mt0 {pl : Sem Bool} (c : MetF X.prog X.w X.K X.mg X.base k C m sp) (hr : Room j X.A) (hk : k ≤ j) (he : PE X o ta)
    (ht : eval (.Call (.Attribute o m apos) [] [] pos) X.env = (do
      let ov ← eval o X.env
      standAt apos.atName
      let (f, first) ← holding [ov] (getMethod ov m pl)
      callWith pos f first (backTo pos (starEach [] X.env)) (backToKw pos (keywordEach [] X.env))) := by rfl) :
    PE X (.Call (.Attribute o m apos) [] [] pos) (tMt C m sp ta tNil) := by
  obtain ⟨fa, hc, hm, F⟩ := c
  refine ⟨fun pi st σ G Q J hq => ?_⟩
  refine PySem.W.methodCall_KW (pl := pl) (thn (he.run pi st σ G _ J hq) fun u s1 ⟨y, G1, J1, rx, a, dx, fs, ex, ea, l, q⟩ => ?_) ht
  subst ex
  obtain rfl : u = Value.ref a := rx
  refine getmeth_ok J1 ea hc hm l ?_
  exact PySem.W.callWith_K0 (first := [.ref a]) J1.kIn hm.kp (run_R (us := [.ref a]) (vs := [.ref a]) F (hr.mono hk) pass0 J1 (.cons rfl .nil) q)
/-- C() -/
theorem pe_mk0 (c : MakF X.prog X.w X.K X.mg X.base k x C sp) (hr : Room j X.A) (hk : k + 1 ≤ j) (hg : Gl X x) (hdb : (x == ("__debug__" : Str)) = false := by decide) : PE X (.Call (.Name x p) [] [] pos) (tMk C sp tNil) := by
  obtain ⟨fa, M, F, hm⟩ := c
  refine ⟨fun pi st σ G Q J hq => ?_⟩
  refine wpAny_Call_Name_kw (ld_glob J hg hm ?_ hdb)
  exact PySem.W.callWith_K0 J.kIn M.kp (StX.run_makeR (us := []) M F (hr.mono hk) pass0 J .nil hq)
/-- a row gone through by one of two rules -/
theorem pi_or {tg l : Expr} {w1 w2 : TI} (h1 : PI X tg l w1) (h2 : PI X tg l w2) : PI X tg l (fun σ H R => w1 σ H R ∨ w2 σ H R) :=
  ⟨fun pi st σ G R J q => q.elim (fun q => h1.run pi st σ G R J q) (fun q => h2.run pi st σ G R J q)⟩
/-! within a comprehension the module's part is named -/
theorem pe_fldK {K : PySem.W.Frag} {te : TE} {n : Str} (hK : X.K = K) (hb : attributeBase o n X.env (eval o X.env) = eval o X.env) (he : PE X o te) : PE X (.Attribute o n pos) (tFld K te n) := by
  subst hK
  exact pe_fld he hb
theorem pe_kget1K {K : PySem.W.Frag} {w : World} {e : Expr} {cpos : Pos} {td ty : TE} (hK : X.K = K) (hw : X.w = w) (ho : PE X o td) (he : PE X e ty) (mm : M1 X o "get" apos e cpos) : PE X (.Call (.Attribute o "get" apos) [e] [] cpos) (tKGet K w td ty) := by
  subst hK
  subst hw
  exact pe_kget1 ho he mm
theorem ix_tupK {K : PySem.W.Frag} (hK : X.K = K) : IxR X (rIxT K) := by
  subst hK
  exact ix_tup
theorem op_notIn_k : OpR X (compareOp .NotIn) (fun x y H Q => ∃ (z : Str) (a : Addr) (o : Option V), x = .str z ∧ y = .ref a ∧ KHas X.K X.w a z o ∧ Q (.bl (!o.isSome)) H) := by
  intro pi st σ G x y v u Q J rx ry h
  obtain ⟨z, a, o, rfl, rfl, ⟨es, n, r, D, e, ro⟩, q⟩ := h
  rw [ro.isSome_eq] at q
  exact op_notIn_kd D pi st σ G _ _ v u Q J rx ry ⟨z, r, rfl, rfl, e, q⟩
theorem sl_tupK {K : PySem.W.Frag} (hK : X.K = K) : SlR X (rSlT K) := by
  subst hK
  exact sl_tup
theorem op_in_kK {K : PySem.W.Frag} {w : World} (hK : X.K = K) (hw : X.w = w) : OpR X (compareOp .In) (fun x y H Q => ∃ (z : Str) (a : Addr) (o : Option V), x = .str z ∧ y = .ref a ∧ KHas K w a z o ∧ Q (.bl o.isSome) H) := by
  subst hK
  subst hw
  exact op_in_k
end
end Ws

namespace Ws
open PySem PySem.Spec PyProof.Rows L2
noncomputable abbrev sDeclN : Stmt := (PySem.Challenge.pw_whatspeed_k17_what_a_program_tells.main.body.getD 48 (.Pass ⟨0, 0, 0, 0⟩))
noncomputable abbrev NDeclN : List Str := ["forms", "group", "form"]
noncomputable abbrev PDeclN : List Str := ["forms", "group"]
theorem scDeclN : FnScope NDeclN PDeclN (defScope sDeclN) := ⟨rfl, rfl, rfl, by decide +kernel, rfl, by decide +kernel, by decide +kernel⟩
noncomputable abbrev sRInit : Stmt := (inClass (PySem.Challenge.pw_whatspeed_k17_what_a_program_tells.main.body.getD 49 (.Pass ⟨0, 0, 0, 0⟩)) 0)
noncomputable abbrev NRInit : List Str := ["self"]
noncomputable abbrev PRInit : List Str := ["self"]
theorem scRInit : FnScope NRInit PRInit (defScope sRInit) := ⟨rfl, rfl, rfl, by decide +kernel, rfl, by decide +kernel, by decide +kernel⟩
noncomputable abbrev sRForms : Stmt := (inClass (PySem.Challenge.pw_whatspeed_k17_what_a_program_tells.main.body.getD 49 (.Pass ⟨0, 0, 0, 0⟩)) 1)
noncomputable abbrev NRForms : List Str := ["self"]
noncomputable abbrev PRForms : List Str := ["self"]
theorem scRForms : FnScope NRForms PRForms (defScope sRForms) := ⟨rfl, rfl, rfl, by decide +kernel, rfl, by decide +kernel, by decide +kernel⟩
noncomputable abbrev sRTab : Stmt := (inClass (PySem.Challenge.pw_whatspeed_k17_what_a_program_tells.main.body.getD 49 (.Pass ⟨0, 0, 0, 0⟩)) 4)
noncomputable abbrev NRTab : List Str := ["self", "at"]
noncomputable abbrev PRTab : List Str := ["self"]
theorem scRTab : FnScope NRTab PRTab (defScope sRTab) := ⟨rfl, rfl, rfl, by decide +kernel, rfl, by decide +kernel, by decide +kernel⟩
/-! ### reading the lines of a program: what stands so far -/
noncomputable def gTxt : Mi.G → Str
  | .lock => "lock" | .queue => "queue" | .cell => "cell" | .part => "part" | .task => "task"
noncomputable def bkTxt : Mi.Bk → Str
  | .ifk => "if" | .elsek => "else" | .whilek => "while" | .repeatk => "repeat"
noncomputable def gV (o : Option Mi.G) : Option V := o.map fun g => .str (gTxt g)
/-- the dict of the kinds that declare a name -/
noncomputable def DeclK (K : PySem.W.Frag) (w : World) (a : Addr) : Prop := ∀ k : Mi.PK, KHas K w a (pkTxt k) (gV k.group)
/-- a form that was read -/
structure OkFm (f : Mi.Fm) : Prop where
  fits : Fits f.slots f.found
  few : f.slots.length ≤ 100
  two : f.kind.group ≠ none → ∃ a x r, f.found = a :: .w x :: r
  len2 : f.kind ≠ .elsek → f.kind ≠ .endk → 2 ≤ f.found.length
  len3 : f.kind.group = some .task → 3 ≤ f.found.length
noncomputable def RowsOk (t : Mi.Rows) : Prop := ∀ r ∈ t, r.2.length ≤ 100 ∧ r.2 ≠ [] ∧ (r.1.group ≠ none → ∃ a s, r.2 = a :: .new :: s) ∧ (r.1 ≠ .elsek → r.1 ≠ .endk → 2 ≤ r.2.length) ∧ (r.1.group = some .task → 3 ≤ r.2.length)
theorem rows_ok : ∀ p : Mi.Pl, RowsOk p.rows := by
  intro p r hr
  have h : p.rows.all (fun r => decide (r.2.length ≤ 100) && decide (r.2 ≠ []) && ((decide (r.1.group = none) || (match r.2 with | _ :: .new :: _ => true | _ => false)) && ((decide (r.1 = .elsek) || (decide (r.1 = .endk) || decide (2 ≤ r.2.length))) && (decide (r.1.group ≠ some .task) || decide (3 ≤ r.2.length))))) = true := by cases p <;> decide +kernel
  have h2 := List.all_eq_true.mp h r hr
  simp only [Bool.and_eq_true, Bool.or_eq_true, decide_eq_true_iff] at h2
  obtain ⟨⟨h3, h4⟩, h5, h6, h7⟩ := h2
  refine ⟨h3, h4, fun z => ?_, fun z1 z2 => h6.elim (fun z => absurd z z1) (fun z => z.elim (fun z => absurd z z2) id), fun z => h7.elim (fun z2 => absurd z z2) id⟩
  rcases h5 with h5 | h5
  · exact absurd h5 z
  · split at h5
    · rename_i a s e
      exact ⟨a, s, e⟩
    · cases h5
theorem two_of {a : Mi.Sl} {s : List Mi.Sl} {fs : List Mi.Fd} (h : Fits (a :: .new :: s) fs) : ∃ a x r, fs = a :: .w x :: r := by
  have one : ∀ {gs : List Mi.Fd}, Fits (.new :: s) gs → ∃ x r, gs = .w x :: r := fun h => by
    cases h with
    | new h => exact ⟨_, _, rfl⟩
  cases h with
  | lit h => obtain ⟨x, r, rfl⟩ := one h; exact ⟨_, _, _, rfl⟩
  | num h => obtain ⟨x, r, rfl⟩ := one h; exact ⟨_, _, _, rfl⟩
  | new h => obtain ⟨x, r, rfl⟩ := one h; exact ⟨_, _, _, rfl⟩
  | want h => obtain ⟨x, r, rfl⟩ := one h; exact ⟨_, _, _, rfl⟩
  | value _ _ h => obtain ⟨x, r, rfl⟩ := one h; exact ⟨_, _, _, rfl⟩
theorem okFm_of {ws : List Str} {t : Mi.Rows} {f : Mi.Fm} (ht : RowsOk t) (h : Mi.readForm ws t = some f) : OkFm f := by
  unfold Mi.readForm at h
  obtain ⟨r, hr, h2⟩ := List.exists_of_findSome?_eq_some h
  unfold Mi.rowRead at h2
  split at h2
  · obtain ⟨fs, hf, rfl⟩ := Option.map_eq_some_iff.mp h2
    obtain ⟨t1, t2, t3, t4, t5⟩ := ht r hr
    refine ⟨fits_of hf, t1, fun z => ?_, fun z1 z2 => (fits_of hf).len ▸ t4 z1 z2, fun z => (fits_of hf).len ▸ t5 z⟩
    obtain ⟨a, s, e⟩ := t3 z
    exact two_of (e ▸ fits_of hf)
  · cases h2
structure RdC (K : PySem.W.Frag) (CR : Addr) : Prop where
  cl : Cls K CR
  nF : NoAttr K CR "_forms"
  nB : NoAttr K CR "_blocks"
/-- forms in a list or a tuple -/
noncomputable def FmsAt (K : PySem.W.Frag) (CF : Addr) (H : Hp) (l : Addr) (fs : List Mi.Fm) : Prop := ∃ us, (SqL K H l us ∨ SqT K H l us) ∧ Paired (FmAt K CF H) fs us ∧ us.length ≤ 1000 ∧ ∀ f ∈ fs, OkFm f
/-- a Reading in the heap -/
noncomputable def RdAt (K : PySem.W.Frag) (CF CR : Addr) (H : Hp) (x p q : Addr) (fs : List Mi.Fm) (bs : List Mi.Bk) : Prop :=
  ∃ dx us, H x = some (.ins CR dx [("_forms", .ref p), ("_blocks", .ref q)]) ∧ p ≠ q ∧ H p = some (.lst us) ∧ Paired (FmAt K CF H) fs us ∧ us.length ≤ 1000 ∧ (∀ f ∈ fs, OkFm f) ∧ H q = some (.lst (bs.map fun b => V.str (bkTxt b))) ∧ bs.length ≤ 1000
theorem RdAt.same {K : PySem.W.Frag} {CF CR : Addr} {H H' : Hp} (s : Same H H') {x p q : Addr} {fs : List Mi.Fm} {bs : List Mi.Bk} (h : RdAt K CF CR H x p q fs bs) : RdAt K CF CR H' x p q fs bs := by
  obtain ⟨dx, us, h1, h2, h3, h4, h5, h6, h7, h8⟩ := h
  exact ⟨dx, us, s _ _ h1, h2, s _ _ h3, paired_imp (fun _ _ => FmAt.same s) h4, h5, h6, s _ _ h7, h8⟩
theorem RdAt.fms {K : PySem.W.Frag} {CF CR : Addr} {H : Hp} {x p q : Addr} {fs : List Mi.Fm} {bs : List Mi.Bk} (h : RdAt K CF CR H x p q fs bs) : FmsAt K CF H p fs := by
  obtain ⟨dx, us, h1, h2, h3, h4, h5, h6, h7, h8⟩ := h
  exact ⟨us, .inl (SqL.of h3), h4, h5, h6⟩
theorem SqL.same {K : PySem.W.Frag} {H H' : Hp} {l : Addr} {ws : List V} (h : SqL K H l ws) (s : Same H H') : SqL K H' l ws := by
  rcases h with (h | ⟨o, h⟩) | h
  · exact .inl (.inl (s _ _ h))
  · exact .inl (.inr ⟨o, s _ _ h⟩)
  · exact .inr h
theorem none_of {H H' : Hp} {a : Addr} (s : Same H H') (h : H' a = none) : H a = none := by
  cases e : H a with
  | none => rfl
  | some o => rw [s _ _ e] at h; cases h
theorem grp_take {fs : List Mi.Fm} {g : Mi.G} {i : Nat} {f : Mi.Fm} (h : fs[i]? = some f) : (Mi.grp (fs.take (i + 1)) g).map (fun f => V.str f.nm) = (Mi.grp (fs.take i) g).map (fun f => V.str f.nm) ++ (if f.kind.group = some g then [V.str f.nm] else []) := by
  rw [List.take_succ, h]
  unfold Mi.grp
  rw [List.filter_append, List.map_append]
  congr 1
  by_cases hg : f.kind.group = some g <;> simp [hg]
noncomputable def spDeclN (K : PySem.W.Frag) (CF : Addr) : Sp := fun vs H Q _ => ∃ (l : Addr) (g : Mi.G) (fs : List Mi.Fm), vs = [.ref l, .str (gTxt g)] ∧ FmsAt K CF H l fs ∧ ∀ t H', H t = none → Same H H' → H' t = some (.tup ((Mi.grp fs g).map fun f => V.str f.nm)) → Q (.ref t) H'
noncomputable def spRInit (CR : Addr) : Sp := fun vs H Q _ => ∃ (x dx : Addr), vs = [.ref x] ∧ H x = some (.ins CR dx []) ∧ ∀ p q H', H p = none → H q = none → Ch x H H' → p ≠ q → H' x = some (.ins CR dx [("_forms", .ref p), ("_blocks", .ref q)]) → H' p = some (.lst []) → H' q = some (.lst []) → Q .non H'
noncomputable def spRForms (K : PySem.W.Frag) (CF CR : Addr) : Sp := fun vs H Q _ => ∃ (x p q : Addr) (fs : List Mi.Fm) (bs : List Mi.Bk), vs = [.ref x] ∧ RdAt K CF CR H x p q fs bs ∧ ∀ t us H', H t = none → Same H H' → H' t = some (.tup us) → Paired (FmAt K CF H') fs us → us.length ≤ 1000 → Q (.ref t) H'
noncomputable def spRTab (K : PySem.W.Frag) (CF CR : Addr) : Sp := fun vs H Q _ => ∃ (x p q : Addr) (fs : List Mi.Fm) (bs : List Mi.Bk), vs = [.ref x] ∧ RdAt K CF CR H x p q fs bs ∧ ∀ t us H', Same H H' → SqT K H' t us → Paired (RowAt K) (Mi.pl fs.length (Mi.inTask fs)).rows us → Q (.ref t) H'
section
variable {P : Program} {w : World} {K : PySem.W.Frag} {mg : Str → Option Value} {base : Heap} {f : Addr} {fd : FuncData}
theorem gTxt_inj {a b : Mi.G} (h : gTxt a = gTxt b) : a = b := by
  revert h
  cases a <;> cases b <;> first | (intro _; rfl) | (intro h; exact absurd h (by decide +kernel))
theorem ok_decln {CF aD : Addr} (F : L2.Fun K "declared_names" "declared_names" sDeclN f fd) (b : Binds K fd PDeclN []) (B : Bi mg) (FC : FormC K CF) (gTu : mg "tuple" = none) (gDe : mg "DECLARES" = some (.ref aD)) (hD : DeclK K w aD) : FnR P w K mg base CX0 1 f (spDeclN K CF) := by
  refine fnR_of F b scDeclN (fun vs H Q E h => ?_) (fun cdv A outer s H vs Q E hr h => ?_)
  · obtain ⟨_, _, _, rfl, _⟩ := h
    rfl
  · have sc := scDeclN
    obtain ⟨l, g, fs, rfl, ⟨us, hl, hp, hu, hok⟩, q⟩ := h
    refine ⟨_, (pss_one (ps_ret (pe_callTy call_tuple_of (by rfl) gTu (by decide +kernel) (pa_cons (pe_lc (own := [("form", 2)]) rfl sc.nd (pi_or (pi_list (pv 0)) (pi_tup (pv 0))) (blkOk_by (N := NDeclN) (sc := defScope sDeclN) (by decide +kernel)) (fun _ _ _ _ _ => by exact (pg_name (i := 2) sc.nd rfl (Or.inl rfl))) (fun _ _ _ _ _ => by exact (pts_one (pt_cmpR op_eq (pe_kget1K (K := K) (w := w) rfl rfl (pe_glob (v := .ref aD) rfl gDe rfl) (pe_fldK (K := K) rfl rfl (pv 2)) ⟨rfl, rfl, rfl, rfl⟩) (pv 1) (nomark _)))) (fun _ _ _ _ _ => by exact (pe_ix (ix_tupK (K := K) rfl) (pe_fldK (K := K) rfl rfl (pv 2)) pe_int (fun _ _ => rfl)))) pa_nil)))), ?_⟩
    rcases hl with hl | hl
    refine .inl ⟨_, rfl, l, rfl, ⟨us, hl⟩, fun D nD => ?_⟩
    refine lc_list (xs := us) (fun i G => Same H G ∧ G D = some (.lst ((Mi.grp (fs.take i) g).map fun f => V.str f.nm))) ?_ (fun i G _ h => ?_) ?_ ?_
    · exact ⟨Same.new nD, upd_same⟩
    · exact SqL.same hl h.1
    · rintro i z G hz ⟨sG, hD0⟩
      refine ⟨rfl, ?_⟩
      obtain ⟨fm, hfm, hfz⟩ := paired_get hp i z hz
      obtain ⟨a, dxx, sA, uA, vs, rfl, h1, h2, h3, h4⟩ := hfz
      obtain ⟨es, n, r, hKD, hr1, hr2⟩ := hD fm.kind
      refine ⟨aD, es, n, rfl, hKD, _, rfl, a, CF, dxx, _, _, rfl, sG _ _ h1, FC.cl, FC.nK, rfl, _, gV fm.kind.group, rfl, hD fm.kind, _, rfl, ?_⟩
      refine ⟨by cases fm.kind.group <;> rfl, _, rfl, ?_⟩
      have il : i < us.length := (List.getElem?_eq_some_iff.mp hz).1
      by_cases hg : fm.kind.group = some g
      · have hb : decide ((gV fm.kind.group).getD .non = .str (gTxt g)) = true := by rw [hg]; exact decide_eq_true rfl
        rw [hb]
        dsimp only
        rw [if_pos rfl]
        obtain ⟨d, y, rr, e⟩ := (hok fm (List.mem_of_getElem? hfm)).two (by rw [hg]; simp)
        have hnm : fm.nm = y := by unfold Mi.Fm.nm; rw [e]; rfl
        rw [e] at h4
        cases h4 with
        | cons h5 h6 =>
          cases h6 with
          | cons h7 h8 =>
            cases (show _ = V.str y from h7)
            refine ⟨_, rfl, a, CF, dxx, _, _, rfl, sG _ _ h1, FC.cl, FC.nF, rfl, uA, _, 1, .str y, rfl, rfl, SqT.of (sG _ _ h3), atI_nat (j := 1) rfl, ?_⟩
            refine ⟨_, hD0, ?_, fun b o e => ?_, ?_⟩
            · have h9 := List.length_filter_le (fun f : Mi.Fm => decide (f.kind.group = some g)) (fs.take i)
              have h10 : (Mi.grp (fs.take i) g).length ≤ i := Nat.le_trans h9 (by rw [List.length_take]; omega)
              rw [List.length_map]
              exact Nat.lt_of_le_of_lt (show (Mi.grp (fs.take i) g).length ≤ 1000 by omega) (by show 1000 < 2 ^ 24; decide)
            · rw [upd_ne (ne_of_none e nD)]
              exact sG _ _ e
            · rw [upd_same, grp_take hfm, if_pos hg, hnm]
      · have hb : decide ((gV fm.kind.group).getD .non = .str (gTxt g)) = false := by
          cases hk : fm.kind.group with
          | none => exact decide_eq_false (fun z => by cases z)
          | some g2 =>
            rw [hk] at hg
            exact decide_eq_false (fun z => hg (by rw [gTxt_inj (V.str.inj z)]))
        rw [hb]
        dsimp only
        rw [if_neg (by simp)]
        refine ⟨sG, ?_⟩
        rw [hD0, grp_take hfm, if_neg hg, List.append_nil]
    · rintro G ⟨sG, hD0⟩
      rw [← paired_len hp, List.take_length] at hD0
      refine ⟨D, _, rfl, .inl ⟨SqL.of hD0, fun t nt => ?_⟩⟩
      exact q t _ (none_of sG nt) (sG.trans (Same.new nt)) upd_same
    refine .inr ⟨_, rfl, l, rfl, ⟨us, hl⟩, fun D nD => ?_⟩
    refine lc_tup (xs := us) (fun i G => Same H G ∧ G D = some (.lst ((Mi.grp (fs.take i) g).map fun f => V.str f.nm))) ?_ (fun i G _ h => ?_) ?_ ?_
    · exact ⟨Same.new nD, upd_same⟩
    · exact SqT.same hl h.1
    · rintro i z G hz ⟨sG, hD0⟩
      refine ⟨rfl, ?_⟩
      obtain ⟨fm, hfm, hfz⟩ := paired_get hp i z hz
      obtain ⟨a, dxx, sA, uA, vs, rfl, h1, h2, h3, h4⟩ := hfz
      obtain ⟨es, n, r, hKD, hr1, hr2⟩ := hD fm.kind
      refine ⟨aD, es, n, rfl, hKD, _, rfl, a, CF, dxx, _, _, rfl, sG _ _ h1, FC.cl, FC.nK, rfl, _, gV fm.kind.group, rfl, hD fm.kind, _, rfl, ?_⟩
      refine ⟨by cases fm.kind.group <;> rfl, _, rfl, ?_⟩
      have il : i < us.length := (List.getElem?_eq_some_iff.mp hz).1
      by_cases hg : fm.kind.group = some g
      · have hb : decide ((gV fm.kind.group).getD .non = .str (gTxt g)) = true := by rw [hg]; exact decide_eq_true rfl
        rw [hb]
        dsimp only
        rw [if_pos rfl]
        obtain ⟨d, y, rr, e⟩ := (hok fm (List.mem_of_getElem? hfm)).two (by rw [hg]; simp)
        have hnm : fm.nm = y := by unfold Mi.Fm.nm; rw [e]; rfl
        rw [e] at h4
        cases h4 with
        | cons h5 h6 =>
          cases h6 with
          | cons h7 h8 =>
            cases (show _ = V.str y from h7)
            refine ⟨_, rfl, a, CF, dxx, _, _, rfl, sG _ _ h1, FC.cl, FC.nF, rfl, uA, _, 1, .str y, rfl, rfl, SqT.of (sG _ _ h3), atI_nat (j := 1) rfl, ?_⟩
            refine ⟨_, hD0, ?_, fun b o e => ?_, ?_⟩
            · have h9 := List.length_filter_le (fun f : Mi.Fm => decide (f.kind.group = some g)) (fs.take i)
              have h10 : (Mi.grp (fs.take i) g).length ≤ i := Nat.le_trans h9 (by rw [List.length_take]; omega)
              rw [List.length_map]
              exact Nat.lt_of_le_of_lt (show (Mi.grp (fs.take i) g).length ≤ 1000 by omega) (by show 1000 < 2 ^ 24; decide)
            · rw [upd_ne (ne_of_none e nD)]
              exact sG _ _ e
            · rw [upd_same, grp_take hfm, if_pos hg, hnm]
      · have hb : decide ((gV fm.kind.group).getD .non = .str (gTxt g)) = false := by
          cases hk : fm.kind.group with
          | none => exact decide_eq_false (fun z => by cases z)
          | some g2 =>
            rw [hk] at hg
            exact decide_eq_false (fun z => hg (by rw [gTxt_inj (V.str.inj z)]))
        rw [hb]
        dsimp only
        rw [if_neg (by simp)]
        refine ⟨sG, ?_⟩
        rw [hD0, grp_take hfm, if_neg hg, List.append_nil]
    · rintro G ⟨sG, hD0⟩
      rw [← paired_len hp, List.take_length] at hD0
      refine ⟨D, _, rfl, .inl ⟨SqL.of hD0, fun t nt => ?_⟩⟩
      exact q t _ (none_of sG nt) (sG.trans (Same.new nt)) upd_same
theorem ok_rinit {CR : Addr} (F : L2.Fun K "__init__" "Reading.__init__" sRInit f fd) (b : Binds K fd PRInit []) (RC : RdC K CR) : FnR P w K mg base CX0 1 f (spRInit CR) := by
  refine fnR_of F b scRInit (fun vs H Q E h => ?_) (fun cdv A outer s H vs Q E hr h => ?_)
  · obtain ⟨_, _, rfl, _⟩ := h
    rfl
  · have sc := scRInit
    obtain ⟨x, dx, rfl, hx, q⟩ := h
    refine ⟨_, (pss_cons (ps_fld (pv 0) (pe_lst pa_nil) rfl) (pss_one (ps_fld (pv 0) (pe_lst pa_nil) rfl))), ?_⟩
    refine ⟨(by show 0 ≤ 2 ^ 24; decide), fun p np => ?_⟩
    have nxp : x ≠ p := ne_of_none hx np
    refine ⟨_, rfl, x, CR, dx, [], rfl, (upd_ne nxp).trans hx, RC.cl, RC.nF, (by show 0 < 1000; decide), ?_⟩
    refine ⟨(by show 0 ≤ 2 ^ 24; decide), fun r nr => ?_⟩
    have nxr : x ≠ r := ne_of_none upd_same nr
    have npr : p ≠ r := ne_of_none ((upd_ne (Ne.symm nxp)).trans upd_same) nr
    have nr2 : H r = none := by rw [upd_ne (Ne.symm nxr), upd_ne (Ne.symm npr)] at nr; exact nr
    refine ⟨_, rfl, x, CR, dx, _, rfl, (upd_ne nxr).trans upd_same, RC.cl, RC.nB, (by show 1 < 1000; decide), ?_⟩
    refine q p r _ np nr2 (fun b o n e => ?_) npr (upd_same.trans (congrArg some (congrArg (HO.ins CR dx) ?_))) ?_ ?_
    · rw [upd_ne n, upd_ne (ne_of_none e nr2), upd_ne n, upd_ne (ne_of_none e np)]
      exact e
    · exact (put_past (by decide +kernel)).trans rfl
    · rw [upd_ne (Ne.symm nxp), upd_ne npr, upd_ne (Ne.symm nxp), upd_same]
    · rw [upd_ne (Ne.symm nxr), upd_same]
theorem ok_rforms {CF CR : Addr} (F : L2.Fun K "forms" "Reading.forms" sRForms f fd) (b : Binds K fd PRForms []) (RC : RdC K CR) (gTu : mg "tuple" = none) : FnR P w K mg base CX0 1 f (spRForms K CF CR) := by
  refine fnR_of F b scRForms (fun vs H Q E h => ?_) (fun cdv A outer s H vs Q E hr h => ?_)
  · obtain ⟨_, _, _, _, _, rfl, _⟩ := h
    rfl
  · have sc := scRForms
    obtain ⟨x, p, q', fs, bs, rfl, ⟨dx, us, h1, h2, h3, h4, h5, h6, h7, h8⟩, q⟩ := h
    refine ⟨_, (pss_one (ps_ret (pe_callTy call_tuple_of (by rfl) gTu (by decide +kernel) (pa_cons (pe_fld (pv 0) rfl) pa_nil)))), ?_⟩
    exact ⟨_, rfl, x, CR, dx, _, _, rfl, h1, RC.cl, RC.nF, rfl, p, us, rfl, .inl ⟨SqL.of h3, fun t nt => q t us _ nt (Same.new nt) upd_same (paired_imp (fun _ _ => FmAt.same (Same.new nt)) h4) h5⟩⟩
theorem ok_rtab {CF CR aC aS aSt aDe aT : Addr} (F : L2.Fun K "_table" "Reading._table" sRTab f fd) (b : Binds K fd PRTab []) (B : Bi mg) (RC : RdC K CR) (cDn : CalF P w K mg base 1 "declared_names" (spDeclN K CF)) (gC : mg "CORES" = some (.ref aC)) (gS : mg "SLICE" = some (.ref aS)) (gSt : mg "STATEMENTS" = some (.ref aSt)) (gDc : mg "DECLARATIONS" = some (.ref aDe)) (gT : mg "TASKS" = some (.ref aT)) (tC : TabAt K Mi.CORES aC) (tS : TabAt K Mi.SLICE aS) (tSt : TabAt K Mi.STATEMENTS aSt) (tD : TabAt K Mi.DECLARATIONS aDe) (tT : TabAt K Mi.TASKS aT) : FnR P w K mg base CX0 2 f (spRTab K CF CR) := by
  refine fnR_of F b scRTab (fun vs H Q E h => ?_) (fun cdv A outer s H vs Q E hr h => ?_)
  · obtain ⟨_, _, _, _, _, rfl, _⟩ := h
    rfl
  · have sc := scRTab
    obtain ⟨x, p, q', fs, bs, rfl, hR, q⟩ := h
    refine ⟨_, (pss_cons (ps_set (i := 1) sc.nd rfl (Or.inl rfl) (pe_callB call_len_seq (by rfl) B.len PySem.boot_len (pa_cons (pe_fld (pv 0) rfl) pa_nil))) (pss_cons (ps_if (pt_cmpR op_eq (pv 1) pe_int (nomark _)) (pss_one (ps_ret (pe_glob (v := .ref aC) rfl gC rfl))) pss_nil) (pss_cons (ps_if (pt_cmpR op_eq (pv 1) pe_int (nomark _)) (pss_one (ps_ret (pe_glob (v := .ref aS) rfl gS rfl))) pss_nil) (pss_cons (ps_if (pt_truth (pe_f cDn hr (by omega) rfl (pa_cons (pe_fld (pv 0) rfl) (pa_cons pe_str pa_nil))) (by intro _; rfl)) (pss_one (ps_ret (pe_op op_catT (pe_glob (v := .ref aSt) rfl gSt rfl) (pe_glob (v := .ref aT) rfl gT rfl)))) pss_nil) (pss_one (ps_ret (pe_op op_catT (pe_glob (v := .ref aDe) rfl gDc rfl) (pe_glob (v := .ref aT) rfl gT rfl)))))))), ?_⟩
    have hfm := hR.fms
    obtain ⟨dx, us, h1, h2, h3, h4, h5, h6, h7, h8⟩ := hR
    have hlen := paired_len h4
    obtain ⟨vC, sC, pC⟩ := tC
    obtain ⟨vS, sS, pS⟩ := tS
    obtain ⟨vSt, sSt, pSt⟩ := tSt
    obtain ⟨vD, sD, pD⟩ := tD
    obtain ⟨vT, sT, pT⟩ := tT
    have lSt := paired_len pSt
    have lD := paired_len pD
    have lT := paired_len pT
    refine ⟨_, rfl, x, CR, dx, _, _, rfl, h1, RC.cl, RC.nF, rfl, p, us, rfl, .inl (SqL.of h3), ?_⟩
    refine ⟨_, rfl, rfl, _, rfl, ?_⟩
    by_cases c0 : fs.length = 0
    · refine ifT (decide_eq_true (by rw [← hlen, c0]; rfl)) ?_
      refine q aC vC H (Same.refl H) (sC H) ?_
      rw [show Mi.pl fs.length (Mi.inTask fs) = .first from if_pos c0]
      exact pC
    · refine ifF (decide_eq_false (fun z => c0 (by rw [hlen]; have := V.int.inj z; omega))) ⟨_, rfl, rfl, _, rfl, ?_⟩
      by_cases c1 : fs.length = 1
      · refine ifT (decide_eq_true (by rw [← hlen, c1]; rfl)) ?_
        refine q aS vS H (Same.refl H) (sS H) ?_
        rw [show Mi.pl fs.length (Mi.inTask fs) = .second from (if_neg c0).trans (if_pos c1)]
        exact pS
      · refine ifF (decide_eq_false (fun z => c1 (by rw [hlen]; have := V.int.inj z; omega))) ?_
        refine ⟨_, rfl, x, CR, dx, _, _, rfl, h1, RC.cl, RC.nF, rfl, p, .task, fs, rfl, hfm, fun t H1 nt s1 ht => ?_⟩
        refine ⟨_, .inr (.inl ⟨_, SqT.of ht, rfl⟩), ?_⟩
        by_cases ci : Mi.grp fs .task = []
        · rw [ci]
          refine iteF ?_
          refine ⟨aDe, aT, vD, vT, rfl, rfl, sD _, sT _, (by rintro rfl; cases lD), ?_, (fun z => by rw [z] at lT; cases lT), fun _ r nr => ?_⟩
          · rw [← lD, ← lT]; decide
          · refine q r _ _ (s1.trans (Same.new nr)) (SqT.of upd_same) ?_
            rw [show Mi.pl fs.length (Mi.inTask fs) = .decl from (if_neg c0).trans ((if_neg c1).trans (if_neg (by unfold Mi.inTask; rw [ci]; simp)))]
            exact paired_app pD pT
        · have e : ((Mi.grp fs .task).map fun f => V.str f.nm).isEmpty = false := by
            cases hg : Mi.grp fs .task with
            | nil => exact absurd hg ci
            | cons a r => rfl
          rw [e]
          refine iteT ?_
          refine ⟨aSt, aT, vSt, vT, rfl, rfl, sSt _, sT _, (by rintro rfl; cases lSt), ?_, (fun z => by rw [z] at lT; cases lT), fun _ r nr => ?_⟩
          · rw [← lSt, ← lT]; decide
          · refine q r _ _ (s1.trans (Same.new nr)) (SqT.of upd_same) ?_
            rw [show Mi.pl fs.length (Mi.inTask fs) = .stmt from (if_neg c0).trans ((if_neg c1).trans (if_pos (by unfold Mi.inTask; exact decide_eq_true ci)))]
            exact paired_app pSt pT
end
end Ws

namespace Ws
open PySem PySem.Spec PyProof.Rows L2
noncomputable abbrev sEBad : Stmt := (inClass (PySem.Challenge.pw_whatspeed_k17_what_a_program_tells.main.body.getD 3 (.Pass ⟨0, 0, 0, 0⟩)) 0)
noncomputable abbrev NEBad : List Str := ["self", "line"]
noncomputable abbrev PEBad : List Str := ["self", "line"]
theorem scEBad : FnScope NEBad PEBad (defScope sEBad) := ⟨rfl, rfl, rfl, by decide +kernel, rfl, by decide +kernel, by decide +kernel⟩
noncomputable abbrev sEDbl : Stmt := (inClass (PySem.Challenge.pw_whatspeed_k17_what_a_program_tells.main.body.getD 4 (.Pass ⟨0, 0, 0, 0⟩)) 0)
noncomputable abbrev NEDbl : List Str := ["self", "line"]
noncomputable abbrev PEDbl : List Str := ["self", "line"]
theorem scEDbl : FnScope NEDbl PEDbl (defScope sEDbl) := ⟨rfl, rfl, rfl, by decide +kernel, rfl, by decide +kernel, by decide +kernel⟩
noncomputable abbrev sEUnn : Stmt := (inClass (PySem.Challenge.pw_whatspeed_k17_what_a_program_tells.main.body.getD 5 (.Pass ⟨0, 0, 0, 0⟩)) 0)
noncomputable abbrev NEUnn : List Str := ["self", "line"]
noncomputable abbrev PEUnn : List Str := ["self", "line"]
theorem scEUnn : FnScope NEUnn PEUnn (defScope sEUnn) := ⟨rfl, rfl, rfl, by decide +kernel, rfl, by decide +kernel, by decide +kernel⟩
noncomputable abbrev sRLast : Stmt := (inClass (PySem.Challenge.pw_whatspeed_k17_what_a_program_tells.main.body.getD 49 (.Pass ⟨0, 0, 0, 0⟩)) 5)
noncomputable abbrev NRLast : List Str := ["self"]
noncomputable abbrev PRLast : List Str := ["self"]
theorem scRLast : FnScope NRLast PRLast (defScope sRLast) := ⟨rfl, rfl, rfl, by decide +kernel, rfl, by decide +kernel, by decide +kernel⟩
noncomputable abbrev sRCan : Stmt := (inClass (PySem.Challenge.pw_whatspeed_k17_what_a_program_tells.main.body.getD 49 (.Pass ⟨0, 0, 0, 0⟩)) 6)
noncomputable abbrev NRCan : List Str := ["self", "kind", "group"]
noncomputable abbrev PRCan : List Str := ["self", "kind"]
theorem scRCan : FnScope NRCan PRCan (defScope sRCan) := ⟨rfl, rfl, rfl, by decide +kernel, rfl, by decide +kernel, by decide +kernel⟩
noncomputable abbrev sRChg : Stmt := (inClass (PySem.Challenge.pw_whatspeed_k17_what_a_program_tells.main.body.getD 49 (.Pass ⟨0, 0, 0, 0⟩)) 7)
noncomputable abbrev NRChg : List Str := ["self", "kind"]
noncomputable abbrev PRChg : List Str := ["self", "kind"]
theorem scRChg : FnScope NRChg PRChg (defScope sRChg) := ⟨rfl, rfl, rfl, by decide +kernel, rfl, by decide +kernel, by decide +kernel⟩
noncomputable abbrev sREnd : Stmt := (inClass (PySem.Challenge.pw_whatspeed_k17_what_a_program_tells.main.body.getD 49 (.Pass ⟨0, 0, 0, 0⟩)) 3)
noncomputable abbrev NREnd : List Str := ["self"]
noncomputable abbrev PREnd : List Str := ["self"]
theorem scREnd : FnScope NREnd PREnd (defScope sREnd) := ⟨rfl, rfl, rfl, by decide +kernel, rfl, by decide +kernel, by decide +kernel⟩
/-! ### errors with a line -/
noncomputable def spErrL (C : Addr) : Sp := fun vs H Q _ => ∃ (a : Addr) (v : V), vs = [.ref a, v] ∧ H a = some (exo a C none) ∧ ∀ d, H d = none → d ≠ a → Q .non (upd (upd H d (exd d [("line", v)])) a (exo a C (some d)))
/-- an error class of the package that keeps a line -/
structure ErrOk (P : Program) (w : World) (K : PySem.W.Frag) (mg : Str → Option Value) (base : Heap) (x : Str) (C : Addr) : Prop where
  cls : OexC K C
  bound : mg x = some (.ref C)
  made : ∃ (f : Addr) (fd : FuncData), PySem.W.findIn K (.ref C) "__init__" = some (some (.ref f)) ∧ PySem.W.typeIn K (.ref f) = some (.type "function") ∧ FnOk P w K mg base CX0 1 f fd ["self", "line"] (spErrL C) ∧ Binds K fd ["self", "line"] []
section
variable {X : Cx} {j : Nat} {C : Addr} {x : Str} {p pos : Pos} {e : Expr} {es : List Expr} {ta : TA}
theorem pmk_e (c : ErrOk X.prog X.w X.K X.mg X.base x C) (hr : Room j X.A) (hk : 2 ≤ j) (hg : Gl X x) (ha : PA X (e :: es) ta) (hdb : (x == ("__debug__" : Str)) = false := by decide) (he : starEach (e :: es) X.env = (false, eval e X.env) :: starEach es X.env := by rfl) (hpl : (backTo pos (starEach es X.env)).any (·.1) = false := by rfl) :
    PMk X (.Call (.Name x p) (e :: es) [] pos) (tMkO C (spErrL C) [] ta) := by
  obtain ⟨T, hm, fe, fde, iC, tI, F1, hb⟩ := c
  exact pmk_oex T iC tI F1 (hr.mono hk) hb .nil pass0 hg hm ha hdb he hpl
end
/-- what raising one leaves -/
theorem errl_same {H : Hp} {a d C : Addr} {v : V} (na : H a = none) (nd : H d = none) : Same H (upd (del (upd (upd (upd H a (exo a C none)) d (exd d [("line", v)])) a (exo a C (some d))) a) d (.xd [("line", v)])) := fun b o e => by
  have h1 := ne_of_none e na
  have h2 := ne_of_none e nd
  rw [upd_ne h2, del_ne h1, upd_ne h1, upd_ne h2, upd_ne h1]
  exact e
theorem raise_line {C : Addr} {H : Hp} {v : V} {W : XK} (k : ∀ d H', H' d = some (.xd [("line", v)]) → Same H H' → W (.ref C) (some d) H') :
    ([v] : List V).length ≤ 1000 ∧ ∀ a, H a = none → spErrL C (.ref a :: ([v] ++ [])) (upd H a (exo a C none)) (fun v' H2 => v' = .non ∧ ∃ (d : Addr) (fs : List (Str × V)), H2 a = some (exo a C (some d)) ∧ H2 d = some (exd d fs) ∧ H d = none ∧ W (.ref C) (some d) (upd (del H2 a) d (.xd fs))) (fun _ _ _ => False) := by
  refine ⟨by show 1 ≤ 1000; decide, fun a na => ⟨a, v, rfl, upd_same, fun d nd hda => ?_⟩⟩
  have nd1 : H d = none := by rw [upd_ne hda] at nd; exact nd
  refine ⟨rfl, d, _, upd_same, (upd_ne hda).trans upd_same, nd1, ?_⟩
  exact k d _ upd_same (errl_same na nd1)
/-- a def that may raise -/
theorem fnE_of {P : Program} {w : World} {K : PySem.W.Frag} {mg : Str → Option Value} {base : Heap} {x qual : Str} {st : Stmt} {f : Addr} {fd : FuncData} {N ps : List Str} {k : Nat} {sp : Sp} (F : L2.Fun K x qual st f fd) (b : Binds K fd ps []) (S : FnScope N ps (defScope st)) (len : ∀ vs H Q E, sp vs H Q E → vs.length = ps.length)
    (hbody : ∀ (cdv : Value) (A : Around) (outer : List Env) (s : Shared) (H : Hp) (vs : List V) (Q : VK) (E : XK), Room k (A.deeper (envOfC qual (defScope st) s.heap.objs.size f cdv)) → sp vs H Q E →
      ∃ t, PSs (cxOf (L2.CX P w) P w K mg base N qual (defScope st) f cdv A outer s H E) (defBody st) t ∧ t { nx := fun _ H' => Q .non H', rt := Q } (start N vs) H) : FnR P w K mg base (L2.CX P w) (k + 1) f sp :=
  ((F.okX S len hbody).raw b .nil).imp fun vs H Q E h => by rw [List.append_nil]; exact h
/-- an error with its line, behind a heap -/
noncomputable def RaisesL (C : Addr) (H : Hp) (n : Int) (E : XK) : Prop := ∀ d H', H' d = some (.xd [("line", .int n)]) → Same H H' → E (.ref C) (some d) H'
theorem RaisesL.same {C : Addr} {H H1 : Hp} {n : Int} {E : XK} (h : RaisesL C H n E) (s : Same H H1) : RaisesL C H1 n E := fun d H' e s' => h d H' e (s.trans s')
noncomputable def spRLast (K : PySem.W.Frag) (CF CR Cb : Addr) : Sp := fun vs H Q E => ∃ (x p q : Addr) (fs : List Mi.Fm) (bs : List Mi.Bk), vs = [.ref x] ∧ RdAt K CF CR H x p q fs bs ∧ (Mi.lastTask fs = true → RaisesL Cb H ((fs.length - 1 : Nat) : Int) E) ∧ (Mi.lastTask fs = false → ∀ H', Same H H' → Q .non H')
noncomputable def spRCan (K : PySem.W.Frag) (CF CR : Addr) : Sp := fun vs H Q _ => ∃ (x p q : Addr) (fs : List Mi.Fm) (bs : List Mi.Bk) (k : Mi.PK), vs = [.ref x, .str (pkTxt k)] ∧ RdAt K CF CR H x p q fs bs ∧ ∀ H', Same H H' → Q (.bl (Mi.canStand bs fs k)) H'
noncomputable def spRChg (K : PySem.W.Frag) (CF CR : Addr) : Sp := fun vs H Q _ => ∃ (x p q : Addr) (fs : List Mi.Fm) (bs : List Mi.Bk) (k : Mi.PK), vs = [.ref x, .str (pkTxt k)] ∧ RdAt K CF CR H x p q fs bs ∧ (k = .elsek ∨ k = .endk → bs ≠ []) ∧ ∀ H', Ch q H H' → H' q = some (.lst ((Mi.change bs k).map fun b => V.str (bkTxt b))) → Q .non H'
noncomputable def spREnd (K : PySem.W.Frag) (CF CR Cb : Addr) : Sp := fun vs H Q E => ∃ (x p q : Addr) (fs : List Mi.Fm) (bs : List Mi.Bk), vs = [.ref x] ∧ RdAt K CF CR H x p q fs bs ∧
  (∀ n, Mi.readAll fs bs [] = .error n → RaisesL Cb H (n : Nat) E) ∧ (∀ gs, Mi.readAll fs bs [] = .ok gs → ∀ H', Same H H' → Q .non H')
section
variable {P : Program} {w : World} {K : PySem.W.Frag} {mg : Str → Option Value} {base : Heap} {f : Addr} {fd : FuncData}
theorem ok_ebad {C : Addr} (F : L2.Fun K "__init__" "BadProgram.__init__" sEBad f fd) (T : OexC K C) (hno : PySem.W.findIn K (.ref C) "line" = some none) : FnOk P w K mg base CX0 1 f fd PEBad (spErrL C) := by
  refine F.ok scEBad (fun vs H Q E h => ?_) (fun cdv A outer s H vs Q E hr h => ?_)
  · obtain ⟨a, v, rfl, _⟩ := h
    rfl
  · have sc := scEBad
    obtain ⟨a, v, rfl, e, k⟩ := h
    exact ⟨_, (pss_one (ps_ost (pv 0) (pv 1))), _, rfl, _, rfl, a, C, rfl, T, hno, .inl ⟨e, fun d nd ne => k d nd ne⟩⟩
theorem ok_edbl {C : Addr} (F : L2.Fun K "__init__" "Doubled.__init__" sEDbl f fd) (T : OexC K C) (hno : PySem.W.findIn K (.ref C) "line" = some none) : FnOk P w K mg base CX0 1 f fd PEDbl (spErrL C) := by
  refine F.ok scEDbl (fun vs H Q E h => ?_) (fun cdv A outer s H vs Q E hr h => ?_)
  · obtain ⟨a, v, rfl, _⟩ := h
    rfl
  · have sc := scEDbl
    obtain ⟨a, v, rfl, e, k⟩ := h
    exact ⟨_, (pss_one (ps_ost (pv 0) (pv 1))), _, rfl, _, rfl, a, C, rfl, T, hno, .inl ⟨e, fun d nd ne => k d nd ne⟩⟩
theorem ok_eunn {C : Addr} (F : L2.Fun K "__init__" "Unnamed.__init__" sEUnn f fd) (T : OexC K C) (hno : PySem.W.findIn K (.ref C) "line" = some none) : FnOk P w K mg base CX0 1 f fd PEUnn (spErrL C) := by
  refine F.ok scEUnn (fun vs H Q E h => ?_) (fun cdv A outer s H vs Q E hr h => ?_)
  · obtain ⟨a, v, rfl, _⟩ := h
    rfl
  · have sc := scEUnn
    obtain ⟨a, v, rfl, e, k⟩ := h
    exact ⟨_, (pss_one (ps_ost (pv 0) (pv 1))), _, rfl, _, rfl, a, C, rfl, T, hno, .inl ⟨e, fun d nd ne => k d nd ne⟩⟩
theorem ok_rlast {CF CR Cb : Addr} (F : L2.Fun K "_check_last_task" "Reading._check_last_task" sRLast f fd) (b : Binds K fd PRLast []) (B : Bi mg) (FC : FormC K CF) (RC : RdC K CR) (eB : ErrOk P w K mg base "BadProgram" Cb) : FnR P w K mg base (L2.CX P w) 3 f (spRLast K CF CR Cb) := by
  refine fnE_of F b scRLast (fun vs H Q E h => ?_) (fun cdv A outer s H vs Q E hr h => ?_)
  · obtain ⟨_, _, _, _, _, rfl, _⟩ := h
    rfl
  · have sc := scRLast
    obtain ⟨x, p, q', fs, bs, rfl, hR, k1, k2⟩ := h
    refine ⟨_, (pss_one (ps_if (PW.pt (pw_and (pt_truth (pe_fld (pv 0) rfl) (by intro _; rfl)) (pw_and1 (pt_cmpR op_in_seq (pe_fld (pe_ix ix_list (pe_fld (pv 0) rfl) (pe_un un_neg pe_int) (fun _ _ => rfl)) rfl) (pe_tup (pa_cons pe_str (pa_cons pe_str pa_nil))) rfl)))) (pss_one (ps_raise rfl (takes_of rfl rfl rfl rfl) (pmk_e eB hr (by omega) rfl (pa_cons (pe_op op_sub (pe_callB call_len_seq (by rfl) B.len PySem.boot_len (pa_cons (pe_fld (pv 0) rfl) pa_nil)) pe_int) pa_nil)))) pss_nil)), ?_⟩
    obtain ⟨dx, us, h1, h2, h3, h4, h5, h6, h7, h8⟩ := hR
    have hlen := paired_len h4
    refine ⟨_, rfl, x, CR, dx, _, _, rfl, h1, RC.cl, RC.nF, rfl, _, .inl ⟨us, SqL.of h3, rfl⟩, ?_⟩
    cases hL : fs.getLast? with
    | none =>
      have hz : fs = [] := List.getLast?_eq_none_iff.mp hL
      subst hz
      have hu : us = [] := by cases us with | nil => rfl | cons a r => cases hlen
      subst hu
      exact iteF (iteF (k2 rfl _ (Same.refl H)))
    | some fm =>
      obtain ⟨v, hv1, hv2, hv3⟩ := paired_last h4 fm hL
      have hpos : 0 < us.length := by
        cases us with
        | nil => cases hv1
        | cons a r => simp
      have hne : (!us.isEmpty) = true := by
        cases us with
        | nil => cases hpos
        | cons a r => rfl
      rw [hne]
      obtain ⟨a, dxx, sA, uA, vs, rfl, g1, g2, g3, g4⟩ := hv3
      refine iteT ?_
      refine ⟨_, rfl, x, CR, dx, _, _, rfl, h1, RC.cl, RC.nF, rfl, 1, rfl, p, us, -1, _, rfl, rfl, SqL.of h3, at_last (n := us.length) hpos rfl hv1, a, CF, dxx, _, _, rfl, g1, FC.cl, FC.nK, rfl, (by show 2 ≤ sizeLine; decide), fun T nT => ?_⟩
      have sT : Same H (upd H T (.tup [.str "task", .str "later"])) := Same.new nT
      refine ⟨T, _, rfl, .inr (SqT.of upd_same), rfl, rfl, _, rfl, ?_⟩
      have hin : inV (.str (pkTxt fm.kind)) [.str "task", .str "later"] = Mi.lastTask fs := by
        unfold Mi.lastTask
        rw [hL]
        show _ = decide (fm.kind.group = some .task)
        cases fm.kind <;> decide +kernel
      show if inV (.str (pkTxt fm.kind)) [.str "task", .str "later"] = true then _ else _
      rw [hin]
      cases hl : Mi.lastTask fs with
      | false => exact iteF (k2 hl _ sT)
      | true =>
        refine iteT ?_
        refine ⟨_, rfl, x, CR, dx, _, _, rfl, sT _ _ h1, RC.cl, RC.nF, rfl, p, us, rfl, .inl (SqL.of (sT _ _ h3)), _, _, rfl, rfl, raise_line ?_⟩
        have ee : (us.length : Int) - 1 = ((fs.length - 1 : Nat) : Int) := by omega
        have kk := (k1 hl).same sT
        rw [← ee] at kk
        exact kk
theorem last_if (bs : List Mi.Bk) : decide ((bs.drop (bs.length - 1)).map bkTxt = [("if" : Str)]) = decide (bs.getLast? = some .ifk) := by
  cases h : bs.getLast? with
  | none =>
    have := List.getLast?_eq_none_iff.mp h
    subst this
    rfl
  | some b =>
    obtain ⟨l, e⟩ : ∃ l, bs = l ++ [b] := List.getLast?_eq_some_iff.mp h
    subst e
    rw [List.length_append, show (l.length + [b].length - 1) = l.length from rfl, List.drop_left]
    cases b <;> decide +kernel
theorem ok_rcan {CF CR aD aM aB : Addr} (F : L2.Fun K "_can_stand" "Reading._can_stand" sRCan f fd) (b : Binds K fd PRCan []) (B : Bi mg) (RC : RdC K CR) (cDn : CalF P w K mg base 1 "declared_names" (spDeclN K CF)) (gDe : mg "DECLARES" = some (.ref aD)) (hD : DeclK K w aD) (gMst : mg "MOST" = some (.ref aM)) (hM : ∀ g : Mi.G, KHas K w aM (gTxt g) (some (.int g.most))) (gBl : mg "BLOCKS" = some (.ref aB)) (hB : ∀ H, SqT K H aB [.str "if", .str "while", .str "repeat"]) (gDp : ∃ t, mg "DEEPEST" = some (.int 6 t)) : FnR P w K mg base CX0 2 f (spRCan K CF CR) := by
  refine fnR_of F b scRCan (fun vs H Q E h => ?_) (fun cdv A outer s H vs Q E hr h => ?_)
  · obtain ⟨_, _, _, _, _, _, rfl, _⟩ := h
    rfl
  · have sc := scRCan
    obtain ⟨x, p, q', fs, bs, k, rfl, hR, q⟩ := h
    obtain ⟨_, gDp⟩ := gDp
    refine ⟨_, (pss_cons (ps_if (pt_cmpR op_in_k (pv 1) (pe_glob (v := .ref aD) rfl gDe rfl) rfl) (pss_cons (ps_set (i := 2) sc.nd rfl (Or.inl rfl) (pe_ix ix_k (pe_glob (v := .ref aD) rfl gDe rfl) (pv 1) (fun _ _ => rfl))) (pss_one (ps_ret (pe_andT (pe_notT (pe_fld (pv 0) rfl)) (pe_one (pe_cmpR op_lt (pe_callB call_len_seq (by rfl) B.len PySem.boot_len (pa_cons (pe_f cDn hr (by omega) rfl (pa_cons (pe_fld (pv 0) rfl) (pa_cons (pv 2) pa_nil))) pa_nil)) (pe_ix ix_k (pe_glob (v := .ref aM) rfl gMst rfl) (pv 2) (fun _ _ => rfl)) (nomark _))))))) pss_nil) (pss_cons (ps_if (pt_cmpR op_in_seq (pv 1) (pe_glob (v := .ref aB) rfl gBl rfl) rfl) (pss_one (ps_ret (pe_cmpR op_lt (pe_callB call_len_seq (by rfl) B.len PySem.boot_len (pa_cons (pe_fld (pv 0) rfl) pa_nil)) (pe_glob (v := .int 6) rfl gDp ⟨_, rfl⟩) (nomark _)))) pss_nil) (pss_cons (ps_if (pt_cmpR op_eq (pv 1) pe_str (nomark _)) (pss_one (ps_ret (pe_cmpR (op_eqD hr.units) (pe_slice sl_list (pe_fld (pv 0) rfl) (po_some (pe_un un_neg pe_int)) po_none) (pe_lst (pa_cons pe_str pa_nil)) (nomark _)))) pss_nil) (pss_cons (ps_if (pt_cmpR op_eq (pv 1) pe_str (nomark _)) (pss_one (ps_ret (pe_cmpR op_gt (pe_callB call_len_seq (by rfl) B.len PySem.boot_len (pa_cons (pe_fld (pv 0) rfl) pa_nil)) pe_int (nomark _)))) pss_nil) (pss_one (ps_ret pe_bl)))))), ?_⟩
    have hfm := hR.fms
    obtain ⟨dx, us, h1, h2, h3, h4, h5, h6, h7, h8⟩ := hR
    have hK := hD k
    refine ⟨_, rfl, _, aD, _, rfl, rfl, hK, _, rfl, ?_⟩
    cases hg : k.group with
    | some g =>
      rw [hg] at hK
      refine ifT rfl ⟨_, rfl, pkTxt k, aD, _, rfl, rfl, hK, ?_⟩
      have hcs : Mi.canStand bs fs k = (decide (bs = []) && decide ((Mi.grp fs g).length < g.most)) := by unfold Mi.canStand; rw [hg]
      refine ⟨_, rfl, x, CR, dx, _, _, rfl, h1, RC.cl, RC.nB, rfl, _, .inl ⟨_, SqL.of h7, rfl⟩, _, rfl, ?_⟩
      cases bs with
      | nil =>
        refine iteT ?_
        refine ⟨_, rfl, x, CR, dx, _, _, rfl, h1, RC.cl, RC.nF, rfl, _, rfl, p, g, fs, rfl, hfm, fun t H1 nt s1 ht => ⟨t, _, rfl, .inr (SqT.of ht), ?_⟩⟩
        refine ⟨_, rfl, gTxt g, aM, _, rfl, rfl, hM g, _, _, rfl, rfl, ?_⟩
        have := q _ s1
        rw [hcs] at this
        show Q (.bl (decide ((((Mi.grp fs g).map fun f => V.str f.nm).length : Int) < ((g.most : Nat) : Int)))) H1
        rw [List.length_map, show decide ((((Mi.grp fs g).length : Nat) : Int) < ((g.most : Nat) : Int)) = (decide (([] : List Mi.Bk) = []) && decide ((Mi.grp fs g).length < g.most)) from by simp]
        exact this
      | cons c r =>
        refine iteF ?_
        have := q _ (Same.refl H)
        rw [hcs] at this
        exact this
    | none =>
      refine ifF rfl ?_
      have i1 : inV (.str (pkTxt k)) [.str "if", .str "while", .str "repeat"] = decide (k = .ifk ∨ k = .whilek ∨ k = .repeatk) := by cases k <;> decide +kernel
      refine ⟨_, rfl, aB, _, rfl, .inr (hB _), rfl, rfl, _, rfl, ?_⟩
      show if inV (.str (pkTxt k)) [.str "if", .str "while", .str "repeat"] = true then _ else _
      rw [i1]
      by_cases c1 : k = .ifk ∨ k = .whilek ∨ k = .repeatk
      · rw [decide_eq_true c1]
        refine iteT ?_
        have hcs : Mi.canStand bs fs k = decide (bs.length < 6) := by rcases c1 with rfl | rfl | rfl <;> rfl
        refine ⟨_, rfl, x, CR, dx, _, _, rfl, h1, RC.cl, RC.nB, rfl, _, _, rfl, .inl (SqL.of h7), _, _, rfl, rfl, ?_⟩
        have := q _ (Same.refl H)
        rw [hcs] at this
        show Q (.bl (decide (((bs.map fun b => V.str (bkTxt b)).length : Int) < 6))) H
        rw [List.length_map, show decide ((bs.length : Int) < 6) = decide (bs.length < 6) from by rw [decide_eq_decide]; omega]
        exact this
      · rw [decide_eq_false c1]
        refine iteF (t_eqS rfl ?_)
        by_cases c2 : k = .elsek
        · subst c2
          refine ifT (by decide +kernel) ?_
          have eC : cutV (bs.map fun b => V.str (bkTxt b)) (some (-1)) none = ((bs.drop (bs.length - 1)).map bkTxt).map V.str := by
            rw [cut_last, List.length_map, ← List.map_drop, List.map_map]
            rfl
          refine ⟨_, rfl, x, CR, dx, _, _, rfl, h1, RC.cl, RC.nB, rfl, 1, rfl, _, rfl, q', _, rfl, SqL.of h7, fun c nc => ⟨(by show 1 ≤ 2 ^ 24; decide), fun d nd => ?_⟩⟩
          have s1 : Same H (upd H c (.lst (cutV (bs.map fun b => V.str (bkTxt b)) (some (-1)) none))) := Same.new nc
          have s2 : Same (upd H c (.lst (cutV (bs.map fun b => V.str (bkTxt b)) (some (-1)) none))) (upd (upd H c (.lst (cutV (bs.map fun b => V.str (bkTxt b)) (some (-1)) none))) d (.lst [.str "if"])) := Same.new nd
          have ec := s2 _ _ (upd_same (H := H) (a := c) (o := .lst (cutV (bs.map fun b => V.str (bkTxt b)) (some (-1)) none)))
          have ec2 := ec.trans (congrArg (fun z => some (HO.lst z)) eC)
          refine ⟨_, _, dp_strL (SqL.of ec2), dp_strL (l := [("if" : Str)]) (SqL.of upd_same), shaped_strs _ (fun z hz => ?_), shaped_strs _ (fun z hz => ?_), ?_⟩
          · obtain ⟨b, _, rfl⟩ := List.mem_map.mp hz
            cases b <;> decide +kernel
          · rw [List.mem_singleton.mp hz]
            decide +kernel
          · rw [eqv_strs, last_if]
            exact q _ (s1.trans s2)
        · refine ifF (decide_eq_false (fun z => c2 (pk_inj (b := .elsek) z))) (t_eqS rfl ?_)
          by_cases c3 : k = .endk
          · subst c3
            refine ifT (by decide +kernel) ?_
            refine ⟨_, rfl, x, CR, dx, _, _, rfl, h1, RC.cl, RC.nB, rfl, _, _, rfl, .inl (SqL.of h7), _, _, rfl, rfl, ?_⟩
            have hcs : Mi.canStand bs fs .endk = decide (0 < bs.length) := rfl
            have := q _ (Same.refl H)
            rw [hcs] at this
            show Q (.bl (decide ((0 : Int) < ((bs.map fun b => V.str (bkTxt b)).length : Int)))) H
            rw [List.length_map, show decide ((0 : Int) < (bs.length : Int)) = decide (0 < bs.length) from by rw [decide_eq_decide]; omega]
            exact this
          · refine ifF (decide_eq_false (fun z => c3 (pk_inj (b := .endk) z))) ?_
            have hcs : Mi.canStand bs fs k = true := by
              cases k <;> first | rfl | (cases hg; done) | exact absurd (.inl rfl) c1 | exact absurd (.inr (.inl rfl)) c1 | exact absurd (.inr (.inr rfl)) c1 | exact absurd rfl c2 | exact absurd rfl c3
            have := q _ (Same.refl H)
            rw [hcs] at this
            exact this
theorem set_last {α : Type} {xs : List α} {n : Nat} {v : α} (h : xs.length = n) : xs.set (n - 1) v = xs.dropLast ++ (if n = 0 then [] else [v]) := by
  subst h
  cases hx : xs with
  | nil => rfl
  | cons a r =>
    rw [← hx]
    have hn : xs ≠ [] := by rw [hx]; simp
    have hl : 0 < xs.length := List.length_pos_iff.mpr hn
    have e := List.dropLast_concat_getLast hn
    conv => lhs; rw [← e]
    rw [List.set_append_right _ _ (by rw [List.length_dropLast]; simp)]
    rw [if_neg (by omega)]
    congr 1
    simp
theorem ok_rchg {CF CR aB : Addr} (F : L2.Fun K "_change_blocks" "Reading._change_blocks" sRChg f fd) (b : Binds K fd PRChg []) (RC : RdC K CR) (gBl : mg "BLOCKS" = some (.ref aB)) (hB : ∀ H, SqT K H aB [.str "if", .str "while", .str "repeat"]) : FnR P w K mg base CX0 1 f (spRChg K CF CR) := by
  refine fnR_of F b scRChg (fun vs H Q E h => ?_) (fun cdv A outer s H vs Q E hr h => ?_)
  · obtain ⟨_, _, _, _, _, _, rfl, _⟩ := h
    rfl
  · have sc := scRChg
    obtain ⟨x, p, q', fs, bs, k, rfl, hR, hne, q⟩ := h
    refine ⟨_, (pss_one (ps_if (pt_cmpR op_in_seq (pv 1) (pe_glob (v := .ref aB) rfl gBl rfl) rfl) (pss_one (ps_expr (pe_bm PySem.F.plainAttrs_list PySem.F.slot_list_append PySem.F.type_list_append mt_append (pe_fld (pv 0) rfl) (pa_cons (pv 1) pa_nil)))) (pss_one (ps_if (pt_cmpR op_eq (pv 1) pe_str (nomark _)) (pss_one (ps_asg pe_str (pg_sub (pe_fld (pv 0) rfl) (pe_un un_neg pe_int) set_list))) (pss_one (ps_if (pt_cmpR op_eq (pv 1) pe_str (nomark _)) (pss_one (ps_expr (pe_bm0 PySem.F.plainAttrs_list PySem.F.slot_list_pop PySem.F.type_list_pop mt_pop (pe_fld (pv 0) rfl)))) pss_nil)))))), ?_⟩
    obtain ⟨dx, us, h1, h2, h3, h4, h5, h6, h7, h8⟩ := hR
    have i1 : inV (.str (pkTxt k)) [.str "if", .str "while", .str "repeat"] = decide (k = .ifk ∨ k = .whilek ∨ k = .repeatk) := by cases k <;> decide +kernel
    refine ⟨_, rfl, aB, _, rfl, .inr (hB _), rfl, rfl, _, rfl, ?_⟩
    show if inV (.str (pkTxt k)) [.str "if", .str "while", .str "repeat"] = true then _ else _
    rw [i1]
    by_cases c1 : k = .ifk ∨ k = .whilek ∨ k = .repeatk
    · rw [decide_eq_true c1]
      refine iteT ?_
      refine ⟨_, rfl, x, CR, dx, _, _, rfl, h1, RC.cl, RC.nB, rfl, .inl ⟨rfl, _, SqL.of h7⟩, _, rfl, q', _, _, rfl, rfl, h7, Nat.lt_of_le_of_lt (show _ ≤ 1000 by rw [List.length_map]; exact h8) (by show 1000 < 2 ^ 24; decide), ?_⟩
      refine q _ Ch.upd (upd_same.trans ?_)
      rcases c1 with rfl | rfl | rfl <;> (unfold Mi.change; rw [List.map_append]; rfl)
    · rw [decide_eq_false c1]
      refine iteF (t_eqS rfl ?_)
      by_cases c2 : k = .elsek
      · subst c2
        refine ifT (by decide +kernel) ?_
        have hb := hne (.inl rfl)
        have hl : 0 < bs.length := List.length_pos_iff.mpr hb
        refine ⟨_, rfl, x, CR, dx, _, _, rfl, h1, RC.cl, RC.nB, rfl, 1, rfl, q', _, -1, bs.length - 1, rfl, rfl, h7, ?_, ?_⟩
        · unfold ixN
          rw [List.length_map, if_neg (by decide), if_pos (by omega)]
          congr 1
          omega
        · refine q _ Ch.upd (upd_same.trans ?_)
          unfold Mi.change
          rw [List.map_append, set_last (n := bs.length) (by rw [List.length_map]), if_neg (by omega), List.map_dropLast]
          rfl
      · refine ifF (decide_eq_false (fun z => c2 (pk_inj (b := .elsek) z))) (t_eqS rfl ?_)
        by_cases c3 : k = .endk
        · subst c3
          have hb := hne (.inr rfl)
          have hl : 0 < bs.length := List.length_pos_iff.mpr hb
          obtain ⟨y, ey⟩ : ∃ y, (bs.map fun b => V.str (bkTxt b))[(bs.map fun b => V.str (bkTxt b)).length - 1]? = some y := ⟨_, List.getElem?_eq_getElem (by rw [List.length_map]; omega)⟩
          refine ifT (by decide +kernel) ⟨_, rfl, x, CR, dx, _, _, rfl, h1, RC.cl, RC.nB, rfl, .inl ⟨rfl, _, SqL.of h7⟩, q', _, y, rfl, rfl, h7, ey, ?_⟩
          refine q _ Ch.upd (upd_same.trans ?_)
          unfold Mi.change
          rw [List.map_dropLast]
        · refine ifF (decide_eq_false (fun z => c3 (pk_inj (b := .endk) z))) ?_
          refine q _ Ch.refl (h7.trans ?_)
          have hc : Mi.change bs k = bs := by
            cases k <;> first | rfl | exact absurd (.inl rfl) c1 | exact absurd (.inr (.inl rfl)) c1 | exact absurd (.inr (.inr rfl)) c1 | exact absurd rfl c2 | exact absurd rfl c3
          rw [hc]
theorem ok_rend {CF CR Cb : Addr} (F : L2.Fun K "end" "Reading.end" sREnd f fd) (b : Binds K fd PREnd []) (B : Bi mg) (RC : RdC K CR) (eB : ErrOk P w K mg base "BadProgram" Cb) (mL : MetE P w K mg base (L2.CX P w) 3 CR "_check_last_task" (spRLast K CF CR Cb)) (cDn : CalF P w K mg base 1 "declared_names" (spDeclN K CF)) : FnR P w K mg base (L2.CX P w) 4 f (spREnd K CF CR Cb) := by
  refine fnE_of F b scREnd (fun vs H Q E h => ?_) (fun cdv A outer s H vs Q E hr h => ?_)
  · obtain ⟨_, _, _, _, _, rfl, _⟩ := h
    rfl
  · have sc := scREnd
    obtain ⟨x, p, q', fs, bs, rfl, hR, k1, k2⟩ := h
    refine ⟨_, (pss_cons (ps_expr (pe_mtS0 mL hr (by omega) (fun σ => passAt (takes_of rfl rfl rfl rfl) σ) (pv 0))) (pss_one (ps_if (PW.pt (pw_or (pt_truth (pe_fld (pv 0) rfl) (by intro _; rfl)) (pw_or1 (pt_not (pt_truth (pe_f cDn hr (by omega) rfl (pa_cons (pe_fld (pv 0) rfl) (pa_cons pe_str pa_nil))) (by intro _; rfl)))))) (pss_one (ps_raise rfl (takes_of rfl rfl rfl rfl) (pmk_e eB hr (by omega) rfl (pa_cons (pe_callB call_len_seq (by rfl) B.len PySem.boot_len (pa_cons (pe_fld (pv 0) rfl) pa_nil)) pa_nil)))) pss_nil))), ?_⟩
    have hfm := hR.fms
    have hR0 := hR
    obtain ⟨dx, us, h1, h2, h3, h4, h5, h6, h7, h8⟩ := hR
    have hlen := paired_len h4
    refine ⟨_, rfl, x, dx, _, rfl, h1, rfl, x, p, q', fs, bs, rfl, hR0, fun hl => k1 _ (if_pos hl), fun hl H1 s1 => ?_⟩
    have ra : Mi.readAll fs bs [] = if bs ≠ [] ∨ Mi.inTask fs = false then .error fs.length else .ok fs := if_neg (by rw [hl]; simp)
    refine ⟨_, rfl, x, CR, dx, _, _, rfl, s1 _ _ h1, RC.cl, RC.nB, rfl, _, .inl ⟨_, SqL.of (s1 _ _ h7), rfl⟩, ?_⟩
    have bad : bs ≠ [] ∨ Mi.inTask fs = false → ∀ H2, Same H1 H2 → tMkO Cb (spErrL Cb) [] (tCons (tCB (fun xs H_2 Q => ∃ (p : Addr) (ys : List V), xs = [V.ref p] ∧ (SqL K H_2 p ys ∨ SqT K H_2 p ys) ∧ Q (V.int ys.length) H_2) (tCons (tFld K (tVar 0) "_forms") tNil)) tNil) [some (.ref x)] H2 fun cls d H' => E cls d H' := fun hb H2 s2 => by
      refine ⟨_, rfl, x, CR, dx, _, _, rfl, s2 _ _ (s1 _ _ h1), RC.cl, RC.nF, rfl, p, us, rfl, .inl (SqL.of (s2 _ _ (s1 _ _ h3))), raise_line ?_⟩
      rw [← hlen]
      exact (k1 fs.length (by rw [ra, if_pos hb])).same (s1.trans s2)
    cases bs with
    | cons c r => exact iteT (iteT (bad (.inl (by simp)) _ (Same.refl H1)))
    | nil =>
      refine iteF ?_
      refine ⟨_, rfl, x, CR, dx, _, _, rfl, s1 _ _ h1, RC.cl, RC.nF, rfl, p, .task, fs, rfl, (hR0.same s1).fms, fun t H2 nt s2 ht => ?_⟩
      refine ⟨_, .inr (.inl ⟨_, SqT.of ht, rfl⟩), ?_⟩
      by_cases ci : Mi.grp fs .task = []
      · rw [ci]
        exact iteT (bad (.inr (by unfold Mi.inTask; rw [ci]; simp)) _ s2)
      · have e : ((Mi.grp fs .task).map fun f => V.str f.nm).isEmpty = false := by
          cases hg : Mi.grp fs .task with
          | nil => exact absurd hg ci
          | cons a r => rfl
        rw [e]
        refine iteF ?_
        refine k2 fs ?_ _ (s1.trans s2)
        rw [ra, if_neg]
        rintro (z | z)
        · exact z rfl
        · unfold Mi.inTask at z
          exact absurd ci (of_decide_eq_false z)
end
end Ws

namespace Ws
open PySem PySem.Spec PyProof.Rows L2
noncomputable abbrev sRAdd : Stmt := (inClass (PySem.Challenge.pw_whatspeed_k17_what_a_program_tells.main.body.getD 49 (.Pass ⟨0, 0, 0, 0⟩)) 2)
noncomputable abbrev NRAdd : List Str := ["self", "line", "at", "form"]
noncomputable abbrev PRAdd : List Str := ["self", "line"]
theorem scRAdd : FnScope NRAdd PRAdd (defScope sRAdd) := ⟨rfl, rfl, rfl, by decide +kernel, rfl, by decide +kernel, by decide +kernel⟩
noncomputable abbrev sRFms : Stmt := (PySem.Challenge.pw_whatspeed_k17_what_a_program_tells.main.body.getD 45 (.Pass ⟨0, 0, 0, 0⟩))
noncomputable abbrev NRFms : List Str := ["lines", "reading", "line"]
noncomputable abbrev PRFms : List Str := ["lines"]
theorem scRFms : FnScope NRFms PRFms (defScope sRFms) := ⟨rfl, rfl, rfl, by decide +kernel, rfl, by decide +kernel, by decide +kernel⟩
/-! ### all lines -/
noncomputable def wdsL (x : Str) : List Str := Txt.split x " "
theorem FmAt.chl {K : PySem.W.Frag} {CF : Addr} {H H' : Hp} {p : Addr} {xs : List V} (c : Ch p H H') (e : H p = Option.some (HO.lst xs)) {f : Mi.Fm} {v : V} (h : FmAt K CF H f v) : FmAt K CF H' f v := by
  obtain ⟨a, dx, t, u, vs, e2, h1, h2, h3, h4⟩ := h
  exact ⟨a, dx, t, u, vs, e2, c _ _ (fun z => by rw [z, e] at h1; cases h1) h1, h2, c _ _ (fun z => by rw [z, e] at h3; cases h3) h3, h4.chl c e⟩
theorem change_len {bs : List Mi.Bk} {fs : List Mi.Fm} {k : Mi.PK} (h : Mi.canStand bs fs k = true) (hb : bs.length ≤ 1000) : (Mi.change bs k).length ≤ 1000 := by
  cases k <;> first
    | exact hb
    | (have h2 : bs.length < 6 := of_decide_eq_true h
       show (bs ++ [_]).length ≤ 1000
       rw [List.length_append]
       show bs.length + 1 ≤ 1000
       omega)
    | (show bs.dropLast.length ≤ 1000
       rw [List.length_dropLast]
       omega)
    | (have h2 : bs.getLast? = some .ifk := of_decide_eq_true h
       show (bs.dropLast ++ [_]).length ≤ 1000
       rw [List.length_append, List.length_dropLast]
       show bs.length - 1 + 1 ≤ 1000
       omega)
theorem can_ne {bs : List Mi.Bk} {fs : List Mi.Fm} {k : Mi.PK} (h : Mi.canStand bs fs k = true) : k = .elsek ∨ k = .endk → bs ≠ [] := by
  rintro (rfl | rfl) rfl
  · cases (show (none : Option Mi.Bk) = some .ifk from of_decide_eq_true h)
  · exact absurd (show 0 < 0 from of_decide_eq_true h) (Nat.lt_irrefl 0)
noncomputable def spRAdd (K : PySem.W.Frag) (CF CR Cb : Addr) : Sp := fun vs H Q E => ∃ (x p q : Addr) (fs : List Mi.Fm) (bs : List Mi.Bk) (ln : Str), vs = [.ref x, .str ln] ∧ RdAt K CF CR H x p q fs bs ∧ ln.length + 2 ≤ sizeLine ∧
  (∀ n, Mi.addLine fs bs (wdsL ln) = .error n → RaisesL Cb H (n : Nat) E) ∧ (∀ f bs', Mi.addLine fs bs (wdsL ln) = .ok (f, bs') → ∀ H', (∀ a o, a ≠ p → a ≠ q → H a = some o → H' a = some o) → RdAt K CF CR H' x p q (fs ++ [f]) bs' → Q .non H')
noncomputable def spRFms (K : PySem.W.Frag) (CF Cb : Addr) : Sp := fun vs H Q E => ∃ (l : Addr) (rows : List Str), vs = [.ref l] ∧ Wds K H l rows ∧ (∀ x ∈ rows, x.length + 2 ≤ sizeLine) ∧
  (∀ n, Mi.readAll [] [] (rows.map wdsL) = .error n → RaisesL Cb H (n : Nat) E) ∧ (∀ fs, Mi.readAll [] [] (rows.map wdsL) = .ok fs → ∀ t us H', Same H H' → H' t = some (.tup us) → Paired (FmAt K CF H') fs us → us.length ≤ 1000 → (∀ f ∈ fs, OkFm f) → Q (.ref t) H')
section
variable {P : Program} {w : World} {K : PySem.W.Frag} {mg : Str → Option Value} {base : Heap} {f : Addr} {fd : FuncData}
theorem ok_radd {CF CR Cb : Addr} (F : L2.Fun K "add_line" "Reading.add_line" sRAdd f fd) (b : Binds K fd PRAdd []) (B : Bi mg) (FC : FormC K CF) (RC : RdC K CR) (eB : ErrOk P w K mg base "BadProgram" Cb) (gML : ∃ t, mg "MOST_LINES" = some (.int 80 t)) (cRf : CalF P w K mg base 170 "read_form" (spRdF K CF)) (mT : MetF P w K mg base 2 CR "_table" (spRTab K CF CR)) (mL : MetE P w K mg base (L2.CX P w) 3 CR "_check_last_task" (spRLast K CF CR Cb)) (mCn : MetF P w K mg base 2 CR "_can_stand" (spRCan K CF CR)) (mCh : MetF P w K mg base 1 CR "_change_blocks" (spRChg K CF CR)) : FnR P w K mg base (L2.CX P w) 171 f (spRAdd K CF CR Cb) := by
  refine fnE_of F b scRAdd (fun vs H Q E h => ?_) (fun cdv A outer s H vs Q E hr h => ?_)
  · obtain ⟨_, _, _, _, _, _, rfl, _⟩ := h
    rfl
  · have sc := scRAdd
    obtain ⟨x, p, q', fs, bs, ln, rfl, hR, hz, k1, k2⟩ := h
    obtain ⟨_, gML⟩ := gML
    refine ⟨_, (pss_cons (ps_set (i := 2) sc.nd rfl (Or.inl rfl) (pe_callB call_len_seq (by rfl) B.len PySem.boot_len (pa_cons (pe_fld (pv 0) rfl) pa_nil))) (pss_cons (ps_set (i := 3) sc.nd rfl (Or.inl rfl) (pe_f cRf hr (by omega) rfl (pa_cons (pe_split (pv 1) pe_str) (pa_cons (pe_mt0 mT hr (by omega) (pv 0)) pa_nil)))) (pss_cons (ps_if (pt_cmpR op_isN (pv 3) pe_non (nomark _)) (pss_one (ps_raise rfl (takes_of rfl rfl rfl rfl) (pmk_e eB hr (by omega) rfl (pa_cons (pv 2) pa_nil)))) pss_nil) (pss_cons (ps_if (pt_cmpR op_in_seq (pe_fld (pv 3) rfl) (pe_tup (pa_cons pe_str (pa_cons pe_str pa_nil))) rfl) (pss_one (ps_expr (pe_mtS0 mL hr (by omega) (fun σ => passAt (takes_of rfl rfl rfl rfl) σ) (pv 0)))) pss_nil) (pss_cons (ps_if (PW.pt (pw_or (pt_cmpR op_ge (pv 2) (pe_glob (v := .int 80) rfl gML ⟨_, rfl⟩) (nomark _)) (pw_or1 (pt_not (pt_val (pe_mt mCn hr (by omega) (pv 0) (pa_cons (pe_fld (pv 3) rfl) pa_nil))))))) (pss_one (ps_raise rfl (takes_of rfl rfl rfl rfl) (pmk_e eB hr (by omega) rfl (pa_cons (pv 2) pa_nil)))) pss_nil) (pss_cons (ps_expr (pe_mt mCh hr (by omega) (pv 0) (pa_cons (pe_fld (pv 3) rfl) pa_nil))) (pss_one (ps_expr (pe_bm PySem.F.plainAttrs_list PySem.F.slot_list_append PySem.F.type_list_append mt_append (pe_fld (pv 0) rfl) (pa_cons (pv 3) pa_nil)))))))))), ?_⟩
    have hR0 := hR
    obtain ⟨dx, us, h1, h2, h3, h4, h5, h6, h7, h8⟩ := hR
    have hlen := paired_len h4
    refine ⟨_, rfl, x, CR, dx, _, _, rfl, h1, RC.cl, RC.nF, rfl, p, us, rfl, .inl (SqL.of h3), ?_⟩
    refine ⟨_, rfl, ⟨ln, rfl⟩, ln, _, rfl, rfl, by decide +kernel, hz, fun u nu => ?_⟩
    have s1 : Same H (upd H u (.lst ((Txt.split ln " ").map V.str))) := Same.new nu
    refine ⟨_, rfl, x, dx, _, rfl, s1 _ _ h1, rfl, x, p, q', fs, bs, rfl, hR0.same s1, fun t ts H2 s2 hts hps => ?_⟩
    refine ⟨u, t, wdsL ln, _, ts, rfl, SqL.of (s2 _ _ upd_same), hts, hps, fun r hr => (rows_ok _ r hr).2.1, fun z hz2 => ?_, fun v H3 s3 o3 => ?_⟩
    · have := split_len ln " " z hz2
      omega
    have S3 : Same H H3 := (s1.trans s2).trans s3
    refine ⟨_, rfl, rfl, _, rfl, ?_⟩
    cases hrf : Mi.readForm (wdsL ln) (Mi.pl fs.length (Mi.inTask fs)).rows with
    | none =>
      rw [hrf] at o3
      refine ifT (decide_eq_true o3) ⟨_, rfl, raise_line ?_⟩
      have kk := (k1 fs.length (by unfold Mi.addLine; rw [hrf])).same S3
      rw [hlen] at kk
      exact kk
    | some fm =>
    rw [hrf] at o3
    obtain ⟨a, dxx, sA, uA, vs, rfl, g1, g2, g3, g4⟩ := o3
    refine ifF rfl ?_
    refine ⟨_, rfl, a, CF, dxx, _, _, rfl, g1, FC.cl, FC.nK, rfl, (by show 2 ≤ sizeLine; decide), fun T nT => ⟨T, _, rfl, .inr (SqT.of upd_same), rfl, rfl, _, rfl, ?_⟩⟩
    have S4 : Same H (upd H3 T (.tup [.str "task", .str "later"])) := S3.trans (Same.new nT)
    have hin : inV (.str (pkTxt fm.kind)) [.str "task", .str "later"] = decide (fm.kind.group = some .task) := by
      cases fm.kind <;> decide +kernel
    show if inV (.str (pkTxt fm.kind)) [.str "task", .str "later"] = true then _ else _
    rw [hin]
    by_cases ct : fm.kind.group = some .task
    · rw [decide_eq_true ct]
      refine iteT ⟨_, rfl, x, dx, _, rfl, S4 _ _ h1, rfl, x, p, q', fs, bs, rfl, hR0.same S4, fun hlt => ?_, fun hlt H5 s5 => ?_⟩
      · exact (k1 (fs.length - 1) (by unfold Mi.addLine; rw [hrf]; exact if_pos ⟨ct, hlt⟩)).same S4
      have hno : ¬ (fm.kind.group = some .task ∧ Mi.lastTask fs = true) := fun z => by rw [hlt] at z; cases z.2
      have S5 : Same H H5 := S4.trans s5
      have s35 : Same H3 H5 := (Same.new nT).trans s5
      have hal2 : Mi.addLine fs bs (wdsL ln) = if 80 ≤ fs.length ∨ Mi.canStand bs fs fm.kind = false then .error fs.length else .ok (fm, Mi.change bs fm.kind) := by
        unfold Mi.addLine
        rw [hrf]
        exact if_neg hno
      refine ⟨_, rfl, _, _, rfl, rfl, _, rfl, ?_⟩
      show if decide ((80 : Int) ≤ (us.length : Int)) = true then _ else _
      by_cases c80 : 80 ≤ fs.length
      · rw [decide_eq_true (show (80 : Int) ≤ (us.length : Int) by omega)]
        refine iteT (iteT ⟨_, rfl, raise_line ?_⟩)
        have kk := (k1 fs.length (by rw [hal2, if_pos (.inl c80)])).same S5
        rw [hlen] at kk
        exact kk
      · rw [decide_eq_false (show ¬ (80 : Int) ≤ (us.length : Int) by omega)]
        refine iteF ⟨_, rfl, x, dx, _, rfl, S5 _ _ h1, rfl, _, rfl, a, CF, dxx, _, _, rfl, s35 _ _ g1, FC.cl, FC.nK, rfl, x, p, q', fs, bs, fm.kind, rfl, hR0.same S5, fun H6 s6 => ⟨_, rfl, ?_⟩⟩
        have S6 := S5.trans s6
        cases hcs : Mi.canStand bs fs fm.kind with
        | false =>
          refine iteT ⟨_, rfl, raise_line ?_⟩
          have kk := (k1 fs.length (by rw [hal2, if_pos (.inr hcs)])).same S6
          rw [hlen] at kk
          exact kk
        | true =>
          refine iteF ⟨_, rfl, x, dx, _, rfl, S6 _ _ h1, rfl, _, rfl, a, CF, dxx, _, _, rfl, (s35.trans s6) _ _ g1, FC.cl, FC.nK, rfl, x, p, q', fs, bs, fm.kind, rfl, hR0.same S6, can_ne hcs, fun H7 c7 e7 => ?_⟩
          have xq : x ≠ q' := fun z => by rw [z, h7] at h1; cases h1
          have xp : x ≠ p := fun z => by rw [z, h3] at h1; cases h1
          have x7 := c7 _ _ xq (S6 _ _ h1)
          have p7 := c7 _ _ h2 (S6 _ _ h3)
          refine ⟨_, rfl, x, CR, dx, _, _, rfl, x7, RC.cl, RC.nF, rfl, .inl ⟨rfl, _, SqL.of p7⟩, _, rfl, p, us, _, rfl, rfl, p7, Nat.lt_of_le_of_lt h5 (by show 1000 < 2 ^ 24; decide), ?_⟩
          have cp : Ch p H7 (upd H7 p (.lst (us ++ [.ref a]))) := Ch.upd
          have fa : FmAt K CF H3 fm (.ref a) := ⟨a, dxx, sA, uA, vs, rfl, g1, g2, g3, g4⟩
          refine k2 fm _ (by rw [hal2, if_neg (fun z => z.elim c80 (fun z => by rw [hcs] at z; cases z))]) _ (fun b o n1 n2 e => cp _ _ n1 (c7 _ _ n2 (S6 _ _ e))) ⟨dx, us ++ [.ref a], cp _ _ xp x7, h2, upd_same, paired_snoc (((fa.same (s35.trans s6)).chl c7 (S6 _ _ h7)).chl cp p7) (paired_imp (fun _ _ z => ((FmAt.same S6 z).chl c7 (S6 _ _ h7)).chl cp p7) h4), ?_, ?_, cp _ _ (Ne.symm h2) e7, change_len hcs h8⟩
          · rw [List.length_append]
            show us.length + 1 ≤ 1000
            omega
          · intro f hf
            rcases List.mem_append.mp hf with hf | hf
            · exact h6 f hf
            · rw [List.mem_singleton.mp hf]
              exact okFm_of (rows_ok _) hrf
    · rw [decide_eq_false ct]
      refine iteF ?_
      have hno : ¬ (fm.kind.group = some .task ∧ Mi.lastTask fs = true) := fun z => ct z.1
      obtain ⟨H5, hH5⟩ : ∃ H5, H5 = upd H3 T (.tup [.str "task", .str "later"]) := ⟨_, rfl⟩
      have s5 : Same (upd H3 T (.tup [.str "task", .str "later"])) H5 := by rw [hH5]; exact Same.refl _
      rw [← hH5]
      have S5 : Same H H5 := S4.trans s5
      have s35 : Same H3 H5 := (Same.new nT).trans s5
      have hal2 : Mi.addLine fs bs (wdsL ln) = if 80 ≤ fs.length ∨ Mi.canStand bs fs fm.kind = false then .error fs.length else .ok (fm, Mi.change bs fm.kind) := by
        unfold Mi.addLine
        rw [hrf]
        exact if_neg hno
      refine ⟨_, rfl, _, _, rfl, rfl, _, rfl, ?_⟩
      show if decide ((80 : Int) ≤ (us.length : Int)) = true then _ else _
      by_cases c80 : 80 ≤ fs.length
      · rw [decide_eq_true (show (80 : Int) ≤ (us.length : Int) by omega)]
        refine iteT (iteT ⟨_, rfl, raise_line ?_⟩)
        have kk := (k1 fs.length (by rw [hal2, if_pos (.inl c80)])).same S5
        rw [hlen] at kk
        exact kk
      · rw [decide_eq_false (show ¬ (80 : Int) ≤ (us.length : Int) by omega)]
        refine iteF ⟨_, rfl, x, dx, _, rfl, S5 _ _ h1, rfl, _, rfl, a, CF, dxx, _, _, rfl, s35 _ _ g1, FC.cl, FC.nK, rfl, x, p, q', fs, bs, fm.kind, rfl, hR0.same S5, fun H6 s6 => ⟨_, rfl, ?_⟩⟩
        have S6 := S5.trans s6
        cases hcs : Mi.canStand bs fs fm.kind with
        | false =>
          refine iteT ⟨_, rfl, raise_line ?_⟩
          have kk := (k1 fs.length (by rw [hal2, if_pos (.inr hcs)])).same S6
          rw [hlen] at kk
          exact kk
        | true =>
          refine iteF ⟨_, rfl, x, dx, _, rfl, S6 _ _ h1, rfl, _, rfl, a, CF, dxx, _, _, rfl, (s35.trans s6) _ _ g1, FC.cl, FC.nK, rfl, x, p, q', fs, bs, fm.kind, rfl, hR0.same S6, can_ne hcs, fun H7 c7 e7 => ?_⟩
          have xq : x ≠ q' := fun z => by rw [z, h7] at h1; cases h1
          have xp : x ≠ p := fun z => by rw [z, h3] at h1; cases h1
          have x7 := c7 _ _ xq (S6 _ _ h1)
          have p7 := c7 _ _ h2 (S6 _ _ h3)
          refine ⟨_, rfl, x, CR, dx, _, _, rfl, x7, RC.cl, RC.nF, rfl, .inl ⟨rfl, _, SqL.of p7⟩, _, rfl, p, us, _, rfl, rfl, p7, Nat.lt_of_le_of_lt h5 (by show 1000 < 2 ^ 24; decide), ?_⟩
          have cp : Ch p H7 (upd H7 p (.lst (us ++ [.ref a]))) := Ch.upd
          have fa : FmAt K CF H3 fm (.ref a) := ⟨a, dxx, sA, uA, vs, rfl, g1, g2, g3, g4⟩
          refine k2 fm _ (by rw [hal2, if_neg (fun z => z.elim c80 (fun z => by rw [hcs] at z; cases z))]) _ (fun b o n1 n2 e => cp _ _ n1 (c7 _ _ n2 (S6 _ _ e))) ⟨dx, us ++ [.ref a], cp _ _ xp x7, h2, upd_same, paired_snoc (((fa.same (s35.trans s6)).chl c7 (S6 _ _ h7)).chl cp p7) (paired_imp (fun _ _ z => ((FmAt.same S6 z).chl c7 (S6 _ _ h7)).chl cp p7) h4), ?_, ?_, cp _ _ (Ne.symm h2) e7, change_len hcs h8⟩
          · rw [List.length_append]
            show us.length + 1 ≤ 1000
            omega
          · intro f hf
            rcases List.mem_append.mp hf with hf | hf
            · exact h6 f hf
            · rw [List.mem_singleton.mp hf]
              exact okFm_of (rows_ok _) hrf
theorem ok_rfms {CF CR Cb : Addr} (F : L2.Fun K "read_forms" "read_forms" sRFms f fd) (b : Binds K fd PRFms []) (mR : MakF P w K mg base 1 "Reading" CR (spRInit CR)) (mA : MetE P w K mg base (L2.CX P w) 171 CR "add_line" (spRAdd K CF CR Cb)) (mE : MetE P w K mg base (L2.CX P w) 4 CR "end" (spREnd K CF CR Cb)) (mF : MetF P w K mg base 1 CR "forms" (spRForms K CF CR)) : FnR P w K mg base (L2.CX P w) 172 f (spRFms K CF Cb) := by
  refine fnE_of F b scRFms (fun vs H Q E h => ?_) (fun cdv A outer s H vs Q E hr h => ?_)
  · obtain ⟨_, _, rfl, _⟩ := h
    rfl
  · have sc := scRFms
    obtain ⟨l, rows, rfl, hl, hz, k1, k2⟩ := h
    refine ⟨_, (pss_cons (ps_set (i := 1) sc.nd rfl (Or.inl rfl) (pe_mk0 mR hr (by omega) rfl)) (pss_cons (ps_for (passes_of rfl) rfl (pi_list (pv 0)) (pg_name (i := 2) sc.nd rfl (Or.inl rfl)) (pss_one (ps_expr (pe_mtS mA hr (by omega) (fun σ => passAt (takes_of rfl rfl rfl rfl) σ) (pv 1) (pa_cons (pv 2) pa_nil))))) (pss_cons (ps_expr (pe_mtS0 mE hr (by omega) (fun σ => passAt (takes_of rfl rfl rfl rfl) σ) (pv 1))) (pss_one (ps_ret (pe_mt0 mF hr (by omega) (pv 1))))))), ?_⟩
    refine fun x dx nx nd hne => ⟨x, dx, rfl, upd_same, fun p q' H1 np nq ch npq e1 e2 e3 => ⟨rfl, ?_⟩⟩
    have np1 : p ≠ x := fun z => by rw [z, upd_same] at np; cases np
    have nq1 : q' ≠ x := fun z => by rw [z, upd_same] at nq; cases nq
    have np0 : H p = none := by
      rw [upd_ne np1] at np
      by_cases z : p = dx
      · rw [z]; exact nd
      · rw [upd_ne z] at np; exact np
    have nq0 : H q' = none := by
      rw [upd_ne nq1] at nq
      by_cases z : q' = dx
      · rw [z]; exact nd
      · rw [upd_ne z] at nq; exact nq
    have s1 : Same H H1 := fun b o e => ch _ _ (ne_of_none e nx) (by rw [upd_ne (ne_of_none e nx), upd_ne (ne_of_none e nd)]; exact e)
    refine ⟨_, rfl, l, rfl, ⟨_, Wds.same hl s1⟩, ?_⟩
    refine for_list (xs := rows.map V.str) (fun i σ G => ∃ o, σ = [some (.ref l), some (.ref x), o] ∧ Same H G ∧ ∃ fs bs, RdAt K CF CR G x p q' fs bs ∧ Mi.readAll [] [] (rows.map wdsL) = Mi.readAll fs bs ((rows.map wdsL).drop i)) ?_ (fun i σ G _ h => ?_) ?_ ?_
    · exact ⟨_, rfl, s1, [], [], ⟨dx, [], e1, npq, e2, .nil, Nat.zero_le _, (fun f hf => by cases hf), e3, Nat.zero_le _⟩, rfl⟩
    · obtain ⟨_, _, sG, _⟩ := h
      exact Wds.same hl sG
    · rintro i z σ G hz2 ⟨o, rfl, sG, fs, bs, hR, he⟩
      rw [List.getElem?_map] at hz2
      obtain ⟨ln, hln, rfl⟩ := Option.map_eq_some_iff.mp hz2
      have dr : (rows.map wdsL).drop i = wdsL ln :: (rows.map wdsL).drop (i + 1) := by
        have e : (rows.map wdsL)[i]? = some (wdsL ln) := by rw [List.getElem?_map, hln]; rfl
        obtain ⟨hlt, e⟩ := List.getElem?_eq_some_iff.mp e
        rw [List.drop_eq_getElem_cons hlt, e]
      rw [dr] at he
      have hR0 := hR
      obtain ⟨dx1, us, h1, h2, h3, h4, h5, h6, h7, h8⟩ := hR
      refine ⟨_, rfl, x, dx1, _, rfl, h1, rfl, _, rfl, x, p, q', fs, bs, ln, rfl, hR0, hz ln (List.mem_of_getElem? hln), fun n hn => ?_, fun fm bs' hok H2 keep hR2 => ?_⟩
      · refine (k1 n ?_).same sG
        rw [he]
        unfold Mi.readAll
        rw [hn]
      · refine ⟨_, rfl, fun b o e => keep _ _ (ne_of_none e np0) (ne_of_none e nq0) (sG _ _ e), _, _, hR2, ?_⟩
        rw [he]
        conv => lhs; unfold Mi.readAll
        rw [hok]
    · rintro σ G ⟨o, rfl, sG, fs, bs, hR, he⟩
      have e0 : (rows.map wdsL).drop (rows.map V.str).length = [] := List.drop_eq_nil_of_le (by rw [List.length_map, List.length_map]; exact Nat.le_refl _)
      rw [e0] at he
      have hR0 := hR
      obtain ⟨dx1, us, h1, h2, h3, h4, h5, h6, h7, h8⟩ := hR
      refine ⟨_, rfl, x, dx1, _, rfl, h1, rfl, x, p, q', fs, bs, rfl, hR0, fun n hn => (k1 n (he.trans hn)).same sG, fun gs hg H2 s2 => ?_⟩
      have hgs : gs = fs := by
        unfold Mi.readAll at hg
        split at hg
        · cases hg
        · split at hg
          · cases hg
          · cases hg; rfl
      subst hgs
      exact ⟨_, rfl, x, dx1, _, rfl, s2 _ _ h1, rfl, x, p, q', _, bs, rfl, hR0.same s2, fun t us2 H3 nt s3 ht hp2 hu2 => k2 _ (he.trans hg) t us2 H3 ((sG.trans s2).trans s3) ht hp2 hu2 h6⟩
end
end Ws

/-! a name bound to a dict written as a comprehension -/
namespace Ws
open PySem PySem.Spec PyProof.Rows L2
noncomputable abbrev InB (X : Cx) (sc : Scope) (Pr : Cx → Prop) : Prop := ∀ (s : Shared) (G : Hp) (C : Addr) (cl : List (Str × Addr)) (fp : List Addr), Pr (X.blk s G sc (compEnvC sc cl C X.env) fp)
section
variable {X : Cx} {i : Nat} {y : Str} {py : Pos} {kx vx tg it : Expr} {ifs : List Expr} {sc : Scope} {own : List (Str × Nat)} {pos spos : Pos} {wi : TI} {g : TG} {tt : TT} {tk tv : TE}
theorem sw_trueD {gs : List Comprehension} {l : Nat} {env : Env} (h1 : env.scope.kind = .function) (h2 : env.scope.names.lookup y = some .local) (h3 : (py.line == pos.line) = true) (h4 : (sc.names.any fun (n, k) => n == y && (k == .local || k == .cell)) = false) :
    swapsWith (.DictComp kx vx gs sc pos) (some (.Name y py)) l env = pure true := by
  have e1 : env.kindOf y = some .local := h2
  have e2 : env.blockKind = .function := by unfold Env.blockKind; rw [h1]; rfl
  unfold swapsWith; simp only [e2, e1, h4, Expr.pos, h3]; rfl
theorem ps_setDc (hc : X.calm = true) (hN : X.N.Nodup) (hy : X.N[i]? = some y) (hl : X.env.scope.names.lookup y = some .local) (sw : swapsWith (.DictComp kx vx [⟨tg, it, ifs, 0⟩] sc pos) (some (.Name y py)) spos.line X.env = pure true) (hi : PI X tg it wi) (ok : BlkOk X.N X.env.scope sc own)
    (hg : InB X sc fun Y => PG Y tg g) (ht : InB X sc fun Y => PTs Y ifs tt) (hk : InB X sc fun Y => PE Y kx tk) (hv : InB X sc fun Y => PE Y vx tv) (hs : ∀ z, foldedSetIterable it X.env z = pure z := by intro _; rfl) :
    PS X (.Assign [.Name y py] (.DictComp kx vx [⟨tg, it, ifs, 0⟩] sc pos) spos) (tAsg (tDc wi g tt tk tv (own.map (·.2))) (gName i)) := by
  refine ⟨fun pi st σ G Dn J hq => ?_⟩
  rw [exec_Assign_Name_used _ _ _ _ sw]; refine wpAny_bind (wpAny_standAt (wpAny_bind ?_))
  show wpAny _ X.A (do let _ ← comprehension (.DictComp kx vx [⟨tg, it, ifs, 0⟩] sc pos) sc X.env (firstIterPos [⟨tg, it, ifs, 0⟩] pos) newDict false (eval it X.env) (some (assign (.Name y py) X.env))) _ _ st
  have hq : tDc wi g tt tk tv (own.map (·.2)) σ G (fun z G1 => gName i z σ G1 Dn.nx) := hq
  refine wpAny_bind (thn (dc_core (Qf := fun _ z => SP X pi Dn .next z) hc hN J hi ok hg ht hk hv hs hq fun L C z m G2 J2 q hn ff => ?_) fun _ z r => wpAny_pure (wpAny_pure r))
  show wpAny _ _ (assign (.Name y py) X.env (.ref L)) _ _ _
  refine wpAny_assign_Name (store_ok2 (v := V.ref L) J2 hN hy (.inl hl) rfl (fun t2 J3 ⟨a, sb, ha⟩ => ?_) (.inr hl))
  obtain ⟨f0, f1, f2, f3, f4, f5⟩ := ff
  refine ⟨m, hn.sameBut sb (ha.elim (fun r => by rw [r]; exact f1) fun r e => f4 y a r e.symm), fun h3 sb3 => ⟨_, G2, J3.turned (t' := t2.toks) (fun b o hb e => (sb3.2 b hb).trans e) f0 f1 f3 f4 f5, q⟩⟩
end
end Ws

namespace Ws
open PySem PySem.Spec PyProof.Rows L2
noncomputable abbrev sCDbl : Stmt := (PySem.Challenge.pw_whatspeed_k17_what_a_program_tells.main.body.getD 46 (.Pass ⟨0, 0, 0, 0⟩))
noncomputable abbrev NCDbl : List Str := ["forms", "declared", "at", "form"]
noncomputable abbrev PCDbl : List Str := ["forms"]
theorem scCDbl : FnScope NCDbl PCDbl (defScope sCDbl) := ⟨rfl, rfl, rfl, by decide +kernel, rfl, by decide +kernel, by decide +kernel⟩
noncomputable abbrev sCNam : Stmt := (PySem.Challenge.pw_whatspeed_k17_what_a_program_tells.main.body.getD 47 (.Pass ⟨0, 0, 0, 0⟩))
noncomputable abbrev NCNam : List Str := ["forms", "form", "kinds", "at", "slot", "name"]
noncomputable abbrev PCNam : List Str := ["forms"]
theorem scCNam : FnScope NCNam PCNam (defScope sCNam) := ⟨rfl, rfl, rfl, by decide +kernel, rfl, by decide +kernel, by decide +kernel⟩
/-! ### names -/
/-- forms in a tuple -/
noncomputable def FtAt (K : PySem.W.Frag) (CF : Addr) (H : Hp) (l : Addr) (fs : List Mi.Fm) : Prop := ∃ us, SqT K H l us ∧ Paired (FmAt K CF H) fs us ∧ us.length ≤ 1000 ∧ ∀ f ∈ fs, OkFm f
theorem FtAt.same {K : PySem.W.Frag} {CF : Addr} {H H' : Hp} {l : Addr} {fs : List Mi.Fm} (h : FtAt K CF H l fs) (s : Same H H') : FtAt K CF H' l fs := by
  obtain ⟨us, h1, h2, h3, h4⟩ := h
  exact ⟨us, SqT.same h1 s, paired_imp (fun _ _ => FmAt.same s) h2, h3, h4⟩
noncomputable def spCDbl (K : PySem.W.Frag) (CF Cd : Addr) : Sp := fun vs H Q E => ∃ (l : Addr) (fs : List Mi.Fm), vs = [.ref l] ∧ FtAt K CF H l fs ∧ (∀ n, Mi.doubledP 0 [] fs = some n → RaisesL Cd H (n : Nat) E) ∧ (Mi.doubledP 0 [] fs = none → ∀ H', Same H H' → Q .non H')
noncomputable def spCNam (K : PySem.W.Frag) (CF Cu : Addr) : Sp := fun vs H Q E => ∃ (l : Addr) (fs : List Mi.Fm), vs = [.ref l] ∧ FtAt K CF H l fs ∧ (∀ n, Mi.unnamedP (Mi.kindsP fs) 0 fs = some n → RaisesL Cu H (n : Nat) E) ∧ (Mi.unnamedP (Mi.kindsP fs) 0 fs = none → ∀ H', Same H H' → Q .non H')
theorem decl_iff (k : Mi.PK) : (gV k.group).isSome = k.declares := by cases k <;> rfl
theorem nm_at {K : PySem.W.Frag} {CF : Addr} {H : Hp} {f : Mi.Fm} {v : V} (h : FmAt K CF H f v) (ok : OkFm f) (hd : f.kind.declares = true) : ∃ (a dx s u : Addr) (vs : List V), v = .ref a ∧ H a = some (.ins CF dx [("kind", .str (pkTxt f.kind)), ("slots", .ref s), ("found", .ref u)]) ∧ H u = some (.tup vs) ∧ atI vs 1 = some (.str f.nm) := by
  obtain ⟨a, dx, s, u, vs, rfl, h1, h2, h3, h4⟩ := h
  refine ⟨a, dx, s, u, vs, rfl, h1, h3, ?_⟩
  obtain ⟨d, y, rr, e⟩ := ok.two (fun z => by rw [← decl_iff, z] at hd; cases hd)
  have hnm : f.nm = y := by unfold Mi.Fm.nm; rw [e]; rfl
  rw [e] at h4
  cases h4 with
  | cons h5 h6 =>
    cases h6 with
    | cons h7 h8 =>
      cases (show _ = V.str y from h7)
      rw [hnm]
      exact atI_nat (j := 1) rfl
noncomputable def kd (fs : List Mi.Fm) : Str → Option Mi.PK := Mi.look ((fs.filter fun f => f.kind.declares).map fun f => (f.nm, f.kind))
theorem kd_snoc {α : Type} (l : List (Str × α)) (p : Str × α) (x : Str) : Mi.look (l ++ [p]) x = if x = p.1 then some p.2 else Mi.look l x := by
  unfold Mi.look
  rw [List.foldl_append]
  rfl
theorem kd_take {fs : List Mi.Fm} {i : Nat} {f : Mi.Fm} (h : fs[i]? = some f) {x : Str} : kd (fs.take (i + 1)) x = if f.kind.declares = true then (if x = f.nm then some f.kind else kd (fs.take i) x) else kd (fs.take i) x := by
  unfold kd
  rw [List.take_succ, h, List.filter_append]
  cases hd : f.kind.declares with
  | false =>
    have : List.filter (fun f : Mi.Fm => f.kind.declares) (some f).toList = [] := by simp [hd]
    rw [this, List.append_nil]
    rfl
  | true =>
    have : List.filter (fun f : Mi.Fm => f.kind.declares) (some f).toList = [f] := by simp [hd]
    rw [this, List.map_append]
    exact (kd_snoc _ _ _).trans (if_pos rfl).symm
noncomputable def wantOf : Mi.Wn → List (Option Str)
  | .LOCK => [some "lock", some "lent"] | .QUEUE => [some "queue"] | .PART => [some "part"] | .TASK => [some "task", some "later"] | .LATER => [some "later"] | .VARIABLE => [some "cell", none]
theorem want_txt (n : Mi.Wn) : wantL (wnTxt n) = some (wantOf n) := by cases n <;> decide +kernel
theorem want_in {n : Mi.Wn} {o : Option Mi.PK} : inV ((o.map fun k => V.str (pkTxt k)).getD .non) ((wantOf n).map fun o => match o with | some x => V.str x | none => V.non) = Mi.wantedP n o := by
  cases o with
  | none => cases n <;> decide +kernel
  | some k => cases n <;> cases k <;> decide +kernel
section
variable {P : Program} {w : World} {K : PySem.W.Frag} {mg : Str → Option Value} {base : Heap} {f : Addr} {fd : FuncData}
theorem ok_cdbl {CF Cd aD : Addr} (F : L2.Fun K "check_doubled" "check_doubled" sCDbl f fd) (b : Binds K fd PCDbl []) (B : Bi mg) (FC : FormC K CF) (eD : ErrOk P w K mg base "Doubled" Cd) (gEn : mg "enumerate" = none) (gSe : mg "set" = none) (gDe : mg "DECLARES" = some (.ref aD)) (hD : DeclK K w aD) : FnR P w K mg base (L2.CX P w) 3 f (spCDbl K CF Cd) := by
  refine fnE_of F b scCDbl (fun vs H Q E h => ?_) (fun cdv A outer s H vs Q E hr h => ?_)
  · obtain ⟨_, _, rfl, _⟩ := h
    rfl
  · have sc := scCDbl
    obtain ⟨l, fs, rfl, ⟨us, hl, hp, hu, hok⟩, k1, k2⟩ := h
    refine ⟨_, (pss_cons (ps_set (i := 1) sc.nd rfl (Or.inl rfl) (pe_callTy0 cr_set0K (by rfl) gSe (by decide +kernel))) (pss_one (ps_for (passes_of rfl) rfl (pi_enT (by rfl) gEn (pa_cons (pv 0) pa_nil)) (pg_tup rfl (pgs_cons (pg_name (i := 2) sc.nd rfl (Or.inl rfl)) (pgs_cons (pg_name (i := 3) sc.nd rfl (Or.inl rfl)) pgs_nil))) (pss_one (ps_if (pt_cmpR op_in_k (pe_fld (pv 3) rfl) (pe_glob (v := .ref aD) rfl gDe rfl) rfl) (pss_cons (ps_if (pt_cmpR or_sinK (pe_ix ix_tup (pe_fld (pv 3) rfl) pe_int (fun _ _ => rfl)) (pv 1) rfl) (pss_one (ps_raise rfl (takes_of rfl rfl rfl rfl) (pmk_e eD hr (by omega) rfl (pa_cons (pv 2) pa_nil)))) pss_nil) (pss_one (ps_expr (pe_saddK (pv 1) (pa_cons (pe_ix ix_tup (pe_fld (pv 3) rfl) pe_int (fun _ _ => rfl)) pa_nil))))) pss_nil))))), ?_⟩
    refine ⟨rfl, fun N nN => ?_⟩
    have s0 : Same H (upd H N (SetK P w N (fun _ => false) 0)) := Same.new nN
    refine ⟨_, rfl, l, us, rfl, SqT.same hl s0, ?_⟩
    refine for_enT (xs := us) (fun i σ G => Same H G ∧ ∃ (S : Key → Bool) (m : Nat) (ds : List Str) (o1 o2 : Option V), σ = [some (.ref l), some (.ref N), o1, o2] ∧ G N = some (SetK P w N S m) ∧ (∀ x, S (.inr x) = decide (x ∈ ds)) ∧ m ≤ i ∧ Mi.doubledP 0 [] fs = Mi.doubledP i ds (fs.drop i)) ?_ (fun i σ G _ h => SqT.same hl h.1) ?_ ?_
    · exact ⟨s0, _, 0, [], _, _, rfl, upd_same, fun x => rfl, Nat.le_refl _, rfl⟩
    · rintro i u σ G T hu2 ⟨sG, S, m, ds, o1, o2, rfl, hN, hS, hm, he⟩ nT
      have sT : Same G (upd G T (.tup [.int i, u])) := Same.new nT
      have s1 := sG.trans sT
      obtain ⟨fm, hfm, hfu⟩ := paired_get hp i u hu2
      have okf := hok fm (List.mem_of_getElem? hfm)
      have il : i < us.length := (List.getElem?_eq_some_iff.mp hu2).1
      have dr : fs.drop i = fm :: fs.drop (i + 1) := by
        obtain ⟨hlt, e⟩ := List.getElem?_eq_some_iff.mp hfm
        rw [List.drop_eq_getElem_cons hlt, e]
      rw [dr] at he
      have he2 : Mi.doubledP 0 [] fs = if fm.kind.declares = true then (if fm.nm ∈ ds then some i else Mi.doubledP (i + 1) (fm.nm :: ds) (fs.drop (i + 1))) else Mi.doubledP (i + 1) ds (fs.drop (i + 1)) := he
      cases hdc : fm.kind.declares with
      | false =>
        obtain ⟨a, dx, sA, uA, vs, rfl, g1, g2, g3, g4⟩ := hfu
        refine ⟨T, _, rfl, .inl (.inl upd_same), rfl, _, _, rfl, _, _, rfl, rfl, ?_⟩
        refine ⟨_, rfl, a, CF, dx, _, _, rfl, s1 _ _ g1, FC.cl, FC.nK, rfl, _, aD, _, rfl, rfl, hD fm.kind, _, rfl, ?_⟩
        rw [decl_iff, hdc]
        refine ifF rfl ⟨s1, S, m, ds, _, _, rfl, sT _ _ hN, hS, Nat.le_succ_of_le hm, ?_⟩
        rw [he2, hdc]
        rfl
      | true =>
        obtain ⟨a, dx, sA, uA, vs, rfl, g1, g3, hat⟩ := nm_at hfu okf hdc
        rw [hdc, if_pos rfl] at he2
        refine ⟨T, _, rfl, .inl (.inl upd_same), rfl, _, _, rfl, _, _, rfl, rfl, ?_⟩
        refine ⟨_, rfl, a, CF, dx, _, _, rfl, s1 _ _ g1, FC.cl, FC.nK, rfl, _, aD, _, rfl, rfl, hD fm.kind, _, rfl, ?_⟩
        rw [decl_iff, hdc]
        refine ifT rfl ?_
        refine ⟨_, rfl, a, CF, dx, _, _, rfl, s1 _ _ g1, FC.cl, FC.nF, rfl, uA, vs, 1, .str fm.nm, rfl, rfl, SqT.of (s1 _ _ g3), hat, _, rfl, .inr fm.nm, N, S, m, rfl, rfl, sT _ _ hN, _, rfl, ?_⟩
        show if S (.inr fm.nm) = true then _ else _
        rw [hS]
        by_cases hmem : fm.nm ∈ ds
        · rw [if_pos hmem] at he2
          refine ifT (decide_eq_true hmem) ⟨_, rfl, raise_line ?_⟩
          exact (k1 i he2).same s1
        · rw [if_neg hmem] at he2
          refine ifF (decide_eq_false hmem) ?_
          refine ⟨_, rfl, ⟨N, S, m, rfl, sT _ _ hN⟩, _, rfl, a, CF, dx, _, _, rfl, s1 _ _ g1, FC.cl, FC.nF, rfl, uA, vs, 1, .str fm.nm, rfl, rfl, SqT.of (s1 _ _ g3), hat, N, .inr fm.nm, S, m, rfl, rfl, sT _ _ hN, ?_, ?_⟩
          · exact Nat.lt_of_le_of_lt (show m + 1 ≤ 1001 by omega) (by show 1001 < 4096; decide)
          · refine ⟨fun b o e => (upd_ne (ne_of_none e nN)).trans (s1 _ _ e), _, _, fm.nm :: ds, _, _, rfl, upd_same, fun x => ?_, ?_, he2⟩
            · show (S (.inr x) || decide ((Sum.inr x : Key) = .inr fm.nm)) = _
              rw [hS, Bool.eq_iff_iff]
              simp [or_comm]
            · split <;> omega
    · rintro σ G ⟨sG, S, m, ds, o1, o2, rfl, hN, hS, hm, he⟩
      have e0 : fs.drop us.length = [] := by rw [← paired_len hp, List.drop_length]
      rw [e0] at he
      exact k2 he _ sG
theorem ok_cnam {CF Cu aD aW : Addr} (F : L2.Fun K "check_named" "check_named" sCNam f fd) (b : Binds K fd PCNam []) (B : Bi mg) (FC : FormC K CF) (eU : ErrOk P w K mg base "Unnamed" Cu) (gEn : mg "enumerate" = none) (gDe : mg "DECLARES" = some (.ref aD)) (hD : DeclK K w aD) (gWa : mg "WANTED" = some (.ref aW)) (hW : WantK K w aW) (mU : MetF P w K mg base 167 CF "uses" (spUses K CF)) : FnR P w K mg base (L2.CX P w) 168 f (spCNam K CF Cu) := by
  refine fnE_of F b scCNam (fun vs H Q E h => ?_) (fun cdv A outer s H vs Q E hr h => ?_)
  · obtain ⟨_, _, rfl, _⟩ := h
    rfl
  · have sc := scCNam
    obtain ⟨l, fs, rfl, ⟨us, hl, hp, hu, hok⟩, k1, k2⟩ := h
    refine ⟨_, (pss_cons (ps_setDc (i := 2) (own := [("form", 1)]) rfl sc.nd rfl rfl (sw_trueD rfl rfl rfl (by decide +kernel)) (pi_tup (pv 0)) (blkOk_by (N := NCNam) (sc := defScope sCNam) (by decide +kernel)) (fun _ _ _ _ _ => by exact (pg_name (i := 1) sc.nd rfl (Or.inl rfl))) (fun _ _ _ _ _ => by exact (pts_one (pt_cmpR (op_in_kK (K := K) (w := w) rfl rfl) (pe_fldK (K := K) rfl rfl (pv 1)) (pe_glob (v := .ref aD) rfl gDe rfl) rfl))) (fun _ _ _ _ _ => by exact (pe_ix (ix_tupK (K := K) rfl) (pe_fldK (K := K) rfl rfl (pv 1)) pe_int (fun _ _ => rfl))) (fun _ _ _ _ _ => by exact (pe_fldK (K := K) rfl rfl (pv 1)))) (pss_one (ps_for (passes_of rfl) rfl (pi_enT (by rfl) gEn (pa_cons (pv 0) pa_nil)) (pg_tup rfl (pgs_cons (pg_name (i := 3) sc.nd rfl (Or.inl rfl)) (pgs_cons (pg_name (i := 1) sc.nd rfl (Or.inl rfl)) pgs_nil))) (pss_one (ps_for (passes_of rfl) rfl (pi_list (pe_mt0 mU hr (by omega) (pv 1))) (pg_tup rfl (pgs_cons (pg_name (i := 4) sc.nd rfl (Or.inl rfl)) (pgs_cons (pg_name (i := 5) sc.nd rfl (Or.inl rfl)) pgs_nil))) (pss_one (ps_if (pt_cmpR op_notIn_seq (pe_dget1 (hu_of hr) (pv 2) (pv 5) ⟨rfl, rfl, rfl, rfl⟩) (pe_ix ix_k (pe_glob (v := .ref aW) rfl gWa rfl) (pv 4) (fun _ _ => rfl)) rfl) (pss_one (ps_raise rfl (takes_of rfl rfl rfl rfl) (pmk_e eU hr (by omega) rfl (pa_cons (pv 3) pa_nil)))) pss_nil))))))), ?_⟩
    refine ⟨_, rfl, l, rfl, ⟨us, hl⟩, fun D nD => ?_⟩
    refine dc_tup (xs := us) (fun i G => Same H G ∧ ∃ kvs : List (Key × V), G D = some (.dK kvs) ∧ kvs.length ≤ i ∧ ∀ x, valV kvs (.inr x) = (kd (fs.take i) x).map fun k => V.str (pkTxt k)) ?_ (fun i G _ h => SqT.same hl h.1) ?_ ?_
    · exact ⟨Same.new nD, [], upd_same, Nat.le_refl _, fun x => rfl⟩
    · rintro i z G hz ⟨sG, kvs, hD0, hkl, hkv⟩
      obtain ⟨fm, hfm, hfu⟩ := paired_get hp i z hz
      have okf := hok fm (List.mem_of_getElem? hfm)
      have il : i < us.length := (List.getElem?_eq_some_iff.mp hz).1
      cases hdc : fm.kind.declares with
      | false =>
        obtain ⟨a, dx, sA, uA, vs, rfl, g1, g2, g3, g4⟩ := hfu
        refine ⟨rfl, _, rfl, a, CF, dx, _, _, rfl, sG _ _ g1, FC.cl, FC.nK, rfl, _, aD, _, rfl, rfl, hD fm.kind, _, rfl, ?_⟩
        rw [decl_iff, hdc]
        refine ifF rfl ⟨sG, kvs, hD0, Nat.le_succ_of_le hkl, fun x => ?_⟩
        rw [hkv, kd_take hfm, if_neg (by rw [hdc]; simp)]
      | true =>
        obtain ⟨a, dx, sA, uA, vs, rfl, g1, g3, hat⟩ := nm_at hfu okf hdc
        refine ⟨rfl, _, rfl, a, CF, dx, _, _, rfl, sG _ _ g1, FC.cl, FC.nK, rfl, _, aD, _, rfl, rfl, hD fm.kind, _, rfl, ?_⟩
        rw [decl_iff, hdc]
        refine ifT rfl ⟨_, rfl, a, CF, dx, _, _, rfl, sG _ _ g1, FC.cl, FC.nF, rfl, uA, vs, 1, .str fm.nm, rfl, rfl, SqT.of (sG _ _ g3), hat, _, rfl, a, CF, dx, _, _, rfl, sG _ _ g1, FC.cl, FC.nK, rfl, kvs, .inr fm.nm, rfl, hD0, ?_, ?_⟩
        · exact Nat.lt_of_le_of_lt (show kvs.length ≤ 1000 by omega) (by show 1000 < 2 ^ 24; decide)
        · refine ⟨fun b o e => (upd_ne (ne_of_none e nD)).trans (sG _ _ e), _, upd_same, ?_, fun x => ?_⟩
          · have := length_putK kvs (.inr fm.nm) (V.str (pkTxt fm.kind))
            omega
          · rw [valV_put, hkv, kd_take hfm, if_pos hdc]
            by_cases hx : x = fm.nm
            · subst hx; simp
            · rw [if_neg (fun z => hx (Sum.inr.inj z)), if_neg hx]
    · rintro G0 ⟨s0, kvs, hD0, _, hkv⟩
      have hfs : fs.take us.length = fs := by rw [← paired_len hp, List.take_length]
      rw [hfs] at hkv
      have hkv2 : ∀ x, valV kvs (.inr x) = (Mi.kindsP fs x).map fun k => V.str (pkTxt k) := hkv
      generalize Mi.kindsP fs = g at *
      refine ⟨_, rfl, l, us, rfl, SqT.same hl s0, ?_⟩
      refine for_enT (xs := us) (fun i σ G => Same G0 G ∧ (∃ o1 o3 o4 o5 : Option V, σ = [some (.ref l), o1, some (.ref D), o3, o4, o5]) ∧ Mi.unnamedP g 0 fs = Mi.unnamedP g i (fs.drop i)) ⟨Same.refl _, ⟨_, _, _, _, rfl⟩, rfl⟩ (fun i σ G _ h => SqT.same hl (s0.trans h.1)) ?_ ?_
      · rintro i u σ G T hu2 ⟨sG, ⟨o1, o3, o4, o5, rfl⟩, he⟩ nT
        have sT : Same G (upd G T (.tup [.int i, u])) := Same.new nT
        have s1 := (s0.trans sG).trans sT
        obtain ⟨fm, hfm, hfu⟩ := paired_get hp i u hu2
        have okf := hok fm (List.mem_of_getElem? hfm)
        have dr : fs.drop i = fm :: fs.drop (i + 1) := by
          obtain ⟨hlt, e⟩ := List.getElem?_eq_some_iff.mp hfm
          rw [List.drop_eq_getElem_cons hlt, e]
        rw [dr] at he
        have he2 : Mi.unnamedP g 0 fs = if fm.uses.all (fun z => Mi.wantedP z.1 (g z.2)) = true then Mi.unnamedP g (i + 1) (fs.drop (i + 1)) else some i := he
        have hfu2 := FmAt.same s1 hfu
        obtain ⟨a, dx, sA, uA, vs, rfl, g1, g2, g3, g4⟩ := hfu
        refine ⟨T, _, rfl, .inl (.inl upd_same), rfl, _, _, rfl, _, _, rfl, rfl, ?_⟩
        refine ⟨_, rfl, a, dx, _, rfl, s1 _ _ g1, rfl, a, fm, rfl, hfu2, okf.fits, okf.few, fun p us2 H2 np s2 hp2 hP2 => ?_⟩
        refine ⟨p, rfl, ⟨_, SqL.of hp2⟩, ?_⟩
        have s02 := (sG.trans sT).trans s2
        refine for_list (xs := us2) (fun j σ G2 => Same H2 G2 ∧ (∃ o4 o5 : Option V, σ = [some (.ref l), some (.ref a), some (.ref D), some (.int i), o4, o5]) ∧ ∀ z ∈ fm.uses.take j, Mi.wantedP z.1 (g z.2) = true) ⟨Same.refl _, ⟨_, _, rfl⟩, (fun z hz => by simp at hz)⟩ (fun j σ G2 _ h => SqL.of (h.1 _ _ hp2)) ?_ ?_
        · rintro j v σ G2 hv ⟨sG2, ⟨o4, o5, rfl⟩, hall⟩
          obtain ⟨⟨n, nm⟩, hun, b, rfl, hb⟩ := paired_get hP2 j v hv
          refine ⟨b, _, rfl, SqT.of (sG2 _ _ hb), rfl, _, _, rfl, _, _, rfl, rfl, ?_⟩
          have hDD : G2 D = some (.dK kvs) := (s02.trans sG2) _ _ hD0
          obtain ⟨v2, ⟨t, rfl, ht⟩, hk2⟩ := hW.yes (wnTxt n) (wantOf n) (want_txt n)
          refine ⟨_, rfl, D, rfl, .inl ⟨kvs, .inl hDD⟩, _, rfl, _, DGet.k (k := .inr nm) hDD, ?_⟩
          refine ⟨_, rfl, wnTxt n, aW, _, rfl, rfl, hk2, t, _, rfl, .inr (ht G2), ?_, ?_, _, rfl, ?_⟩
          · rw [hkv2]
            cases g nm <;> rfl
          · cases n <;> rfl
          · rw [hkv2]
            cases hw : Mi.wantedP n (g nm) with
            | false =>
              refine Eq.mpr (if_pos (congrArg Bool.not (want_in.trans hw))) ⟨_, rfl, raise_line ?_⟩
              refine (k1 i ?_).same ((s1.trans s2).trans sG2)
              rw [he2, if_neg]
              intro hz
              have := List.all_eq_true.mp hz (n, nm) (List.mem_of_getElem? hun)
              rw [show Mi.wantedP (n, nm).1 (g (n, nm).2) = false from hw] at this
              cases this
            | true =>
              refine Eq.mpr (if_neg (fun z => Bool.noConfusion (z.symm.trans (congrArg Bool.not (want_in.trans hw))))) ⟨sG2, ⟨_, _, rfl⟩, fun z hz => ?_⟩
              rw [List.take_succ, hun] at hz
              rcases List.mem_append.mp hz with hz | hz
              · exact hall z hz
              · rw [List.mem_singleton.mp hz]
                exact hw
        · rintro σ G2 ⟨sG2, ⟨o4, o5, rfl⟩, hall⟩
          refine ⟨s02.trans sG2, ⟨_, _, _, _, rfl⟩, ?_⟩
          rw [he2, if_pos]
          rw [← paired_len hP2, List.take_length] at hall
          exact List.all_eq_true.mpr hall
      · rintro σ G ⟨sG, _, he⟩
        have e0 : fs.drop us.length = [] := by rw [← paired_len hp, List.drop_length]
        rw [e0] at he
        exact k2 he _ (s0.trans sG)
end
end Ws

/-! blocks of a text that was read -/
namespace Mi
open PySem
noncomputable def Good : List Bk → List Fm → Prop
  | bs, [] => bs = []
  | bs, f :: r => (f.kind = .elsek ∨ f.kind = .endk → bs ≠ []) ∧ Good (change bs f.kind) r
theorem add_ok {fs : List Fm} {bs bs' : List Bk} {ws : List Str} {f : Fm} (h : addLine fs bs ws = .ok (f, bs')) : readForm ws (pl fs.length (inTask fs)).rows = some f ∧ canStand bs fs f.kind = true ∧ bs' = change bs f.kind := by
  unfold addLine at h
  cases hr : readForm ws (pl fs.length (inTask fs)).rows with
  | none => rw [hr] at h; cases h
  | some g =>
    rw [hr] at h
    dsimp only at h
    split at h
    · cases h
    · split at h
      · cases h
      · rename_i h1 h2
        cases h
        refine ⟨rfl, ?_, rfl⟩
        cases hc : canStand bs fs f.kind with
        | true => rfl
        | false => exact absurd (.inr hc) h2
theorem can_ne' {bs : List Bk} {fs : List Fm} {k : PK} (h : canStand bs fs k = true) : k = .elsek ∨ k = .endk → bs ≠ [] := by
  rintro (rfl | rfl) rfl
  · cases (show (none : Option Bk) = some .ifk from of_decide_eq_true h)
  · exact absurd (show 0 < 0 from of_decide_eq_true h) (Nat.lt_irrefl 0)
theorem good_of : ∀ (wss : List (List Str)) {fs0 fs : List Fm} {bs : List Bk}, readAll fs0 bs wss = .ok fs → ∃ r, fs = fs0 ++ r ∧ Good bs r
  | [], fs0, fs, bs, h => by
    unfold readAll at h
    split at h
    · cases h
    · split at h
      · cases h
      · rename_i h1 h2
        cases h
        refine ⟨[], (List.append_nil _).symm, ?_⟩
        show bs = []
        cases bs with
        | nil => rfl
        | cons b r => exact absurd (.inl (by simp)) h2
  | ws :: wss, fs0, fs, bs, h => by
    unfold readAll at h
    cases ha : addLine fs0 bs ws with
    | error n => rw [ha] at h; cases h
    | ok p =>
      obtain ⟨f, bs'⟩ := p
      rw [ha] at h
      obtain ⟨h1, h2, h3⟩ := add_ok ha
      obtain ⟨r, hr, hg⟩ := good_of wss h
      subst h3
      exact ⟨f :: r, by rw [hr, List.append_assoc]; rfl, can_ne' h2, hg⟩
theorem row_kind {ws : List Str} {t : Rows} {f : Fm} (h : readForm ws t = some f) : ∃ r ∈ t, r.1 = f.kind := by
  unfold readForm at h
  obtain ⟨r, hr, h2⟩ := List.exists_of_findSome?_eq_some h
  unfold rowRead at h2
  split at h2
  · obtain ⟨x, _, rfl⟩ := Option.map_eq_some_iff.mp h2
    exact ⟨r, hr, rfl⟩
  · cases h2
theorem head2 {wss : List (List Str)} {fs : List Fm} (h : readAll [] [] wss = .ok fs) : ∃ f0 f1 r, fs = f0 :: f1 :: r ∧ f0.kind = .cores ∧ f1.kind = .slice := by
  cases wss with
  | nil => cases h
  | cons w0 wss =>
    unfold readAll at h
    cases ha : addLine [] [] w0 with
    | error n => rw [ha] at h; cases h
    | ok p =>
      obtain ⟨f0, b0⟩ := p
      rw [ha] at h
      dsimp only at h
      obtain ⟨r0, _, _⟩ := add_ok ha
      have k0 : f0.kind = .cores := by
        obtain ⟨r, hr, e⟩ := row_kind r0
        have hr2 : r ∈ CORES := hr
        rw [← e, List.mem_singleton.mp hr2]
      cases wss with
      | nil =>
        unfold readAll at h
        have hi : inTask ([] ++ [f0]) = false := by
          unfold inTask grp
          rw [decide_eq_false_iff_not]
          intro z
          refine z ?_
          show List.filter _ [f0] = []
          rw [List.filter_cons, k0]
          rfl
        split at h
        · cases h
        · rw [if_pos (.inr hi)] at h
          cases h
      | cons w1 wss =>
        unfold readAll at h
        cases hb : addLine ([] ++ [f0]) b0 w1 with
        | error n => rw [hb] at h; cases h
        | ok p =>
          obtain ⟨f1, b1⟩ := p
          rw [hb] at h
          dsimp only at h
          obtain ⟨r1, _, _⟩ := add_ok hb
          have k1 : f1.kind = .slice := by
            obtain ⟨r, hr, e⟩ := row_kind r1
            have hr2 : r ∈ SLICE := hr
            rw [← e, List.mem_singleton.mp hr2]
          obtain ⟨r, hr, _⟩ := good_of wss h
          exact ⟨f0, f1, r, by rw [hr]; rfl, k0, k1⟩
end Mi

namespace Ws
open PySem PySem.Spec PyProof.Rows L2
noncomputable abbrev sSInit : Stmt := (inClass (PySem.Challenge.pw_whatspeed_k17_what_a_program_tells.main.body.getD 51 (.Pass ⟨0, 0, 0, 0⟩)) 0)
noncomputable abbrev NSInit : List Str := ["self", "line", "form", "onward", "aside"]
noncomputable abbrev PSInit : List Str := ["self", "line", "form", "onward", "aside"]
theorem scSInit : FnScope NSInit PSInit (defScope sSInit) := ⟨rfl, rfl, rfl, by decide +kernel, rfl, by decide +kernel, by decide +kernel⟩
noncomputable abbrev sTInit : Stmt := (inClass (PySem.Challenge.pw_whatspeed_k17_what_a_program_tells.main.body.getD 52 (.Pass ⟨0, 0, 0, 0⟩)) 0)
noncomputable abbrev NTInit : List Str := ["self", "line", "form", "entry"]
noncomputable abbrev PTInit : List Str := ["self", "line", "form", "entry"]
theorem scTInit : FnScope NTInit PTInit (defScope sTInit) := ⟨rfl, rfl, rfl, by decide +kernel, rfl, by decide +kernel, by decide +kernel⟩
noncomputable abbrev sLLd : Stmt := (inClass (PySem.Challenge.pw_whatspeed_k17_what_a_program_tells.main.body.getD 54 (.Pass ⟨0, 0, 0, 0⟩)) 4)
noncomputable abbrev NLLd : List Str := ["self", "at", "opener"]
noncomputable abbrev PLLd : List Str := ["self", "at"]
theorem scLLd : FnScope NLLd PLLd (defScope sLLd) := ⟨rfl, rfl, rfl, by decide +kernel, rfl, by decide +kernel, by decide +kernel⟩
noncomputable abbrev sLAs : Stmt := (inClass (PySem.Challenge.pw_whatspeed_k17_what_a_program_tells.main.body.getD 54 (.Pass ⟨0, 0, 0, 0⟩)) 5)
noncomputable abbrev NLAs : List Str := ["self", "at"]
noncomputable abbrev PLAs : List Str := ["self", "at"]
theorem scLAs : FnScope NLAs PLAs (defScope sLAs) := ⟨rfl, rfl, rfl, by decide +kernel, rfl, by decide +kernel, by decide +kernel⟩
noncomputable abbrev sLFt : Stmt := (inClass (PySem.Challenge.pw_whatspeed_k17_what_a_program_tells.main.body.getD 54 (.Pass ⟨0, 0, 0, 0⟩)) 1)
noncomputable abbrev NLFt : List Str := ["self", "lines", "at", "form"]
noncomputable abbrev PLFt : List Str := ["self"]
theorem scLFt : FnScope NLFt PLFt (defScope sLFt) := ⟨rfl, rfl, rfl, by decide +kernel, rfl, by decide +kernel, by decide +kernel⟩
noncomputable abbrev sLFs : Stmt := (inClass (PySem.Challenge.pw_whatspeed_k17_what_a_program_tells.main.body.getD 54 (.Pass ⟨0, 0, 0, 0⟩)) 2)
noncomputable abbrev NLFs : List Str := ["self", "at", "form"]
noncomputable abbrev PLFs : List Str := ["self"]
theorem scLFs : FnScope NLFs PLFs (defScope sLFs) := ⟨rfl, rfl, rfl, by decide +kernel, rfl, by decide +kernel, by decide +kernel⟩
/-! ### where blocks begin and end -/
structure LayC (K : PySem.W.Frag) (CL : Addr) : Prop where
  cl : Cls K CL
  nF : NoAttr K CL "_forms"
  nO : NoAttr K CL "_openers"
  nL : NoAttr K CL "_elses"
  nE : NoAttr K CL "_ends"
noncomputable def LyAt (K : PySem.W.Frag) (CF CL : Addr) (H : Hp) (x t d1 d2 d3 : Addr) (fs : List Mi.Fm) (kv1 kv2 kv3 : List (Key × V)) : Prop :=
  ∃ dx, H x = some (.ins CL dx [("_forms", .ref t), ("_openers", .ref d1), ("_elses", .ref d2), ("_ends", .ref d3)]) ∧ FtAt K CF H t fs ∧ H d1 = some (.dK kv1) ∧ H d2 = some (.dK kv2) ∧ H d3 = some (.dK kv3)
theorem LyAt.same {K : PySem.W.Frag} {CF CL : Addr} {H H' : Hp} {x t d1 d2 d3 : Addr} {fs : List Mi.Fm} {kv1 kv2 kv3 : List (Key × V)} (h : LyAt K CF CL H x t d1 d2 d3 fs kv1 kv2 kv3) (s : Same H H') : LyAt K CF CL H' x t d1 d2 d3 fs kv1 kv2 kv3 := by
  obtain ⟨dx, h1, h2, h3, h4, h5⟩ := h
  exact ⟨dx, s _ _ h1, h2.same s, s _ _ h3, s _ _ h4, s _ _ h5⟩
structure LyOk (fs : List Mi.Fm) (kv1 kv2 kv3 : List (Key × V)) : Prop where
  op : ∀ (j : Nat) (f : Mi.Fm), fs[j]? = some f → (f.kind = .elsek ∨ f.kind = .endk) → ∃ o e : Nat, valV kv1 (.inl (j : Int)) = some (.int (o : Int)) ∧ o < fs.length ∧ valV kv3 (.inl (o : Int)) = some (.int (e : Int)) ∧ j ≤ e ∧ e < fs.length
  en : ∀ (j : Nat) (v : V), valV kv3 (.inl (j : Int)) = some v → ∃ e : Nat, v = .int (e : Int)
  el : ∀ (j : Nat) (v : V), valV kv2 (.inl (j : Int)) = some v → ∃ e : Nat, v = .int (e : Int)
noncomputable def spSInit (CS CF : Addr) : Sp := fun vs H Q _ => ∃ (x dx a da : Addr) (l k s u o e : V), vs = [.ref x, l, .ref a, o, e] ∧ H x = some (.ins CS dx []) ∧ H a = some (.ins CF da [("kind", k), ("slots", s), ("found", u)]) ∧ ∀ H', Ch x H H' → Q .non H'
noncomputable def spTInit (K : PySem.W.Frag) (CT CF : Addr) : Sp := fun vs H Q _ => ∃ (x dx a da t : Addr) (l s e : V) (k : Str) (us : List V), vs = [.ref x, l, .ref a, e] ∧ H x = some (.ins CT dx []) ∧ H a = some (.ins CF da [("kind", .str k), ("slots", s), ("found", .ref t)]) ∧ H t = some (.tup us) ∧ 3 ≤ us.length ∧ ∀ H', Ch x H H' → Q .non H'
noncomputable def spLLd (K : PySem.W.Frag) (CF CL : Addr) : Sp := fun vs H Q _ => ∃ (x t d1 d2 d3 : Addr) (fs : List Mi.Fm) (kv1 kv2 kv3 : List (Key × V)) (n : Nat), vs = [.ref x, .int (n : Int)] ∧ LyAt K CF CL H x t d1 d2 d3 fs kv1 kv2 kv3 ∧ LyOk fs kv1 kv2 kv3 ∧ ∀ v H', Same H H' → Q v H'
noncomputable def spLNo (K : PySem.W.Frag) (CF CL : Addr) : Sp := fun vs H Q _ => ∃ (x t d1 d2 d3 : Addr) (fs : List Mi.Fm) (kv1 kv2 kv3 : List (Key × V)), vs = [.ref x] ∧ LyAt K CF CL H x t d1 d2 d3 fs kv1 kv2 kv3 ∧ LyOk fs kv1 kv2 kv3 ∧ ∀ v H', Same H H' → Q v H'
structure StaC (K : PySem.W.Frag) (CS : Addr) : Prop where
  cl : Cls K CS
  n1 : NoAttr K CS "line"
  n2 : NoAttr K CS "kind"
  n3 : NoAttr K CS "found"
  n4 : NoAttr K CS "onward"
  n5 : NoAttr K CS "aside"
structure TskC (K : PySem.W.Frag) (CT : Addr) : Prop where
  cl : Cls K CT
  n1 : NoAttr K CT "line"
  n2 : NoAttr K CT "name"
  n3 : NoAttr K CT "rank"
  n4 : NoAttr K CT "is_later"
  n5 : NoAttr K CT "entry"
section
variable {P : Program} {w : World} {K : PySem.W.Frag} {mg : Str → Option Value} {base : Heap} {f : Addr} {fd : FuncData}
theorem ok_sinit {CS CF : Addr} (F : L2.Fun K "__init__" "Statement.__init__" sSInit f fd) (b : Binds K fd PSInit []) (FC : FormC K CF) (SC : StaC K CS) : FnR P w K mg base CX0 1 f (spSInit CS CF) := by
  refine fnR_of F b scSInit (fun vs H Q E h => ?_) (fun cdv A outer s H vs Q E hr h => ?_)
  · obtain ⟨_, _, _, _, _, _, _, _, _, _, rfl, _⟩ := h
    rfl
  · have sc := scSInit
    obtain ⟨x, dx, a, da, l, k, s, u, o, e, rfl, hx, ha, q⟩ := h
    refine ⟨_, (pss_cons (ps_fld (pv 0) (pv 1) rfl) (pss_cons (ps_fld (pv 0) (pe_fld (pv 2) rfl) rfl) (pss_cons (ps_fld (pv 0) (pe_fld (pv 2) rfl) rfl) (pss_cons (ps_fld (pv 0) (pv 3) rfl) (pss_one (ps_fld (pv 0) (pv 4) rfl)))))), ?_⟩
    have nax : a ≠ x := fun z => by rw [z, hx] at ha; cases ha
    refine ⟨_, rfl, _, rfl, x, CS, dx, [], rfl, hx, SC.cl, SC.n1, (by show 0 < 1000; decide), ?_⟩
    refine ⟨_, rfl, a, CF, da, _, _, rfl, (upd_ne nax).trans ha, FC.cl, FC.nK, rfl, _, rfl, x, CS, dx, _, rfl, upd_same, SC.cl, SC.n2, (by show 1 < 1000; decide), ?_⟩
    refine ⟨_, rfl, a, CF, da, _, _, rfl, ((upd_ne nax).trans (upd_ne nax)).trans ha, FC.cl, FC.nF, rfl, _, rfl, x, CS, dx, _, rfl, upd_same, SC.cl, SC.n3, (by show 2 < 1000; decide), ?_⟩
    refine ⟨_, rfl, _, rfl, x, CS, dx, _, rfl, upd_same, SC.cl, SC.n4, (by show 3 < 1000; decide), ?_⟩
    refine ⟨_, rfl, _, rfl, x, CS, dx, _, rfl, upd_same, SC.cl, SC.n5, (by show 4 < 1000; decide), ?_⟩
    refine q _ (fun b o n e => ?_)
    rw [upd_ne n, upd_ne n, upd_ne n, upd_ne n, upd_ne n]
    exact e
theorem ok_tinit {CT CF : Addr} (F : L2.Fun K "__init__" "Task.__init__" sTInit f fd) (b : Binds K fd PTInit []) (FC : FormC K CF) (TC : TskC K CT) : FnR P w K mg base CX0 1 f (spTInit K CT CF) := by
  refine fnR_of F b scTInit (fun vs H Q E h => ?_) (fun cdv A outer s H vs Q E hr h => ?_)
  · obtain ⟨_, _, _, _, _, _, _, _, _, _, rfl, _⟩ := h
    rfl
  · have sc := scTInit
    obtain ⟨x, dx, a, da, t, l, s, e, k, us, rfl, hx, ha, ht, hl, q⟩ := h
    refine ⟨_, (pss_cons (ps_fld (pv 0) (pv 1) rfl) (pss_cons (ps_fld (pv 0) (pe_ix ix_tup (pe_fld (pv 2) rfl) pe_int (fun _ _ => rfl)) rfl) (pss_cons (ps_fld (pv 0) (pe_ix ix_tup (pe_fld (pv 2) rfl) pe_int (fun _ _ => rfl)) rfl) (pss_cons (ps_fld (pv 0) (pe_cmpR op_eq (pe_fld (pv 2) rfl) pe_str (nomark _)) rfl) (pss_one (ps_fld (pv 0) (pv 3) rfl)))))), ?_⟩
    have nax : a ≠ x := fun z => by rw [z, hx] at ha; cases ha
    have ntx : t ≠ x := fun z => by rw [z, hx] at ht; cases ht
    obtain ⟨v1, e1⟩ : ∃ v, us[1]? = some v := ⟨_, List.getElem?_eq_getElem (by omega)⟩
    obtain ⟨v2, e2⟩ : ∃ v, us[2]? = some v := ⟨_, List.getElem?_eq_getElem (by omega)⟩
    refine ⟨_, rfl, _, rfl, x, CT, dx, [], rfl, hx, TC.cl, TC.n1, (by show 0 < 1000; decide), ?_⟩
    refine ⟨_, rfl, a, CF, da, _, _, rfl, (upd_ne nax).trans ha, FC.cl, FC.nF, rfl, t, us, 1, v1, rfl, rfl, SqT.of ((upd_ne ntx).trans ht), atI_nat (j := 1) e1, _, rfl, x, CT, dx, _, rfl, upd_same, TC.cl, TC.n2, (by show 1 < 1000; decide), ?_⟩
    refine ⟨_, rfl, a, CF, da, _, _, rfl, ((upd_ne nax).trans (upd_ne nax)).trans ha, FC.cl, FC.nF, rfl, t, us, 2, v2, rfl, rfl, SqT.of (((upd_ne ntx).trans (upd_ne ntx)).trans ht), atI_nat (j := 2) e2, _, rfl, x, CT, dx, _, rfl, upd_same, TC.cl, TC.n3, (by show 2 < 1000; decide), ?_⟩
    refine ⟨_, rfl, a, CF, da, _, _, rfl, (((upd_ne nax).trans (upd_ne nax)).trans (upd_ne nax)).trans ha, FC.cl, FC.nK, rfl, rfl, _, rfl, x, CT, dx, _, rfl, upd_same, TC.cl, TC.n4, (by show 3 < 1000; decide), ?_⟩
    refine ⟨_, rfl, _, rfl, x, CT, dx, _, rfl, upd_same, TC.cl, TC.n5, (by show 4 < 1000; decide), ?_⟩
    refine q _ (fun b o n e => ?_)
    rw [upd_ne n, upd_ne n, upd_ne n, upd_ne n, upd_ne n]
    exact e
theorem ok_lld {CF CL aD : Addr} (F : L2.Fun K "_landing" "Layout._landing" sLLd f fd) (b : Binds K fd PLLd []) (B : Bi mg) (FC : FormC K CF) (LC : LayC K CL) (gDe : mg "DECLARES" = some (.ref aD)) (hD : DeclK K w aD) : FnR P w K mg base CX0 1 f (spLLd K CF CL) := by
  refine fnR_of F b scLLd (fun vs H Q E h => ?_) (fun cdv A outer s H vs Q E hr h => ?_)
  · obtain ⟨_, _, _, _, _, _, _, _, _, _, rfl, _⟩ := h
    rfl
  · have sc := scLLd
    obtain ⟨x, t, d1, d2, d3, fs, kv1, kv2, kv3, n, rfl, hL, hok, q⟩ := h
    refine ⟨_, (pss_cons (ps_while PassesOwn.never (PW.pt (pw_and (pt_cmpR op_lt (pv 1) (pe_callB call_len_seq (by rfl) B.len PySem.boot_len (pa_cons (pe_fld (pv 0) rfl) pa_nil)) (nomark _)) (pw_and1 (pt_cmpR op_notIn_k (pe_fld (pe_ix ix_tup (pe_fld (pv 0) rfl) (pv 1) (fun _ _ => rfl)) rfl) (pe_glob (v := .ref aD) rfl gDe rfl) rfl)))) (pss_cons (ps_if (pt_cmpR op_notIn_seq (pe_fld (pe_ix ix_tup (pe_fld (pv 0) rfl) (pv 1) (fun _ _ => rfl)) rfl) (pe_tup (pa_cons pe_str (pa_cons pe_str pa_nil))) rfl) (pss_one (ps_ret (pv 1))) pss_nil) (pss_cons (ps_set (i := 2) sc.nd rfl (Or.inl rfl) (pe_dget (hu_of hr) (pe_fld (pv 0) rfl) (pv 1) (fun _ _ => rfl))) (pss_cons (ps_if (pt_cmpR op_ne (pe_fld (pe_ix ix_tup (pe_fld (pv 0) rfl) (pv 2) (fun _ _ => rfl)) rfl) pe_str (nomark _)) (pss_one (ps_ret (pv 2))) pss_nil) (pss_one (ps_set (i := 1) sc.nd rfl (Or.inl rfl) (pe_op op_add (pe_dget (hu_of hr) (pe_fld (pv 0) rfl) (pv 2) (fun _ _ => rfl)) pe_int))))))) (pss_one (ps_ret pe_non))), ?_⟩
    obtain ⟨dx, h1, ⟨us, hl, hp, hu, hof⟩, h3, h4, h5⟩ := hL
    have hlen := paired_len hp
    have at_ : ∀ a : Nat, a < fs.length → ∃ (fm : Mi.Fm) (ad dxx sA uA : Addr), fs[a]? = some fm ∧ us[a]? = some (.ref ad) ∧ H ad = some (.ins CF dxx [("kind", .str (pkTxt fm.kind)), ("slots", .ref sA), ("found", .ref uA)]) := fun a ha => by
      obtain ⟨u, hu1⟩ : ∃ u, us[a]? = some u := ⟨_, List.getElem?_eq_getElem (by omega)⟩
      obtain ⟨fm, hfm, ad, dxx, sA, uA, vs, rfl, g1, _⟩ := paired_get hp a u hu1
      exact ⟨fm, ad, dxx, sA, uA, hfm, hu1, g1⟩
    refine ⟨fun m σ G => Same H G ∧ ∃ (a : Nat) (o : Option V), σ = [some (.ref x), some (.int (a : Int)), o] ∧ m = fs.length - a, ⟨_, Same.refl H, n, _, rfl, rfl⟩, ?_⟩
    rintro m σ G ⟨sG, a, o, rfl, rfl⟩
    refine ⟨_, rfl, _, rfl, x, CL, dx, _, _, rfl, sG _ _ h1, LC.cl, LC.nF, rfl, t, us, rfl, .inr (SqT.same hl sG), _, _, rfl, rfl, _, rfl, ?_⟩
    show if decide ((a : Int) < (us.length : Int)) = true then _ else _
    by_cases ha : a < fs.length
    · rw [decide_eq_true (show (a : Int) < (us.length : Int) by omega)]
      obtain ⟨fm, ad, dxx, sA, uA, hfm, hu1, g1⟩ := at_ a ha
      refine iteT ⟨_, rfl, x, CL, dx, _, _, rfl, sG _ _ h1, LC.cl, LC.nF, rfl, _, rfl, t, us, (a : Int), .ref ad, rfl, rfl, SqT.same hl sG, atI_nat hu1, ad, CF, dxx, _, _, rfl, sG _ _ g1, FC.cl, FC.nK, rfl, _, aD, _, rfl, rfl, hD fm.kind, _, rfl, ?_⟩
      rw [decl_iff]
      cases hdc : fm.kind.declares with
      | true => exact iteF (q _ _ sG)
      | false =>
        refine iteT ⟨fun σ G => Same H G ∧ ∃ (a' : Nat) (o : Option V), σ = [some (.ref x), some (.int (a' : Int)), o] ∧ a < a', fun σ' G' ⟨s', a', o', e, h⟩ => ⟨fs.length - a', by omega, s', a', o', e, rfl⟩, ?_⟩
        refine ⟨_, rfl, x, CL, dx, _, _, rfl, sG _ _ h1, LC.cl, LC.nF, rfl, _, rfl, t, us, (a : Int), .ref ad, rfl, rfl, SqT.same hl sG, atI_nat hu1, ad, CF, dxx, _, _, rfl, sG _ _ g1, FC.cl, FC.nK, rfl, (by show 2 ≤ sizeLine; decide), fun T nT => ⟨T, _, rfl, .inr (SqT.of upd_same), rfl, rfl, _, rfl, ?_⟩⟩
        have s1 : Same H (upd G T (.tup [.str "else", .str "end"])) := sG.trans (Same.new nT)
        have hin : inV (.str (pkTxt fm.kind)) [.str "else", .str "end"] = decide (fm.kind = .elsek ∨ fm.kind = .endk) := by cases fm.kind <;> decide +kernel
        show if (!inV (.str (pkTxt fm.kind)) [.str "else", .str "end"]) = true then _ else _
        rw [hin]
        by_cases ce : fm.kind = .elsek ∨ fm.kind = .endk
        · rw [decide_eq_true ce]
          obtain ⟨op, e, v1, lo, v3, le1, le2⟩ := hok.op a fm hfm ce
          obtain ⟨fm2, ad2, dx2, sA2, uA2, hfm2, hu2, g2⟩ := at_ op lo
          refine iteF ⟨_, rfl, x, CL, dx, _, _, rfl, s1 _ _ h1, LC.cl, LC.nO, rfl, _, rfl, d1, .int op, rfl, .inl ⟨kv1, .inl (a : Int), .inl (s1 _ _ h3), rfl, v1.symm⟩, ?_⟩
          refine ⟨_, rfl, x, CL, dx, _, _, rfl, s1 _ _ h1, LC.cl, LC.nF, rfl, _, rfl, t, us, (op : Int), .ref ad2, rfl, rfl, SqT.same hl s1, atI_nat hu2, ad2, CF, dx2, _, _, rfl, s1 _ _ g2, FC.cl, FC.nK, rfl, rfl, _, rfl, ?_⟩
          rw [decS]
          by_cases ci : pkTxt fm2.kind = "if"
          · rw [decide_eq_true ci]
            refine iteF ⟨_, rfl, x, CL, dx, _, _, rfl, s1 _ _ h1, LC.cl, LC.nE, rfl, _, rfl, d3, .int e, rfl, .inl ⟨kv3, .inl (op : Int), .inl (s1 _ _ h5), rfl, v3.symm⟩, _, _, rfl, rfl, s1, e + 1, _, rfl, by omega⟩
          · rw [decide_eq_false ci]
            exact iteT ⟨_, rfl, q _ _ s1⟩
        · rw [decide_eq_false ce]
          exact iteT ⟨_, rfl, q _ _ s1⟩
    · rw [decide_eq_false (show ¬ (a : Int) < (us.length : Int) by omega)]
      exact iteF (iteF (q _ _ sG))
theorem ok_las {CF CL : Addr} (F : L2.Fun K "_aside" "Layout._aside" sLAs f fd) (b : Binds K fd PLAs []) (LC : LayC K CL) (mLd : MetF P w K mg base 1 CL "_landing" (spLLd K CF CL)) : FnR P w K mg base CX0 2 f (spLLd K CF CL) := by
  refine fnR_of F b scLAs (fun vs H Q E h => ?_) (fun cdv A outer s H vs Q E hr h => ?_)
  · obtain ⟨_, _, _, _, _, _, _, _, _, _, rfl, _⟩ := h
    rfl
  · have sc := scLAs
    obtain ⟨x, t, d1, d2, d3, fs, kv1, kv2, kv3, n, rfl, hL, hok, q⟩ := h
    refine ⟨_, (pss_cons (ps_if (pt_cmp (pc_dnotin (hu_of hr) (pv 1) (pe_fld (pv 0) rfl))) (pss_one (ps_ret pe_non)) pss_nil) (pss_one (ps_ret (pe_mt mLd hr (by omega) (pv 0) (pa_cons (pe_op op_add (pe_dget2 (hu_of hr) (pe_fld (pv 0) rfl) (pv 1) (pe_dget (hu_of hr) (pe_fld (pv 0) rfl) (pv 1) (fun _ _ => rfl)) ⟨rfl, rfl, rfl, rfl⟩) pe_int) pa_nil))))), ?_⟩
    have hLy := hL
    obtain ⟨dx, h1, ht, h3, h4, h5⟩ := hL
    refine ⟨_, rfl, _, rfl, x, CL, dx, _, _, rfl, h1, LC.cl, LC.nE, rfl, d3, _, rfl, DGet.k (k := .inl (n : Int)) h5, _, rfl, ?_⟩
    cases hv : valV kv3 (.inl (n : Int)) with
    | none => exact iteT (q _ _ (Same.refl H))
    | some v =>
      obtain ⟨e, rfl⟩ := hok.en n v hv
      obtain ⟨m, hm⟩ : ∃ m : Nat, (valV kv2 (.inl (n : Int))).getD (.int (e : Int)) = .int (m : Int) := by
        cases hw : valV kv2 (.inl (n : Int)) with
        | none => exact ⟨e, rfl⟩
        | some v2 =>
          obtain ⟨e2, rfl⟩ := hok.el n v2 hw
          exact ⟨e2, rfl⟩
      refine iteF ⟨_, rfl, x, dx, _, rfl, h1, rfl, _, rfl, x, CL, dx, _, _, rfl, h1, LC.cl, LC.nL, rfl, d2, rfl, .inl ⟨kv2, .inl h4⟩, _, rfl, _, rfl, x, CL, dx, _, _, rfl, h1, LC.cl, LC.nE, rfl, _, rfl, d3, .int (e : Int), rfl, .inl ⟨kv3, .inl (n : Int), .inl h5, rfl, hv.symm⟩, _, DGet.k (k := .inl (n : Int)) h4, (m : Int), 1, hm, rfl, ?_⟩
      exact ⟨x, t, d1, d2, d3, fs, kv1, kv2, kv3, m + 1, rfl, hLy, hok, fun v H' s => q v H' s⟩
theorem ok_lft {CF CL CT aD : Addr} (F : L2.Fun K "find_tasks" "Layout.find_tasks" sLFt f fd) (b : Binds K fd PLFt []) (FC : FormC K CF) (LC : LayC K CL) (gTu : mg "tuple" = none) (gEn : mg "enumerate" = none) (gDe : mg "DECLARES" = some (.ref aD)) (hD : DeclK K w aD) (mLd : MetF P w K mg base 1 CL "_landing" (spLLd K CF CL)) (mTs : MakF P w K mg base 1 "Task" CT (spTInit K CT CF)) : FnR P w K mg base CX0 3 f (spLNo K CF CL) := by
  refine fnR_of F b scLFt (fun vs H Q E h => ?_) (fun cdv A outer s H vs Q E hr h => ?_)
  · obtain ⟨_, _, _, _, _, _, _, _, _, rfl, _⟩ := h
    rfl
  · have sc := scLFt
    obtain ⟨x, t, d1, d2, d3, fs, kv1, kv2, kv3, rfl, hL, hok, q⟩ := h
    refine ⟨_, (pss_cons (ps_setLc (i := 1) (own := [("at", 2), ("form", 3)]) rfl sc.nd rfl rfl (sw_true rfl rfl rfl (by decide +kernel)) (pi_enT (by rfl) gEn (pa_cons (pe_fld (pv 0) rfl) pa_nil)) (blkOk_by (N := NLFt) (sc := defScope sLFt) (by decide +kernel)) (fun _ _ _ _ _ => by exact (show PG _ _ (gTup K 2 _) from (pg_tup rfl (pgs_cons (pg_name (i := 2) sc.nd rfl (Or.inl rfl)) (pgs_cons (pg_name (i := 3) sc.nd rfl (Or.inl rfl)) pgs_nil))))) (fun _ _ _ _ _ => by exact (pts_one (pt_cmpR op_eq (pe_kget1K (K := K) (w := w) rfl rfl (pe_glob (v := .ref aD) rfl gDe rfl) (pe_fldK (K := K) rfl rfl (pv 3)) ⟨rfl, rfl, rfl, rfl⟩) pe_str (nomark _)))) (fun _ _ _ _ _ => by exact (pv 2))) (pss_one (ps_ret (pe_callTy call_tuple_of (by rfl) gTu (by decide +kernel) (pa_cons (pe_lc (own := [("at", 2)]) rfl sc.nd (pi_list (pv 1)) (blkOk_by (N := NLFt) (sc := defScope sLFt) (by decide +kernel)) (fun _ _ _ _ _ => by exact (pg_name (i := 2) sc.nd rfl (Or.inl rfl))) (fun _ _ _ _ _ => by exact pts_nil) (fun _ _ _ _ _ => by exact (pe_mk mTs hr (by omega) rfl (pa_cons (pv 2) (pa_cons (pe_ix (ix_tupK (K := K) rfl) (pe_fldK (K := K) rfl rfl (pv 0)) (pv 2) (fun _ _ => rfl)) (pa_cons (pe_mt mLd hr (by omega) (pv 0) (pa_cons (pe_op op_add (pv 2) pe_int) pa_nil)) pa_nil)))))) pa_nil))))), ?_⟩
    have hLy := hL
    obtain ⟨dx, h1, ⟨us, hl, hp, hu, hof⟩, h3, h4, h5⟩ := hL
    have hlen := paired_len hp
    refine ⟨_, rfl, x, CL, dx, _, _, rfl, h1, LC.cl, LC.nF, rfl, t, us, rfl, hl, fun D nD => ?_⟩
    refine lc_enT (xs := us) (fun i G => Same H G ∧ ∃ ns : List Nat, G D = some (.lst (ns.map fun n : Nat => V.int (n : Int))) ∧ ns.length ≤ i ∧ ∀ n ∈ ns, ∃ f, fs[n]? = some f ∧ f.kind.group = some .task) ?_ (fun i G _ h => SqT.same hl h.1) ?_ ?_
    · exact ⟨Same.new nD, [], upd_same, Nat.le_refl _, (fun n hn => by cases hn)⟩
    · rintro i u G T hu2 ⟨sG, ns, hN, hnl, hns⟩ nT
      obtain ⟨fm, hfm, a, dxx, sA, uA, vs, rfl, g1, g2, g3, g4⟩ := paired_get hp i u hu2
      have sT : Same G (upd G T (.tup [.int i, .ref a])) := Same.new nT
      have s1 := sG.trans sT
      have il : i < us.length := (List.getElem?_eq_some_iff.mp hu2).1
      obtain ⟨es, n, r, hKD, hr1, hr2⟩ := hD fm.kind
      refine ⟨T, _, rfl, SqT.of upd_same, rfl, _, _, rfl, _, _, rfl, rfl, rfl, ?_⟩
      refine ⟨aD, es, n, rfl, hKD, _, rfl, a, CF, dxx, _, _, rfl, s1 _ _ g1, FC.cl, FC.nK, rfl, _, gV fm.kind.group, rfl, hD fm.kind, ?_⟩
      refine ⟨by cases fm.kind.group <;> rfl, _, rfl, ?_⟩
      have hb : decide ((gV fm.kind.group).getD .non = .str "task") = decide (fm.kind.group = some .task) := by
        cases fm.kind <;> decide +kernel
      rw [hb]
      by_cases hg : fm.kind.group = some .task
      · rw [decide_eq_true hg]
        refine ifT rfl ⟨_, rfl, _, sT _ _ hN, Nat.lt_of_le_of_lt (show _ ≤ 1000 by rw [List.length_map]; omega) (by show 1000 < 2 ^ 24; decide), fun b o e => (upd_ne (ne_of_none e nD)).trans (s1 _ _ e), ns ++ [i], ?_, ?_, fun n hn => ?_⟩
        · rw [upd_same, List.map_append]
          rfl
        · rw [List.length_append]
          exact Nat.succ_le_succ hnl
        · rcases List.mem_append.mp hn with hn | hn
          · exact hns n hn
          · rw [List.mem_singleton.mp hn]
            exact ⟨fm, hfm, hg⟩
      · rw [decide_eq_false hg]
        exact ifF rfl ⟨s1, ns, sT _ _ hN, Nat.le_succ_of_le hnl, hns⟩
    · rintro G0 ⟨s0, ns, hN, hnl, hns⟩
      refine ⟨_, rfl, D, rfl, ⟨_, SqL.of hN⟩, fun D2 nD2 => ?_⟩
      refine lc_list (xs := ns.map fun n : Nat => V.int (n : Int)) (fun j G => Same G0 G ∧ ∃ vs : List V, G D2 = some (.lst vs) ∧ vs.length ≤ j) ?_ (fun i G _ h => SqL.of (h.1 _ _ hN)) ?_ ?_
      · exact ⟨Same.new nD2, [], upd_same, Nat.le_refl _⟩
      · rintro j z G hz ⟨sG, vs2, hV, hvl⟩
        rw [List.getElem?_map] at hz
        obtain ⟨n, hn, rfl⟩ := Option.map_eq_some_iff.mp hz
        obtain ⟨fm, hfm, hg⟩ := hns n (List.mem_of_getElem? hn)
        have jl : j < ns.length := (List.getElem?_eq_some_iff.mp hn).1
        have s1 := s0.trans sG
        have nl : n < us.length := by have := (List.getElem?_eq_some_iff.mp hfm).1; omega
        obtain ⟨u, hu2⟩ : ∃ u, us[n]? = some u := ⟨_, List.getElem?_eq_getElem nl⟩
        obtain ⟨fm2, hfm2, a, dxx, sA, uA, vs, rfl, g1, g2, g3, g4⟩ := paired_get hp n u hu2
        cases hfm.symm.trans hfm2
        have l3 : 3 ≤ vs.length := by rw [← paired_len g4]; exact (hof fm (List.mem_of_getElem? hfm)).len3 hg
        refine ⟨rfl, ?_⟩
        simp only [tYes]
        rw [if_pos trivial]
        refine ⟨_, rfl, _, rfl, x, CL, dx, _, _, rfl, s1 _ _ h1, LC.cl, LC.nF, rfl, _, rfl, t, us, (n : Int), .ref a, rfl, rfl, SqT.same hl s1, atI_nat hu2, _, rfl, x, dx, _, rfl, s1 _ _ h1, rfl, _, rfl, _, _, rfl, rfl, ?_⟩
        refine ⟨x, t, d1, d2, d3, fs, kv1, kv2, kv3, n + 1, rfl, hLy.same s1, hok, fun v G2 s2 => fun y dy ny ndy hne => ?_⟩
        have s12 := s1.trans s2
        have nay : a ≠ y := ne_of_none (s12 _ _ g1) ny
        have nad : a ≠ dy := ne_of_none (s12 _ _ g1) ndy
        have nuy : uA ≠ y := ne_of_none (s12 _ _ g3) ny
        have nud : uA ≠ dy := ne_of_none (s12 _ _ g3) ndy
        refine ⟨y, dy, a, dxx, uA, _, _, _, _, vs, rfl, upd_same, ((upd_ne nay).trans (upd_ne nad)).trans (s12 _ _ g1), ((upd_ne nuy).trans (upd_ne nud)).trans (s12 _ _ g3), l3, fun G3 c3 => ⟨rfl, ?_⟩⟩
        have s23 : Same G2 G3 := fun b o e => c3 _ _ (ne_of_none e ny) (by rw [upd_ne (ne_of_none e ny), upd_ne (ne_of_none e ndy)]; exact e)
        refine ⟨vs2, (s2.trans s23) _ _ hV, Nat.lt_of_le_of_lt (show vs2.length ≤ 1000 by omega) (by show 1000 < 2 ^ 24; decide), fun b o e => (upd_ne (ne_of_none e nD2)).trans ((s2.trans s23) _ _ (sG _ _ e)), _, upd_same, ?_⟩
        rw [List.length_append]
        exact Nat.succ_le_succ hvl
      · rintro G ⟨sG, vs2, hV, hvl⟩
        exact ⟨D2, _, rfl, .inl ⟨SqL.of hV, fun l nl => q _ _ ((s0.trans sG).trans (Same.new nl))⟩⟩
theorem ok_lfs {CF CL CS : Addr} (F : L2.Fun K "find_statements" "Layout.find_statements" sLFs f fd) (b : Binds K fd PLFs []) (FC : FormC K CF) (LC : LayC K CL) (gTu : mg "tuple" = none) (gEn : mg "enumerate" = none) (mLd : MetF P w K mg base 1 CL "_landing" (spLLd K CF CL)) (mLa : MetF P w K mg base 2 CL "_aside" (spLLd K CF CL)) (mSt : MakF P w K mg base 1 "Statement" CS (spSInit CS CF)) : FnR P w K mg base CX0 3 f (spLNo K CF CL) := by
  refine fnR_of F b scLFs (fun vs H Q E h => ?_) (fun cdv A outer s H vs Q E hr h => ?_)
  · obtain ⟨_, _, _, _, _, _, _, _, _, rfl, _⟩ := h
    rfl
  · have sc := scLFs
    obtain ⟨x, t, d1, d2, d3, fs, kv1, kv2, kv3, rfl, hL, hok, q⟩ := h
    refine ⟨_, (pss_one (ps_ret (pe_callTy call_tuple_of (by rfl) gTu (by decide +kernel) (pa_cons (pe_lc (own := [("at", 1), ("form", 2)]) rfl sc.nd (pi_enT (by rfl) gEn (pa_cons (pe_fld (pv 0) rfl) pa_nil)) (blkOk_by (N := NLFs) (sc := defScope sLFs) (by decide +kernel)) (fun _ _ _ _ _ => by exact (show PG _ _ (gTup K 2 _) from (pg_tup rfl (pgs_cons (pg_name (i := 1) sc.nd rfl (Or.inl rfl)) (pgs_cons (pg_name (i := 2) sc.nd rfl (Or.inl rfl)) pgs_nil))))) (fun _ _ _ _ _ => by exact pts_nil) (fun _ _ _ _ _ => by exact (pe_mk mSt hr (by omega) rfl (pa_cons (pv 1) (pa_cons (pv 2) (pa_cons (pe_mt mLd hr (by omega) (pv 0) (pa_cons (pe_op op_add (pv 1) pe_int) pa_nil)) (pa_cons (pe_mt mLa hr (by omega) (pv 0) (pa_cons (pv 1) pa_nil)) pa_nil))))))) pa_nil)))), ?_⟩
    have hLy := hL
    obtain ⟨dx, h1, ⟨us, hl, hp, hu, hof⟩, h3, h4, h5⟩ := hL
    have hlen := paired_len hp
    refine ⟨_, rfl, x, CL, dx, _, _, rfl, h1, LC.cl, LC.nF, rfl, t, us, rfl, hl, fun D nD => ?_⟩
    refine lc_enT (xs := us) (fun i G => Same H G ∧ ∃ vs : List V, G D = some (.lst vs) ∧ vs.length ≤ i) ?_ (fun i G _ h => SqT.same hl h.1) ?_ ?_
    · exact ⟨Same.new nD, [], upd_same, Nat.le_refl _⟩
    · rintro i u G T hu2 ⟨sG, vs2, hV, hvl⟩ nT
      obtain ⟨fm, hfm, a, dxx, sA, uA, vs, rfl, g1, g2, g3, g4⟩ := paired_get hp i u hu2
      have sT : Same G (upd G T (.tup [.int i, .ref a])) := Same.new nT
      have s1 := sG.trans sT
      have il : i < us.length := (List.getElem?_eq_some_iff.mp hu2).1
      refine ⟨T, _, rfl, SqT.of upd_same, rfl, _, _, rfl, _, _, rfl, rfl, rfl, ?_⟩
      simp only [tYes]
      rw [if_pos trivial]
      refine ⟨_, rfl, _, rfl, _, rfl, x, dx, _, rfl, s1 _ _ h1, rfl, _, rfl, _, _, rfl, rfl, ?_⟩
      refine ⟨x, t, d1, d2, d3, fs, kv1, kv2, kv3, i + 1, rfl, hLy.same s1, hok, fun v G2 s2 => ?_⟩
      refine ⟨_, rfl, x, dx, _, rfl, (s1.trans s2) _ _ h1, rfl, _, rfl, x, t, d1, d2, d3, fs, kv1, kv2, kv3, i, rfl, hLy.same (s1.trans s2), hok, fun v2 G3 s3 => fun y dy ny ndy hne => ?_⟩
      have s13 := (s1.trans s2).trans s3
      have nay : a ≠ y := ne_of_none (s13 _ _ g1) ny
      have nad : a ≠ dy := ne_of_none (s13 _ _ g1) ndy
      refine ⟨y, dy, a, dxx, _, _, _, _, _, _, rfl, upd_same, ((upd_ne nay).trans (upd_ne nad)).trans (s13 _ _ g1), fun G4 c4 => ⟨rfl, ?_⟩⟩
      have s34 : Same G3 G4 := fun b o e => c4 _ _ (ne_of_none e ny) (by rw [upd_ne (ne_of_none e ny), upd_ne (ne_of_none e ndy)]; exact e)
      have sG4 : Same G G4 := ((sT.trans s2).trans s3).trans s34
      refine ⟨vs2, sG4 _ _ hV, Nat.lt_of_le_of_lt (show vs2.length ≤ 1000 by omega) (by show 1000 < 2 ^ 24; decide), fun b o e => (upd_ne (ne_of_none e nD)).trans (sG4 _ _ (sG _ _ e)), _, upd_same, ?_⟩
      rw [List.length_append]
      exact Nat.succ_le_succ hvl
    · rintro G ⟨sG, vs2, hV, hvl⟩
      exact ⟨D, _, rfl, .inl ⟨SqL.of hV, fun l nl => q _ _ (sG.trans (Same.new nl))⟩⟩
end
end Ws

namespace Ws
open PySem PySem.Spec PyProof.Rows L2
noncomputable abbrev sLFb : Stmt := (inClass (PySem.Challenge.pw_whatspeed_k17_what_a_program_tells.main.body.getD 54 (.Pass ⟨0, 0, 0, 0⟩)) 3)
noncomputable abbrev NLFb : List Str := ["self", "opened", "at", "form"]
noncomputable abbrev PLFb : List Str := ["self"]
theorem scLFb : FnScope NLFb PLFb (defScope sLFb) := ⟨rfl, rfl, rfl, by decide +kernel, rfl, by decide +kernel, by decide +kernel⟩
noncomputable abbrev sLInit : Stmt := (inClass (PySem.Challenge.pw_whatspeed_k17_what_a_program_tells.main.body.getD 54 (.Pass ⟨0, 0, 0, 0⟩)) 0)
noncomputable abbrev NLInit : List Str := ["self", "forms"]
noncomputable abbrev PLInit : List Str := ["self", "forms"]
theorem scLInit : FnScope NLInit PLInit (defScope sLInit) := ⟨rfl, rfl, rfl, by decide +kernel, rfl, by decide +kernel, by decide +kernel⟩
structure PInv (fs : List Mi.Fm) (i : Nat) (op : List Nat) (kv1 kv2 kv3 : List (Key × V)) : Prop where
  lo : ∀ o ∈ op, o < i
  op : ∀ (j : Nat) (f : Mi.Fm), j < i → fs[j]? = some f → (f.kind = .elsek ∨ f.kind = .endk) → ∃ o : Nat, valV kv1 (.inl (j : Int)) = some (.int (o : Int)) ∧ o < i ∧ (o ∈ op ∨ ∃ e : Nat, valV kv3 (.inl (o : Int)) = some (.int (e : Int)) ∧ j ≤ e ∧ e < i)
  en : ∀ (j : Nat) (v : V), valV kv3 (.inl (j : Int)) = some v → ∃ e : Nat, v = .int (e : Int)
  el : ∀ (j : Nat) (v : V), valV kv2 (.inl (j : Int)) = some v → ∃ e : Nat, v = .int (e : Int)
theorem key_ne {a b : Nat} (h : a ≠ b) : (Sum.inl (a : Int) : Key) ≠ .inl (b : Int) := fun z => h (Int.ofNat.inj (Sum.inl.inj z))
theorem PInv.skip {fs : List Mi.Fm} {i : Nat} {op : List Nat} {kv1 kv2 kv3 : List (Key × V)} (h : PInv fs i op kv1 kv2 kv3) {f : Mi.Fm} (hf : fs[i]? = some f) (hk : ¬ (f.kind = .elsek ∨ f.kind = .endk)) (op' : List Nat) (hs : ∀ o ∈ op, o ∈ op') (hl : ∀ o ∈ op', o < i + 1) : PInv fs (i + 1) op' kv1 kv2 kv3 := by
  refine ⟨hl, fun j g hj hg hgk => ?_, h.en, h.el⟩
  have hji : j < i := by
    rcases Nat.lt_or_ge j i with z | z
    · exact z
    · have : j = i := by omega
      subst this
      cases hf.symm.trans hg
      exact absurd hgk hk
  obtain ⟨o, h1, h2, h3⟩ := h.op j g hji hg hgk
  refine ⟨o, h1, by omega, h3.elim (fun z => .inl (hs o z)) fun ⟨e, z1, z2, z3⟩ => .inr ⟨e, z1, z2, by omega⟩⟩
theorem PInv.els {fs : List Mi.Fm} {i : Nat} {l : List Nat} {o : Nat} {kv1 kv2 kv3 : List (Key × V)} (h : PInv fs i (l ++ [o]) kv1 kv2 kv3) : PInv fs (i + 1) (l ++ [o]) (putK kv1 (.inl (i : Int)) (.int (o : Int))) (putK kv2 (.inl (o : Int)) (.int (i : Int))) kv3 := by
  refine ⟨fun n hn => Nat.lt_succ_of_lt (h.lo n hn), fun j g hj hg hgk => ?_, h.en, fun j v hv => ?_⟩
  · by_cases e : j = i
    · subst e
      exact ⟨o, by rw [valV_put, if_pos rfl], Nat.lt_succ_of_lt (h.lo o (by simp)), .inl (by simp)⟩
    · obtain ⟨o2, h1, h2, h3⟩ := h.op j g (by omega) hg hgk
      refine ⟨o2, by rw [valV_put, if_neg (key_ne e)]; exact h1, by omega, h3.elim .inl fun ⟨e, z1, z2, z3⟩ => .inr ⟨e, z1, z2, by omega⟩⟩
  · rw [valV_put] at hv
    split at hv
    · cases hv; exact ⟨i, rfl⟩
    · exact h.el j v hv
theorem PInv.end_ {fs : List Mi.Fm} {i : Nat} {l : List Nat} {o : Nat} {kv1 kv2 kv3 : List (Key × V)} (h : PInv fs i (l ++ [o]) kv1 kv2 kv3) : PInv fs (i + 1) l (putK kv1 (.inl (i : Int)) (.int (o : Int))) kv2 (putK kv3 (.inl (o : Int)) (.int (i : Int))) := by
  refine ⟨fun n hn => Nat.lt_succ_of_lt (h.lo n (List.mem_append_left _ hn)), fun j g hj hg hgk => ?_, fun j v hv => ?_, h.el⟩
  · by_cases e : j = i
    · subst e
      exact ⟨o, by rw [valV_put, if_pos rfl], Nat.lt_succ_of_lt (h.lo o (by simp)), .inr ⟨j, by rw [valV_put, if_pos rfl], Nat.le_refl _, Nat.lt_succ_self _⟩⟩
    · obtain ⟨o2, h1, h2, h3⟩ := h.op j g (by omega) hg hgk
      refine ⟨o2, by rw [valV_put, if_neg (key_ne e)]; exact h1, by omega, ?_⟩
      by_cases eo : o2 = o
      · subst eo
        exact .inr ⟨i, by rw [valV_put, if_pos rfl], by omega, Nat.lt_succ_self _⟩
      · rcases h3 with h3 | ⟨e, z1, z2, z3⟩
        · rcases List.mem_append.mp h3 with h3 | h3
          · exact .inl h3
          · exact absurd (List.mem_singleton.mp h3) eo
        · exact .inr ⟨e, by rw [valV_put, if_neg (key_ne eo)]; exact z1, z2, by omega⟩
  · rw [valV_put] at hv
    split at hv
    · cases hv; exact ⟨i, rfl⟩
    · exact h.en j v hv
noncomputable def Keep3 (d1 d2 d3 : Addr) (H G : Hp) : Prop := ∀ a o, a ≠ d1 → a ≠ d2 → a ≠ d3 → H a = some o → G a = some o
noncomputable def spLFb (K : PySem.W.Frag) (CF CL : Addr) : Sp := fun vs H Q _ => ∃ (x t d1 d2 d3 : Addr) (fs : List Mi.Fm), vs = [.ref x] ∧ LyAt K CF CL H x t d1 d2 d3 fs [] [] [] ∧ d1 ≠ d2 ∧ d1 ≠ d3 ∧ d2 ≠ d3 ∧ Mi.Good [] fs ∧ ∀ kv1 kv2 kv3 H', Keep3 d1 d2 d3 H H' → H' d1 = some (.dK kv1) → H' d2 = some (.dK kv2) → H' d3 = some (.dK kv3) → LyOk fs kv1 kv2 kv3 → Q .non H'
noncomputable def spLInit (K : PySem.W.Frag) (CF CL : Addr) : Sp := fun vs H Q _ => ∃ (H0 : Hp) (x dx t : Addr) (fs : List Mi.Fm), vs = [.ref x, .ref t] ∧ H x = some (.ins CL dx []) ∧ H0 x = none ∧ Same H0 H ∧ FtAt K CF H0 t fs ∧ Mi.Good [] fs ∧ ∀ d1 d2 d3 kv1 kv2 kv3 H', Ch x H H' → H' x = some (.ins CL dx [("_forms", .ref t), ("_openers", .ref d1), ("_elses", .ref d2), ("_ends", .ref d3)]) → H' d1 = some (.dK kv1) → H' d2 = some (.dK kv2) → H' d3 = some (.dK kv3) → LyOk fs kv1 kv2 kv3 → Q .non H'
noncomputable def nmsOk (n : Str) (ns : List Str) : Bool := ns.all fun m => decide (m ≠ n)
theorem put_snoc {n : Str} {y : V} : ∀ (fs : List (Str × V)), nmsOk n (fs.map (·.1)) = true → putF n y fs = fs ++ [(n, y)]
  | [], _ => rfl
  | (g, x) :: r, h => by
    have h2 := List.all_eq_true.mp h
    have h3 : ¬ g = n := of_decide_eq_true (h2 g (List.mem_cons_self ..))
    rw [put_past h3, put_snoc r (List.all_eq_true.mpr fun m hm => h2 m (List.mem_cons_of_mem _ hm))]
    rfl
theorem nms_by {n : Str} {fs : List (Str × V)} {ns : List Str} (h : fs.map (·.1) = ns) (h2 : nmsOk n ns = true) : nmsOk n (fs.map (·.1)) = true := h ▸ h2
theorem fld_k {K : PySem.W.Frag} {N : Hp → Prop} {H : Hp} {x C dx : Addr} {fs : List (Str × V)} {n : Str} {y : V} (hx : H x = some (.ins C dx fs)) (cl : Cls K C) (na : NoAttr K C n) (hl : fs.length < 1000) (hp : nmsOk n (fs.map (·.1)) = true) (k : ∀ G, Ch x H G → G x = some (.ins C dx (fs ++ [(n, y)])) → N G) :
    ∃ (a C' dx' : Addr) (fs' : List (Str × V)), V.ref x = .ref a ∧ H a = some (.ins C' dx' fs') ∧ Cls K C' ∧ NoAttr K C' n ∧ fs'.length < 1000 ∧ N (upd H a (.ins C' dx' (putF n y fs'))) :=
  ⟨x, C, dx, fs, rfl, hx, cl, na, hl, k _ Ch.upd (upd_same.trans (congrArg some (congrArg (HO.ins C dx) (put_snoc fs hp))))⟩
theorem upd_none {H : Hp} {a b : Addr} {o : HO} (h : upd H a o b = none) : b ≠ a ∧ H b = none := by
  have hne : b ≠ a := fun z => by rw [z, upd_same] at h; cases h
  exact ⟨hne, by rw [upd_ne hne] at h; exact h⟩
section
variable {P : Program} {w : World} {K : PySem.W.Frag} {mg : Str → Option Value} {base : Heap} {f : Addr} {fd : FuncData}
theorem ok_lfb {CF CL aB : Addr} (F : L2.Fun K "_find_blocks" "Layout._find_blocks" sLFb f fd) (b : Binds K fd PLFb []) (FC : FormC K CF) (LC : LayC K CL) (gEn : mg "enumerate" = none) (gBl : mg "BLOCKS" = some (.ref aB)) (hB : ∀ H, SqT K H aB [.str "if", .str "while", .str "repeat"]) : FnR P w K mg base CX0 1 f (spLFb K CF CL) := by
  refine fnR_of F b scLFb (fun vs H Q E h => ?_) (fun cdv A outer s H vs Q E hr h => ?_)
  · obtain ⟨_, _, _, _, _, _, rfl, _⟩ := h
    rfl
  · have sc := scLFb
    obtain ⟨x, t, d1, d2, d3, fs, rfl, ⟨dx, h1, ⟨us, hl, hp, hu, hof⟩, h3, h4, h5⟩, n12, n13, n23, hgood, q⟩ := h
    refine ⟨_, (pss_cons (ps_set (i := 1) sc.nd rfl (Or.inl rfl) (pe_lst pa_nil)) (pss_one (ps_for PassesOwn.never rfl (pi_enT (by rfl) gEn (pa_cons (pe_fld (pv 0) rfl) pa_nil)) (pg_tup rfl (pgs_cons (pg_name (i := 2) sc.nd rfl (Or.inl rfl)) (pgs_cons (pg_name (i := 3) sc.nd rfl (Or.inl rfl)) pgs_nil))) (pss_one (ps_if (pt_cmpR op_in_seq (pe_fld (pv 3) rfl) (pe_glob (v := .ref aB) rfl gBl rfl) rfl) (pss_one (ps_expr (pe_bm PySem.F.plainAttrs_list PySem.F.slot_list_append PySem.F.type_list_append mt_append (pv 1) (pa_cons (pv 2) pa_nil)))) (pss_one (ps_if (pt_cmpR op_eq (pe_fld (pv 3) rfl) pe_str (nomark _)) (pss_cons (ps_dput (hu_of hr) (pe_fld (pv 0) rfl) (pv 2) (pe_ix ix_list (pv 1) (pe_un un_neg pe_int) (fun _ _ => rfl)) rfl) (pss_one (ps_dput (hu_of hr) (pe_fld (pv 0) rfl) (pe_ix ix_list (pv 1) (pe_un un_neg pe_int) (fun _ _ => rfl)) (pv 2) rfl))) (pss_one (ps_if (pt_cmpR op_eq (pe_fld (pv 3) rfl) pe_str (nomark _)) (pss_cons (ps_dput (hu_of hr) (pe_fld (pv 0) rfl) (pv 2) (pe_ix ix_list (pv 1) (pe_un un_neg pe_int) (fun _ _ => rfl)) rfl) (pss_one (ps_dput (hu_of hr) (pe_fld (pv 0) rfl) (pe_bm0 PySem.F.plainAttrs_list PySem.F.slot_list_pop PySem.F.type_list_pop mt_pop (pv 1)) (pv 2) rfl))) pss_nil))))))))), ?_⟩
    have hlen := paired_len hp
    refine ⟨(by show 0 ≤ 2 ^ 24; decide), fun N nN => ?_⟩
    have s0 : Same H (upd H N (.lst [])) := Same.new nN
    have N1 : N ≠ d1 := (ne_of_none h3 nN).symm
    have N2 : N ≠ d2 := (ne_of_none h4 nN).symm
    have N3 : N ≠ d3 := (ne_of_none h5 nN).symm
    have x1 : x ≠ d1 := fun z => by rw [z, h3] at h1; cases h1
    have x2 : x ≠ d2 := fun z => by rw [z, h4] at h1; cases h1
    have x3 : x ≠ d3 := fun z => by rw [z, h5] at h1; cases h1
    have hseq : ∀ G, Keep3 d1 d2 d3 H G → SqT K G t us := fun G hk => by
      rcases hl with (e | ⟨o, e⟩) | e
      · exact .inl (.inl (hk _ _ (fun z => by rw [z, h3] at e; cases e) (fun z => by rw [z, h4] at e; cases e) (fun z => by rw [z, h5] at e; cases e) e))
      · exact .inl (.inr ⟨o, hk _ _ (fun z => by rw [z, h3] at e; cases e) (fun z => by rw [z, h4] at e; cases e) (fun z => by rw [z, h5] at e; cases e) e⟩)
      · exact .inr e
    refine ⟨_, rfl, x, CL, dx, _, _, rfl, s0 _ _ h1, LC.cl, LC.nF, rfl, t, us, rfl, SqT.same hl s0, ?_⟩
    refine for_enT (xs := us) (fun i σ G => Keep3 d1 d2 d3 H G ∧ ∃ (op : List Nat) (kv1 kv2 kv3 : List (Key × V)) (bs : List Mi.Bk) (o1 o2 : Option V), σ = [some (.ref x), some (.ref N), o1, o2] ∧ G N = some (.lst (op.map fun n : Nat => V.int (n : Int))) ∧ op.length ≤ i ∧ G d1 = some (.dK kv1) ∧ G d2 = some (.dK kv2) ∧ G d3 = some (.dK kv3) ∧ kv1.length ≤ i ∧ kv2.length ≤ i ∧ kv3.length ≤ i ∧ op.length = bs.length ∧ Mi.Good bs (fs.drop i) ∧ PInv fs i op kv1 kv2 kv3) ?_ (fun i σ G _ h => hseq G h.1) ?_ ?_
    · refine ⟨fun a o _ _ _ e => s0 _ _ e, [], [], [], [], [], _, _, rfl, upd_same, Nat.le_refl _, s0 _ _ h3, s0 _ _ h4, s0 _ _ h5, Nat.le_refl _, Nat.le_refl _, Nat.le_refl _, rfl, hgood, ⟨(fun o ho => by cases ho), (fun j g hj => absurd hj (Nat.not_lt_zero _)), (fun j v hv => by cases hv), (fun j v hv => by cases hv)⟩⟩
    · rintro i u σ G T hu2 ⟨hk, op, kv1, kv2, kv3, bs, o1, o2, rfl, hN, hol, e1, e2, e3, l1, l2, l3, hob, hg, hi⟩ nT
      obtain ⟨fm, hfm, a, dxx, sA, uA, vs, rfl, g1, g2, g3, g4⟩ := paired_get hp i u hu2
      have sT : Same G (upd G T (.tup [.int i, .ref a])) := Same.new nT
      have il : i < us.length := (List.getElem?_eq_some_iff.mp hu2).1
      have dr : fs.drop i = fm :: fs.drop (i + 1) := by
        obtain ⟨hlt, e⟩ := List.getElem?_eq_some_iff.mp hfm
        rw [List.drop_eq_getElem_cons hlt, e]
      rw [dr] at hg
      obtain ⟨hne, hg2⟩ := hg
      have ga : (upd G T (.tup [.int i, .ref a])) a = some (.ins CF dxx [("kind", .str (pkTxt fm.kind)), ("slots", .ref sA), ("found", .ref uA)]) := sT _ _ (hk _ _ (fun z => by rw [z, h3] at g1; cases g1) (fun z => by rw [z, h4] at g1; cases g1) (fun z => by rw [z, h5] at g1; cases g1) g1)
      have gx : (upd G T (.tup [.int i, .ref a])) x = _ := sT _ _ (hk _ _ x1 x2 x3 h1)
      have hkT : Keep3 d1 d2 d3 H (upd G T (.tup [.int i, .ref a])) := fun b o z1 z2 z3 e => sT _ _ (hk _ _ z1 z2 z3 e)
      replace hN := sT _ _ hN
      replace e1 := sT _ _ e1
      replace e2 := sT _ _ e2
      replace e3 := sT _ _ e3
      refine ⟨T, _, rfl, .inl (.inl upd_same), rfl, _, _, rfl, _, _, rfl, rfl, ?_⟩
      generalize upd G T (.tup [.int i, .ref a]) = G1 at *
      have lt1 : ∀ {n : Nat}, n ≤ i → n < sizeLine := fun {n} h => Nat.lt_of_le_of_lt (show n ≤ 1000 by omega) (by show 1000 < 2 ^ 24; decide)
      have i1 : inV (.str (pkTxt fm.kind)) [.str "if", .str "while", .str "repeat"] = decide (fm.kind = .ifk ∨ fm.kind = .whilek ∨ fm.kind = .repeatk) := by cases fm.kind <;> decide +kernel
      refine ⟨_, rfl, a, CF, dxx, _, _, rfl, ga, FC.cl, FC.nK, rfl, aB, _, rfl, .inr (hB _), rfl, rfl, _, rfl, ?_⟩
      show if inV (.str (pkTxt fm.kind)) [.str "if", .str "while", .str "repeat"] = true then _ else _
      rw [i1]
      by_cases c1 : fm.kind = .ifk ∨ fm.kind = .whilek ∨ fm.kind = .repeatk
      · rw [decide_eq_true c1]
        refine iteT ⟨_, rfl, .inl ⟨rfl, _, SqL.of hN⟩, _, rfl, N, _, _, rfl, rfl, hN, lt1 (by rw [List.length_map]; exact hol), ?_⟩
        refine ⟨fun b o z1 z2 z3 e => (upd_ne (ne_of_none e nN)).trans (hkT _ _ z1 z2 z3 e), op ++ [i], kv1, kv2, kv3, Mi.change bs fm.kind, _, _, rfl, ?_, ?_, (upd_ne (Ne.symm N1)).trans e1, (upd_ne (Ne.symm N2)).trans e2, (upd_ne (Ne.symm N3)).trans e3, by omega, by omega, by omega, ?_, hg2, ?_⟩
        · rw [upd_same, List.map_append]
          rfl
        · rw [List.length_append]
          exact Nat.succ_le_succ hol
        · rcases c1 with z | z | z <;> (rw [z]; show (op ++ [i]).length = (bs ++ [_]).length; rw [List.length_append, List.length_append, hob]; rfl)
        · refine hi.skip hfm ?_ _ (fun o ho => List.mem_append_left _ ho) fun o ho => ?_
          · rintro (z | z) <;> (rw [z] at c1; rcases c1 with z | z | z <;> cases z)
          · rcases List.mem_append.mp ho with ho | ho
            · exact Nat.lt_succ_of_lt (hi.lo o ho)
            · rw [List.mem_singleton.mp ho]
              exact Nat.lt_succ_self _
      · rw [decide_eq_false c1]
        refine iteF ⟨_, rfl, a, CF, dxx, _, _, rfl, ga, FC.cl, FC.nK, rfl, rfl, _, rfl, ?_⟩
        rw [decS]
        have lastN : bs ≠ [] → ∃ l o, op = l ++ [o] := fun hb => by
          have : op ≠ [] := fun z => hb (List.eq_nil_of_length_eq_zero (by rw [← hob, z]; rfl))
          exact ⟨op.dropLast, op.getLast this, (List.dropLast_concat_getLast this).symm⟩
        by_cases c2 : fm.kind = .elsek
        · rw [decide_eq_true (show pkTxt fm.kind = "else" by rw [c2]; rfl)]
          obtain ⟨l, o, rfl⟩ := lastN (hne (.inl c2))
          have hN' := hN
          rw [List.map_append] at hN'
          refine iteT ⟨_, rfl, 1, rfl, N, _, -1, .int o, rfl, rfl, SqL.of hN', atI_last _ _, _, rfl, x, CL, dx, _, _, rfl, gx, LC.cl, LC.nO, rfl, _, rfl, d1, _, rfl, .inl ⟨kv1, .inl (i : Int), e1, rfl, lt1 l1, rfl⟩, ?_⟩
          refine ⟨_, rfl, _, rfl, x, CL, dx, _, _, rfl, (upd_ne x1).trans gx, LC.cl, LC.nL, rfl, _, rfl, 1, rfl, N, _, -1, .int o, rfl, rfl, SqL.of ((upd_ne N1).trans hN'), atI_last _ _, d2, _, rfl, .inl ⟨kv2, .inl (o : Int), (upd_ne (Ne.symm n12)).trans e2, rfl, lt1 l2, rfl⟩, ?_⟩
          refine ⟨fun b o z1 z2 z3 e => (upd_ne z2).trans ((upd_ne z1).trans (hkT _ _ z1 z2 z3 e)), l ++ [o], _, _, kv3, Mi.change bs fm.kind, _, _, rfl, (upd_ne N2).trans ((upd_ne N1).trans hN), Nat.le_succ_of_le hol, (upd_ne n12).trans upd_same, upd_same, (upd_ne (Ne.symm n23)).trans ((upd_ne (Ne.symm n13)).trans e3), ?_, ?_, Nat.le_succ_of_le l3, ?_, hg2, hi.els⟩
          · have := length_putK kv1 (.inl (i : Int)) (V.int (o : Int))
            omega
          · have := length_putK kv2 (.inl (o : Int)) (V.int (i : Int))
            omega
          · rw [c2]
            have hpos : 0 < bs.length := by rw [← hob, List.length_append]; exact Nat.succ_pos _
            rw [hob]
            show bs.length = (bs.dropLast ++ [_]).length
            rw [List.length_append, List.length_dropLast]
            show bs.length = bs.length - 1 + 1
            omega
        · rw [decide_eq_false (show ¬ pkTxt fm.kind = "else" from fun z => c2 (pk_inj (b := .elsek) z))]
          refine iteF ⟨_, rfl, a, CF, dxx, _, _, rfl, ga, FC.cl, FC.nK, rfl, rfl, _, rfl, ?_⟩
          rw [decS]
          by_cases c3 : fm.kind = .endk
          · rw [decide_eq_true (show pkTxt fm.kind = "end" by rw [c3]; rfl)]
            obtain ⟨l, o, rfl⟩ := lastN (hne (.inr c3))
            have hN' := hN
            rw [List.map_append] at hN'
            refine iteT ⟨_, rfl, 1, rfl, N, _, -1, .int o, rfl, rfl, SqL.of hN', atI_last _ _, _, rfl, x, CL, dx, _, _, rfl, gx, LC.cl, LC.nO, rfl, _, rfl, d1, _, rfl, .inl ⟨kv1, .inl (i : Int), e1, rfl, lt1 l1, rfl⟩, ?_⟩
            refine ⟨_, rfl, _, rfl, x, CL, dx, _, _, rfl, (upd_ne x1).trans gx, LC.cl, LC.nE, rfl, _, rfl, .inl ⟨rfl, _, SqL.of ((upd_ne N1).trans hN')⟩, N, _, .int o, rfl, rfl, (upd_ne N1).trans hN', ?_, d3, _, rfl, .inl ⟨kv3, .inl (o : Int), (upd_ne (Ne.symm N3)).trans ((upd_ne (Ne.symm n13)).trans e3), rfl, lt1 l3, rfl⟩, ?_⟩
            · rw [List.length_append]
              show (l.map (fun n : Nat => V.int (n : Int)) ++ [V.int o])[(l.map (fun n : Nat => V.int (n : Int))).length + 1 - 1]? = _
              rw [Nat.add_sub_cancel, List.getElem?_append_right (Nat.le_refl _), Nat.sub_self]
              rfl
            · refine ⟨fun b o z1 z2 z3 e => (upd_ne z3).trans ((upd_ne (ne_of_none e nN)).trans ((upd_ne z1).trans (hkT _ _ z1 z2 z3 e))), l, _, kv2, _, Mi.change bs fm.kind, _, _, rfl, (upd_ne N3).trans (upd_same.trans ?_), ?_, (upd_ne n13).trans ((upd_ne (Ne.symm N1)).trans upd_same), (upd_ne n23).trans ((upd_ne (Ne.symm N2)).trans ((upd_ne (Ne.symm n12)).trans e2)), upd_same, ?_, Nat.le_succ_of_le l2, ?_, ?_, hg2, hi.end_⟩
              · rw [show [o].map (fun n : Nat => V.int (n : Int)) = [V.int (o : Int)] from rfl, List.dropLast_concat]
              · rw [List.length_append] at hol
                exact Nat.le_trans (Nat.le_succ _) (Nat.le_succ_of_le hol)
              · have := length_putK kv1 (.inl (i : Int)) (V.int (o : Int))
                omega
              · have := length_putK kv3 (.inl (o : Int)) (V.int (i : Int))
                omega
              · rw [c3]
                show _ = bs.dropLast.length
                rw [List.length_dropLast, ← hob, List.length_append]
                rfl
          · rw [decide_eq_false (show ¬ pkTxt fm.kind = "end" from fun z => c3 (pk_inj (b := .endk) z))]
            refine iteF ⟨hkT, op, kv1, kv2, kv3, Mi.change bs fm.kind, _, _, rfl, hN, Nat.le_succ_of_le hol, e1, e2, e3, Nat.le_succ_of_le l1, Nat.le_succ_of_le l2, Nat.le_succ_of_le l3, ?_, hg2, hi.skip hfm (fun z => z.elim c2 c3) _ (fun o ho => ho) fun o ho => Nat.lt_succ_of_lt (hi.lo o ho)⟩
            have hc : Mi.change bs fm.kind = bs := by
              generalize fm.kind = k at *
              cases k <;> first | rfl | exact absurd (.inl rfl) c1 | exact absurd (.inr (.inl rfl)) c1 | exact absurd (.inr (.inr rfl)) c1 | exact absurd rfl c2 | exact absurd rfl c3
            rw [hc]
            exact hob
    · rintro σ G ⟨hk, op, kv1, kv2, kv3, bs, o1, o2, rfl, hN, hol, e1, e2, e3, l1, l2, l3, hob, hg, hi⟩
      have e0 : fs.drop us.length = [] := by rw [← hlen, List.drop_length]
      rw [e0] at hg
      have hbs : bs = [] := hg
      have hop : op = [] := List.eq_nil_of_length_eq_zero (by rw [hob, hbs]; rfl)
      refine q kv1 kv2 kv3 _ hk e1 e2 e3 ⟨fun j g hj hgk => ?_, hi.en, hi.el⟩
      have jl : j < us.length := by have := (List.getElem?_eq_some_iff.mp hj).1; omega
      obtain ⟨o, z1, z2, z3⟩ := hi.op j g jl hj hgk
      rcases z3 with z3 | ⟨e, y1, y2, y3⟩
      · rw [hop] at z3; cases z3
      · exact ⟨o, e, z1, by omega, y1, y2, by omega⟩
theorem ok_linit {CF CL : Addr} (F : L2.Fun K "__init__" "Layout.__init__" sLInit f fd) (b : Binds K fd PLInit []) (LC : LayC K CL) (mFb : MetF P w K mg base 1 CL "_find_blocks" (spLFb K CF CL)) : FnR P w K mg base CX0 2 f (spLInit K CF CL) := by
  refine fnR_of F b scLInit (fun vs H Q E h => ?_) (fun cdv A outer s H vs Q E hr h => ?_)
  · obtain ⟨_, _, _, _, _, rfl, _⟩ := h
    rfl
  · have sc := scLInit
    obtain ⟨H0, x, dx, t, fs, rfl, hx, n0, s0, ht, hg, q⟩ := h
    refine ⟨_, (pss_cons (ps_fld (pv 0) (pv 1) rfl) (pss_cons (ps_fld (pv 0) pe_dnewK rfl) (pss_cons (ps_fld (pv 0) pe_dnewK rfl) (pss_cons (ps_fld (pv 0) pe_dnewK rfl) (pss_one (ps_expr (pe_mt0 mFb hr (by omega) (pv 0)))))))), ?_⟩
    refine ⟨_, rfl, _, rfl, fld_k hx LC.cl LC.nF (by show 0 < 1000; decide) (nms_by (ns := []) rfl (by decide +kernel)) fun G1 c1 x1 => ?_⟩
    refine fun d1 nd1 => ?_
    have v1 : d1 ≠ x := fun z => by rw [z, x1] at nd1; cases nd1
    refine ⟨_, rfl, fld_k ((upd_ne (Ne.symm v1)).trans x1) LC.cl LC.nO (by show 1 < 1000; decide) (nms_by (ns := ["_forms"]) rfl (by decide +kernel)) fun G2 c2 x2 => ?_⟩
    have e1 : G2 d1 = some (.dK []) := c2 _ _ v1 upd_same
    have c12 : Ch x H G2 := fun b o n e => c2 _ _ n ((upd_ne (ne_of_none (c1 _ _ n e) nd1)).trans (c1 _ _ n e))
    refine fun d2 nd2 => ?_
    have v2 : d2 ≠ x := fun z => by rw [z, x2] at nd2; cases nd2
    have v12 : d1 ≠ d2 := fun z => by rw [← z, e1] at nd2; cases nd2
    refine ⟨_, rfl, fld_k ((upd_ne (Ne.symm v2)).trans x2) LC.cl LC.nL (by show 2 < 1000; decide) (nms_by (ns := ["_forms", "_openers"]) rfl (by decide +kernel)) fun G3 c3 x3 => ?_⟩
    have e2 : G3 d2 = some (.dK []) := c3 _ _ v2 upd_same
    have e1' : G3 d1 = some (.dK []) := c3 _ _ v1 ((upd_ne v12).trans e1)
    have c13 : Ch x H G3 := fun b o n e => c3 _ _ n ((upd_ne (ne_of_none (c12 _ _ n e) nd2)).trans (c12 _ _ n e))
    refine fun d3 nd3 => ?_
    have v3 : d3 ≠ x := fun z => by rw [z, x3] at nd3; cases nd3
    have v13 : d1 ≠ d3 := fun z => by rw [← z, e1'] at nd3; cases nd3
    have v23 : d2 ≠ d3 := fun z => by rw [← z, e2] at nd3; cases nd3
    refine ⟨_, rfl, fld_k ((upd_ne (Ne.symm v3)).trans x3) LC.cl LC.nE (by show 3 < 1000; decide) (nms_by (ns := ["_forms", "_openers", "_elses"]) rfl (by decide +kernel)) fun G4 c4 x4 => ?_⟩
    have e3 : G4 d3 = some (.dK []) := c4 _ _ v3 upd_same
    have e2' : G4 d2 = some (.dK []) := c4 _ _ v2 ((upd_ne v23).trans e2)
    have e1'' : G4 d1 = some (.dK []) := c4 _ _ v1 ((upd_ne v13).trans e1')
    have c14 : Ch x H G4 := fun b o n e => c4 _ _ n ((upd_ne (ne_of_none (c13 _ _ n e) nd3)).trans (c13 _ _ n e))
    have s04 : Same H0 G4 := fun b o e => c14 _ _ (ne_of_none e n0) (s0 _ _ e)
    refine ⟨_, rfl, x, dx, _, rfl, x4, rfl, x, t, d1, d2, d3, fs, rfl, ⟨dx, x4, ht.same s04, e1'', e2', e3⟩, v12, v13, v23, hg, fun kv1 kv2 kv3 G5 hk y1 y2 y3 hok => ?_⟩
    have notD : ∀ d : Addr, G4 d = some (.dK []) → d ≠ x → ∀ b, b ≠ x → ∀ o, H b = some o → b ≠ d → True := fun _ _ _ _ _ _ _ _ => trivial
    have nd : ∀ {b : Addr} {o : HO}, H b = some o → b ≠ x → b ≠ d1 ∧ b ≠ d2 ∧ b ≠ d3 := fun {b o} e n => ⟨ne_of_none (c1 _ _ n e) nd1, ne_of_none (c12 _ _ n e) nd2, ne_of_none (c13 _ _ n e) nd3⟩
    refine q d1 d2 d3 kv1 kv2 kv3 G5 (fun b o n e => ?_) (hk _ _ (Ne.symm v1) (Ne.symm v2) (Ne.symm v3) x4) y1 y2 y3 hok
    obtain ⟨m1, m2, m3⟩ := nd e n
    exact hk _ _ m1 m2 m3 (c14 _ _ n e)
end
end Ws

namespace Ws
open PySem PySem.Spec PyProof.Rows L2
noncomputable abbrev sPInit : Stmt := (inClass (PySem.Challenge.pw_whatspeed_k17_what_a_program_tells.main.body.getD 53 (.Pass ⟨0, 0, 0, 0⟩)) 0)
noncomputable abbrev NPInit : List Str := ["self", "forms", "layout", "form"]
noncomputable abbrev PPInit : List Str := ["self", "forms"]
theorem scPInit : FnScope NPInit PPInit (defScope sPInit) := ⟨rfl, rfl, rfl, by decide +kernel, rfl, by decide +kernel, by decide +kernel⟩
structure PlanC (K : PySem.W.Frag) (CP : Addr) : Prop where
  cl : Cls K CP
  n1 : NoAttr K CP "core_count"
  n2 : NoAttr K CP "slice_length"
  n3 : NoAttr K CP "lock_names"
  n4 : NoAttr K CP "lent_names"
  n5 : NoAttr K CP "queue_rooms"
  n6 : NoAttr K CP "cell_firsts"
  n7 : NoAttr K CP "task_plans"
  n8 : NoAttr K CP "statements"
noncomputable def spPInit (K : PySem.W.Frag) (CF CP : Addr) : Sp := fun vs H Q _ => ∃ (H0 : Hp) (x dx t : Addr) (fs : List Mi.Fm), vs = [.ref x, .ref t] ∧ H x = some (.ins CP dx []) ∧ H0 x = none ∧ Same H0 H ∧ FtAt K CF H0 t fs ∧ Mi.Good [] fs ∧ (∃ f0 f1 r, fs = f0 :: f1 :: r ∧ f0.kind = .cores ∧ f1.kind = .slice) ∧ ∀ H', Ch x H H' → Q .non H'
section
variable {P : Program} {w : World} {K : PySem.W.Frag} {mg : Str → Option Value} {base : Heap} {f : Addr} {fd : FuncData}
theorem ok_pinit {CF CL CP : Addr} (F : L2.Fun K "__init__" "Plan.__init__" sPInit f fd) (b : Binds K fd PPInit []) (FC : FormC K CF) (LC : LayC K CL) (PC : PlanC K CP) (gTu : mg "tuple" = none) (cDn : CalF P w K mg base 1 "declared_names" (spDeclN K CF)) (mLy : MakF P w K mg base 2 "Layout" CL (spLInit K CF CL)) (mFt : MetF P w K mg base 3 CL "find_tasks" (spLNo K CF CL)) (mFs : MetF P w K mg base 3 CL "find_statements" (spLNo K CF CL)) : FnR P w K mg base CX0 4 f (spPInit K CF CP) := by
  refine fnR_of F b scPInit (fun vs H Q E h => ?_) (fun cdv A outer s H vs Q E hr h => ?_)
  · obtain ⟨_, _, _, _, _, rfl, _⟩ := h
    rfl
  · have sc := scPInit
    obtain ⟨H0, x, dx, t, fs, rfl, hx, n0, s0, ht, hg, hd2, q⟩ := h
    refine ⟨_, (pss_cons (ps_set (i := 2) sc.nd rfl (Or.inl rfl) (pe_mk mLy hr (by omega) rfl (pa_cons (pv 1) pa_nil))) (pss_cons (ps_fld (pv 0) (pe_ix ix_tup (pe_fld (pe_ix ix_tup (pv 1) pe_int (fun _ _ => rfl)) rfl) pe_int (fun _ _ => rfl)) rfl) (pss_cons (ps_fld (pv 0) (pe_ix ix_tup (pe_fld (pe_ix ix_tup (pv 1) pe_int (fun _ _ => rfl)) rfl) pe_int (fun _ _ => rfl)) rfl) (pss_cons (ps_fld (pv 0) (pe_f cDn hr (by omega) rfl (pa_cons (pv 1) (pa_cons pe_str pa_nil))) rfl) (pss_cons (ps_fld (pv 0) (pe_callTy call_tuple_of (by rfl) gTu (by decide +kernel) (pa_cons (pe_lc (own := [("form", 3)]) rfl sc.nd (pi_tup (pv 1)) (blkOk_by (N := NPInit) (sc := defScope sPInit) (by decide +kernel)) (fun _ _ _ _ _ => by exact (pg_name (i := 3) sc.nd rfl (Or.inl rfl))) (fun _ _ _ _ _ => by exact (pts_one (pt_cmpR op_eq (pe_fldK (K := K) rfl rfl (pv 3)) pe_str (nomark _)))) (fun _ _ _ _ _ => by exact (pe_ix (ix_tupK (K := K) rfl) (pe_fldK (K := K) rfl rfl (pv 3)) pe_int (fun _ _ => rfl)))) pa_nil)) rfl) (pss_cons (ps_fld (pv 0) (pe_callTy call_tuple_of (by rfl) gTu (by decide +kernel) (pa_cons (pe_lc (own := [("form", 3)]) rfl sc.nd (pi_tup (pv 1)) (blkOk_by (N := NPInit) (sc := defScope sPInit) (by decide +kernel)) (fun _ _ _ _ _ => by exact (pg_name (i := 3) sc.nd rfl (Or.inl rfl))) (fun _ _ _ _ _ => by exact (pts_one (pt_cmpR op_eq (pe_fldK (K := K) rfl rfl (pv 3)) pe_str (nomark _)))) (fun _ _ _ _ _ => by exact (pe_slice (sl_tupK (K := K) rfl) (pe_fldK (K := K) rfl rfl (pv 3)) (po_some pe_int) po_none))) pa_nil)) rfl) (pss_cons (ps_fld (pv 0) (pe_callTy call_tuple_of (by rfl) gTu (by decide +kernel) (pa_cons (pe_lc (own := [("form", 3)]) rfl sc.nd (pi_tup (pv 1)) (blkOk_by (N := NPInit) (sc := defScope sPInit) (by decide +kernel)) (fun _ _ _ _ _ => by exact (pg_name (i := 3) sc.nd rfl (Or.inl rfl))) (fun _ _ _ _ _ => by exact (pts_one (pt_cmpR op_eq (pe_fldK (K := K) rfl rfl (pv 3)) pe_str (nomark _)))) (fun _ _ _ _ _ => by exact (pe_slice (sl_tupK (K := K) rfl) (pe_fldK (K := K) rfl rfl (pv 3)) (po_some pe_int) po_none))) pa_nil)) rfl) (pss_cons (ps_fld (pv 0) (pe_mt0 mFt hr (by omega) (pv 2)) rfl) (pss_one (ps_fld (pv 0) (pe_mt0 mFs hr (by omega) (pv 2)) rfl)))))))))), ?_⟩
    obtain ⟨f0, f1, r, hfs, hk0, hk1⟩ := hd2
    have ht0 := ht
    obtain ⟨us, hl, hp, hu, hof⟩ := ht
    have hlen := paired_len hp
    have get : ∀ (i : Nat) (fm : Mi.Fm), fs[i]? = some fm → fm.kind ≠ .elsek → fm.kind ≠ .endk → ∃ (a da sA uA : Addr) (vs : List V) (v : V), us[i]? = some (.ref a) ∧ H0 a = some (.ins CF da [("kind", .str (pkTxt fm.kind)), ("slots", .ref sA), ("found", .ref uA)]) ∧ H0 uA = some (.tup vs) ∧ vs[1]? = some v := fun i fm hi z1 z2 => by
      have il : i < us.length := by have := (List.getElem?_eq_some_iff.mp hi).1; omega
      obtain ⟨u, hu1⟩ : ∃ u, us[i]? = some u := ⟨_, List.getElem?_eq_getElem il⟩
      obtain ⟨fm2, hfm, a, da, sA, uA, vs, rfl, g1, g2, g3, g4⟩ := paired_get hp i u hu1
      cases hi.symm.trans hfm
      have l2 : 2 ≤ vs.length := by rw [← paired_len g4]; exact (hof fm (List.mem_of_getElem? hi)).len2 z1 z2
      exact ⟨a, da, sA, uA, vs, vs[1], hu1, g1, g3, List.getElem?_eq_getElem (by omega)⟩
    obtain ⟨a0, da0, sA0, uA0, vs0, w0, z01, z02, z03, z04⟩ := get 0 f0 (by rw [hfs]; rfl) (by rw [hk0]; simp) (by rw [hk0]; simp)
    obtain ⟨a1, da1, sA1, uA1, vs1, w1, z11, z12, z13, z14⟩ := get 1 f1 (by rw [hfs]; rfl) (by rw [hk1]; simp) (by rw [hk1]; simp)
    have lt1 : ∀ {n m : Nat}, n ≤ m → m ≤ 1000 → n < sizeLine := fun h1 h2 => Nat.lt_of_le_of_lt (Nat.le_trans h1 h2) (by show 1000 < 2 ^ 24; decide)
    refine ⟨_, rfl, fun y dy ny ndy hne => ?_⟩
    refine ⟨H, y, dy, t, fs, rfl, upd_same, ny, fun b o e => by rw [upd_ne (ne_of_none e ny), upd_ne (ne_of_none e ndy)]; exact e, ht0.same s0, hg, fun d1 d2 d3 kv1 kv2 kv3 H1 c1 y1 e1 e2 e3 hok => ⟨rfl, ?_⟩⟩
    have s1 : Same H H1 := fun b o e => c1 _ _ (ne_of_none e ny) (by rw [upd_ne (ne_of_none e ny), upd_ne (ne_of_none e ndy)]; exact e)
    have yx : y ≠ x := fun z => (ne_of_none hx ny) z.symm
    have st : ∀ {G G' : Hp} {l l' : List (Str × V)}, (Same H0 G ∧ G x = some (.ins CP dx l) ∧ LyAt K CF CL G y t d1 d2 d3 fs kv1 kv2 kv3 ∧ Ch x H G) → Ch x G G' → G' x = some (.ins CP dx l') → (Same H0 G' ∧ G' x = some (.ins CP dx l') ∧ LyAt K CF CL G' y t d1 d2 d3 fs kv1 kv2 kv3 ∧ Ch x H G') := fun {G G' l l'} ⟨h1, h2, ⟨dd, j1, j2, j3, j4, j5⟩, h4⟩ c e => by
      have sG : Same H0 G' := fun b o e => c _ _ (ne_of_none e n0) (h1 _ _ e)
      have nD : ∀ {d : Addr} {kv : List (Key × V)}, G d = some (.dK kv) → d ≠ x := fun hd z => by rw [z, h2] at hd; cases hd
      exact ⟨sG, e, ⟨dd, c _ _ yx j1, ht0.same sG, c _ _ (nD j3) j3, c _ _ (nD j4) j4, c _ _ (nD j5) j5⟩, fun b o n e => c _ _ n (h4 _ _ n e)⟩
    have sm : ∀ {G G' : Hp} {l : List (Str × V)}, (Same H0 G ∧ G x = some (.ins CP dx l) ∧ LyAt K CF CL G y t d1 d2 d3 fs kv1 kv2 kv3 ∧ Ch x H G) → Same G G' → (Same H0 G' ∧ G' x = some (.ins CP dx l) ∧ LyAt K CF CL G' y t d1 d2 d3 fs kv1 kv2 kv3 ∧ Ch x H G') := fun ⟨h1, h2, h3, h4⟩ s => ⟨h1.trans s, s _ _ h2, h3.same s, fun b o n e => s _ _ (h4 _ _ n e)⟩
    have p1 : Same H0 H1 ∧ H1 x = some (.ins CP dx []) ∧ LyAt K CF CL H1 y t d1 d2 d3 fs kv1 kv2 kv3 ∧ Ch x H H1 := ⟨s0.trans s1, s1 _ _ hx, ⟨dy, y1, ht0.same (s0.trans s1), e1, e2, e3⟩, fun b o _ e => s1 _ _ e⟩
    refine ⟨_, rfl, t, us, 0, .ref a0, rfl, rfl, SqT.same hl p1.1, atI_nat (j := 0) z01, a0, CF, da0, _, _, rfl, p1.1 _ _ z02, FC.cl, FC.nF, rfl, uA0, vs0, 1, w0, rfl, rfl, SqT.of (p1.1 _ _ z03), atI_nat (j := 1) z04, _, rfl, fld_k p1.2.1 PC.cl PC.n1 (by show 0 < 1000; decide) (nms_by (ns := []) rfl (by decide +kernel)) fun G2 c2 x2 => ?_⟩
    have p2 := st p1 c2 x2
    refine ⟨_, rfl, t, us, 1, .ref a1, rfl, rfl, SqT.same hl p2.1, atI_nat (j := 1) z11, a1, CF, da1, _, _, rfl, p2.1 _ _ z12, FC.cl, FC.nF, rfl, uA1, vs1, 1, w1, rfl, rfl, SqT.of (p2.1 _ _ z13), atI_nat (j := 1) z14, _, rfl, fld_k p2.2.1 PC.cl PC.n2 (by show 1 < 1000; decide) (nms_by (ns := ["core_count"]) rfl (by decide +kernel)) fun G3 c3 x3 => ?_⟩
    have p3 := st p2 c3 x3
    refine ⟨_, rfl, t, .lock, fs, rfl, ⟨us, .inr (SqT.same hl p3.1), paired_imp (fun _ _ => FmAt.same p3.1) hp, hu, hof⟩, fun tt G4' nt s4 ht4 => ?_⟩
    have q4 := sm p3 s4
    refine ⟨_, rfl, fld_k q4.2.1 PC.cl PC.n3 (by show 2 < 1000; decide) (nms_by (ns := ["core_count", "slice_length"]) rfl (by decide +kernel)) fun G4 c4 x4 => ?_⟩
    have p4 := st q4 c4 x4
    refine ⟨_, rfl, t, rfl, ⟨us, SqT.same hl p4.1⟩, fun D nD => ?_⟩
    refine lc_tup (xs := us) (fun i G => Same G4 G ∧ ∃ acc : List V, G D = some (.lst acc) ∧ acc.length ≤ i) ?_ (fun i G _ h => SqT.same hl (p4.1.trans h.1)) ?_ ?_
    · exact ⟨Same.new nD, [], upd_same, Nat.le_refl _⟩
    · rintro i z G hz ⟨sG, acc, hA, hal⟩
      obtain ⟨fm, hfm, hfu⟩ := paired_get hp i z hz
      obtain ⟨a, dxx, sA, uA, vs, rfl, g1, g2, g3, g4⟩ := hfu
      have sg := p4.1.trans sG
      have il : i < us.length := (List.getElem?_eq_some_iff.mp hz).1
      refine ⟨rfl, _, rfl, a, CF, dxx, _, _, rfl, sg _ _ g1, FC.cl, FC.nK, rfl, rfl, _, rfl, ?_⟩
      rw [decS]
      by_cases hk : pkTxt fm.kind = "lent"
      · have hk2 : fm.kind = .lent := pk_inj (b := .lent) hk
        have l2 : 2 ≤ vs.length := by rw [← paired_len g4]; exact (hof fm (List.mem_of_getElem? hfm)).len2 (by rw [hk2]; simp) (by rw [hk2]; simp)
        obtain ⟨v, ev⟩ : ∃ v, vs[1]? = some v := ⟨_, List.getElem?_eq_getElem (by omega)⟩
        rw [decide_eq_true hk]
        refine ifT rfl ⟨_, rfl, a, CF, dxx, _, _, rfl, sg _ _ g1, FC.cl, FC.nF, rfl, uA, vs, 1, v, rfl, rfl, SqT.of (sg _ _ g3), atI_nat (j := 1) ev, acc, hA, lt1 hal (by omega), fun b o e => (upd_ne (ne_of_none e nD)).trans (sG _ _ e), _, upd_same, ?_⟩
        rw [List.length_append]
        exact Nat.succ_le_succ hal
      · rw [decide_eq_false hk]
        exact ifF rfl ⟨sG, acc, hA, Nat.le_succ_of_le hal⟩
    rintro G ⟨sG, acc, hA, _⟩
    refine ⟨D, _, rfl, .inl ⟨SqL.of hA, fun l nl => ?_⟩⟩
    have q5 := sm p4 (sG.trans (Same.new (o := .tup acc) nl))
    refine ⟨_, rfl, fld_k q5.2.1 PC.cl PC.n4 (by show 3 < 1000; decide) (nms_by (ns := ["core_count", "slice_length", "lock_names"]) rfl (by decide +kernel)) fun G5 c5 x5 => ?_⟩
    clear hA sG
    have p5 := st q5 c5 x5
    clear q5
    refine ⟨_, rfl, t, rfl, ⟨us, SqT.same hl p5.1⟩, fun D nD => ?_⟩
    refine lc_tup (xs := us) (fun i G => Same G5 G ∧ ∃ acc : List V, G D = some (.lst acc) ∧ acc.length ≤ i) ?_ (fun i G _ h => SqT.same hl (p5.1.trans h.1)) ?_ ?_
    · exact ⟨Same.new nD, [], upd_same, Nat.le_refl _⟩
    · rintro i z G hz ⟨sG, acc, hA, hal⟩
      obtain ⟨fm, hfm, hfu⟩ := paired_get hp i z hz
      obtain ⟨a, dxx, sA, uA, vs, rfl, g1, g2, g3, g4⟩ := hfu
      have sg := p5.1.trans sG
      have il : i < us.length := (List.getElem?_eq_some_iff.mp hz).1
      refine ⟨rfl, _, rfl, a, CF, dxx, _, _, rfl, sg _ _ g1, FC.cl, FC.nK, rfl, rfl, _, rfl, ?_⟩
      rw [decS]
      by_cases hk : pkTxt fm.kind = "queue"
      · have hk2 : fm.kind = .queue := pk_inj (b := .queue) hk
        have l2 : 2 ≤ vs.length := by rw [← paired_len g4]; exact (hof fm (List.mem_of_getElem? hfm)).len2 (by rw [hk2]; simp) (by rw [hk2]; simp)
        obtain ⟨v, ev⟩ : ∃ v, vs[1]? = some v := ⟨_, List.getElem?_eq_getElem (by omega)⟩
        rw [decide_eq_true hk]
        refine ifT rfl ⟨_, rfl, a, CF, dxx, _, _, rfl, sg _ _ g1, FC.cl, FC.nF, rfl, _, rfl, uA, vs, rfl, SqT.of (sg _ _ g3), (fun z => by have z1 := z.1; rw [show (some (1 : Int)) = some ((1 : Nat) : Int) from rfl, HT.sIx_nat] at z1; omega), fun p np => ?_⟩
        have sp' := Same.new (o := .tup (cutV vs (some 1) none)) np
        refine ⟨acc, sp' _ _ hA, lt1 hal (by omega), fun b o e => (upd_ne (ne_of_none e nD)).trans (sp' _ _ (sG _ _ e)), _, upd_same, ?_⟩
        rw [List.length_append]
        exact Nat.succ_le_succ hal
      · rw [decide_eq_false hk]
        exact ifF rfl ⟨sG, acc, hA, Nat.le_succ_of_le hal⟩
    rintro G ⟨sG, acc, hA, _⟩
    refine ⟨D, _, rfl, .inl ⟨SqL.of hA, fun l nl => ?_⟩⟩
    have q6 := sm p5 (sG.trans (Same.new (o := .tup acc) nl))
    refine ⟨_, rfl, fld_k q6.2.1 PC.cl PC.n5 (by show 4 < 1000; decide) (nms_by (ns := ["core_count", "slice_length", "lock_names", "lent_names"]) rfl (by decide +kernel)) fun G6 c6 x6 => ?_⟩
    clear hA sG
    have p6 := st q6 c6 x6
    clear q6
    refine ⟨_, rfl, t, rfl, ⟨us, SqT.same hl p6.1⟩, fun D nD => ?_⟩
    refine lc_tup (xs := us) (fun i G => Same G6 G ∧ ∃ acc : List V, G D = some (.lst acc) ∧ acc.length ≤ i) ?_ (fun i G _ h => SqT.same hl (p6.1.trans h.1)) ?_ ?_
    · exact ⟨Same.new nD, [], upd_same, Nat.le_refl _⟩
    · rintro i z G hz ⟨sG, acc, hA, hal⟩
      obtain ⟨fm, hfm, hfu⟩ := paired_get hp i z hz
      obtain ⟨a, dxx, sA, uA, vs, rfl, g1, g2, g3, g4⟩ := hfu
      have sg := p6.1.trans sG
      have il : i < us.length := (List.getElem?_eq_some_iff.mp hz).1
      refine ⟨rfl, _, rfl, a, CF, dxx, _, _, rfl, sg _ _ g1, FC.cl, FC.nK, rfl, rfl, _, rfl, ?_⟩
      rw [decS]
      by_cases hk : pkTxt fm.kind = "cell"
      · have hk2 : fm.kind = .cell := pk_inj (b := .cell) hk
        have l2 : 2 ≤ vs.length := by rw [← paired_len g4]; exact (hof fm (List.mem_of_getElem? hfm)).len2 (by rw [hk2]; simp) (by rw [hk2]; simp)
        obtain ⟨v, ev⟩ : ∃ v, vs[1]? = some v := ⟨_, List.getElem?_eq_getElem (by omega)⟩
        rw [decide_eq_true hk]
        refine ifT rfl ⟨_, rfl, a, CF, dxx, _, _, rfl, sg _ _ g1, FC.cl, FC.nF, rfl, _, rfl, uA, vs, rfl, SqT.of (sg _ _ g3), (fun z => by have z1 := z.1; rw [show (some (1 : Int)) = some ((1 : Nat) : Int) from rfl, HT.sIx_nat] at z1; omega), fun p np => ?_⟩
        have sp' := Same.new (o := .tup (cutV vs (some 1) none)) np
        refine ⟨acc, sp' _ _ hA, lt1 hal (by omega), fun b o e => (upd_ne (ne_of_none e nD)).trans (sp' _ _ (sG _ _ e)), _, upd_same, ?_⟩
        rw [List.length_append]
        exact Nat.succ_le_succ hal
      · rw [decide_eq_false hk]
        exact ifF rfl ⟨sG, acc, hA, Nat.le_succ_of_le hal⟩
    rintro G ⟨sG, acc, hA, _⟩
    refine ⟨D, _, rfl, .inl ⟨SqL.of hA, fun l nl => ?_⟩⟩
    have q7 := sm p6 (sG.trans (Same.new (o := .tup acc) nl))
    refine ⟨_, rfl, fld_k q7.2.1 PC.cl PC.n6 (by show 5 < 1000; decide) (nms_by (ns := ["core_count", "slice_length", "lock_names", "lent_names", "queue_rooms"]) rfl (by decide +kernel)) fun G7 c7 x7 => ?_⟩
    clear hA sG
    have p7 := st q7 c7 x7
    clear q7
    obtain ⟨dd, j1, _⟩ := p7.2.2.1
    refine ⟨_, rfl, y, dd, _, rfl, j1, rfl, y, t, d1, d2, d3, fs, kv1, kv2, kv3, rfl, p7.2.2.1, hok, fun v8 G8' s8 => ?_⟩
    have q8 := sm p7 s8
    refine ⟨_, rfl, fld_k q8.2.1 PC.cl PC.n7 (by show 6 < 1000; decide) (nms_by (ns := ["core_count", "slice_length", "lock_names", "lent_names", "queue_rooms", "cell_firsts"]) rfl (by decide +kernel)) fun G8 c8 x8 => ?_⟩
    have p8 := st q8 c8 x8
    obtain ⟨dd8, j18, _⟩ := p8.2.2.1
    refine ⟨_, rfl, y, dd8, _, rfl, j18, rfl, y, t, d1, d2, d3, fs, kv1, kv2, kv3, rfl, p8.2.2.1, hok, fun v9 G9' s9 => ?_⟩
    have q9 := sm p8 s9
    refine ⟨_, rfl, fld_k q9.2.1 PC.cl PC.n8 (by show 7 < 1000; decide) (nms_by (ns := ["core_count", "slice_length", "lock_names", "lent_names", "queue_rooms", "cell_firsts", "task_plans"]) rfl (by decide +kernel)) fun G9 c9 x9 => ?_⟩
    exact q _ (st q9 c9 x9).2.2.2
end
end Ws

namespace Ws
open PySem PySem.Spec PyProof.Rows L2
noncomputable abbrev sGInit : Stmt := (inClass (PySem.Challenge.pw_whatspeed_k17_what_a_program_tells.main.body.getD 56 (.Pass ⟨0, 0, 0, 0⟩)) 0)
noncomputable abbrev NGInit : List Str := ["self", "text", "lines", "forms"]
noncomputable abbrev PGInit : List Str := ["self", "text"]
theorem scGInit : FnScope NGInit PGInit (defScope sGInit) := ⟨rfl, rfl, rfl, by decide +kernel, rfl, by decide +kernel, by decide +kernel⟩
structure ProgC (K : PySem.W.Frag) (CG : Addr) : Prop where
  cl : Cls K CG
  n1 : NoAttr K CG "_text"
  n2 : NoAttr K CG "_lines"
  n3 : NoAttr K CG "_parts"
  n4 : NoAttr K CG "_tasks"
  n5 : NoAttr K CG "_plan"
noncomputable def dueOf (x : Str) : Mi.Due := Mi.dueP ((Txt.split x "\n").map wdsL)
noncomputable def spGInit (K : PySem.W.Frag) (CG Cb Cd Cu : Addr) : Sp := fun vs H Q E => ∃ (x dx : Addr) (tx : Str), vs = [.ref x, .str tx] ∧ H x = some (.ins CG dx []) ∧ tx.length + 2 ≤ sizeLine ∧
  (∀ n, dueOf tx = .bad n → RaisesL Cb H (n : Nat) E) ∧ (∀ n, dueOf tx = .doubled n → RaisesL Cd H (n : Nat) E) ∧ (∀ n, dueOf tx = .unnamed n → RaisesL Cu H (n : Nat) E) ∧ (dueOf tx = .fine → ∀ H', Ch x H H' → Q .non H')
section
variable {H H' : Hp} {p C dx : Addr}
theorem TrAt.chi (c : Ch p H H') (e : H p = Option.some (HO.ins C dx [])) : ∀ {t : Mi.Tr} {v : V}, TrAt H t v → TrAt H' t v
  | .num i, _, h => h
  | .var x, _, h => h
  | .bin x l r, v, h => by
    obtain ⟨a, vl, vr, rfl, ha, hl, hr⟩ := h
    exact ⟨a, vl, vr, rfl, c _ _ (fun z => by rw [z, e] at ha; cases ha) ha, TrAt.chi c e hl, TrAt.chi c e hr⟩
theorem FdAt.chi (c : Ch p H H') (e : H p = Option.some (HO.ins C dx [])) : ∀ {f : Mi.Fd} {v : V}, FdAt H f v → FdAt H' f v
  | .w _, _, h => h
  | .i _, _, h => h
  | .t _, _, h => TrAt.chi c e h
theorem FmAt.chi {K : PySem.W.Frag} {CF : Addr} (c : Ch p H H') (e : H p = Option.some (HO.ins C dx [])) {f : Mi.Fm} {v : V} (h : FmAt K CF H f v) : FmAt K CF H' f v := by
  obtain ⟨a, dx2, t, u, vs, e2, h1, h2, h3, h4⟩ := h
  exact ⟨a, dx2, t, u, vs, e2, c _ _ (fun z => by rw [z, e] at h1; cases h1) h1, h2, c _ _ (fun z => by rw [z, e] at h3; cases h3) h3, paired_imp (fun _ _ => FdAt.chi c e) h4⟩
theorem SqL.chi {K : PySem.W.Frag} {a : Addr} {xs : List V} (c : Ch p H H') (e : H p = Option.some (HO.ins C dx [])) (h : SqL K H a xs) : SqL K H' a xs := by
  rcases h with (h | ⟨o, h⟩) | h
  · exact .inl (.inl (c _ _ (fun z => by rw [z, e] at h; cases h) h))
  · exact .inl (.inr ⟨o, c _ _ (fun z => by rw [z, e] at h; cases h) h⟩)
  · exact .inr h
theorem SqT.chi {K : PySem.W.Frag} {a : Addr} {xs : List V} (c : Ch p H H') (e : H p = Option.some (HO.ins C dx [])) (h : SqT K H a xs) : SqT K H' a xs := by
  rcases h with (h | ⟨o, h⟩) | h
  · exact .inl (.inl (c _ _ (fun z => by rw [z, e] at h; cases h) h))
  · exact .inl (.inr ⟨o, c _ _ (fun z => by rw [z, e] at h; cases h) h⟩)
  · exact .inr h
theorem FtAt.chi {K : PySem.W.Frag} {CF l : Addr} {fs : List Mi.Fm} (c : Ch p H H') (e : H p = Option.some (HO.ins C dx [])) (h : FtAt K CF H l fs) : FtAt K CF H' l fs := by
  obtain ⟨us, h1, h2, h3, h4⟩ := h
  exact ⟨us, SqT.chi c e h1, paired_imp (fun _ _ => FmAt.chi c e) h2, h3, h4⟩
theorem FtAt.fms {K : PySem.W.Frag} {CF l : Addr} {fs : List Mi.Fm} (h : FtAt K CF H l fs) : FmsAt K CF H l fs := by
  obtain ⟨us, h1, h2, h3, h4⟩ := h
  exact ⟨us, .inr h1, h2, h3, h4⟩
end
section
variable {P : Program} {w : World} {K : PySem.W.Frag} {mg : Str → Option Value} {base : Heap} {f : Addr} {fd : FuncData}
theorem ok_ginit {CF CG CP Cb Cd Cu : Addr} (F : L2.Fun K "__init__" "Program.__init__" sGInit f fd) (b : Binds K fd PGInit []) (B : Bi mg) (GC : ProgC K CG) (gSt : mg "str" = none) (gTu : mg "tuple" = none) (eB : ErrOk P w K mg base "BadProgram" Cb) (cRf : CalE P w K mg base (L2.CX P w) 172 "read_forms" (spRFms K CF Cb)) (cDb : CalE P w K mg base (L2.CX P w) 3 "check_doubled" (spCDbl K CF Cd)) (cNm : CalE P w K mg base (L2.CX P w) 168 "check_named" (spCNam K CF Cu)) (cDn : CalF P w K mg base 1 "declared_names" (spDeclN K CF)) (mPl : MakF P w K mg base 4 "Plan" CP (spPInit K CF CP)) : FnR P w K mg base (L2.CX P w) 173 f (spGInit K CG Cb Cd Cu) := by
  refine fnE_of F b scGInit (fun vs H Q E h => ?_) (fun cdv A outer s H vs Q E hr h => ?_)
  · obtain ⟨_, _, _, rfl, _⟩ := h
    rfl
  · have sc := scGInit
    obtain ⟨x, dx, tx, rfl, hx, hz, k1, k2, k3, k4⟩ := h
    refine ⟨_, (pss_cons (ps_if (pt_not (pt_val (pe_callB (show CallR _ (.builtin "isinstance") (rIsi K) from call_isi) (by rfl) B.isinstance (by decide +kernel) (pa_cons (pv 1) (pa_cons (pe_bltn (v := .ty "str") (by rfl) gSt (by decide +kernel) rfl) pa_nil))))) (pss_one (ps_raise rfl (takes_of rfl rfl rfl rfl) (pmk_e eB hr (by omega) rfl (pa_cons pe_int pa_nil)))) pss_nil) (pss_cons (ps_set (i := 2) sc.nd rfl (Or.inl rfl) (pe_split (pv 1) pe_str)) (pss_cons (ps_set (i := 3) sc.nd rfl (Or.inl rfl) (pe_fS cRf hr (by omega) (fun σ => passAt (takes_of rfl rfl rfl rfl) σ) rfl (pa_cons (pv 2) pa_nil))) (pss_cons (ps_expr (pe_fS cDb hr (by omega) (fun σ => passAt (takes_of rfl rfl rfl rfl) σ) rfl (pa_cons (pv 3) pa_nil))) (pss_cons (ps_expr (pe_fS cNm hr (by omega) (fun σ => passAt (takes_of rfl rfl rfl rfl) σ) rfl (pa_cons (pv 3) pa_nil))) (pss_cons (ps_fld (pv 0) (pv 1) rfl) (pss_cons (ps_fld (pv 0) (pe_callTy call_tuple_of (by rfl) gTu (by decide +kernel) (pa_cons (pv 2) pa_nil)) rfl) (pss_cons (ps_fld (pv 0) (pe_f cDn hr (by omega) rfl (pa_cons (pv 3) (pa_cons pe_str pa_nil))) rfl) (pss_cons (ps_fld (pv 0) (pe_f cDn hr (by omega) rfl (pa_cons (pv 3) (pa_cons pe_str pa_nil))) rfl) (pss_one (ps_fld (pv 0) (pe_mk mPl hr (by omega) rfl (pa_cons (pv 3) pa_nil)) rfl))))))))))), ?_⟩
    refine ⟨_, rfl, _, _, _, _, true, rfl, .ty _, .base (.str tx), kit_ty (by decide +kernel), true, rfl, iteF ?_⟩
    refine ⟨_, rfl, ⟨tx, rfl⟩, tx, _, rfl, rfl, by decide +kernel, hz, fun l nl => ?_⟩
    have s1 : Same H (upd H l (.lst ((Txt.split tx "\n").map V.str))) := Same.new nl
    have hrow : ∀ z ∈ Txt.split tx "\n", z.length + 2 ≤ sizeLine := fun z hz2 => by
      have := split_len tx "\n" z hz2
      omega
    have hl1 : Wds K (upd H l (.lst ((Txt.split tx "\n").map V.str))) l (Txt.split tx "\n") := .inl (.inl upd_same)
    generalize upd H l (.lst ((Txt.split tx "\n").map V.str)) = H1 at *
    have hdue : dueOf tx = match Mi.readAll [] [] ((Txt.split tx "\n").map wdsL) with
      | .error n => .bad n
      | .ok fs => match Mi.doubledP 0 [] fs with
        | some n => .doubled n
        | none => match Mi.unnamedP (Mi.kindsP fs) 0 fs with
          | some n => .unnamed n
          | none => .fine := rfl
    refine ⟨_, rfl, l, _, rfl, hl1, hrow, fun n hn => ?_, fun fs hfs t us H2 s2 ht hp hu hof => ?_⟩
    · refine (k1 n ?_).same s1
      rw [hdue, hn]
    rw [hfs] at hdue
    dsimp only at hdue
    have hF : FtAt K CF H2 t fs := ⟨us, SqT.of ht, hp, hu, hof⟩
    have s02 := s1.trans s2
    refine ⟨_, rfl, t, fs, rfl, hF, fun n hn => ?_, fun hn H3 s3 => ?_⟩
    · refine (k2 n ?_).same s02
      rw [hdue, hn]
    rw [hn] at hdue
    dsimp only at hdue
    have s03 := s02.trans s3
    refine ⟨_, rfl, t, fs, rfl, hF.same s3, fun n hn => ?_, fun hn H4 s4 => ?_⟩
    · refine (k3 n ?_).same s03
      rw [hdue, hn]
    rw [hn] at hdue
    dsimp only at hdue
    have s04 := s03.trans s4
    have hF4 := (hF.same s3).same s4
    have k5 := k4 hdue
    have tx0 : t ≠ x := fun z => by
      have h1 := s02 _ _ hx
      rw [← z, ht] at h1
      cases h1
    have hFx : ∀ {G : Hp}, Same H4 G → FtAt K CF G t fs := fun s => hF4.same s
    -- what stays while x is filled
    refine ⟨_, rfl, _, rfl, fld_k (s04 _ _ hx) GC.cl GC.n1 (by show 0 < 1000; decide) (nms_by (ns := []) rfl (by decide +kernel)) fun G1 c1 x1 => ?_⟩
    have xH : H4 x = some (.ins CG dx []) := s04 _ _ hx
    have d1 : Ch x H4 G1 := c1
    obtain ⟨r, hfr, hgood⟩ := Mi.good_of _ hfs
    have hgood' : Mi.Good [] fs := by rw [hfr]; exact hgood
    refine ⟨_, rfl, l, _, rfl, .inl ⟨SqL.chi d1 xH (Wds.same hl1 ((s2.trans s3).trans s4)), fun r1 nr1 => ?_⟩⟩
    have x1' := (Same.new (o := .tup ((Txt.split tx "\n").map V.str)) nr1) _ _ x1
    refine ⟨_, rfl, fld_k x1' GC.cl GC.n2 (by show 1 < 1000; decide) (nms_by (ns := ["_text"]) rfl (by decide +kernel)) fun G2 c2 x2 => ?_⟩
    have d2 : Ch x H4 G2 := (d1.trans (Ch.of (Same.new nr1))).trans c2
    refine ⟨_, rfl, t, .part, fs, rfl, (FtAt.chi d2 xH hF4).fms, fun t3 G3' nt3 s3' ht3 => ?_⟩
    refine ⟨_, rfl, fld_k (s3' _ _ x2) GC.cl GC.n3 (by show 2 < 1000; decide) (nms_by (ns := ["_text", "_lines"]) rfl (by decide +kernel)) fun G3 c3 x3 => ?_⟩
    have d3 : Ch x H4 G3 := (d2.trans (Ch.of s3')).trans c3
    refine ⟨_, rfl, t, .task, fs, rfl, (FtAt.chi d3 xH hF4).fms, fun t4 G4' nt4 s4' ht4 => ?_⟩
    refine ⟨_, rfl, fld_k (s4' _ _ x3) GC.cl GC.n4 (by show 3 < 1000; decide) (nms_by (ns := ["_text", "_lines", "_parts"]) rfl (by decide +kernel)) fun G4 c4 x4 => ?_⟩
    have d4 : Ch x H4 G4 := (d3.trans (Ch.of s4')).trans c4
    refine ⟨_, rfl, fun y dy ny ndy hne => ?_⟩
    refine ⟨G4, y, dy, t, fs, rfl, upd_same, ny, fun b o e => by rw [upd_ne (ne_of_none e ny), upd_ne (ne_of_none e ndy)]; exact e, FtAt.chi d4 xH hF4, hgood', Mi.head2 hfs, fun G5 c5 => ⟨rfl, ?_⟩⟩
    have s5 : Same G4 G5 := fun b o e => c5 _ _ (ne_of_none e ny) (by rw [upd_ne (ne_of_none e ny), upd_ne (ne_of_none e ndy)]; exact e)
    refine ⟨_, rfl, fld_k (s5 _ _ x4) GC.cl GC.n5 (by show 4 < 1000; decide) (nms_by (ns := ["_text", "_lines", "_parts", "_tasks"]) rfl (by decide +kernel)) fun G6 c6 x6 => ?_⟩
    exact k5 _ ((((Ch.of s04).trans d4).trans (Ch.of s5)).trans c6)
end
end Ws

namespace Ws
open PySem PySem.Spec PyProof.Rows L2
/-! ### data of any nesting, dicts among it, apart from the object at p -/
noncomputable def kD : Key → PyData
  | .inl i => .int i
  | .inr x => .str x
mutual
inductive Da (p : Addr) (H : Hp) : V → PyData → Prop
  | non : Da p H .non .none
  | bl (b : Bool) : Da p H (.bl b) (.bool b)
  | int (i : Int) : Da p H (.int i) (.int i)
  | str (x : Str) : Da p H (.str x) (.str x)
  | lst {a : Addr} {xs : List V} {ds : List PyData} : H a = some (.lst xs) → a ≠ p → a ≠ sysModules → DaAll p H xs ds → Da p H (.ref a) (.list ds)
  | tup {a : Addr} {xs : List V} {ds : List PyData} : H a = some (.tup xs) → a ≠ p → DaAll p H xs ds → Da p H (.ref a) (.tuple ds)
  | dct {a : Addr} {kvs : List (Key × V)} {ds : List PyData} : H a = some (.dK kvs) → a ≠ p → DaAll p H (kvs.map (·.2)) ds → Da p H (.ref a) (.dict ((kvs.map fun e => kD e.1).zip ds))
inductive DaAll (p : Addr) (H : Hp) : List V → List PyData → Prop
  | nil : DaAll p H [] []
  | cons {v : V} {vs : List V} {d : PyData} {ds : List PyData} : Da p H v d → DaAll p H vs ds → DaAll p H (v :: vs) (d :: ds)
end
theorem DaAll.len {p : Addr} {H : Hp} : ∀ {vs : List V} {ds : List PyData}, DaAll p H vs ds → vs.length = ds.length
  | _, _, .nil => rfl
  | _, _, .cons _ t => congrArg (· + 1) t.len
mutual
theorem Da.ch {p : Addr} {H H' : Hp} (c : Ch p H H') : ∀ {v : V} {d : PyData}, Da p H v d → Da p H' v d
  | _, _, .non => .non
  | _, _, .bl b => .bl b
  | _, _, .int i => .int i
  | _, _, .str x => .str x
  | _, _, .lst e n s t => .lst (c _ _ n e) n s (DaAll.ch c t)
  | _, _, .tup e n t => .tup (c _ _ n e) n (DaAll.ch c t)
  | _, _, .dct e n t => .dct (c _ _ n e) n (DaAll.ch c t)
theorem DaAll.ch {p : Addr} {H H' : Hp} (c : Ch p H H') : ∀ {vs : List V} {ds : List PyData}, DaAll p H vs ds → DaAll p H' vs ds
  | _, _, .nil => .nil
  | _, _, .cons h t => .cons (Da.ch c h) (DaAll.ch c t)
end
theorem Da.same {p : Addr} {H H' : Hp} (s : Same H H') {v : V} {d : PyData} (h : Da p H v d) : Da p H' v d := h.ch (Ch.of s)
section
variable {X : Cx} {pins : List (Addr × Obj)} {σ : L2.St} {H : Hp} {s : Shared} {p : Addr}
theorem pairs_reads {P : Program} {w : World} {h : Heap} : ∀ {es : List DictEntry} {kvs : List (Key × V)} {vs : List (Key × Value)}, PySem.Pairs (mixKind P w) es vs → KV kvs vs → ReadsAll h (es.map (·.key)) (kvs.map fun e => kD e.1) [] ∧ Vals (kvs.map (·.2)) (es.map (·.val))
  | [], _, _, .nil, .nil => ⟨.nil, .nil⟩
  | e :: es, _, _, .cons hk hv t, .cons r q => by
    obtain ⟨h1, h2⟩ := pairs_reads (h := h) t q
    refine ⟨?_, .cons (by show L2.RelV _ e.val; rw [hv]; exact r.2) h2⟩
    have hk' := hk
    rw [← r.1] at hk'
    rcases keyIs_shape (show keyIs _ e.key = true from hk') with ⟨i, tk, e1, e2⟩ | ⟨x, tk, e1, e2⟩
    · show ReadsAll h (e.key :: _) (kD _ :: _) []
      rw [e1, e2]
      exact ReadsAll.cons (as := []) (bs := []) (Reads.int i tk) h1
    · show ReadsAll h (e.key :: _) (kD _ :: _) []
      rw [e1, e2]
      exact ReadsAll.cons (as := []) (bs := []) (Reads.str x tk) h1
mutual
theorem Da.reads (I : Inv X pins σ H s) : ∀ {v : V} {d : PyData}, Da p H v d → ∀ u, RelV v u → ∃ as, Reads s.heap u d as ∧ sysModules ∉ as
  | _, _, .non, u, r => by
    cases (show u = Value.none from r)
    exact ⟨[], .none, by simp⟩
  | _, _, .bl b, u, r => by
    cases (show u = Value.bool b from r)
    exact ⟨[], .bool b, by simp⟩
  | _, _, .int i, u, r => by
    obtain ⟨t, e⟩ := (show ∃ t, u = Value.int i t from r)
    subst e
    exact ⟨[], .int i t, by simp⟩
  | _, _, .str x, u, r => by
    obtain ⟨t, e⟩ := (show ∃ t, u = Value.str x t from r)
    subst e
    exact ⟨[], .str x t, by simp⟩
  | _, _, .lst (a := a) e n z t, u, r => by
    cases (show u = Value.ref a from r)
    obtain ⟨_, its, k, rv, ho⟩ := (show ObjOk X.prog X.w H s.heap a (.lst _) from I.hok a _ e)
    obtain ⟨as, R, ns⟩ := DaAll.reads I t its rv
    exact ⟨_, .list ho rfl rfl (by simpa using R), by simp only [List.mem_cons, not_or]; exact ⟨fun q => z q.symm, ns⟩⟩
  | _, _, .tup (a := a) e n t, u, r => by
    cases (show u = Value.ref a from r)
    obtain ⟨_, its, rv, ob, ho, hc, k, hd⟩ := (show ObjOk X.prog X.w H s.heap a (.tup _) from I.hok a _ e)
    obtain ⟨as, R, ns⟩ := DaAll.reads I t its rv
    exact ⟨_, .tuple ho hc hd (by simpa using R), ns⟩
  | _, _, .dct (a := a) (kvs := kvs) (ds := ds) e n t, u, r => by
    cases (show u = Value.ref a from r)
    obtain ⟨_, hs, vs, rel, ob, es, ep, ho, hx, hd, _, hp, _⟩ := (show ObjOk X.prog X.w H s.heap a (.dK _) from I.hok a _ e)
    obtain ⟨h1, h2⟩ := pairs_reads (h := s.heap) hp rel
    obtain ⟨as, R, ns⟩ := DaAll.reads I t _ h2
    have hl : (kvs.map fun e => kD e.1).length = ds.length := by have := t.len; rw [List.length_map] at this ⊢; exact this
    refine ⟨[a] ++ [] ++ as, .dict (as := []) (bs := as) ho hx.1 hd ?_ ?_, ?_⟩
    · rw [List.map_fst_zip (Nat.le_of_eq hl)]
      exact h1
    · rw [List.map_snd_zip (Nat.le_of_eq hl.symm)]
      exact R
    · simp only [List.append_nil, List.cons_append, List.nil_append, List.mem_cons, not_or]
      exact ⟨fun q => by rw [q] at hs; simp at hs, ns⟩
theorem DaAll.reads (I : Inv X pins σ H s) : ∀ {vs : List V} {ds : List PyData}, DaAll p H vs ds → ∀ us, Vals vs us → ∃ as, ReadsAll s.heap us ds as ∧ sysModules ∉ as
  | _, _, .nil, _, .nil => ⟨[], .nil, by simp⟩
  | _, _, .cons h t, _, .cons r q => by
    obtain ⟨as, R, n1⟩ := Da.reads I h _ r
    obtain ⟨bs, T, n2⟩ := DaAll.reads I t _ q
    exact ⟨_, .cons R T, by simp only [List.mem_append, not_or]; exact ⟨n1, n2⟩⟩
end
end
/-- data that may be shown, at most n deep -/
structure Ok (n : Nat) (d : PyData) : Prop where
  sh : d.showable = true
  ls : d.leavesShort 1901 = true
  dp : d.depth ≤ n
  bk : d.bulk ≤ 40 * (n + 1)
structure OkA (n : Nat) (ds : List PyData) : Prop where
  sh : PyData.showableAll ds = true
  ls : PyData.leavesShortAll 1901 ds = true
  dp : PyData.depthAll ds ≤ n
theorem Ok.mono {n m : Nat} {d : PyData} (h : Ok n d) (l : n ≤ m) : Ok m d := ⟨h.sh, h.ls, Nat.le_trans h.dp l, Nat.le_trans h.bk (Nat.mul_le_mul_left _ (by omega))⟩
theorem ok_int {i : Int} (h : i.natAbs < 2 ^ 1800) : Ok 0 (.int i) := by
  have h' : i.natAbs.log2 < 1900 := Nat.lt_of_lt_of_le (PySem.Flt.log2_lt_of (by decide) h) (by decide)
  refine ⟨by simp only [PyData.showable, decide_eq_true_eq]; omega, ?_, Nat.le_refl _, Nat.zero_le _⟩
  show decide ((Str.ofString (toString i)).length ≤ 1901) = true
  rw [decide_eq_true_eq, PySem.ofString_length]
  exact int_text_length_le (by decide) h'
theorem ok_none : Ok 0 .none := ⟨rfl, rfl, Nat.le_refl _, Nat.zero_le _⟩
theorem ok_bool (b : Bool) : Ok 0 (.bool b) := ⟨rfl, rfl, Nat.le_refl _, Nat.zero_le _⟩
theorem ok_tup1 {n : Nat} {d : PyData} (h : Ok n d) : Ok (n + 1) (.tuple [d]) := by
  obtain ⟨h1, h2, h3, h4⟩ := h
  refine ⟨by simp only [PyData.showable, PyData.showableAll, h1, Bool.and_self], by simp only [PyData.leavesShort, PyData.leavesShortAll, h2, Bool.and_self], ?_, ?_⟩
  · simp only [PyData.depth, PyData.depthAll]; omega
  · simp only [PyData.bulk, PyData.bulkAll]; omega
theorem ok_lst1 {n : Nat} {d : PyData} (h : Ok n d) : Ok (n + 1) (.list [d]) := by
  obtain ⟨h1, h2, h3, h4⟩ := h
  refine ⟨by simp only [PyData.showable, PyData.showableAll, h1, Bool.and_self], by simp only [PyData.leavesShort, PyData.leavesShortAll, h2, Bool.and_self], ?_, ?_⟩
  · simp only [PyData.depth, PyData.depthAll]; omega
  · simp only [PyData.bulk, PyData.bulkAll]; omega
theorem ok_dct1 {n : Nat} {x : Str} {d : PyData} (hx : x.cps.toList.all (fun c => decide (c < 16 ^ 8)) = true) (hz : x.cps.size ≤ 20) (h : Ok n d) : Ok (n + 1) (.dict [(.str x, d)]) := by
  obtain ⟨h1, h2, h3, h4⟩ := h
  refine ⟨by simp only [PyData.showable, PyData.showableKv, h1, Bool.and_self], by simp only [PyData.leavesShort, PyData.leavesShortKv, h2, hx, Bool.and_self], ?_, ?_⟩
  · simp only [PyData.depth, PyData.depthKv]; omega
  · simp only [PyData.bulk, PyData.bulkKv]; omega
section
variable {X : Cx}
/-- repr(x) of data -/
noncomputable def rRepD : List V → Hp → VK → Prop := fun xs H Q => ∃ (a p : Addr) (d : PyData), xs = [V.ref a] ∧ Da p H (.ref a) d ∧ d.showable = true ∧ d.leavesShort 1901 = true ∧ d.bulk ≤ 8000 ∧ d.depth ≤ 60 ∧ Q (.str d.shown) H
theorem call_repD {j : Nat} (cl : X.A.guards = some []) (hr : Room j X.A) : CallR X (.builtin "repr") rRepD := by
  intro pins s σ H xs us Q I r h
  obtain ⟨a, p, d, rfl, da, sh, sl, bk, de, q⟩ := h
  obtain ⟨u, rfl, ru⟩ := vals1 r
  cases (show u = Value.ref a from ru)
  obtain ⟨as, rd, ns⟩ := Da.reads I da _ rfl
  have sz := PyData.shown_le_bulk 1901 (by decide) d sl
  have sz2 : d.shown.length ≤ sizeLine := by
    have : sizeLine = 16777216 := by decide
    have : (1901 + 2) * d.bulk ≤ 1903 * 8000 := Nat.mul_le_mul (by decide) bk
    omega
  refine repr_of_reads' rd sh (fun _ => ns) cl ?_ (fun _ _ e => e) (fun h' u tk hk => ⟨.str d.shown, H, I.kept hk, ⟨u, rfl⟩, q⟩) sz2
  have := hr.un
  omega
/-- a list display, its place told not to be that of sys.modules -/
noncomputable def tLstS (ta : TA) : TE := fun σ H Q => ta σ H fun xs H1 => xs.length ≤ sizeLine ∧ ∀ p, H1 p = none → p ≠ sysModules → Q (.ref p) (upd H1 p (.lst xs))
theorem pe_lstS {es : List Expr} {t : TA} {pos : Pos} (h : PA X es t) : PE X (.List es pos) (tLstS t) := ⟨fun pins s σ H Q I hq =>
  wpAny_List_spliced (thn (h.run pos pins s σ H _ I hq) fun us s1 ⟨xs, G, J, r, z, q⟩ => ⟨r.length ▸ z, ⟨.ref s1.heap.objs.size, upd G s1.heap.objs.size (.lst xs),
    J.laid (t' := s1.toks) (fun b u e => Heap.get?_push_of_some _ e) (Nat.le_refl _) ⟨z, us, 0, r, Heap.get?_push_size _ rfl⟩, rfl, q _ (J.hok.fresh (Nat.le_refl _)) (Nat.ne_of_gt J.big)⟩⟩)⟩
end
end Ws

namespace Ws
open PySem PySem.Spec PyProof.Rows L2
/-! ### data of any kind: its type, and how it is shown -/
noncomputable def tyD : PyData → String
  | .none => "NoneType"
  | .bool _ => "bool"
  | .int _ => "int"
  | .str _ => "str"
  | .list _ => "list"
  | .tuple _ => "tuple"
  | .dict _ => "dict"
noncomputable def isS : PyData → Bool
  | .str _ => true
  | _ => false
theorem Da.tyd {K : PySem.W.Frag} {p : Addr} {H : Hp} {v : V} {d : PyData} (h : Da p H v d) : TyX K H v (.type (tyD d)) := by
  cases h with
  | non => exact .base .non
  | bl b => exact .base (.bl b)
  | int i => exact .base (.int i)
  | str x => exact .base (.str x)
  | lst e _ _ _ => exact .base (.lst e)
  | tup e _ _ => exact .base (.tup e)
  | dct e _ _ => exact .base (.dK e)
theorem kit_noS {K : PySem.W.Frag} (d : PyData) (h : isS d = false) : PySem.W.kitOne K (.type (tyD d)) (.type "str") = some false := by
  cases d with
  | none => exact (show PySem.W.kitOne K (.type "NoneType") (.type "str") = some false from kit_ty (by decide +kernel))
  | bool x => exact (show PySem.W.kitOne K (.type "bool") (.type "str") = some false from kit_ty (by decide +kernel))
  | int i => exact (show PySem.W.kitOne K (.type "int") (.type "str") = some false from kit_ty (by decide +kernel))
  | str x => cases h
  | list x => exact (show PySem.W.kitOne K (.type "list") (.type "str") = some false from kit_ty (by decide +kernel))
  | tuple x => exact (show PySem.W.kitOne K (.type "tuple") (.type "str") = some false from kit_ty (by decide +kernel))
  | dict x => exact (show PySem.W.kitOne K (.type "dict") (.type "str") = some false from kit_ty (by decide +kernel))
theorem ok_text (x : Str) (hx : PyData.strOk x = true) (hz : x.length ≤ 1200) : Ok 30 (.str x) := by
  refine ⟨rfl, ?_, Nat.zero_le _, by exact Nat.le_trans hz (by decide)⟩
  show x.cps.toList.all (fun c => decide (c < 16 ^ 8)) = true
  unfold PyData.strOk at hx
  rw [List.all_eq_true]
  rw [Array.all_eq_true_iff_forall_mem] at hx
  intro c hc
  have := hx c (Array.mem_toList_iff.mp hc)
  simp only [decide_eq_true_eq] at this ⊢
  exact Nat.lt_of_lt_of_le this (by decide)
section
variable {X : Cx}
/-- repr(x) of data of any kind -/
noncomputable def rRepA : List V → Hp → VK → Prop := fun xs H Q => ∃ (v : V) (p : Addr) (d : PyData), xs = [v] ∧ Da p H v d ∧ Ok 30 d ∧ Q (.str d.shown) H
theorem call_repA {j : Nat} (cl : X.A.guards = some []) (hr : Room j X.A) : CallR X (.builtin "repr") rRepA := by
  intro pins s σ H xs us Q I r h
  obtain ⟨v, p, d, rfl, da, ok, q⟩ := h
  obtain ⟨sh, ls, dp, bk⟩ := id ok
  have D := da
  have ref : (∃ a, v = .ref a) → wpAny (model X.prog X.w) X.A (call (.builtin "repr") us) (EP X pins σ Q) X.xe s := by
    rintro ⟨a, rfl⟩
    exact call_repD cl hr pins s σ H _ us Q I r ⟨a, p, d, rfl, D, sh, ls, by omega, by omega, q⟩
  have sz := PyData.shown_le_bulk 1901 (by decide) d ls
  have sz2 : d.shown.length ≤ sizeLine := by
    have : sizeLine = 16777216 := by decide
    have : (1901 + 2) * d.bulk ≤ 1903 * 1240 := Nat.mul_le_mul (by decide) (by omega)
    omega
  obtain ⟨u, rfl, ru⟩ := vals1 r
  cases da with
  | non =>
    cases (show u = Value.none from ru)
    exact PySem.P.repr_of_none ⟨.str _, H, I.tok _, ⟨_, rfl⟩, q⟩
  | bl b =>
    cases (show u = Value.bool b from ru)
    exact PySem.P.repr_of_bool ⟨.str _, H, I.tok _, ⟨_, rfl⟩, q⟩
  | int i =>
    obtain ⟨t, rfl⟩ := (show ∃ t, u = Value.int i t from ru)
    exact PySem.P.repr_of_int (by simpa [PyData.showable] using sh) ⟨.str _, H, I.tok _, ⟨_, rfl⟩, q⟩
  | str x =>
    obtain ⟨t, rfl⟩ := (show ∃ t, u = Value.str x t from ru)
    exact PySem.P.repr_of_str ⟨.str _, H, I.tok _, ⟨_, rfl⟩, q⟩ sz2
  | lst _ _ _ _ => exact ref ⟨_, rfl⟩
  | tup _ _ _ => exact ref ⟨_, rfl⟩
  | dct _ _ _ => exact ref ⟨_, rfl⟩
end
/-- two promises of one def -/
theorem fnR_or {P : Program} {w : World} {K : PySem.W.Frag} {mg : Str → Option Value} {base : Heap} {CX : CXT} {k : Nat} {f : Addr} {sp1 sp2 sp : Sp} (h1 : FnR P w K mg base CX k f sp1) (h2 : FnR P w K mg base CX k f sp2) (h : ∀ vs H Q E, sp vs H Q E → sp1 vs H Q E ∨ sp2 vs H Q E) : FnR P w K mg base CX k f sp :=
  fun A outer s H us vs Q E hr e0 r q => (h vs H Q E q).elim (fun q => h1 A outer s H us vs Q E hr e0 r q) (fun q => h2 A outer s H us vs Q E hr e0 r q)
end Ws

namespace Ws
open PySem PySem.Spec PyProof.Rows L2
noncomputable abbrev sGTx : Stmt := (inClass (PySem.Challenge.pw_whatspeed_k17_what_a_program_tells.main.body.getD 56 (.Pass ⟨0, 0, 0, 0⟩)) 1)
noncomputable abbrev NGTx : List Str := ["self"]
noncomputable abbrev PGTx : List Str := ["self"]
theorem scGTx : FnScope NGTx PGTx (defScope sGTx) := ⟨rfl, rfl, rfl, by decide +kernel, rfl, by decide +kernel, by decide +kernel⟩
noncomputable abbrev sGLn : Stmt := (inClass (PySem.Challenge.pw_whatspeed_k17_what_a_program_tells.main.body.getD 56 (.Pass ⟨0, 0, 0, 0⟩)) 2)
noncomputable abbrev NGLn : List Str := ["self"]
noncomputable abbrev PGLn : List Str := ["self"]
theorem scGLn : FnScope NGLn PGLn (defScope sGLn) := ⟨rfl, rfl, rfl, by decide +kernel, rfl, by decide +kernel, by decide +kernel⟩
noncomputable abbrev sGPa : Stmt := (inClass (PySem.Challenge.pw_whatspeed_k17_what_a_program_tells.main.body.getD 56 (.Pass ⟨0, 0, 0, 0⟩)) 3)
noncomputable abbrev NGPa : List Str := ["self"]
noncomputable abbrev PGPa : List Str := ["self"]
theorem scGPa : FnScope NGPa PGPa (defScope sGPa) := ⟨rfl, rfl, rfl, by decide +kernel, rfl, by decide +kernel, by decide +kernel⟩
noncomputable abbrev sGTk : Stmt := (inClass (PySem.Challenge.pw_whatspeed_k17_what_a_program_tells.main.body.getD 56 (.Pass ⟨0, 0, 0, 0⟩)) 4)
noncomputable abbrev NGTk : List Str := ["self"]
noncomputable abbrev PGTk : List Str := ["self"]
theorem scGTk : FnScope NGTk PGTk (defScope sGTk) := ⟨rfl, rfl, rfl, by decide +kernel, rfl, by decide +kernel, by decide +kernel⟩
noncomputable abbrev sGEq : Stmt := (inClass (PySem.Challenge.pw_whatspeed_k17_what_a_program_tells.main.body.getD 56 (.Pass ⟨0, 0, 0, 0⟩)) 6)
noncomputable abbrev NGEq : List Str := ["self", "other"]
noncomputable abbrev PGEq : List Str := ["self", "other"]
theorem scGEq : FnScope NGEq PGEq (defScope sGEq) := ⟨rfl, rfl, rfl, by decide +kernel, rfl, by decide +kernel, by decide +kernel⟩
/-! ### what a Program tells -/
noncomputable def prgF (tx : Str) (l p t y : Addr) : List (Str × V) := [("_text", .str tx), ("_lines", .ref l), ("_parts", .ref p), ("_tasks", .ref t), ("_plan", .ref y)]
noncomputable def PrgAt (CG : Addr) (H : Hp) (x : Addr) (tx : Str) (ps ts : List Str) : Prop := ∃ dx l p t y : Addr, H x = some (.ins CG dx (prgF tx l p t y)) ∧ H l = some (.tup ((Txt.split tx "\n").map V.str)) ∧ H p = some (.tup (ps.map V.str)) ∧ H t = some (.tup (ts.map V.str))
noncomputable def spGInitF (K : PySem.W.Frag) (CG : Addr) : Sp := fun vs H Q _ => ∃ (x dx : Addr) (tx : Str), vs = [.ref x, .str tx] ∧ H x = some (.ins CG dx []) ∧ tx.length + 2 ≤ sizeLine ∧ dueOf tx = .fine ∧
  (∀ fs, Mi.readAll [] [] ((Txt.split tx "\n").map wdsL) = .ok fs → ∀ H', PrgAt CG H' x tx ((Mi.grp fs .part).map Mi.Fm.nm) ((Mi.grp fs .task).map Mi.Fm.nm) → Ch x H H' → Q .non H')
structure ProgT (K : PySem.W.Frag) (D : Addr) : Prop where
  ha : PySem.W.findIn K (.ref D) "__class__" = some (some (.builtin "object.__class__"))
  hn : PySem.W.specialIn K (.builtin "object.__class__") "__get__" = some (some (.builtin "getset_descriptor.__get__"))
  htk : PySem.W.takesIn K (.builtin "object.__class__") = some true
  hm : PySem.W.mroIn K D (.type "object") = some true
theorem ProgC.ty {K : PySem.W.Frag} {D : Addr} (c : ProgC K D) (t : ProgT K D) {H : Hp} {a dx : Addr} {fs : List (Str × V)} (e : H a = some (.ins D dx fs)) : TyX K H (.ref a) (.ref D) := .base (.ins e c.cl t.ha t.hn t.htk t.hm)
noncomputable def spGEq (K : PySem.W.Frag) (CG : Addr) : Sp := fun vs H Q _ => ∃ (a dx l pa t z : Addr) (tx : Str) (y : V), vs = [.ref a, y] ∧ H a = some (.ins CG dx (prgF tx l pa t z)) ∧
  ((∃ (c dx' l' pa' t' z' : Addr) (tx' : Str), y = .ref c ∧ H c = some (.ins CG dx' (prgF tx' l' pa' t' z')) ∧ Q (.bl (decide (V.str tx = V.str tx'))) H) ∨ (∃ ty : Value, TyX K H y ty ∧ PySem.W.kitOne K ty (.ref CG) = some false ∧ Q (.bl false) H))
section
variable {P : Program} {w : World} {K : PySem.W.Frag} {mg : Str → Option Value} {base : Heap} {f : Addr} {fd : FuncData}
theorem ok_ginitF {CF CG CP Cb Cd Cu : Addr} (F : L2.Fun K "__init__" "Program.__init__" sGInit f fd) (b : Binds K fd PGInit []) (B : Bi mg) (GC : ProgC K CG) (gSt : mg "str" = none) (gTu : mg "tuple" = none) (eB : ErrOk P w K mg base "BadProgram" Cb) (cRf : CalE P w K mg base (L2.CX P w) 172 "read_forms" (spRFms K CF Cb)) (cDb : CalE P w K mg base (L2.CX P w) 3 "check_doubled" (spCDbl K CF Cd)) (cNm : CalE P w K mg base (L2.CX P w) 168 "check_named" (spCNam K CF Cu)) (cDn : CalF P w K mg base 1 "declared_names" (spDeclN K CF)) (mPl : MakF P w K mg base 4 "Plan" CP (spPInit K CF CP)) : FnR P w K mg base (L2.CX P w) 173 f (spGInitF K CG) := by
  refine fnE_of F b scGInit (fun vs H Q E h => ?_) (fun cdv A outer s H vs Q E hr h => ?_)
  · obtain ⟨_, _, _, rfl, _⟩ := h
    rfl
  · have sc := scGInit
    obtain ⟨x, dx, tx, rfl, hx, hz, fine, k4⟩ := h
    have k1 : ∀ n, dueOf tx = .bad n → RaisesL Cb H (n : Nat) E := fun n e => by rw [fine] at e; cases e
    have k2 : ∀ n, dueOf tx = .doubled n → RaisesL Cd H (n : Nat) E := fun n e => by rw [fine] at e; cases e
    have k3 : ∀ n, dueOf tx = .unnamed n → RaisesL Cu H (n : Nat) E := fun n e => by rw [fine] at e; cases e
    refine ⟨_, (pss_cons (ps_if (pt_not (pt_val (pe_callB (show CallR _ (.builtin "isinstance") (rIsi K) from call_isi) (by rfl) B.isinstance (by decide +kernel) (pa_cons (pv 1) (pa_cons (pe_bltn (v := .ty "str") (by rfl) gSt (by decide +kernel) rfl) pa_nil))))) (pss_one (ps_raise rfl (takes_of rfl rfl rfl rfl) (pmk_e eB hr (by omega) rfl (pa_cons pe_int pa_nil)))) pss_nil) (pss_cons (ps_set (i := 2) sc.nd rfl (Or.inl rfl) (pe_split (pv 1) pe_str)) (pss_cons (ps_set (i := 3) sc.nd rfl (Or.inl rfl) (pe_fS cRf hr (by omega) (fun σ => passAt (takes_of rfl rfl rfl rfl) σ) rfl (pa_cons (pv 2) pa_nil))) (pss_cons (ps_expr (pe_fS cDb hr (by omega) (fun σ => passAt (takes_of rfl rfl rfl rfl) σ) rfl (pa_cons (pv 3) pa_nil))) (pss_cons (ps_expr (pe_fS cNm hr (by omega) (fun σ => passAt (takes_of rfl rfl rfl rfl) σ) rfl (pa_cons (pv 3) pa_nil))) (pss_cons (ps_fld (pv 0) (pv 1) rfl) (pss_cons (ps_fld (pv 0) (pe_callTy call_tuple_of (by rfl) gTu (by decide +kernel) (pa_cons (pv 2) pa_nil)) rfl) (pss_cons (ps_fld (pv 0) (pe_f cDn hr (by omega) rfl (pa_cons (pv 3) (pa_cons pe_str pa_nil))) rfl) (pss_cons (ps_fld (pv 0) (pe_f cDn hr (by omega) rfl (pa_cons (pv 3) (pa_cons pe_str pa_nil))) rfl) (pss_one (ps_fld (pv 0) (pe_mk mPl hr (by omega) rfl (pa_cons (pv 3) pa_nil)) rfl))))))))))), ?_⟩
    refine ⟨_, rfl, _, _, _, _, true, rfl, .ty _, .base (.str tx), kit_ty (by decide +kernel), true, rfl, iteF ?_⟩
    refine ⟨_, rfl, ⟨tx, rfl⟩, tx, _, rfl, rfl, by decide +kernel, hz, fun l nl => ?_⟩
    have s1 : Same H (upd H l (.lst ((Txt.split tx "\n").map V.str))) := Same.new nl
    have hrow : ∀ z ∈ Txt.split tx "\n", z.length + 2 ≤ sizeLine := fun z hz2 => by
      have := split_len tx "\n" z hz2
      omega
    have hl1 : Wds K (upd H l (.lst ((Txt.split tx "\n").map V.str))) l (Txt.split tx "\n") := .inl (.inl upd_same)
    generalize upd H l (.lst ((Txt.split tx "\n").map V.str)) = H1 at *
    have hdue : dueOf tx = match Mi.readAll [] [] ((Txt.split tx "\n").map wdsL) with
      | .error n => .bad n
      | .ok fs => match Mi.doubledP 0 [] fs with
        | some n => .doubled n
        | none => match Mi.unnamedP (Mi.kindsP fs) 0 fs with
          | some n => .unnamed n
          | none => .fine := rfl
    refine ⟨_, rfl, l, _, rfl, hl1, hrow, fun n hn => ?_, fun fs hfs t us H2 s2 ht hp hu hof => ?_⟩
    · refine (k1 n ?_).same s1
      rw [hdue, hn]
    rw [hfs] at hdue
    dsimp only at hdue
    have hF : FtAt K CF H2 t fs := ⟨us, SqT.of ht, hp, hu, hof⟩
    have s02 := s1.trans s2
    refine ⟨_, rfl, t, fs, rfl, hF, fun n hn => ?_, fun hn H3 s3 => ?_⟩
    · refine (k2 n ?_).same s02
      rw [hdue, hn]
    rw [hn] at hdue
    dsimp only at hdue
    have s03 := s02.trans s3
    refine ⟨_, rfl, t, fs, rfl, hF.same s3, fun n hn => ?_, fun hn H4 s4 => ?_⟩
    · refine (k3 n ?_).same s03
      rw [hdue, hn]
    rw [hn] at hdue
    dsimp only at hdue
    have s04 := s03.trans s4
    have hF4 := (hF.same s3).same s4
    have k5 := k4 fs hfs
    have tx0 : t ≠ x := fun z => by
      have h1 := s02 _ _ hx
      rw [← z, ht] at h1
      cases h1
    have hFx : ∀ {G : Hp}, Same H4 G → FtAt K CF G t fs := fun s => hF4.same s
    -- what stays while x is filled
    refine ⟨_, rfl, _, rfl, fld_k (s04 _ _ hx) GC.cl GC.n1 (by show 0 < 1000; decide) (nms_by (ns := []) rfl (by decide +kernel)) fun G1 c1 x1 => ?_⟩
    have xH : H4 x = some (.ins CG dx []) := s04 _ _ hx
    have d1 : Ch x H4 G1 := c1
    obtain ⟨r, hfr, hgood⟩ := Mi.good_of _ hfs
    have hgood' : Mi.Good [] fs := by rw [hfr]; exact hgood
    refine ⟨_, rfl, l, _, rfl, .inl ⟨SqL.chi d1 xH (Wds.same hl1 ((s2.trans s3).trans s4)), fun r1 nr1 => ?_⟩⟩
    have x1' := (Same.new (o := .tup ((Txt.split tx "\n").map V.str)) nr1) _ _ x1
    refine ⟨_, rfl, fld_k x1' GC.cl GC.n2 (by show 1 < 1000; decide) (nms_by (ns := ["_text"]) rfl (by decide +kernel)) fun G2 c2 x2 => ?_⟩
    have d2 : Ch x H4 G2 := (d1.trans (Ch.of (Same.new nr1))).trans c2
    refine ⟨_, rfl, t, .part, fs, rfl, (FtAt.chi d2 xH hF4).fms, fun t3 G3' nt3 s3' ht3 => ?_⟩
    refine ⟨_, rfl, fld_k (s3' _ _ x2) GC.cl GC.n3 (by show 2 < 1000; decide) (nms_by (ns := ["_text", "_lines"]) rfl (by decide +kernel)) fun G3 c3 x3 => ?_⟩
    have d3 : Ch x H4 G3 := (d2.trans (Ch.of s3')).trans c3
    refine ⟨_, rfl, t, .task, fs, rfl, (FtAt.chi d3 xH hF4).fms, fun t4 G4' nt4 s4' ht4 => ?_⟩
    refine ⟨_, rfl, fld_k (s4' _ _ x3) GC.cl GC.n4 (by show 3 < 1000; decide) (nms_by (ns := ["_text", "_lines", "_parts"]) rfl (by decide +kernel)) fun G4 c4 x4 => ?_⟩
    have d4 : Ch x H4 G4 := (d3.trans (Ch.of s4')).trans c4
    refine ⟨_, rfl, fun y dy ny ndy hne => ?_⟩
    refine ⟨G4, y, dy, t, fs, rfl, upd_same, ny, fun b o e => by rw [upd_ne (ne_of_none e ny), upd_ne (ne_of_none e ndy)]; exact e, FtAt.chi d4 xH hF4, hgood', Mi.head2 hfs, fun G5 c5 => ⟨rfl, ?_⟩⟩
    have s5 : Same G4 G5 := fun b o e => c5 _ _ (ne_of_none e ny) (by rw [upd_ne (ne_of_none e ny), upd_ne (ne_of_none e ndy)]; exact e)
    refine ⟨_, rfl, fld_k (s5 _ _ x4) GC.cl GC.n5 (by show 4 < 1000; decide) (nms_by (ns := ["_text", "_lines", "_parts", "_tasks"]) rfl (by decide +kernel)) fun G6 c6 x6 => ?_⟩
    have nr : r1 ≠ x := (ne_of_none x1 nr1).symm
    have n3 : t3 ≠ x := (ne_of_none x2 nt3).symm
    have n4 : t4 ≠ x := (ne_of_none x3 nt4).symm
    refine k5 _ ⟨dx, r1, t3, t4, y, x6, ?_, ?_, ?_⟩ ((((Ch.of s04).trans d4).trans (Ch.of s5)).trans c6)
    · exact c6 _ _ nr (s5 _ _ (c4 _ _ nr (s4' _ _ (c3 _ _ nr (s3' _ _ (c2 _ _ nr upd_same))))))
    · exact c6 _ _ n3 (s5 _ _ (c4 _ _ n3 (s4' _ _ (c3 _ _ n3 (ht3.trans (congrArg (fun z => some (HO.tup z)) (List.map_map (f := Mi.Fm.nm) (g := V.str) (l := Mi.grp fs .part)).symm))))))
    · exact c6 _ _ n4 (s5 _ _ (c4 _ _ n4 (ht4.trans (congrArg (fun z => some (HO.tup z)) (List.map_map (f := Mi.Fm.nm) (g := V.str) (l := Mi.grp fs .task)).symm))))
noncomputable def spGTx (K : PySem.W.Frag) (CG : Addr) : Sp := fun vs H Q _ => ∃ (x dx l pa t y : Addr) (tx : Str), vs = [.ref x] ∧ H x = some (.ins CG dx (prgF tx l pa t y)) ∧ Q (.str tx) H
theorem ok_GTx {CG : Addr} (F : L2.Fun K "text" "Program.text" sGTx f fd) (b : Binds K fd PGTx []) (GC : ProgC K CG) : FnR P w K mg base CX0 1 f (spGTx K CG) := by
  refine fnR_of F b scGTx (fun vs H Q E h => ?_) (fun cdv A outer s H vs Q E hr h => ?_)
  · obtain ⟨_, _, _, _, _, _, _, rfl, _⟩ := h
    rfl
  · have sc := scGTx
    obtain ⟨x, dx, l, pa, t, y, tx, rfl, e, k⟩ := h
    refine ⟨_, (pss_one (ps_ret (pe_fld (pv 0) rfl))), ?_⟩
    exact ⟨_, rfl, x, CG, dx, _, _, rfl, e, GC.cl, GC.n1, lk_here, k⟩
noncomputable def spGLn (K : PySem.W.Frag) (CG : Addr) : Sp := fun vs H Q _ => ∃ (x dx l pa t y : Addr) (tx : Str), vs = [.ref x] ∧ H x = some (.ins CG dx (prgF tx l pa t y)) ∧ Q (.ref l) H
theorem ok_GLn {CG : Addr} (F : L2.Fun K "lines" "Program.lines" sGLn f fd) (b : Binds K fd PGLn []) (GC : ProgC K CG) : FnR P w K mg base CX0 1 f (spGLn K CG) := by
  refine fnR_of F b scGLn (fun vs H Q E h => ?_) (fun cdv A outer s H vs Q E hr h => ?_)
  · obtain ⟨_, _, _, _, _, _, _, rfl, _⟩ := h
    rfl
  · have sc := scGLn
    obtain ⟨x, dx, l, pa, t, y, tx, rfl, e, k⟩ := h
    refine ⟨_, (pss_one (ps_ret (pe_fld (pv 0) rfl))), ?_⟩
    exact ⟨_, rfl, x, CG, dx, _, _, rfl, e, GC.cl, GC.n2, (lk_past (by decide +kernel)).trans (lk_here), k⟩
noncomputable def spGPa (K : PySem.W.Frag) (CG : Addr) : Sp := fun vs H Q _ => ∃ (x dx l pa t y : Addr) (tx : Str), vs = [.ref x] ∧ H x = some (.ins CG dx (prgF tx l pa t y)) ∧ Q (.ref pa) H
theorem ok_GPa {CG : Addr} (F : L2.Fun K "parts" "Program.parts" sGPa f fd) (b : Binds K fd PGPa []) (GC : ProgC K CG) : FnR P w K mg base CX0 1 f (spGPa K CG) := by
  refine fnR_of F b scGPa (fun vs H Q E h => ?_) (fun cdv A outer s H vs Q E hr h => ?_)
  · obtain ⟨_, _, _, _, _, _, _, rfl, _⟩ := h
    rfl
  · have sc := scGPa
    obtain ⟨x, dx, l, pa, t, y, tx, rfl, e, k⟩ := h
    refine ⟨_, (pss_one (ps_ret (pe_fld (pv 0) rfl))), ?_⟩
    exact ⟨_, rfl, x, CG, dx, _, _, rfl, e, GC.cl, GC.n3, (lk_past (by decide +kernel)).trans ((lk_past (by decide +kernel)).trans (lk_here)), k⟩
noncomputable def spGTk (K : PySem.W.Frag) (CG : Addr) : Sp := fun vs H Q _ => ∃ (x dx l pa t y : Addr) (tx : Str), vs = [.ref x] ∧ H x = some (.ins CG dx (prgF tx l pa t y)) ∧ Q (.ref t) H
theorem ok_GTk {CG : Addr} (F : L2.Fun K "tasks" "Program.tasks" sGTk f fd) (b : Binds K fd PGTk []) (GC : ProgC K CG) : FnR P w K mg base CX0 1 f (spGTk K CG) := by
  refine fnR_of F b scGTk (fun vs H Q E h => ?_) (fun cdv A outer s H vs Q E hr h => ?_)
  · obtain ⟨_, _, _, _, _, _, _, rfl, _⟩ := h
    rfl
  · have sc := scGTk
    obtain ⟨x, dx, l, pa, t, y, tx, rfl, e, k⟩ := h
    refine ⟨_, (pss_one (ps_ret (pe_fld (pv 0) rfl))), ?_⟩
    exact ⟨_, rfl, x, CG, dx, _, _, rfl, e, GC.cl, GC.n4, (lk_past (by decide +kernel)).trans ((lk_past (by decide +kernel)).trans ((lk_past (by decide +kernel)).trans (lk_here))), k⟩
theorem ok_geq {CG : Addr} (F : L2.Fun K "__eq__" "Program.__eq__" sGEq f fd) (b : Binds K fd PGEq []) (B : Bi mg) (GC : ProgC K CG) (GT : ProgT K CG) (gG : mg "Program" = some (.ref CG)) : FnR P w K mg base CX0 1 f (spGEq K CG) := by
  refine fnR_of F b scGEq (fun vs H Q E h => ?_) (fun cdv A outer s H vs Q E hr h => ?_)
  · obtain ⟨_, _, _, _, _, _, _, _, rfl, _⟩ := h
    rfl
  · have sc := scGEq
    obtain ⟨a, dx, l, pa, t, z, tx, y, rfl, ea, k⟩ := h
    refine ⟨_, (pss_one (ps_ret (pe_and (pe_callB (show CallR _ (.builtin "isinstance") (rIsi K) from call_isi) (by rfl) B.isinstance (by decide +kernel) (pa_cons (pv 1) (pa_cons (pe_glob (v := .ref CG) rfl gG rfl) pa_nil))) (pe_one (pe_cmpR op_eq (pe_fld (pv 0) rfl) (pe_fld (pv 1) rfl) (nomark _)))))), ?_⟩
    rcases k with ⟨c, dx', l', pa', t', z', tx', rfl, ec, k⟩ | ⟨ty, hty, hk, k⟩
    · refine ⟨_, rfl, _, _, _, _, true, rfl, .own CG, GC.ty GT ec, kit_self _, true, rfl, iteT ?_⟩
      exact ⟨_, rfl, a, CG, dx, _, _, rfl, ea, GC.cl, GC.n1, lk_here, _, rfl, c, CG, dx', _, _, rfl, ec, GC.cl, GC.n1, lk_here, rfl, k⟩
    · exact ⟨_, rfl, _, _, _, _, false, rfl, .own CG, hty, hk, false, rfl, iteF k⟩
end
end Ws

namespace Ws
/-! ### fractions in lowest terms -/
noncomputable def gI (t b : Int) : Int := ((Nat.gcd t.natAbs b.natAbs : Nat) : Int)
noncomputable def gS (t b : Int) : Int := if b < 0 then -(gI t b) else gI t b
noncomputable def nT (t b : Int) : Int := t.fdiv (gS t b)
noncomputable def nB (t b : Int) : Int := b.fdiv (gS t b)
theorem gI_pos {t b : Int} (hb : b ≠ 0) : 0 < gI t b := by
  have : 0 < Nat.gcd t.natAbs b.natAbs := Nat.gcd_pos_of_pos_right _ (by omega)
  unfold gI; omega
theorem gS_ne {t b : Int} (hb : b ≠ 0) : gS t b ≠ 0 := by
  have := gI_pos (t := t) hb
  unfold gS; split <;> omega
/-- the reduced pair -/
structure Low (t b p q : Int) : Prop where
  pos : 0 < q
  cross : p * b = t * q
  cop : Nat.gcd p.natAbs q.natAbs = 1
theorem nf_parts {t b : Int} (hb : b ≠ 0) : ∃ t' b' : Int, t = gI t b * t' ∧ b = gI t b * b' ∧ Nat.gcd t'.natAbs b'.natAbs = 1 ∧ b' ≠ 0 := by
  have hg := gI_pos (t := t) hb
  have h1 : gI t b ∣ t := by
    have : Nat.gcd t.natAbs b.natAbs ∣ t.natAbs := Nat.gcd_dvd_left _ _
    have := Int.ofNat_dvd.mpr this
    exact Int.dvd_natAbs.mp this
  have h2 : gI t b ∣ b := by
    have : Nat.gcd t.natAbs b.natAbs ∣ b.natAbs := Nat.gcd_dvd_right _ _
    have := Int.ofNat_dvd.mpr this
    exact Int.dvd_natAbs.mp this
  obtain ⟨t', e1⟩ := h1
  obtain ⟨b', e2⟩ := h2
  refine ⟨t', b', e1, e2, ?_, ?_⟩
  · have e3 : t.natAbs = (gI t b).natAbs * t'.natAbs := by rw [← Int.natAbs_mul, ← e1]
    have e4 : b.natAbs = (gI t b).natAbs * b'.natAbs := by rw [← Int.natAbs_mul, ← e2]
    have e5 : Nat.gcd t.natAbs b.natAbs = (gI t b).natAbs := by unfold gI; simp
    rw [e3, e4, Nat.gcd_mul_left] at e5
    have h0 : 0 < (gI t b).natAbs := by omega
    exact Nat.eq_of_mul_eq_mul_left h0 (by rw [e5, Nat.mul_one])
  · intro z
    rw [z, Int.mul_zero] at e2
    exact hb e2
theorem nf_vals {t b : Int} (hb : b ≠ 0) : ∃ t' b' : Int, t = gI t b * t' ∧ b = gI t b * b' ∧ Nat.gcd t'.natAbs b'.natAbs = 1 ∧ b' ≠ 0 ∧ nT t b = (if b < 0 then -t' else t') ∧ nB t b = (if b < 0 then -b' else b') ∧ (b < 0 ↔ b' < 0) := by
  obtain ⟨t', b', e1, e2, hc, h0⟩ := nf_parts (t := t) hb
  have hg := gI_pos (t := t) hb
  have hs : b < 0 ↔ b' < 0 := by
    constructor
    · intro h
      apply Int.lt_of_not_ge
      intro h2
      have : 0 ≤ gI t b * b' := Int.mul_nonneg (by omega) h2
      omega
    · intro h
      have : gI t b * b' < gI t b * 0 := Int.mul_lt_mul_of_pos_left h hg
      omega
  refine ⟨t', b', e1, e2, hc, h0, ?_, ?_, hs⟩
  · unfold nT gS
    split
    · generalize gI t b = g at *
      subst e1
      rw [show g * t' = -g * -t' by grind, Int.mul_fdiv_cancel_left _ (by omega)]
    · generalize gI t b = g at *
      subst e1
      rw [Int.mul_fdiv_cancel_left _ (by omega)]
  · unfold nB gS
    split
    · generalize gI t b = g at *
      rw [e2, show g * b' = -g * -b' by grind, Int.mul_fdiv_cancel_left _ (by omega)]
    · generalize gI t b = g at *
      rw [e2, Int.mul_fdiv_cancel_left _ (by omega)]
theorem nf_low {t b : Int} (hb : b ≠ 0) : Low t b (nT t b) (nB t b) := by
  obtain ⟨t', b', e1, e2, hc, h0, eT, eB, hs⟩ := nf_vals (t := t) hb
  generalize gI t b = g at *
  rw [eT, eB]
  split
  · rename_i h
    have := hs.mp h
    refine ⟨by omega, by grind, by simpa using hc⟩
  · rename_i h
    have : ¬ b' < 0 := fun z => h (hs.mpr z)
    exact ⟨by omega, by grind, hc⟩
theorem nf_le {t b : Int} (hb : b ≠ 0) : (nT t b).natAbs ≤ t.natAbs ∧ (nB t b).natAbs ≤ b.natAbs := by
  obtain ⟨t', b', e1, e2, hc, h0, eT, eB, hs⟩ := nf_vals (t := t) hb
  have hg := gI_pos (t := t) hb
  have e3 : t.natAbs = (gI t b).natAbs * t'.natAbs := by rw [← Int.natAbs_mul, ← e1]
  have e4 : b.natAbs = (gI t b).natAbs * b'.natAbs := by rw [← Int.natAbs_mul, ← e2]
  have h0 : 1 ≤ (gI t b).natAbs := by omega
  have k1 : t'.natAbs ≤ t.natAbs := by rw [e3]; exact Nat.le_mul_of_pos_left _ h0
  have k2 : b'.natAbs ≤ b.natAbs := by rw [e4]; exact Nat.le_mul_of_pos_left _ h0
  rw [eT, eB]
  by_cases h : b < 0
  · rw [if_pos h, if_pos h]
    constructor <;> omega
  · rw [if_neg h, if_neg h]
    exact ⟨k1, k2⟩
theorem low_uniq {p q r s : Int} (h : p * s = r * q) (hq : 0 < q) (hs : 0 < s) (h1 : Nat.gcd p.natAbs q.natAbs = 1) (h2 : Nat.gcd r.natAbs s.natAbs = 1) : p = r ∧ q = s := by
  have e : p.natAbs * s.natAbs = r.natAbs * q.natAbs := by rw [← Int.natAbs_mul, ← Int.natAbs_mul, h]
  have d1 : q.natAbs ∣ s.natAbs := by
    have c : Nat.Coprime q.natAbs p.natAbs := by rw [Nat.coprime_comm]; exact h1
    exact c.dvd_of_dvd_mul_left ⟨r.natAbs, by rw [e, Nat.mul_comm]⟩
  have d2 : s.natAbs ∣ q.natAbs := by
    have c : Nat.Coprime s.natAbs r.natAbs := by rw [Nat.coprime_comm]; exact h2
    exact c.dvd_of_dvd_mul_left ⟨p.natAbs, by rw [← e, Nat.mul_comm]⟩
  have e2 : q.natAbs = s.natAbs := Nat.dvd_antisymm d1 d2
  have e3 : q = s := by omega
  subst e3
  exact ⟨Int.eq_of_mul_eq_mul_right (by omega) h, rfl⟩
/-- a reduced pair is the reduced pair of anything that it crosses with -/
theorem Low.eq {t b p q c d r s : Int} (h : Low t b p q) (h' : Low c d r s) (hb : b ≠ 0) (hd : d ≠ 0) (e : t * d = c * b) : p = r ∧ q = s := by
  refine low_uniq ?_ h.pos h'.pos h.cop h'.cop
  have e1 := h.cross
  have e2 := h'.cross
  have : (p * s) * (b * d) = (r * q) * (b * d) := by grind
  exact Int.eq_of_mul_eq_mul_right (Int.mul_ne_zero hb hd) this
theorem Low.ne {t b p q c d r s : Int} (h : Low t b p q) (h' : Low c d r s) (hb : b ≠ 0) (hd : d ≠ 0) (e : t * d ≠ c * b) : ¬ (p = r ∧ q = s) := by
  rintro ⟨rfl, rfl⟩
  refine e ?_
  have e1 := h.cross
  have e2 := h'.cross
  have : (t * d) * q = (c * b) * q := by grind
  exact Int.eq_of_mul_eq_mul_right (by have := h.pos; omega) this
theorem nf_eq {t b c d : Int} (hb : b ≠ 0) (hd : d ≠ 0) (e : t * d = c * b) : nT t b = nT c d ∧ nB t b = nB c d := (nf_low hb).eq (nf_low hd) hb hd e
theorem nf_ne {t b c d : Int} (hb : b ≠ 0) (hd : d ≠ 0) (e : t * d ≠ c * b) : ¬ (nT t b = nT c d ∧ nB t b = nB c d) := (nf_low hb).ne (nf_low hd) hb hd e
/-- the law's own reckoning -/
theorem nf_least {t b : Int} (hb : b ≠ 0) : ((if b < 0 then -1 else 1) * t) / gI t b = nT t b ∧ (if b < 0 then -b else b) / gI t b = nB t b := by
  obtain ⟨t', b', e1, e2, hc, h0, eT, eB, hs⟩ := nf_vals (t := t) hb
  have hg := gI_pos (t := t) hb
  rw [eT, eB]
  generalize gI t b = g at *
  subst e1
  split
  · refine ⟨?_, ?_⟩
    · rw [show -1 * (g * t') = g * -t' by grind, Int.mul_ediv_cancel_left _ (by omega)]
    · rw [e2, show -(g * b') = g * -b' by grind, Int.mul_ediv_cancel_left _ (by omega)]
  · refine ⟨?_, ?_⟩
    · rw [Int.one_mul, Int.mul_ediv_cancel_left _ (by omega)]
    · rw [e2, Int.mul_ediv_cancel_left _ (by omega)]
/-- one turn of Euclid's loop -/
theorem gcd_turn {a b : Int} (ha : 0 ≤ a) (hb : 0 < b) : Nat.gcd b.natAbs (a % b).natAbs = Nat.gcd a.natAbs b.natAbs := by
  rw [Int.natAbs_emod_of_nonneg ha, Nat.gcd_comm a.natAbs, Nat.gcd_rec b.natAbs a.natAbs, Nat.gcd_comm]
/-! ### sizes -/
/-- less than n bits -/
noncomputable def Sz (n : Nat) (i : Int) : Prop := i.natAbs < 2 ^ n
theorem Sz.mono {n m : Nat} {i : Int} (h : Sz n i) (hm : n ≤ m) : Sz m i := Nat.lt_of_lt_of_le h (Nat.pow_le_pow_right (by decide) hm)
theorem Sz.mul {n m : Nat} {i j : Int} (h : Sz n i) (h' : Sz m j) : Sz (n + m) (i * j) := by
  unfold Sz at *
  rw [Int.natAbs_mul, Nat.pow_add]
  exact Nat.mul_lt_mul'' h h'
theorem Sz.add {n : Nat} {i j : Int} (h : Sz n i) (h' : Sz n j) : Sz (n + 1) (i + j) := by
  unfold Sz at *
  rw [Nat.pow_succ]
  omega
theorem Sz.sub {n : Nat} {i j : Int} (h : Sz n i) (h' : Sz n j) : Sz (n + 1) (i - j) := by
  unfold Sz at *
  rw [Nat.pow_succ]
  omega
theorem Sz.neg {n : Nat} {i : Int} (h : Sz n i) : Sz n (-i) := by
  unfold Sz at *
  omega
theorem Sz.nT {n : Nat} {t b : Int} (hb : b ≠ 0) (h : Sz n t) : Sz n (nT t b) := Nat.lt_of_le_of_lt (nf_le hb).1 h
theorem Sz.nB {n : Nat} {t b : Int} (hb : b ≠ 0) (h : Sz n b) : Sz n (nB t b) := Nat.lt_of_le_of_lt (nf_le hb).2 h
theorem Sz.gI {n : Nat} {t b : Int} (hb : b ≠ 0) (h : Sz n b) : Sz n (gI t b) := by
  refine Nat.lt_of_le_of_lt ?_ h
  unfold Ws.gI
  exact Nat.le_of_dvd (by omega) (Nat.gcd_dvd_right _ _)
theorem Sz.of_abs {n : Nat} {i : Int} (h : i.natAbs < 2 ^ n) : Sz n i := h
end Ws
namespace Ws
/-- a reduced pair is that of any other pair that crosses with the first one -/
theorem Low.base {t b p q c d : Int} (h : Low t b p q) (hb : b ≠ 0) (e : t * d = c * b) : Low c d p q := by
  refine ⟨h.pos, ?_, h.cop⟩
  have e1 := h.cross
  have : (p * d) * b = (c * q) * b := by grind
  exact Int.eq_of_mul_eq_mul_right hb this
theorem Low.nf {t b p q : Int} (h : Low t b p q) (hb : b ≠ 0) : p = nT t b ∧ q = nB t b := h.eq (nf_low hb) hb hb rfl
theorem Low.szT {t b p q : Int} {n : Nat} (h : Low t b p q) (hb : b ≠ 0) (z : Sz n t) : Sz n p := by rw [(h.nf hb).1]; exact z.nT hb
theorem Low.szB {t b p q : Int} {n : Nat} (h : Low t b p q) (hb : b ≠ 0) (z : Sz n b) : Sz n q := by rw [(h.nf hb).2]; exact z.nB hb
theorem Low.zero {t b p q : Int} (h : Low t b p q) (hb : b ≠ 0) : p = 0 ↔ t = 0 := by
  have e := h.cross
  have hq := h.pos
  constructor
  · intro z
    rw [z, Int.zero_mul] at e
    rcases Int.mul_eq_zero.mp e.symm with z | z
    · exact z
    · omega
  · intro z
    rw [z, Int.zero_mul] at e
    rcases Int.mul_eq_zero.mp e with z | z
    · exact z
    · exact absurd z hb
theorem Low.self {t b p q : Int} (h : Low t b p q) (hb : b ≠ 0) : Low p q p q := ⟨h.pos, rfl, h.cop⟩
end Ws

namespace Ws
open PySem PySem.Spec PyProof.Rows L2
noncomputable abbrev sPot : Stmt := (PySem.Challenge.pw_whatspeed_k17_what_a_program_tells.main.body.getD 58 (.Pass ⟨0, 0, 0, 0⟩))
noncomputable abbrev NPot : List Str := ["script", "k", "cell", "own"]
noncomputable abbrev PPot : List Str := ["script", "k"]
theorem scPot : FnScope NPot PPot (defScope sPot) := ⟨rfl, rfl, rfl, by decide +kernel, rfl, by decide +kernel, by decide +kernel⟩
noncomputable abbrev sTake : Stmt := (PySem.Challenge.pw_whatspeed_k17_what_a_program_tells.main.body.getD 59 (.Pass ⟨0, 0, 0, 0⟩))
noncomputable abbrev NTake : List Str := ["pot", "upto", "digit", "prime", "mixed"]
noncomputable abbrev PTake : List Str := ["pot", "upto"]
theorem scTake : FnScope NTake PTake (defScope sTake) := ⟨rfl, rfl, rfl, by decide +kernel, rfl, by decide +kernel, by decide +kernel⟩
noncomputable abbrev sOf : Stmt := (PySem.Challenge.pw_whatspeed_k17_what_a_program_tells.main.body.getD 60 (.Pass ⟨0, 0, 0, 0⟩))
noncomputable abbrev NOf : List Str := ["pot", "some"]
noncomputable abbrev POf : List Str := ["pot", "some"]
theorem scOf : FnScope NOf POf (defScope sOf) := ⟨rfl, rfl, rfl, by decide +kernel, rfl, by decide +kernel, by decide +kernel⟩
/-! ### the pot of drawn numbers -/
noncomputable def PotAt (H : Hp) (p : Addr) (m : Int) : Prop := ∃ own seed n : Int, H p = some (.lst [.int own, .int seed, .int n]) ∧ 0 ≤ own ∧ 0 ≤ seed ∧ seed < 2305843009213693921 ∧ 0 ≤ n ∧ n ≤ m
theorem PotAt.mono {H : Hp} {p : Addr} {m m' : Int} (h : PotAt H p m) (l : m ≤ m') : PotAt H p m' := let ⟨a, b, c, e, h1, h2, h3, h4, h5⟩ := h; ⟨a, b, c, e, h1, h2, h3, h4, Int.le_trans h5 l⟩
theorem PotAt.same {H H' : Hp} {p : Addr} {m : Int} (h : PotAt H p m) (s : Same H H') : PotAt H' p m := let ⟨a, b, c, e, r⟩ := h; ⟨a, b, c, s _ _ e, r⟩
noncomputable def spPot (K : PySem.W.Frag) : Sp := fun vs H Q _ => ∃ (s : Addr) (ns : List Int) (k : Nat), vs = [.ref s, .int k] ∧ SqL K H s (ns.map V.int) ∧ k < 100 ∧ ∀ p H', H p = none → PotAt H' p 0 → Same H H' → Q (.ref p) H'
noncomputable def spTake : Sp := fun vs H Q _ => ∃ (p : Addr) (u m : Int), vs = [.ref p, .int u] ∧ PotAt H p m ∧ m ≤ 1000000000000 ∧ 1 ≤ u ∧ u < 1073741824 ∧ ∀ d H', 0 ≤ d → d < u → PotAt H' p (m + 1) → Ch p H H' → Q (.int d) H'
noncomputable def spOf : Sp := fun vs H Q _ => ∃ (p l : Addr) (xs : List V) (m : Int), vs = [.ref p, .ref l] ∧ PotAt H p m ∧ m ≤ 1000000000000 ∧ H l = some (.lst xs) ∧ l ≠ p ∧ 1 ≤ xs.length ∧ xs.length ≤ 1000 ∧ ∀ v H', v ∈ xs → PotAt H' p (m + 1) → Ch p H H' → Q v H'
section
variable {P : Program} {w : World} {K : PySem.W.Frag} {mg : Str → Option Value} {base : Heap} {f : Addr} {fd : FuncData}
theorem at_map {ns : List Int} {k : Nat} (h : k < ns.length) : atI (ns.map V.int) (k : Int) = some (.int ns[k]) := atI_nat (by rw [List.getElem?_map, List.getElem?_eq_getElem h]; rfl)
theorem emod_lt {a b : Int} (h : 0 < b) : a % b < b := Int.emod_lt_of_pos a h
theorem emod_nn {a b : Int} (h : 0 < b) : 0 ≤ a % b := Int.emod_nonneg a (by omega)
theorem ok_pot (F : L2.Fun K "_law_pot" "_law_pot" sPot f fd) (b : Binds K fd PPot []) (B : Bi mg) : FnR P w K mg base CX0 1 f (spPot K) := by
  refine fnR_of F b scPot (fun vs H Q E h => ?_) (fun cdv A outer s H vs Q E hr h => ?_)
  · obtain ⟨s, ns, k, rfl, _⟩ := h
    rfl
  · have sc := scPot
    obtain ⟨s, ns, k, rfl, hS, hk, q⟩ := h
    refine ⟨_, (pss_cons (ps_set (i := 2) sc.nd rfl (Or.inl rfl) (pe_ifExp (pt_cmpR op_lt (pv 1) (pe_callB call_len_seq (by rfl) B.len PySem.boot_len (pa_cons (pv 0) pa_nil)) (nomark _)) (pe_ix ix_list (pv 0) (pv 1) (fun _ _ => rfl)) (pe_op op_add (pe_op op_mul pe_int (pv 1)) pe_int))) (pss_cons (ps_set (i := 3) sc.nd rfl (Or.inl rfl) (pe_op op_mul (pe_op op_mod (pe_callTy call_int1 (by rfl) B.int (by decide +kernel) (pa_cons (pe_callB call_abs (by rfl) B.abs (by decide +kernel) (pa_cons (pv 2) pa_nil)) pa_nil)) (pe_op op_powW (pe_op op_pow pe_int pe_int) pe_int)) (pe_callTy call_int1 (by rfl) B.int (by decide +kernel) (pa_cons (pe_cmpR op_ge (pe_callB call_abs (by rfl) B.abs (by decide +kernel) (pa_cons (pv 2) pa_nil)) (pe_op op_pow pe_int pe_int) (nomark _)) pa_nil)))) (pss_one (ps_ret (pe_lst (pa_cons (pv 3) (pa_cons (pe_op op_mod (pe_op op_add (pe_op op_add (pe_op op_mul (pe_op op_mod (pe_callTy call_int1 (by rfl) B.int (by decide +kernel) (pa_cons (pv 2) pa_nil)) pe_int) pe_int) (pe_op op_mul (pe_op op_mul pe_int (pv 1)) (pv 1))) pe_int) pe_int) (pa_cons pe_int pa_nil)))))))), ?_⟩
    refine ⟨_, rfl, _, rfl, s, _, rfl, .inl hS, _, _, rfl, rfl, _, rfl, ?_⟩
    have hA : ∀ z : Int, (if z < 0 then -z else z) = (if z < 0 then -z else z) := fun _ => rfl
    refine if2 (fun hc => ?_) (fun hc => ?_)
    · have hlt : k < ns.length := by
        have := of_decide_eq_true hc
        rw [List.length_map] at this
        omega
      refine ⟨_, rfl, _, rfl, s, _, _, _, rfl, rfl, hS, at_map hlt, ?_⟩
      generalize ns[k] = z
      refine ⟨_, rfl, _, rfl, .inl ⟨_, rfl, _, _, rfl, rfl, ⟨by decide, by decide, by decide⟩, _, _, rfl, rfl, ⟨by decide, by decide +kernel⟩, _, _, rfl, rfl, by show (0 : Int) < _; decide +kernel, ?_⟩⟩
      refine ⟨_, rfl, _, rfl, _, _, rfl, rfl, ⟨by decide, by decide, by decide⟩, _, _, rfl, rfl, .inr ⟨_, rfl, _, _, rfl, rfl, .inr (bit_lo _), ?_⟩⟩
      refine ⟨_, rfl, _, rfl, .inl ⟨_, rfl, _, _, rfl, rfl, by show (0 : Int) < _; decide +kernel, _, _, rfl, rfl, .inr ⟨by decide, by decide⟩, _, rfl, _, _, rfl, rfl, .inl ⟨by decide, by decide⟩, _, rfl, _, _, rfl, rfl, .inr ⟨by omega, by omega⟩, _, _, rfl, rfl, _, _, rfl, rfl, _, _, rfl, rfl, by show (0 : Int) < _; decide +kernel, ?_⟩⟩
      refine ⟨by show 3 ≤ sizeLine; decide, fun p hp => q p _ hp ⟨_, _, _, upd_same, ?_, emod_nn (by decide), emod_lt (by decide), by decide, by decide⟩ (Same.new hp)⟩
      exact Int.mul_nonneg (emod_nn (by decide +kernel)) (bit_nn _)
    · refine ⟨_, rfl, _, _, rfl, rfl, .inl ⟨by decide, by decide⟩, _, _, rfl, rfl, ?_⟩
      generalize (29 * (k : Int) + 11) = z
      refine ⟨_, rfl, _, rfl, .inl ⟨_, rfl, _, _, rfl, rfl, ⟨by decide, by decide, by decide⟩, _, _, rfl, rfl, ⟨by decide, by decide +kernel⟩, _, _, rfl, rfl, by show (0 : Int) < _; decide +kernel, ?_⟩⟩
      refine ⟨_, rfl, _, rfl, _, _, rfl, rfl, ⟨by decide, by decide, by decide⟩, _, _, rfl, rfl, .inr ⟨_, rfl, _, _, rfl, rfl, .inr (bit_lo _), ?_⟩⟩
      refine ⟨_, rfl, _, rfl, .inl ⟨_, rfl, _, _, rfl, rfl, by show (0 : Int) < _; decide +kernel, _, _, rfl, rfl, .inr ⟨by decide, by decide⟩, _, rfl, _, _, rfl, rfl, .inl ⟨by decide, by decide⟩, _, rfl, _, _, rfl, rfl, .inr ⟨by omega, by omega⟩, _, _, rfl, rfl, _, _, rfl, rfl, _, _, rfl, rfl, by show (0 : Int) < _; decide +kernel, ?_⟩⟩
      refine ⟨by show 3 ≤ sizeLine; decide, fun p hp => q p _ hp ⟨_, _, _, upd_same, ?_, emod_nn (by decide), emod_lt (by decide), by decide, by decide⟩ (Same.new hp)⟩
      exact Int.mul_nonneg (emod_nn (by decide +kernel)) (bit_nn _)
theorem bits_le {i : Int} {k : Nat} (h : i.natAbs < 2 ^ k) : Builtin.Int.intBits i ≤ k := by
  unfold Builtin.Int.intBits
  split
  · exact Nat.zero_le _
  · rename_i hi
    have h0 : i.natAbs ≠ 0 := fun z => hi (by rw [Int.natAbs_eq_zero.mp z]; rfl)
    exact (Nat.log2_lt h0).mpr h
theorem ok_take (F : L2.Fun K "_law_take" "_law_take" sTake f fd) (b : Binds K fd PTake []) (B : Bi mg) : FnR P w K mg base CX0 1 f spTake := by
  refine fnR_of F b scTake (fun vs H Q E h => ?_) (fun cdv A outer s H vs Q E hr h => ?_)
  · obtain ⟨p, u, m, rfl, _⟩ := h
    rfl
  · have sc := scTake
    obtain ⟨p, u, m, rfl, ⟨own, seed, n, hp, h1, h2, h3, h4, h5⟩, hm, hu, hu2, q⟩ := h
    refine ⟨_, (pss_cons (ps_if (pt_cmpR op_gt (pe_ix ix_list (pv 0) pe_int (fun _ _ => rfl)) pe_int (nomark _)) (pss_cons (ps_set (i := 2) sc.nd rfl (Or.inl rfl) (pe_op op_mod (pe_callTy call_int1 (by rfl) B.int (by decide +kernel) (pa_cons (pe_ix ix_list (pv 0) pe_int (fun _ _ => rfl)) pa_nil)) (pv 1))) (pss_cons (ps_asg (pe_op op_fdiv (pe_ix ix_list (pv 0) pe_int (fun _ _ => rfl)) (pv 1)) (pg_sub (pv 0) pe_int set_list)) (pss_one (ps_ret (pv 2))))) pss_nil) (pss_cons (ps_asg (pe_op op_add (pe_ix ix_list (pv 0) pe_int (fun _ _ => rfl)) pe_int) (pg_sub (pv 0) pe_int set_list)) (pss_cons (ps_set (i := 3) sc.nd rfl (Or.inl rfl) (pe_ix ix_list (pe_lst (pa_cons pe_int (pa_cons pe_int (pa_cons pe_int (pa_cons pe_int (pa_cons pe_int pa_nil)))))) (pe_op op_mod (pe_callTy call_int1 (by rfl) B.int (by decide +kernel) (pa_cons (pe_ix ix_list (pv 0) pe_int (fun _ _ => rfl)) pa_nil)) pe_int) (fun _ _ => rfl))) (pss_cons (ps_set (i := 4) sc.nd rfl (Or.inl rfl) (pe_op op_mod (pe_op op_powW (pe_callTy call_int1 (by rfl) B.int (by decide +kernel) (pa_cons (pe_op op_add (pe_op op_add (pe_ix ix_list (pv 0) pe_int (fun _ _ => rfl)) (pe_op op_mul (pe_op op_mul pe_int (pe_ix ix_list (pv 0) pe_int (fun _ _ => rfl))) (pe_ix ix_list (pv 0) pe_int (fun _ _ => rfl)))) pe_int) pa_nil)) pe_int) (pv 3))) (pss_one (ps_ret (pe_op op_mod (pe_op op_fdiv (pe_op op_mod (pe_callTy call_int1 (by rfl) B.int (by decide +kernel) (pa_cons (pe_op op_mul (pv 4) (pe_op op_add (pe_op op_mod (pe_callTy call_int1 (by rfl) B.int (by decide +kernel) (pa_cons (pv 4) pa_nil)) pe_int) (pe_op op_mul pe_int (pe_ix ix_list (pv 0) pe_int (fun _ _ => rfl))))) pa_nil)) pe_int) pe_int) (pv 1)))))))), ?_⟩
    refine ⟨_, rfl, p, _, _, _, rfl, rfl, SqL.of hp, rfl, _, _, rfl, rfl, _, rfl, ?_⟩
    refine if2 (fun hc => ?_) (fun hc => ?_)
    · refine ⟨_, rfl, p, _, _, _, rfl, rfl, SqL.of hp, rfl, .inl ⟨_, rfl, _, rfl, _, _, rfl, rfl, by omega, ?_⟩⟩
      refine ⟨_, rfl, p, _, _, _, rfl, rfl, SqL.of hp, rfl, _, rfl, _, _, rfl, rfl, ⟨by omega, by omega⟩, ?_⟩
      refine ⟨_, rfl, p, _, _, _, rfl, rfl, hp, rfl, ?_⟩
      refine ⟨_, rfl, ?_⟩
      refine q _ _ (emod_nn (by omega)) (emod_lt (by omega)) ⟨_, _, _, upd_same, Int.ediv_nonneg h1 (by omega), h2, h3, h4, by omega⟩ Ch.upd
    · refine ⟨_, rfl, p, _, _, _, rfl, rfl, SqL.of hp, rfl, _, _, rfl, rfl, ?_⟩
      refine ⟨_, rfl, p, _, _, _, rfl, rfl, hp, rfl, ?_⟩
      refine ⟨by show 5 ≤ sizeLine; decide, fun l hl => ?_⟩
      have npl : p ≠ l := ne_of_none upd_same hl
      refine ⟨_, rfl, p, _, _, _, rfl, rfl, SqL.of ((upd_ne npl).trans upd_same), rfl, .inl ⟨_, rfl, _, _, rfl, rfl, by show (0 : Int) < _; decide +kernel, ?_⟩⟩
      have hi : ∃ (j : Nat) (pr : Int), (n + 1) % 5 = (j : Int) ∧ [V.int 2147483647, V.int 2147483629, V.int 2147483587, V.int 2147483579, V.int 2147483563][j]? = some (.int pr) ∧ 0 < pr ∧ pr ≤ 2147483647 := by
        have e1 : 0 ≤ (n + 1) % 5 := emod_nn (by decide)
        have e2 : (n + 1) % 5 < 5 := emod_lt (by decide)
        have : (n + 1) % 5 = 0 ∨ (n + 1) % 5 = 1 ∨ (n + 1) % 5 = 2 ∨ (n + 1) % 5 = 3 ∨ (n + 1) % 5 = 4 := by omega
        rcases this with e | e | e | e | e
        · exact ⟨0, _, e, rfl, by decide, by decide⟩
        · exact ⟨1, _, e, rfl, by decide, by decide⟩
        · exact ⟨2, _, e, rfl, by decide, by decide⟩
        · exact ⟨3, _, e, rfl, by decide, by decide⟩
        · exact ⟨4, _, e, rfl, by decide, by decide⟩
      obtain ⟨j, pr, ej, hj, hpr, hpr2⟩ := hi
      refine ⟨l, _, _, _, rfl, rfl, SqL.of upd_same, at_of ej hj, ?_⟩
      refine ⟨_, rfl, p, _, _, _, rfl, rfl, SqL.of ((upd_ne npl).trans upd_same), rfl, ?_⟩
      refine ⟨_, rfl, p, _, _, _, rfl, rfl, SqL.of ((upd_ne npl).trans upd_same), rfl, _, _, rfl, rfl, .inl ⟨by decide, by decide⟩, ?_⟩
      refine ⟨_, rfl, p, _, _, _, rfl, rfl, SqL.of ((upd_ne npl).trans upd_same), rfl, _, _, rfl, rfl, .inr ⟨by omega, by omega⟩, _, _, rfl, rfl, _, _, rfl, rfl, ?_⟩
      have hsq : 0 ≤ (n + 1) * (n + 1) ∧ (n + 1) * (n + 1) ≤ 1000000000001 * 1000000000001 := ⟨Int.mul_nonneg (by omega) (by omega), Int.mul_le_mul (by omega) (by omega) (by omega) (by decide)⟩
      have hb0 : 99991 * (n + 1) * (n + 1) = 99991 * ((n + 1) * (n + 1)) := Int.mul_assoc _ _ _
      refine .inl ⟨_, rfl, _, _, rfl, rfl, ⟨by decide, ?_⟩, _, rfl, _, _, rfl, rfl, hpr, ?_⟩
      · have hz : (seed + 99991 * (n + 1) * (n + 1) + 37).natAbs < 2 ^ 120 := by
          rw [hb0]
          have e2 : (2 : Nat) ^ 120 = 1329227995784915872903807060280344576 := by decide +kernel
          rw [e2]
          omega
        have hz2 := bits_le hz
        have e3 : (2 : Int) ^ 27 = 134217728 := by decide +kernel
        rw [e3]
        show ((Builtin.Int.intBits (seed + 99991 * (n + 1) * (n + 1) + 37) : Nat) : Int) * 3 ≤ 134217728
        omega
      · generalize hmx : ((seed + 99991 * (n + 1) * (n + 1) + 37) ^ (3 : Int).toNat) % pr = mx
        have m1 : 0 ≤ mx := by rw [← hmx]; exact emod_nn hpr
        have m2 : mx < pr := by rw [← hmx]; exact emod_lt hpr
        refine ⟨_, rfl, _, rfl, .inl ⟨_, rfl, _, _, rfl, rfl, by show (0 : Int) < _; decide +kernel, ?_⟩⟩
        refine ⟨_, rfl, p, _, _, _, rfl, rfl, SqL.of ((upd_ne npl).trans upd_same), rfl, _, _, rfl, rfl, .inl ⟨by decide, by decide⟩, _, _, rfl, rfl, _, _, rfl, rfl, .inl ⟨by omega, by omega⟩, .inl ⟨_, rfl, _, _, rfl, rfl, by show (0 : Int) < _; decide +kernel, _, _, rfl, rfl, ⟨by decide, by decide⟩, _, rfl, _, _, rfl, rfl, by omega, ?_⟩⟩
        exact q _ _ (emod_nn (by omega)) (emod_lt (by omega)) ⟨_, _, _, (upd_ne npl).trans upd_same, h1, h2, h3, by omega, by omega⟩ (Ch.upd.trans (Ch.new hl))
theorem ok_of (F : L2.Fun K "_law_of" "_law_of" sOf f fd) (b : Binds K fd POf []) (B : Bi mg) (cT : CalF P w K mg base 1 "_law_take" spTake) : FnR P w K mg base CX0 2 f spOf := by
  refine fnR_of F b scOf (fun vs H Q E h => ?_) (fun cdv A outer s H vs Q E hr h => ?_)
  · obtain ⟨p, l, xs, m, rfl, _⟩ := h
    rfl
  · have sc := scOf
    obtain ⟨p, l, xs, m, rfl, hp, hm, hl, n, h1, h2, q⟩ := h
    refine ⟨_, (pss_one (ps_ret (pe_ix ix_list (pv 1) (pe_f cT hr (by omega) rfl (pa_cons (pv 0) (pa_cons (pe_callB call_len_seq (by rfl) B.len PySem.boot_len (pa_cons (pv 1) pa_nil)) pa_nil))) (fun _ _ => rfl)))), ?_⟩
    refine ⟨_, rfl, _, rfl, _, rfl, l, xs, rfl, .inl (SqL.of hl), p, _, m, rfl, hp, hm, by omega, by omega, fun d H1 d0 d1 hp1 c1 => ?_⟩
    have hj : d.toNat < xs.length := by omega
    exact ⟨l, xs, _, _, rfl, rfl, SqL.of (c1 _ _ n hl), at_of (j := d.toNat) (by omega) (List.getElem?_eq_getElem hj), q _ _ (List.getElem_mem hj) hp1 c1⟩
end
end Ws

namespace Ws
open PySem PySem.Spec PyProof.Rows L2
section
variable {K : PySem.W.Frag} {a : Addr} {xs : List V} {g : TG} {te : TE} {vs : List Nat} {σ : L2.St} {H1 : Hp} {D : Addr} {Qd : Hp → Prop}
/-- a comprehension without a test: what is made so far stands at D, J tells of it -/
noncomputable def PvJ (D : Addr) (J : Nat → List V → Hp → Prop) : Nat → Hp → Prop := fun i H => ∃ acc, acc.length = i ∧ H D = some (.lst acc) ∧ J i acc H
theorem step_J {J : Nat → List V → Hp → Prop} {i : Nat} {x : V} {H : Hp} (hz : i < sizeLine) (h : PvJ D J i H)
    (hs : ∀ acc, J i acc H → H D = some (.lst acc) → acc.length = i → ∀ Qn : VK, (∀ y H4, H4 D = some (.lst acc) → J (i + 1) (acc ++ [y]) (upd H4 D (.lst (acc ++ [y]))) → Qn y H4) → g x (wipe σ vs) H fun σ2 H2 => wipe σ2 vs = wipe σ vs ∧ te σ2 H2 Qn) :
    g x (wipe σ vs) H fun σ2 H2 => wipe σ2 vs = wipe σ vs ∧ tYes σ2 H2 fun b H3 => if b = true then te σ2 H3 fun y H4 => ∃ acc, H4 D = some (.lst acc) ∧ acc.length < sizeLine ∧ PvJ D J (i + 1) (upd H4 D (.lst (acc ++ [y]))) else PvJ D J (i + 1) H3 := by
  obtain ⟨acc, hl, hD, j⟩ := h
  have := hs acc j hD hl (fun y H4 => ∃ acc, H4 D = some (.lst acc) ∧ acc.length < sizeLine ∧ PvJ D J (i + 1) (upd H4 D (.lst (acc ++ [y])))) fun y H4 e jj => ⟨acc, e, by rw [hl]; exact hz, acc ++ [y], by rw [List.length_append, hl] <;> rfl, upd_same, jj⟩
  have e : (fun (σ2 : L2.St) (H2 : Hp) => wipe σ2 vs = wipe σ vs ∧ tYes σ2 H2 fun b H3 => if b = true then te σ2 H3 fun y H4 => ∃ acc, H4 D = some (.lst acc) ∧ acc.length < sizeLine ∧ PvJ D J (i + 1) (upd H4 D (.lst (acc ++ [y]))) else PvJ D J (i + 1) H3)
      = fun σ2 H2 => wipe σ2 vs = wipe σ vs ∧ te σ2 H2 fun y H4 => ∃ acc, H4 D = some (.lst acc) ∧ acc.length < sizeLine ∧ PvJ D J (i + 1) (upd H4 D (.lst (acc ++ [y]))) := by
    funext σ2 H2
    show (wipe σ2 vs = wipe σ vs ∧ (if true = true then (te σ2 H2 fun y H4 => ∃ acc, H4 D = some (.lst acc) ∧ acc.length < sizeLine ∧ PvJ D J (i + 1) (upd H4 D (.lst (acc ++ [y])))) else PvJ D J (i + 1) H2)) = _
    rw [if_pos rfl]
  rw [e]
  exact this
theorem lcT (J : Nat → List V → Hp → Prop) (h0 : J 0 [] (upd H1 D (.lst []))) (hl : ∀ i acc H, J i acc H → SqT K H a xs) (hz : xs.length < sizeLine)
    (hs : ∀ i x H acc, xs[i]? = some x → J i acc H → H D = some (.lst acc) → acc.length = i → ∀ Qn : VK, (∀ y H4, H4 D = some (.lst acc) → J (i + 1) (acc ++ [y]) (upd H4 D (.lst (acc ++ [y]))) → Qn y H4) → g x (wipe σ vs) H fun σ2 H2 => wipe σ2 vs = wipe σ vs ∧ te σ2 H2 Qn)
    (hd : ∀ ys H, J xs.length ys H → H D = some (.lst ys) → ys.length = xs.length → Qd H) :
    ∃ W : Nat → Nat → Hp → Prop, (∃ m, W 0 m (upd H1 D (.lst []))) ∧ ∀ i m H, W i m H →
      ((Itt K a).stop i H ∧ Qd H) ∨ ((Itt K a).go i H ∧ ∃ Nx : Hp → Prop, (∀ H', Nx H' → ∃ m', m' < m ∧ W (i + 1) m' H') ∧ ∀ x H', (Itt K a).yld i H x H' → g x (wipe σ vs) H' fun σ2 H2 => wipe σ2 vs = wipe σ vs ∧ tYes σ2 H2 fun b H3 =>
        if b = true then te σ2 H3 fun y H4 => ∃ acc, H4 D = some (.lst acc) ∧ acc.length < sizeLine ∧ Nx (upd H4 D (.lst (acc ++ [y]))) else Nx H3) :=
  lc_tup (K := K) (a := a) (xs := xs) (PvJ D J) ⟨[], rfl, upd_same, h0⟩ (fun i H _ h => let ⟨acc, _, _, j⟩ := h; hl i acc H j)
    (fun i x H hx h => step_J (Nat.lt_trans (List.getElem?_eq_some_iff.mp hx).1 hz) h fun acc j e l => hs i x H acc hx j e l) fun H h => let ⟨ys, l, e, j⟩ := h; hd ys H j e l
theorem lcL (J : Nat → List V → Hp → Prop) (h0 : J 0 [] (upd H1 D (.lst []))) (hl : ∀ i acc H, J i acc H → SqL K H a xs) (hz : xs.length < sizeLine)
    (hs : ∀ i x H acc, xs[i]? = some x → J i acc H → H D = some (.lst acc) → acc.length = i → ∀ Qn : VK, (∀ y H4, H4 D = some (.lst acc) → J (i + 1) (acc ++ [y]) (upd H4 D (.lst (acc ++ [y]))) → Qn y H4) → g x (wipe σ vs) H fun σ2 H2 => wipe σ2 vs = wipe σ vs ∧ te σ2 H2 Qn)
    (hd : ∀ ys H, J xs.length ys H → H D = some (.lst ys) → ys.length = xs.length → Qd H) :
    ∃ W : Nat → Nat → Hp → Prop, (∃ m, W 0 m (upd H1 D (.lst []))) ∧ ∀ i m H, W i m H →
      ((Itl K a).stop i H ∧ Qd H) ∨ ((Itl K a).go i H ∧ ∃ Nx : Hp → Prop, (∀ H', Nx H' → ∃ m', m' < m ∧ W (i + 1) m' H') ∧ ∀ x H', (Itl K a).yld i H x H' → g x (wipe σ vs) H' fun σ2 H2 => wipe σ2 vs = wipe σ vs ∧ tYes σ2 H2 fun b H3 =>
        if b = true then te σ2 H3 fun y H4 => ∃ acc, H4 D = some (.lst acc) ∧ acc.length < sizeLine ∧ Nx (upd H4 D (.lst (acc ++ [y]))) else Nx H3) :=
  lc_list (K := K) (a := a) (xs := xs) (PvJ D J) ⟨[], rfl, upd_same, h0⟩ (fun i H _ h => let ⟨acc, _, _, j⟩ := h; hl i acc H j)
    (fun i x H hx h => step_J (Nat.lt_trans (List.getElem?_eq_some_iff.mp hx).1 hz) h fun acc j e l => hs i x H acc hx j e l) fun H h => let ⟨ys, l, e, j⟩ := h; hd ys H j e l
theorem lcR {lo : Int} {n : Nat} (J : Nat → List V → Hp → Prop) (h0 : J 0 [] (upd H1 D (.lst []))) (hz : n < sizeLine)
    (hs : ∀ i H acc, i < n → J i acc H → H D = some (.lst acc) → acc.length = i → ∀ Qn : VK, (∀ y H4, H4 D = some (.lst acc) → J (i + 1) (acc ++ [y]) (upd H4 D (.lst (acc ++ [y]))) → Qn y H4) → g (.int (lo + i)) (wipe σ vs) H fun σ2 H2 => wipe σ2 vs = wipe σ vs ∧ te σ2 H2 Qn)
    (hd : ∀ ys H, J n ys H → H D = some (.lst ys) → ys.length = n → Qd H) :
    ∃ W : Nat → Nat → Hp → Prop, (∃ m, W 0 m (upd H1 D (.lst []))) ∧ ∀ i m H, W i m H →
      ((Itr lo n).stop i H ∧ Qd H) ∨ ((Itr lo n).go i H ∧ ∃ Nx : Hp → Prop, (∀ H', Nx H' → ∃ m', m' < m ∧ W (i + 1) m' H') ∧ ∀ x H', (Itr lo n).yld i H x H' → g x (wipe σ vs) H' fun σ2 H2 => wipe σ2 vs = wipe σ vs ∧ tYes σ2 H2 fun b H3 =>
        if b = true then te σ2 H3 fun y H4 => ∃ acc, H4 D = some (.lst acc) ∧ acc.length < sizeLine ∧ Nx (upd H4 D (.lst (acc ++ [y]))) else Nx H3) :=
  lc_range (PvJ D J) ⟨[], rfl, upd_same, h0⟩ (fun i H hi h => step_J (Nat.lt_trans hi hz) h fun acc j e l => hs i H acc hi j e l) fun H h => let ⟨ys, l, e, j⟩ := h; hd ys H j e l
end
end Ws

namespace Ws
open PySem PySem.Spec PyProof.Rows L2
theorem for_enum {K : PySem.W.Frag} {a : Addr} {xs : List V} {g : TG} {tb : TS} {D : Ends} {σ : L2.St} {H : Hp} (Pv : Nat → L2.St → Hp → Prop) (h0 : Pv 0 σ H) (hl : ∀ i σ H, i ≤ xs.length → Pv i σ H → SqL K H a xs)
    (st : ∀ (i : Nat) (x : V) (σ : L2.St) (H : Hp) (T : Addr), xs[i]? = some x → Pv i σ H → H T = none → g (.ref T) σ (upd H T (.tup [.int i, x])) fun σ2 H2 => tb { nx := Pv (i + 1), rt := D.rt, bk := D.nx, ct := Pv (i + 1) } σ2 H2)
    (hd : ∀ σ H, Pv xs.length σ H → D.nx σ H) :
    ∃ W : Nat → Nat → L2.St → Hp → Prop, (∃ m, W 0 m σ H) ∧ ∀ (i m : Nat) (σ : L2.St) (H : Hp), W i m σ H → (Ite K a).stop i H ∧ D.nx σ H ∨ (Ite K a).go i H ∧ ∃ N : L2.St → Hp → Prop, (∀ σ' H', N σ' H' → ∃ m', m' < m ∧ W (i + 1) m' σ' H') ∧ ∀ (x : V) (H' : Hp), (Ite K a).yld i H x H' → g x σ H' fun σ2 H2 => tb { nx := N, rt := D.rt, bk := D.nx, ct := N } σ2 H2 := by
  refine ⟨fun i m σ H => i ≤ xs.length ∧ m = xs.length - i ∧ Pv i σ H, ⟨_, Nat.zero_le _, rfl, h0⟩, ?_⟩
  rintro i m σ H ⟨hi, rfl, hp⟩
  have hs := hl i σ H hi hp
  by_cases e : i = xs.length
  · subst e
    exact .inl ⟨⟨xs, hs, Nat.le_refl _⟩, hd σ H hp⟩
  · have il : i < xs.length := by omega
    refine .inr ⟨⟨xs, xs[i], hs, List.getElem?_eq_getElem il⟩, fun σ' H' => Pv (i + 1) σ' H', fun σ' H' h => ⟨xs.length - (i + 1), by omega, by omega, rfl, h⟩, ?_⟩
    rintro x H' ⟨T, y, rfl, nT, rfl, hy⟩
    exact st i y σ H T (hy xs hs) hp nT
/-! ### drawn texts of blocks -/
theorem callR_or {X : Cx} {v : Value} {r1 r2 : List V → Hp → VK → Prop} (h1 : CallR X v r1) (h2 : CallR X v r2) : CallR X v (fun xs H Q => r1 xs H Q ∨ r2 xs H Q) :=
  fun pi st σ G xs us Q J rr q => q.elim (fun q => h1 pi st σ G xs us Q J rr q) (fun q => h2 pi st σ G xs us Q J rr q)
theorem call_repN {X : Cx} : CallR X (.builtin "repr") (fun xs H Q => xs = [V.non] ∧ Q (.str "None") H) := by
  intro pi st σ G xs us Q J rr hq
  obtain ⟨rfl, q⟩ := hq
  obtain ⟨u, rfl, ru⟩ := vals1 rr
  cases (show u = Value.none from ru)
  exact PySem.P.repr_of_none ⟨.str _, G, J.tok _, ⟨_, rfl⟩, q⟩
noncomputable def rowOk (x : Str) : Bool := PyData.strOk x && decide (x.length ≤ 20) && !(TL.tl x).contains 10
theorem join_ok {y : Str} (hy : PyData.strOk y = true) : ∀ l : List Str, (∀ x ∈ l, PyData.strOk x = true) → PyData.strOk (Str.join y l) = true
  | [], _ => by
    rw [Str.join]
    decide +kernel
  | [x], h => h x (List.mem_singleton.mpr rfl)
  | x :: z :: r, h => by
    show PyData.strOk (x ++ y ++ Str.join y (z :: r)) = true
    have h1 := h x (List.mem_cons_self ..)
    have h2 := join_ok hy (z :: r) fun w hw => h w (List.mem_cons_of_mem _ hw)
    unfold PyData.strOk at *
    show Array.all (x.cps ++ y.cps ++ (Str.join y (z :: r)).cps) _ = true
    rw [Array.all_append, Array.all_append, h1, hy, h2]
    rfl
theorem join_len {y : Str} : ∀ l : List Str, (Str.join y l).length ≤ (l.map (·.length)).sum + l.length * y.length
  | [] => by
    rw [Str.join]
    exact Nat.zero_le _
  | [x] => by
    show x.length ≤ _
    simp
  | x :: z :: r => by
    have ih := join_len (y := y) (z :: r)
    have e : (Str.join y (x :: z :: r)).length = x.length + y.length + (Str.join y (z :: r)).length := by
      show (x.cps ++ y.cps ++ (Str.join y (z :: r)).cps).size = _
      rw [Array.size_append, Array.size_append]
      rfl
    rw [e]
    simp only [List.map_cons, List.sum_cons, List.length_cons] at ih ⊢
    rw [Nat.add_mul (r.length + 1) 1, Nat.one_mul]
    omega
theorem sum_le {l : List Str} {k : Nat} (h : ∀ x ∈ l, x.length ≤ k) : (l.map (·.length)).sum ≤ l.length * k := by
  induction l with
  | nil => exact Nat.zero_le _
  | cons x r ih =>
    have h1 := h x (List.mem_cons_self ..)
    have h2 := ih fun z hz => h z (List.mem_cons_of_mem _ hz)
    rw [List.map_cons, List.sum_cons, List.length_cons, Nat.add_mul, Nat.one_mul]
    omega
end Ws

namespace Ws
open PySem PySem.Spec PyProof.Rows L2
/-! ### texts that are short and have no line feed; lists of them -/
noncomputable def wok (n : Nat) (x : Str) : Bool := PyData.strOk x && decide (x.length ≤ n) && !(TL.tl x).contains 10
theorem wok_app {n m : Nat} {x y : Str} (hx : wok n x = true) (hy : wok m y = true) : wok (n + m) (x ++ y) = true := by
  unfold wok at *
  simp only [Bool.and_eq_true, decide_eq_true_iff, Bool.not_eq_true'] at *
  obtain ⟨⟨h1, h2⟩, h3⟩ := hx
  obtain ⟨⟨h4, h5⟩, h6⟩ := hy
  refine ⟨⟨?_, ?_⟩, ?_⟩
  · unfold PyData.strOk at *
    show Array.all (x.cps ++ y.cps) _ = true
    rw [Array.all_append, h1, h4]
    rfl
  · show (x.cps ++ y.cps).size ≤ _
    rw [Array.size_append]
    have e1 : x.length = x.cps.size := rfl
    have e2 : y.length = y.cps.size := rfl
    omega
  · rw [TL.tl_append, List.contains_eq_any_beq, List.any_append, ← List.contains_eq_any_beq, ← List.contains_eq_any_beq, h3, h6]
    rfl
theorem wok_le {n : Nat} {x : Str} (h : wok n x = true) : x.length ≤ n := by
  unfold wok at h
  simp only [Bool.and_eq_true, decide_eq_true_iff] at h
  exact h.1.2
theorem wok_mono {n m : Nat} {x : Str} (h : wok n x = true) (l : n ≤ m) : wok m x = true := by
  unfold wok at *
  simp only [Bool.and_eq_true, decide_eq_true_iff] at *
  exact ⟨⟨h.1.1, by omega⟩, h.2⟩
noncomputable def txs (k n : Nat) (l : List Str) : Bool := decide (l.length ≤ n) && l.all (wok k)
theorem txs_iff {k n : Nat} {l : List Str} : txs k n l = true ↔ l.length ≤ n ∧ ∀ x ∈ l, wok k x = true := by
  unfold txs
  rw [Bool.and_eq_true, decide_eq_true_iff, List.all_eq_true]
theorem txs_len {k n : Nat} {l : List Str} (h : txs k n l = true) : l.length ≤ n := (txs_iff.mp h).1
theorem txs_mem {k n : Nat} {l : List Str} (h : txs k n l = true) {x : Str} (hx : x ∈ l) : wok k x = true := (txs_iff.mp h).2 x hx
theorem txs_app {k n m : Nat} {l r : List Str} (h : txs k n l = true) (g : txs k m r = true) : txs k (n + m) (l ++ r) = true := by
  rw [txs_iff] at *
  refine ⟨by rw [List.length_append]; omega, fun x hx => ?_⟩
  rcases List.mem_append.mp hx with hx | hx
  · exact h.2 x hx
  · exact g.2 x hx
theorem txs_mono {k k' n n' : Nat} {l : List Str} (h : txs k n l = true) (hk : k ≤ k') (hn : n ≤ n') : txs k' n' l = true := by
  rw [txs_iff] at *
  exact ⟨by omega, fun x hx => wok_mono (h.2 x hx) hk⟩
theorem txs_one {k : Nat} {x : Str} (h : wok k x = true) : txs k 1 [x] = true := by
  rw [txs_iff]
  exact ⟨Nat.le_refl 1, fun z hz => by rw [List.mem_singleton.mp hz]; exact h⟩
theorem txs_sub {k n m : Nat} {l r : List Str} (h : txs k n l = true) (hs : ∀ x ∈ r, x ∈ l) (hm : r.length ≤ m) : txs k m r = true := by
  rw [txs_iff] at *
  exact ⟨hm, fun x hx => h.2 x (hs x hx)⟩
theorem mem_str {l : List Str} {v : V} (h : v ∈ l.map V.str) : ∃ x, v = .str x ∧ x ∈ l := by
  obtain ⟨x, hx, rfl⟩ := List.mem_map.mp h
  exact ⟨x, rfl, hx⟩
/-! ### what stands while one draws -/
theorem PotAt.ne {H : Hp} {p l : Addr} {m : Int} (h : PotAt H p m) (n : H l = none) : p ≠ l := by
  obtain ⟨_, _, _, e, _⟩ := h
  exact ne_of_none e n
structure Sx (H0 H : Hp) (p : Addr) (m : Int) (F : List (Addr × HO)) : Prop where
  ch : Ch p H0 H
  pot : PotAt H p m
  at_ : ∀ q ∈ F, H q.1 = some q.2 ∧ H0 q.1 = none ∧ q.1 ≠ p
section
variable {H0 H H' : Hp} {p l : Addr} {m m' : Int} {F G : List (Addr × HO)} {o : HO} {q : Addr × HO}
theorem Sx.start (h : PotAt H p m) : Sx H H p m [] := ⟨Ch.refl, h, fun _ h => absurd h List.not_mem_nil⟩
theorem Sx.new (S : Sx H0 H p m F) (n : H l = none) (o : HO) : Sx H0 (upd H l o) p m ((l, o) :: F) := by
  have s := Same.new (o := o) n
  have np := S.pot.ne n
  refine ⟨S.ch.trans (Ch.of s), S.pot.same s, fun q hq => ?_⟩
  rcases List.mem_cons.mp hq with rfl | hq
  · exact ⟨upd_same, S.ch.free (Ne.symm np) n, Ne.symm np⟩
  · obtain ⟨h1, h2, h3⟩ := S.at_ q hq
    exact ⟨s _ _ h1, h2, h3⟩
theorem Sx.drw (S : Sx H0 H p m F) (hp : PotAt H' p m') (c : Ch p H H') : Sx H0 H' p m' F :=
  ⟨S.ch.trans c, hp, fun q hq => let ⟨h1, h2, h3⟩ := S.at_ q hq; ⟨c _ _ h3 h1, h2, h3⟩⟩
theorem Sx.got (S : Sx H0 H p m F) (hp : PotAt H' p m') (c : Ch p H H') (n : H l = none) (e : H' l = some o) : Sx H0 H' p m' ((l, o) :: F) := by
  have np := S.pot.ne n
  refine ⟨S.ch.trans c, hp, fun q hq => ?_⟩
  rcases List.mem_cons.mp hq with rfl | hq
  · exact ⟨e, S.ch.free (Ne.symm np) n, Ne.symm np⟩
  · obtain ⟨h1, h2, h3⟩ := S.at_ q hq
    exact ⟨c _ _ h3 h1, h2, h3⟩
theorem Sx.same (S : Sx H0 H p m F) (s : Same H H') : Sx H0 H' p m F := S.drw (S.pot.same s) (Ch.of s)
theorem Sx.lst {xs ys : List V} (S : Sx H0 H p m ((l, .lst xs) :: F)) (e : xs = ys) : Sx H0 H p m ((l, .lst ys) :: F) := e ▸ S
theorem Sx.mono (S : Sx H0 H p m F) (h : m ≤ m') : Sx H0 H p m' F := ⟨S.ch, S.pot.mono h, S.at_⟩
theorem Sx.sub (S : Sx H0 H p m F) (h : ∀ q ∈ G, q ∈ F) : Sx H0 H p m G := ⟨S.ch, S.pot, fun q hq => S.at_ q (h q hq)⟩
theorem Sx.i (S : Sx H0 H p m F) (i : Nat) (h : F[i]? = some q := by rfl) : H q.1 = some q.2 := (S.at_ q (List.mem_of_getElem? h)).1
theorem Sx.fr (S : Sx H0 H p m F) (i : Nat) (h : F[i]? = some q := by rfl) : H0 q.1 = none := (S.at_ q (List.mem_of_getElem? h)).2.1
theorem Sx.np (S : Sx H0 H p m F) (i : Nat) (h : F[i]? = some q := by rfl) : q.1 ≠ p := (S.at_ q (List.mem_of_getElem? h)).2.2
theorem Sx.old (S : Sx H0 H p m F) {a : Addr} (e : H0 a = some o) (n : a ≠ p) : H a = some o := S.ch _ _ n e
/-- the list that stands first is changed in place -/
theorem Sx.put {o' : HO} (S : Sx H0 H p m ((l, o) :: F)) (nd : ∀ q ∈ F, q.1 ≠ l) : Sx H0 (upd H l o') p m ((l, o') :: F) := by
  have h0 := S.at_ (l, o) (List.mem_cons_self ..)
  refine ⟨fun b u n e => (upd_ne (fun z => by rw [z, h0.2.1] at e; cases e)).trans (S.ch b u n e), ?_, fun q hq => ?_⟩
  · obtain ⟨a, b, c, e, r⟩ := S.pot
    exact ⟨a, b, c, (upd_ne (Ne.symm h0.2.2)).trans e, r⟩
  · rcases List.mem_cons.mp hq with rfl | hq
    · exact ⟨upd_same, h0.2⟩
    · obtain ⟨h1, h2, h3⟩ := S.at_ q (List.mem_cons_of_mem _ hq)
      exact ⟨(upd_ne (nd q hq)).trans h1, h2, h3⟩
end
theorem wok_join {y : Str} (hy : wok 1 y = true) {k : Nat} : ∀ l : List Str, (∀ x ∈ l, wok k x = true) → wok (l.length * (k + 1)) (Str.join y l) = true
  | [], _ => by
    show wok (0 * (k + 1)) "" = true
    rw [Nat.zero_mul]
    decide +kernel
  | [x], h => by
    show wok (1 * (k + 1)) x = true
    exact wok_mono (h x (List.mem_singleton.mpr rfl)) (by omega)
  | x :: z :: r, h => by
    show wok ((z :: r).length.succ * (k + 1)) (x ++ y ++ Str.join y (z :: r)) = true
    have h1 := h x (List.mem_cons_self ..)
    have h2 := wok_join hy (z :: r) fun w hw => h w (List.mem_cons_of_mem _ hw)
    exact wok_mono (wok_app (wok_app h1 hy) h2) (by rw [Nat.succ_mul]; omega)
theorem num_wok {i : Int} (h0 : 0 ≤ i) (h : i ≤ 999) : wok 3 (Str.ofString (toString i)) = true := by
  have : ∀ k : Fin 1000, wok 3 (Str.ofString (toString ((k : Nat) : Int))) = true := by decide +kernel
  have e := this ⟨i.toNat, by omega⟩
  have e2 : ((i.toNat : Nat) : Int) = i := Int.toNat_of_nonneg h0
  rw [← e2]
  exact e
theorem num_log {i : Int} (h0 : 0 ≤ i) (h : i ≤ 999) : i.natAbs.log2 < 1920 := by
  have : ∀ k : Fin 1000, (k : Nat).log2 < 1920 := by decide +kernel
  have e := this ⟨i.natAbs, by omega⟩
  exact e
theorem szl {n : Nat} (h : n ≤ 20000) : n ≤ sizeLine := Nat.le_trans h (by decide)
theorem add_sz {n m : Nat} {x y : Str} (hx : wok n x = true) (hy : wok m y = true) (h : n + m ≤ 20000) : x.length + y.length ≤ sizeLine := szl (by have := wok_le hx; have := wok_le hy; omega)
theorem mem_int {l : List Int} {v : V} (h : v ∈ l.map V.int) (hl : l.all (fun i => decide (0 ≤ i ∧ i ≤ 999)) = true) : ∃ i, v = .int i ∧ 0 ≤ i ∧ i ≤ 999 := by
  obtain ⟨x, hx, rfl⟩ := List.mem_map.mp h
  have := of_decide_eq_true (List.all_eq_true.mp hl x hx)
  exact ⟨x, rfl, this.1, this.2⟩
theorem Sx.app {H0 H : Hp} {p l : Addr} {m : Int} {F : List (Addr × HO)} {rows : List Str} {x : Str} (S : Sx H0 H p m F) (i : Nat) (h : F[i]? = some (l, .lst (rows.map V.str)) := by rfl) : Sx H0 (upd H l (.lst (rows.map V.str ++ [.str x]))) p m [(l, .lst ((rows ++ [x]).map V.str))] := by
  have S1 : Sx H0 H p m [(l, .lst (rows.map V.str))] := S.sub fun q hq => by rw [List.mem_singleton.mp hq]; exact List.mem_of_getElem? h
  have S2 := S1.put (o' := .lst (rows.map V.str ++ [.str x])) fun q hq => absurd hq List.not_mem_nil
  exact S2.lst (by rw [List.map_append]; rfl)
theorem at_str {l : List Str} {i : Nat} {x : V} (h : (l.map V.str)[i]? = some x) : ∃ z, x = .str z ∧ z ∈ l := mem_str (List.mem_of_getElem? h)
theorem cut_str (l : List Str) (lo hi : Option Int) : ∃ r : List Str, cutV (l.map V.str) lo hi = r.map V.str ∧ (∀ x ∈ r, x ∈ l) ∧ r.length ≤ l.length := by
  unfold cutV
  rw [← List.map_drop, ← List.map_take]
  refine ⟨_, rfl, fun x hx => List.mem_of_mem_drop (List.mem_of_mem_take hx), ?_⟩
  rw [List.length_take, List.length_drop]
  omega
theorem Sx.upd {H0 H : Hp} {p l : Addr} {m : Int} {F : List (Addr × HO)} {o : HO} (S : Sx H0 H p m F) (i : Nat) (h : F[i]? = some (l, o)) (o' : HO) (G : List (Addr × HO)) (hG : ∀ q ∈ G, q ∈ F ∧ q.1 ≠ l) : Sx H0 (upd H l o') p m ((l, o') :: G) :=
  (S.sub (G := (l, o) :: G) fun q hq => by
    rcases List.mem_cons.mp hq with rfl | hq
    · exact List.mem_of_getElem? h
    · exact (hG q hq).1).put fun q hq => (hG q hq).2
theorem Sx.kind {H0 H : Hp} {p l d : Addr} {m : Int} {F : List (Addr × HO)} {xs : List V} {kvs : List (Key × V)} (S : Sx H0 H p m F) (i j : Nat) (h1 : F[i]? = some (l, .lst xs) := by rfl) (h2 : F[j]? = some (d, .dK kvs) := by rfl) : l ≠ d := fun z => by
  have e1 := S.i i h1
  have e2 := S.i j h2
  rw [show l = d from z] at e1
  rw [show H d = _ from e1] at e2
  cases e2
/-! ### texts of rows: what both sides say of them -/
theorem cut_lo (l : List Str) (n : Nat) : cutV (l.map V.str) none (some (n : Int)) = (l.take n).map V.str := by
  unfold cutV
  rw [show HT.sIx (l.map V.str).length 0 none = 0 from rfl, HT.sIx_nat, List.drop_zero, List.length_map, List.map_take, Nat.sub_zero]
  by_cases h3 : n ≤ l.length
  · rw [Nat.min_eq_left h3]
  · rw [Nat.min_eq_right (by omega), List.take_of_length_le (by rw [List.length_map]; exact Nat.le_refl _), List.take_of_length_le (by rw [List.length_map]; omega)]
theorem cut_hi (l : List Str) (n : Nat) : cutV (l.map V.str) (some (n : Int)) none = (l.drop n).map V.str := by
  unfold cutV
  rw [show HT.sIx (l.map V.str).length (l.map V.str).length none = (l.map V.str).length from rfl, HT.sIx_nat, List.length_map]
  by_cases h3 : n ≤ l.length
  · rw [Nat.min_eq_left h3, List.take_of_length_le (by rw [List.length_drop, List.length_map]; exact Nat.le_refl _), List.map_drop]
  · rw [Nat.min_eq_right (by omega), Nat.sub_self, List.take_zero, List.drop_eq_nil_of_le (by omega)]
    rfl
theorem take_sub {l : List Str} {n : Nat} : ∀ x ∈ l.take n, x ∈ l := fun x hx => List.mem_of_mem_take hx
theorem drop_sub {l : List Str} {n : Nat} : ∀ x ∈ l.drop n, x ∈ l := fun x hx => List.mem_of_mem_drop hx
theorem txs_ins {k n at_ : Nat} {l r : List Str} (h : txs k n l = true) (hr : txs k 1 r = true) : txs k (n + 1) (l.take at_ ++ r ++ l.drop at_) = true := by
  rw [txs_iff] at *
  refine ⟨?_, fun x hx => ?_⟩
  · rw [List.length_append, List.length_append, List.length_take, List.length_drop]
    omega
  · rcases List.mem_append.mp hx with hx | hx
    · rcases List.mem_append.mp hx with hx | hx
      · exact h.2 x (take_sub x hx)
      · exact hr.2 x hx
    · exact h.2 x (drop_sub x hx)
theorem Sx.appV {H0 H : Hp} {p l : Addr} {m : Int} {F : List (Addr × HO)} {xs : List V} {y : V} (S : Sx H0 H p m F) (i : Nat) (h : F[i]? = some (l, .lst xs) := by rfl) : Sx H0 (L2.upd H l (.lst (xs ++ [y]))) p m [(l, .lst (xs ++ [y]))] :=
  (S.sub (G := [(l, .lst xs)]) fun q hq => by rw [List.mem_singleton.mp hq]; exact List.mem_of_getElem? h).put fun q hq => absurd hq List.not_mem_nil
theorem lc_en {K : PySem.W.Frag} {a : Addr} {xs : List V} {g : TG} {tt : TT} {te : TE} {vs : List Nat} {σ : L2.St} {G1 : Hp} {D : Addr} {Qd : Hp → Prop} (Pv : Nat → Hp → Prop) (h0 : Pv 0 (L2.upd G1 D (.lst []))) (hl : ∀ i G, i ≤ xs.length → Pv i G → SqL K G a xs)
    (st : ∀ (i : Nat) (x : V) (G : Hp) (T : Addr), xs[i]? = some x → Pv i G → G T = none → g (.ref T) (wipe σ vs) (L2.upd G T (.tup [.int i, x])) fun σ2 G2 => wipe σ2 vs = wipe σ vs ∧ tt σ2 G2 fun b G3 => if b = true then te σ2 G3 fun y G4 => ∃ acc, G4 D = some (.lst acc) ∧ acc.length < sizeLine ∧ Pv (i + 1) (L2.upd G4 D (.lst (acc ++ [y]))) else Pv (i + 1) G3)
    (hd : ∀ G, Pv xs.length G → Qd G) :
    ∃ W : Nat → Nat → Hp → Prop, (∃ m, W 0 m (L2.upd G1 D (.lst []))) ∧ ∀ (i m : Nat) (G : Hp), W i m G → (Ite K a).stop i G ∧ Qd G ∨ (Ite K a).go i G ∧ ∃ Nx : Hp → Prop, (∀ G', Nx G' → ∃ m', m' < m ∧ W (i + 1) m' G') ∧
      ∀ (x : V) (G' : Hp), (Ite K a).yld i G x G' → g x (wipe σ vs) G' fun σ2 G2 => wipe σ2 vs = wipe σ vs ∧ tt σ2 G2 fun b G3 => if b = true then te σ2 G3 fun y G4 => ∃ acc, G4 D = some (.lst acc) ∧ acc.length < sizeLine ∧ Nx (L2.upd G4 D (.lst (acc ++ [y]))) else Nx G3 := by
  refine ⟨fun i m G => i ≤ xs.length ∧ m = xs.length - i ∧ Pv i G, ⟨_, Nat.zero_le _, rfl, h0⟩, ?_⟩
  rintro i m G ⟨hi, rfl, hp⟩
  have hs := hl i G hi hp
  by_cases e : i = xs.length
  · subst e
    exact .inl ⟨⟨xs, hs, Nat.le_refl _⟩, hd G hp⟩
  · have il : i < xs.length := by omega
    refine .inr ⟨⟨xs, xs[i], hs, List.getElem?_eq_getElem il⟩, fun G' => Pv (i + 1) G', fun G' h => ⟨xs.length - (i + 1), by omega, by omega, rfl, h⟩, ?_⟩
    rintro x G' ⟨T, y, rfl, nT, rfl, hy⟩
    exact st i y G T (hy xs hs) hp nT
end Ws

namespace Ws
open PySem PySem.Spec PyProof.Rows L2
noncomputable abbrev sDFac : Stmt := (PySem.Challenge.pw_whatspeed_k17_what_a_program_tells.main.body.getD 61 (.Pass ⟨0, 0, 0, 0⟩))
noncomputable abbrev NDFac : List Str := ["pot", "names", "deep"]
noncomputable abbrev PDFac : List Str := ["pot", "names", "deep"]
theorem scDFac : FnScope NDFac PDFac (defScope sDFac) := ⟨rfl, rfl, rfl, by decide +kernel, rfl, by decide +kernel, by decide +kernel⟩
noncomputable abbrev sDSum : Stmt := (PySem.Challenge.pw_whatspeed_k17_what_a_program_tells.main.body.getD 62 (.Pass ⟨0, 0, 0, 0⟩))
noncomputable abbrev NDSum : List Str := ["pot", "names", "deep", "found", "turn"]
noncomputable abbrev PDSum : List Str := ["pot", "names", "deep"]
theorem scDSum : FnScope NDSum PDSum (defScope sDSum) := ⟨rfl, rfl, rfl, by decide +kernel, rfl, by decide +kernel, by decide +kernel⟩
noncomputable abbrev sDVal : Stmt := (PySem.Challenge.pw_whatspeed_k17_what_a_program_tells.main.body.getD 63 (.Pass ⟨0, 0, 0, 0⟩))
noncomputable abbrev NDVal : List Str := ["pot", "names", "deep", "found"]
noncomputable abbrev PDVal : List Str := ["pot", "names", "deep"]
theorem scDVal : FnScope NDVal PDVal (defScope sDVal) := ⟨rfl, rfl, rfl, by decide +kernel, rfl, by decide +kernel, by decide +kernel⟩
/-! ### drawn expressions: how many words, how many draws -/
noncomputable def wF : Nat → Nat
  | 0 => 1
  | d + 1 => 2 * (3 * wF d + 2) + 3
noncomputable def wS (d : Nat) : Nat := 3 * wF d + 2
noncomputable def wV (d : Nat) : Nat := 2 * wS d + 1
noncomputable def qF : Nat → Nat
  | 0 => 1
  | d + 1 => 2 * (3 * qF d + 3) + 3
noncomputable def qS (d : Nat) : Nat := 3 * qF d + 3
noncomputable def qV (d : Nat) : Nat := 2 * qS d + 2
theorem wc_le {d : Nat} (h : d ≤ 3) : wF d ≤ 5000 ∧ qF d ≤ 5000 := by
  have : ∀ k : Fin 4, wF k ≤ 5000 ∧ qF k ≤ 5000 := by decide +kernel
  exact this ⟨d, by omega⟩
noncomputable def spDE (wd cd : Nat → Nat) (d : Nat) : Sp := fun vs H Q _ => ∃ (p a : Addr) (m : Int) (names : List Str), vs = [.ref p, .ref a, .int d] ∧ PotAt H p m ∧ m + cd d ≤ 9000000000 ∧ H a = some (.lst (names.map V.str)) ∧ a ≠ p ∧ txs 8 20 names = true ∧
  ∀ (r : Addr) (ws : List Str) (H' : Hp), H r = none → H' r = some (.lst (ws.map V.str)) → txs 8 (wd d) ws = true → 1 ≤ ws.length → PotAt H' p (m + cd d) → Ch p H H' → Q (.ref r) H'
noncomputable def spDFac : Nat → Sp := spDE wF qF
noncomputable def spDSum : Nat → Sp := spDE wS qS
noncomputable def spDVal : Nat → Sp := spDE wV qV
noncomputable def spDValP : Nat → Sp
  | 0 => fun _ _ _ _ => False
  | d + 1 => spDVal d
section
variable {P : Program} {w : World} {K : PySem.W.Frag} {mg : Str → Option Value} {base : Heap} {f : Addr} {fd : FuncData}
theorem ok_dfac (F : L2.Fun K "_law_factor" "_law_factor" sDFac f fd) (b : Binds K fd PDFac []) (B : Bi mg) (cT : CalF P w K mg base 1 "_law_take" spTake) (cO : CalF P w K mg base 2 "_law_of" spOf) (d : Nat) (hd : d ≤ 3) (cV : CalF P w K mg base (3 * d + 2) "_law_value" (spDValP d)) :
    FnR P w K mg base CX0 (3 * d + 3) f (spDFac d) := by
  refine fnR_of (k := 3 * d + 2) F b scDFac (fun vs H Q E h => ?_) (fun cdv A outer s H vs Q E hr h => ?_)
  · obtain ⟨p, a, m, names, rfl, _⟩ := h
    rfl
  · have sc := scDFac
    obtain ⟨p, a, m, names, rfl, hp, hm, ha, nap, hn, q⟩ := h
    refine ⟨_, (pss_cons (ps_if (PW.pt (pw_and (pt_cmpR op_gt (pv 2) pe_int (nomark _)) (pw_and1 (pt_cmpR op_eq (pe_f cT hr (by omega) rfl (pa_cons (pv 0) (pa_cons pe_int pa_nil))) pe_int (nomark _))))) (pss_one (ps_ret (pe_op op_cat (pe_op op_cat (pe_lst (pa_cons pe_str pa_nil)) (pe_f cV hr (by omega) rfl (pa_cons (pv 0) (pa_cons (pv 1) (pa_cons (pe_op op_sub (pv 2) pe_int) pa_nil))))) (pe_lst (pa_cons pe_str pa_nil))))) pss_nil) (pss_one (ps_ret (pe_lst (pa_cons (pe_f cO hr (by omega) rfl (pa_cons (pv 0) (pa_cons (pe_op op_cat (pv 1) (pe_lst (pa_cons pe_str (pa_cons pe_str (pa_cons pe_str (pa_cons pe_str (pa_cons pe_str (pa_cons pe_str pa_nil)))))))) pa_nil))) pa_nil))))), ?_⟩
    have hm : m + qF d ≤ 9000000000 := hm
    have S := Sx.start hp
    have last : ∀ (m1 : Int) (H1 : Hp), Sx H H1 p m1 [] → m1 + 1 ≤ m + qF d → (tRet (tLst (tCons (tF spOf (tCons (tVar 0) (tCons (tOp rCat (tVar 1) (tLst (tCons (tC (V.str "0")) (tCons (tC (V.str "1")) (tCons (tC (V.str "7")) (tCons (tC (V.str "999")) (tCons (tC (V.str "x")) (tCons (tC (V.str "y")) tNil)))))))) tNil))) tNil)))
        { nx := fun x H' => Q V.non H', rt := Q } (L2.start NDFac [V.ref p, V.ref a, V.int ↑d]) H1 := fun m1 H1 S h1 => by
      have hl := txs_len hn
      have hc := (wc_le hd).2
      refine ⟨_, rfl, _, rfl, by show 6 ≤ sizeLine; decide, fun l1 n1 => ?_⟩
      have S1 := S.new n1 (.lst [.str "0", .str "1", .str "7", .str "999", .str "x", .str "y"])
      refine ⟨a, l1, _, _, rfl, rfl, S1.old ha nap, S1.i 0, ?_, fun l2 n2 => ?_⟩
      · rw [List.length_map]
        exact Nat.le_trans (Nat.add_le_add_right hl 6) (by decide)
      have S2 := S1.new n2 (.lst (names.map V.str ++ [.str "0", .str "1", .str "7", .str "999", .str "x", .str "y"]))
      refine ⟨p, l2, _, _, rfl, S2.pot, by omega, S2.i 0, S2.np 0, ?_, ?_, fun v G hv hp2 c2 => ?_⟩
      · rw [List.length_append]
        show 1 ≤ _ + 6
        omega
      · rw [List.length_append, List.length_map]
        show _ + 6 ≤ 1000
        omega
      have hv2 : ∃ x, v = .str x ∧ wok 8 x = true := by
        rcases List.mem_append.mp hv with hv | hv
        · obtain ⟨x, rfl, hx⟩ := mem_str hv
          exact ⟨x, rfl, txs_mem hn hx⟩
        · obtain ⟨x, rfl, hx⟩ := mem_str (l := ["0", "1", "7", "999", "x", "y"]) hv
          exact ⟨x, rfl, txs_mem (show txs 8 6 ["0", "1", "7", "999", "x", "y"] = true by decide +kernel) hx⟩
      obtain ⟨x, rfl, hx⟩ := hv2
      have S3 := S2.drw hp2 c2
      refine ⟨by show 1 ≤ sizeLine; decide, fun r nr => ?_⟩
      have S4 := (S3.new nr (.lst [.str x])).mono (m' := m + qF d) (by omega)
      exact q r [x] _ (S4.fr 0) (S4.i 0) (txs_mono (txs_one hx) (Nat.le_refl _) (by cases d <;> (unfold wF; omega))) (Nat.le_refl 1) S4.pot S4.ch
    refine ⟨_, rfl, _, _, rfl, rfl, _, rfl, ?_⟩
    cases d with
    | zero => exact ifF (by decide) (ifF rfl (last m H S (by show m + 1 ≤ m + 1; omega)))
    | succ d =>
      have hc : qF (d + 1) = 1 + qV d := by unfold qV qS; rw [qF]; omega
      have hw : wF (d + 1) = 2 + wV d := by unfold wV wS; rw [wF]; omega
      have hc2 := (wc_le hd).2
      have hw2 := (wc_le hd).1
      refine ifT (decide_eq_true (by show (0 : Int) < ((d + 1 : Nat) : Int); omega)) ?_
      refine ⟨_, rfl, p, 4, m, rfl, hp, by omega, by decide, by decide, fun t H1 t0 t1 hp1 c1 => ⟨rfl, _, rfl, ?_⟩⟩
      have S1 := S.drw hp1 c1
      refine if2 (fun hz => ?_) (fun hz => last (m + 1) H1 S1 (by rw [hc]; have : 1 ≤ qV d := by { unfold qV; omega }; omega))
      refine ⟨by show 1 ≤ sizeLine; decide, fun l1 n1 => ?_⟩
      have S2 := S1.new n1 (.lst [.str "("])
      refine ⟨_, rfl, _, rfl, _, rfl, _, _, rfl, rfl, p, a, m + 1, names, ?_, S2.pot, by omega, S2.old ha nap, nap, hn, fun l2 ws H2 n2 e2 hws hw1 hp2 c2 => ?_⟩
      · show [V.ref p, V.ref a, V.int (((d + 1 : Nat) : Int) - 1)] = _
        rw [show ((d + 1 : Nat) : Int) - 1 = (d : Int) by omega]
      have S3 := S2.got hp2 c2 n2 e2
      have hwl := txs_len hws
      refine ⟨l1, l2, _, _, rfl, rfl, S3.i 1, S3.i 0, ?_, fun l3 n3 => ?_⟩
      · rw [List.length_map]
        exact Nat.le_trans (show 1 + ws.length ≤ 20000 by omega) (by decide)
      have S4 := S3.new n3 (.lst ([.str "("] ++ ws.map V.str))
      refine ⟨by show 1 ≤ sizeLine; decide, fun l4 n4 => ?_⟩
      have S5 := S4.new n4 (.lst [.str ")"])
      refine ⟨l3, l4, _, _, rfl, rfl, S5.i 1, S5.i 0, ?_, fun r nr => ?_⟩
      · rw [List.length_append, List.length_map]
        exact Nat.le_trans (show 1 + ws.length + 1 ≤ 20000 by omega) (by decide)
      have S6 := (S5.new nr (.lst ([.str "("] ++ ws.map V.str ++ [.str ")"]))).mono (m' := m + qF (d + 1)) (by rw [hc]; omega)
      refine q r ((["("] : List Str) ++ ws ++ ([")"] : List Str)) _ (S6.fr 0) ?_ ?_ ?_ S6.pot S6.ch
      · rw [List.map_append, List.map_append]
        exact S6.i 0
      · rw [hw]
        exact txs_mono (txs_app (m := 1) (txs_app (n := 1) (show txs 8 1 ["("] = true by decide +kernel) hws) (show txs 8 1 [")"] = true by decide +kernel)) (Nat.le_refl _) (by omega)
      · rw [List.length_append, List.length_append]
        show 1 ≤ 1 + ws.length + 1
        omega
theorem ok_dsum (F : L2.Fun K "_law_sum" "_law_sum" sDSum f fd) (b : Binds K fd PDSum []) (B : Bi mg) (cO : CalF P w K mg base 2 "_law_of" spOf) (d : Nat) (hd : d ≤ 3) (cF1 : CalF P w K mg base (3 * d + 3) "_law_factor" (spDFac d)) :
    FnR P w K mg base CX0 (3 * d + 4) f (spDSum d) := by
  refine fnR_of (k := 3 * d + 3) F b scDSum (fun vs H Q E h => ?_) (fun cdv A outer s H vs Q E hr h => ?_)
  · obtain ⟨p, a, m, names, rfl, _⟩ := h
    rfl
  · have sc := scDSum
    obtain ⟨p, a, m, names, rfl, hp, hm, ha, nap, hn, q⟩ := h
    refine ⟨_, (pss_cons (ps_set (i := 3) sc.nd rfl (Or.inl rfl) (pe_f cF1 hr (by omega) rfl (pa_cons (pv 0) (pa_cons (pv 1) (pa_cons (pv 2) pa_nil))))) (pss_cons (ps_for PassesOwn.never rfl (pi_range1 (by rfl) B.range (pa_cons (pe_f cO hr (by omega) rfl (pa_cons (pv 0) (pa_cons (pe_lst (pa_cons pe_int (pa_cons pe_int (pa_cons pe_int (pa_cons pe_int (pa_cons pe_int pa_nil)))))) pa_nil))) pa_nil)) (pg_name (i := 4) sc.nd rfl (Or.inl rfl)) (pss_one (ps_set (i := 3) sc.nd rfl (Or.inl rfl) (pe_op op_cat (pe_op op_cat (pv 3) (pe_lst (pa_cons (pe_f cO hr (by omega) rfl (pa_cons (pv 0) (pa_cons (pe_lst (pa_cons pe_str (pa_cons pe_str (pa_cons pe_str pa_nil)))) pa_nil))) pa_nil))) (pe_f cF1 hr (by omega) rfl (pa_cons (pv 0) (pa_cons (pv 1) (pa_cons (pv 2) pa_nil)))))))) (pss_one (ps_ret (pv 3))))), ?_⟩
    have hm : m + qS d ≤ 9000000000 := hm
    have eqs : qS d = 3 * qF d + 3 := rfl
    have S := Sx.start hp
    have hc2 := (wc_le hd).2
    have hw2 := (wc_le hd).1
    refine ⟨_, rfl, _, rfl, _, rfl, p, a, m, names, rfl, S.pot, by show m + qF d ≤ _; omega, ha, nap, hn, fun l1 ws H1 n1 e1 hws hw1 hp1 c1 => ?_⟩
    have S1 := S.got hp1 c1 n1 e1
    refine ⟨_, rfl, by show 5 ≤ sizeLine; decide, fun l2 n2 => ?_⟩
    have S2 := S1.new n2 (.lst [.int 0, .int 0, .int 1, .int 1, .int 2])
    refine ⟨p, l2, _, _, rfl, S2.pot, by omega, S2.i 0, S2.np 0, by show 1 ≤ 5; decide, by show 5 ≤ 1000; decide, fun v H2 hv hp2 c2 => ?_⟩
    have S3 := S2.drw hp2 c2
    obtain ⟨t, rfl, t0, t2⟩ : ∃ t : Int, v = .int t ∧ 0 ≤ t ∧ t ≤ 2 := by
      simp only [List.mem_cons, List.not_mem_nil, or_false] at hv
      rcases hv with rfl | rfl | rfl | rfl | rfl
      · exact ⟨0, rfl, by decide, by decide⟩
      · exact ⟨0, rfl, by decide, by decide⟩
      · exact ⟨1, rfl, by decide, by decide⟩
      · exact ⟨1, rfl, by decide, by decide⟩
      · exact ⟨2, rfl, by decide, by decide⟩
    refine ⟨t, rfl, by omega, by omega, for_range (n := t.toNat) (fun i σ G => ∃ (o4 : Option V) (l : Addr) (xs : List Str), σ = [some (.ref p), some (.ref a), some (.int d), some (.ref l), o4] ∧ Sx H G p (m + qF d + 1 + (i : Int) * (1 + qF d)) [(l, .lst (xs.map V.str))] ∧ txs 8 (wF d + i * (1 + wF d)) xs = true ∧ 1 ≤ xs.length) ?_ ?_ ?_⟩
    · exact ⟨_, l1, ws, rfl, (S3.sub (G := [(l1, .lst (ws.map V.str))]) (by simp)).mono (by simp), txs_mono hws (Nat.le_refl _) (by omega), hw1⟩
    · rintro i σ G hi ⟨o4, l, xs, rfl, T, hxs, hx1⟩
      have i2 : i < 2 := by omega
      rw [Int.zero_add]
      have hxl := txs_len hxs
      have hmi : (i : Int) * (1 + qF d) ≤ 1 + qF d := by
        have : i = 0 ∨ i = 1 := by omega
        rcases this with rfl | rfl <;> simp
        omega
      have hwi : i * (1 + wF d) ≤ 1 + wF d := by
        have : i = 0 ∨ i = 1 := by omega
        rcases this with rfl | rfl <;> simp
      refine ⟨_, rfl, _, rfl, by show 3 ≤ sizeLine; decide, fun l3 n3 => ?_⟩
      have T1 := T.new n3 (.lst [.str "+", .str "-", .str "*"])
      refine ⟨p, l3, _, _, rfl, T1.pot, by omega, T1.i 0, T1.np 0, by show 1 ≤ 3; decide, by show 3 ≤ 1000; decide, fun v G1 hv hp3 c3 => ?_⟩
      have T2 := T1.drw hp3 c3
      obtain ⟨x, rfl, hx⟩ := mem_str (l := ["+", "-", "*"]) hv
      have hx8 := txs_mem (show txs 8 3 ["+", "-", "*"] = true by decide +kernel) hx
      refine ⟨by show 1 ≤ sizeLine; decide, fun l4 n4 => ?_⟩
      have T3 := T2.new n4 (.lst [.str x])
      refine ⟨l, l4, _, _, rfl, rfl, T3.i 2, T3.i 0, ?_, fun l5 n5 => ?_⟩
      · rw [List.length_map]
        exact Nat.le_trans (show xs.length + 1 ≤ 20000 by omega) (by decide)
      have T4 := T3.new n5 (.lst (xs.map V.str ++ [.str x]))
      refine ⟨_, rfl, _, rfl, _, rfl, p, a, _, names, rfl, T4.pot, by show _ + (qF d : Int) ≤ _; omega, T4.old ha nap, nap, hn, fun l6 ys G2 n6 e6 hys hy1 hp6 c6 => ?_⟩
      have T5 := T4.got hp6 c6 n6 e6
      have hyl := txs_len hys
      refine ⟨l5, l6, _, _, rfl, rfl, T5.i 1, T5.i 0, ?_, fun l7 n7 => ?_⟩
      · rw [List.length_append, List.length_map, List.length_map]
        exact Nat.le_trans (show xs.length + 1 + ys.length ≤ 20000 by omega) (by decide)
      have T6 := T5.new n7 (.lst (xs.map V.str ++ [.str x] ++ ys.map V.str))
      have em : xs.map V.str ++ [.str x] ++ ys.map V.str = (xs ++ [x] ++ ys).map V.str := by rw [List.map_append, List.map_append]; rfl
      have T6 := T6.lst em
      refine ⟨_, _, _, rfl, (T6.sub (G := [(l7, .lst ((xs ++ [x] ++ ys).map V.str))]) (by simp)).mono ?_, ?_, ?_⟩
      · rw [show ((i + 1 : Nat) : Int) * (1 + (qF d : Int)) = (i : Int) * (1 + qF d) + (1 + qF d) by rw [Int.natCast_add, Int.add_mul]; simp]
        omega
      · exact txs_mono (txs_app (txs_app hxs (txs_one hx8)) hys) (Nat.le_refl _) (by rw [Nat.add_mul]; omega)
      · rw [List.length_append, List.length_append]
        omega
    · rintro σ G ⟨o4, l, xs, rfl, T, hxs, hx1⟩
      have ht : t.toNat = 0 ∨ t.toNat = 1 ∨ t.toNat = 2 := by omega
      have T1 := T.mono (m' := m + qS d) (by unfold qS; rcases ht with h | h | h <;> rw [h] <;> omega)
      exact ⟨_, rfl, q l xs G (T1.fr 0) (T1.i 0) (txs_mono hxs (Nat.le_refl _) (by unfold wS; rcases ht with h | h | h <;> rw [h] <;> omega)) hx1 T1.pot T1.ch⟩
theorem ok_dval (F : L2.Fun K "_law_value" "_law_value" sDVal f fd) (b : Binds K fd PDVal []) (B : Bi mg) (cT : CalF P w K mg base 1 "_law_take" spTake) (cO : CalF P w K mg base 2 "_law_of" spOf) (d : Nat) (hd : d ≤ 3) (cS1 : CalF P w K mg base (3 * d + 4) "_law_sum" (spDSum d)) :
    FnR P w K mg base CX0 (3 * d + 5) f (spDVal d) := by
  refine fnR_of (k := 3 * d + 4) F b scDVal (fun vs H Q E h => ?_) (fun cdv A outer s H vs Q E hr h => ?_)
  · obtain ⟨p, a, m, names, rfl, _⟩ := h
    rfl
  · have sc := scDVal
    obtain ⟨p, a, m, names, rfl, hp, hm, ha, nap, hn, q⟩ := h
    refine ⟨_, (pss_cons (ps_set (i := 3) sc.nd rfl (Or.inl rfl) (pe_f cS1 hr (by omega) rfl (pa_cons (pv 0) (pa_cons (pv 1) (pa_cons (pv 2) pa_nil))))) (pss_cons (ps_if (pt_cmpR op_eq (pe_f cT hr (by omega) rfl (pa_cons (pv 0) (pa_cons pe_int pa_nil))) pe_int (nomark _)) (pss_one (ps_set (i := 3) sc.nd rfl (Or.inl rfl) (pe_op op_cat (pe_op op_cat (pv 3) (pe_lst (pa_cons (pe_f cO hr (by omega) rfl (pa_cons (pv 0) (pa_cons (pe_lst (pa_cons pe_str (pa_cons pe_str (pa_cons pe_str pa_nil)))) pa_nil))) pa_nil))) (pe_f cS1 hr (by omega) rfl (pa_cons (pv 0) (pa_cons (pv 1) (pa_cons (pv 2) pa_nil))))))) pss_nil) (pss_one (ps_ret (pv 3))))), ?_⟩
    have S := Sx.start hp
    have hc2 := (wc_le hd).2
    have hw2 := (wc_le hd).1
    have hm : m + qV d ≤ 9000000000 := hm
    have eqv : qV d = 2 * qS d + 2 := rfl
    have ewv : wV d = 2 * wS d + 1 := rfl
    have hws0 : wS d ≤ 15002 := by unfold wS; omega
    refine ⟨_, rfl, _, rfl, _, rfl, p, a, m, names, rfl, S.pot, by show m + qS d ≤ _; omega, ha, nap, hn, fun l1 ws H1 n1 e1 hws hw1 hp1 c1 => ?_⟩
    have S1 := S.got hp1 c1 n1 e1
    have hwl := txs_len hws
    refine ⟨_, rfl, p, 3, _, rfl, S1.pot, by omega, by decide, by decide, fun t H2 t0 t1 hp2 c2 => ⟨rfl, _, rfl, ?_⟩⟩
    have S2 := S1.drw hp2 c2
    refine if2 (fun hz => ?_) (fun hz => ?_)
    · refine ⟨_, rfl, _, rfl, by show 3 ≤ sizeLine; decide, fun l3 n3 => ?_⟩
      have T1 := S2.new n3 (.lst [.str "=", .str "<", .str ">"])
      refine ⟨p, l3, _, _, rfl, T1.pot, by omega, T1.i 0, T1.np 0, by show 1 ≤ 3; decide, by show 3 ≤ 1000; decide, fun v G1 hv hp3 c3 => ?_⟩
      have T2 := T1.drw hp3 c3
      obtain ⟨x, rfl, hx⟩ := mem_str (l := ["=", "<", ">"]) hv
      have hx8 := txs_mem (show txs 8 3 ["=", "<", ">"] = true by decide +kernel) hx
      refine ⟨by show 1 ≤ sizeLine; decide, fun l4 n4 => ?_⟩
      have T3 := T2.new n4 (.lst [.str x])
      refine ⟨l1, l4, _, _, rfl, rfl, T3.i 2, T3.i 0, ?_, fun l5 n5 => ?_⟩
      · rw [List.length_map]
        exact Nat.le_trans (show ws.length + 1 ≤ 20000 by omega) (by decide)
      have T4 := T3.new n5 (.lst (ws.map V.str ++ [.str x]))
      refine ⟨_, rfl, _, rfl, _, rfl, p, a, _, names, rfl, T4.pot, by show _ + (qS d : Int) ≤ _; omega, T4.old ha nap, nap, hn, fun l6 ys G2 n6 e6 hys hy1 hp6 c6 => ?_⟩
      have T5 := T4.got hp6 c6 n6 e6
      have hyl := txs_len hys
      refine ⟨l5, l6, _, _, rfl, rfl, T5.i 1, T5.i 0, ?_, fun l7 n7 => ?_⟩
      · rw [List.length_append, List.length_map, List.length_map]
        exact Nat.le_trans (show ws.length + 1 + ys.length ≤ 100000 by omega) (by decide)
      have T6 := (T5.new n7 (.lst (ws.map V.str ++ [.str x] ++ ys.map V.str))).lst (ys := (ws ++ [x] ++ ys).map V.str) (by rw [List.map_append, List.map_append]; rfl)
      have T7 := T6.mono (m' := m + qV d) (by omega)
      exact ⟨_, rfl, q l7 (ws ++ [x] ++ ys) _ (T7.fr 0) (T7.i 0) (txs_mono (txs_app (txs_app hws (txs_one hx8)) hys) (Nat.le_refl _) (by omega)) (by rw [List.length_append, List.length_append]; omega) T7.pot T7.ch⟩
    · have T7 := S2.mono (m' := m + qV d) (by omega)
      exact ⟨_, rfl, q l1 ws _ (T7.fr 0) (T7.i 0) (txs_mono hws (Nat.le_refl _) (by omega)) hw1 T7.pot T7.ch⟩
/-- the drawn expressions, level by level -/
theorem ok_drawn {f1 f2 f3 : Addr} {d1 d2 d3 : FuncData} (F1 : L2.Fun K "_law_factor" "_law_factor" sDFac f1 d1) (b1 : Binds K d1 PDFac []) (g1 : mg "_law_factor" = some (.ref f1)) (k1 : PySem.W.keepIn K (.ref f1) = true)
    (F2 : L2.Fun K "_law_sum" "_law_sum" sDSum f2 d2) (b2 : Binds K d2 PDSum []) (g2 : mg "_law_sum" = some (.ref f2)) (k2 : PySem.W.keepIn K (.ref f2) = true)
    (F3 : L2.Fun K "_law_value" "_law_value" sDVal f3 d3) (b3 : Binds K d3 PDVal []) (g3 : mg "_law_value" = some (.ref f3)) (k3 : PySem.W.keepIn K (.ref f3) = true)
    (B : Bi mg) (cT : CalF P w K mg base 1 "_law_take" spTake) (cO : CalF P w K mg base 2 "_law_of" spOf) : ∀ d, d ≤ 3 → CalF P w K mg base (3 * d + 5) "_law_value" (spDVal d)
  | 0, hd => by
    have cV : CalF P w K mg base 2 "_law_value" (spDValP 0) := ⟨f3, fnR_no fun vs H Q E h => h, g3, k3⟩
    have c1 : CalF P w K mg base 3 "_law_factor" (spDFac 0) := ⟨f1, ok_dfac F1 b1 B cT cO 0 hd cV, g1, k1⟩
    have c2 : CalF P w K mg base 4 "_law_sum" (spDSum 0) := ⟨f2, ok_dsum F2 b2 B cO 0 hd c1, g2, k2⟩
    exact ⟨f3, ok_dval F3 b3 B cT cO 0 hd c2, g3, k3⟩
  | d + 1, hd => by
    have cV : CalF P w K mg base (3 * (d + 1) + 2) "_law_value" (spDValP (d + 1)) := ok_drawn F1 b1 g1 k1 F2 b2 g2 k2 F3 b3 g3 k3 B cT cO d (by omega)
    have c1 : CalF P w K mg base (3 * (d + 1) + 3) "_law_factor" (spDFac (d + 1)) := ⟨f1, ok_dfac F1 b1 B cT cO (d + 1) hd cV, g1, k1⟩
    have c2 : CalF P w K mg base (3 * (d + 1) + 4) "_law_sum" (spDSum (d + 1)) := ⟨f2, ok_dsum F2 b2 B cO (d + 1) hd c1, g2, k2⟩
    exact ⟨f3, ok_dval F3 b3 B cT cO (d + 1) hd c2, g3, k3⟩
end
end Ws

namespace Ws
open PySem PySem.Spec PyProof.Rows L2
noncomputable abbrev sDSaid : Stmt := (PySem.Challenge.pw_whatspeed_k17_what_a_program_tells.main.body.getD 64 (.Pass ⟨0, 0, 0, 0⟩))
noncomputable abbrev NDSaid : List Str := ["pot", "box"]
noncomputable abbrev PDSaid : List Str := ["pot", "box"]
theorem scDSaid : FnScope NDSaid PDSaid (defScope sDSaid) := ⟨rfl, rfl, rfl, by decide +kernel, rfl, by decide +kernel, by decide +kernel⟩
noncomputable abbrev sDPlain : Stmt := (PySem.Challenge.pw_whatspeed_k17_what_a_program_tells.main.body.getD 65 (.Pass ⟨0, 0, 0, 0⟩))
noncomputable abbrev NDPlain : List Str := ["pot", "box", "some", "name"]
noncomputable abbrev PDPlain : List Str := ["pot", "box"]
theorem scDPlain : FnScope NDPlain PDPlain (defScope sDPlain) := ⟨rfl, rfl, rfl, by decide +kernel, rfl, by decide +kernel, by decide +kernel⟩
noncomputable abbrev sDBlock : Stmt := (PySem.Challenge.pw_whatspeed_k17_what_a_program_tells.main.body.getD 66 (.Pass ⟨0, 0, 0, 0⟩))
noncomputable abbrev NDBlock : List Str := ["pot", "box", "deep", "found", "turn", "way", "head"]
noncomputable abbrev PDBlock : List Str := ["pot", "box", "deep"]
theorem scDBlock : FnScope NDBlock PDBlock (defScope sDBlock) := ⟨rfl, rfl, rfl, by decide +kernel, rfl, by decide +kernel, by decide +kernel⟩
/-! ### the box: a dict of lists of names -/
noncomputable def BoxK (H : Hp) (p : Addr) (kvs : List (Key × V)) (k : Str) : Prop := ∃ (a : Addr) (names : List Str), valV kvs (.inr k) = some (.ref a) ∧ H a = some (.lst (names.map V.str)) ∧ a ≠ p ∧ txs 5 2 names = true
noncomputable def BoxAt (H : Hp) (p b : Addr) (ks : List Str) : Prop := ∃ kvs : List (Key × V), H b = some (.dK kvs) ∧ b ≠ p ∧ ∀ k ∈ ks, BoxK H p kvs k
theorem BoxAt.ch {H H' : Hp} {p b : Addr} {ks : List Str} (h : BoxAt H p b ks) (c : Ch p H H') : BoxAt H' p b ks := by
  obtain ⟨kvs, e, n, r⟩ := h
  refine ⟨kvs, c _ _ n e, n, fun k hk => ?_⟩
  obtain ⟨a, names, h1, h2, h3, h4⟩ := r k hk
  exact ⟨a, names, h1, c _ _ h3 h2, h3, h4⟩
theorem BoxAt.sub {H : Hp} {p b : Addr} {ks ks' : List Str} (h : BoxAt H p b ks) (s : ∀ k ∈ ks', k ∈ ks) : BoxAt H p b ks' := by
  obtain ⟨kvs, e, n, r⟩ := h
  exact ⟨kvs, e, n, fun k hk => r k (s k hk)⟩
theorem BoxAt.get {H : Hp} {p b : Addr} {ks : List Str} (h : BoxAt H p b ks) {k : Str} (hk : k ∈ ks) : ∃ (a : Addr) (names : List Str), DGet H b (.str k) (some (.ref a)) ∧ H a = some (.lst (names.map V.str)) ∧ a ≠ p ∧ txs 5 2 names = true := by
  obtain ⟨kvs, e, n, r⟩ := h
  obtain ⟨a, names, h1, h2, h3, h4⟩ := r k hk
  exact ⟨a, names, .inl ⟨_, .inr k, .inl e, rfl, h1.symm⟩, h2, h3, h4⟩
theorem BoxAt.get2 {H : Hp} {p b : Addr} {ks : List Str} (h : BoxAt H p b ks) {k : Str} (hk : k ∈ ks) : ∃ (a : Addr) (names : List Str), (∀ G, Ch p H G → DGet G b (.str k) (some (.ref a)) ∧ G a = some (.lst (names.map V.str))) ∧ a ≠ p ∧ txs 5 2 names = true := by
  obtain ⟨kvs, e, n, r⟩ := h
  obtain ⟨a, names, h1, h2, h3, h4⟩ := r k hk
  exact ⟨a, names, fun G c => ⟨.inl ⟨_, .inr k, .inl (c _ _ n e), rfl, h1.symm⟩, c _ _ h3 h2⟩, h3, h4⟩
noncomputable def LInv (H : Hp) (p b : Addr) (m0 : Int) (c n0 : Nat) (i : Nat) (σ : L2.St) (G : Hp) : Prop := ∃ (o3 : Option V) (l : Addr) (rows : List Str), σ = [some (.ref p), some (.ref b), some (.ref l), o3] ∧ Sx H G p (m0 + (i * c : Nat)) [(l, .lst (rows.map V.str))] ∧ txs 5000 (n0 + i * 2) rows = true ∧ rows ≠ []
theorem LInv.end_ {H : Hp} {p b : Addr} {m0 : Int} {c n0 i : Nat} {σ : L2.St} {G : Hp} (h : LInv H p b m0 c n0 i σ G) (hi : i ≤ 2) : ∃ (o3 : Option V) (l : Addr) (rows : List Str), σ = [some (.ref p), some (.ref b), some (.ref l), o3] ∧ Sx H G p (m0 + (2 * c : Nat)) [(l, .lst (rows.map V.str))] ∧ txs 5000 (n0 + 4) rows = true ∧ rows ≠ [] := by
  obtain ⟨o3, l, rows, e, S, t, r⟩ := h
  have h2 : i * c ≤ 2 * c := Nat.mul_le_mul_right c hi
  exact ⟨o3, l, rows, e, S.mono (by omega), txs_mono t (Nat.le_refl _) (by omega), r⟩
noncomputable def six : List Str := ["lock", "queue", "cell", "part", "task", "later"]
noncomputable def spSaid : Sp := fun vs H Q _ => ∃ (p b : Addr) (m : Int), vs = [.ref p, .ref b] ∧ PotAt H p m ∧ m + qV 2 ≤ 9000000000 ∧ BoxAt H p b six ∧ ∀ (x : Str) (H' : Hp), wok 4700 x = true → PotAt H' p (m + qV 2) → Ch p H H' → Q (.str x) H'
noncomputable def qP : Nat := 4 * qV 2 + 6
noncomputable def spPlain : Sp := fun vs H Q _ => ∃ (p b : Addr) (m : Int), vs = [.ref p, .ref b] ∧ PotAt H p m ∧ m + qP ≤ 9000000000 ∧ BoxAt H p b six ∧ ∀ (x : Str) (H' : Hp), wok 5000 x = true → PotAt H' p (m + qP) → Ch p H H' → Q (.str x) H'
theorem qV2 : qV 2 = 602 := by decide
theorem wV2 : wV 2 = 515 := by decide
section
variable {P : Program} {w : World} {K : PySem.W.Frag} {mg : Str → Option Value} {base : Heap} {f : Addr} {fd : FuncData}
theorem ok_said (F : L2.Fun K "_law_said" "_law_said" sDSaid f fd) (b : Binds K fd PDSaid []) (B : Bi mg) (cV : CalF P w K mg base 11 "_law_value" (spDVal 2)) : FnR P w K mg base CX0 12 f spSaid := by
  refine fnR_of (k := 11) F b scDSaid (fun vs H Q E h => ?_) (fun cdv A outer s H vs Q E hr h => ?_)
  · obtain ⟨p, b, m, rfl, _⟩ := h
    rfl
  · have sc := scDSaid
    obtain ⟨p, b, m, rfl, hp, hm, hb, q⟩ := h
    refine ⟨_, (pss_one (ps_ret (pe_join pe_str (pe_f cV hr (by omega) rfl (pa_cons (pv 0) (pa_cons (pe_dget (hu_of hr) (pv 1) pe_str (fun _ _ => rfl)) (pa_cons pe_int pa_nil))))))), ?_⟩
    have S := Sx.start hp
    obtain ⟨a, names, hg, ha, nap, hn⟩ := hb.get (k := "cell") (by decide)
    refine ⟨⟨_, rfl⟩, _, rfl, _, rfl, _, .ref a, rfl, hg, p, a, m, names, rfl, hp, hm, ha, nap, txs_mono hn (by decide) (by decide), fun l ws H1 n1 e1 hws hw1 hp1 c1 => ?_⟩
    have hwl := txs_len hws
    rw [wV2] at hwl
    have hw2 : ∀ x ∈ ws, wok 8 x = true := fun x hx => txs_mem hws hx
    refine ⟨" ", l, ws, rfl, rfl, .inl (SqL.of e1), ?_, ?_⟩
    · have h1 := sum_le (l := ws) (k := 8) fun x hx => wok_le (hw2 x hx)
      show _ + ws.length * 1 ≤ _
      omega
    · rw [TL.join_eq]
      exact q _ _ (wok_mono (n := ws.length * (8 + 1)) (wok_join (y := " ") (by decide +kernel) ws hw2) (by omega)) hp1 c1
theorem ok_plain (F : L2.Fun K "_law_plain" "_law_plain" sDPlain f fd) (b : Binds K fd PDPlain []) (B : Bi mg) (gSt : mg "str" = none) (cO : CalF P w K mg base 2 "_law_of" spOf) (cSd : CalF P w K mg base 12 "_law_said" spSaid) : FnR P w K mg base CX0 13 f spPlain := by
  refine fnR_of (k := 12) F b scDPlain (fun vs H Q E h => ?_) (fun cdv A outer s H vs Q E hr h => ?_)
  · obtain ⟨p, b, m, rfl, _⟩ := h
    rfl
  · have sc := scDPlain
    obtain ⟨p, b, m, rfl, hp, hm, hb, q⟩ := h
    refine ⟨_, (pss_cons (ps_set (i := 2) sc.nd rfl (Or.inl rfl) (pe_lst (pa_cons (pe_op op_add_str pe_str (pe_callTy call_str_int (by rfl) gSt (by decide +kernel) (pa_cons (pe_f cO hr (by omega) rfl (pa_cons (pv 0) (pa_cons (pe_lst (pa_cons pe_int (pa_cons pe_int (pa_cons pe_int (pa_cons pe_int pa_nil))))) pa_nil))) pa_nil))) (pa_cons (pe_op op_add_str pe_str (pe_callTy call_str_int (by rfl) gSt (by decide +kernel) (pa_cons (pe_f cO hr (by omega) rfl (pa_cons (pv 0) (pa_cons (pe_lst (pa_cons pe_int (pa_cons pe_int (pa_cons pe_int pa_nil)))) pa_nil))) pa_nil))) pa_nil)))) (pss_cons (ps_expr (pe_bm PySem.F.plainAttrs_list PySem.F.slot_list_append PySem.F.type_list_append mt_append (pv 2) (pa_cons (pe_op op_add_str (pe_op op_add_str (pe_f cO hr (by omega) rfl (pa_cons (pv 0) (pa_cons (pe_op op_cat (pe_lst (pa_cons pe_str (pa_cons pe_str pa_nil))) (pe_dget (hu_of hr) (pv 1) pe_str (fun _ _ => rfl))) pa_nil))) pe_str) (pe_f cSd hr (by omega) rfl (pa_cons (pv 0) (pa_cons (pv 1) pa_nil)))) pa_nil))) (pss_cons (ps_expr (pe_bm PySem.F.plainAttrs_list PySem.F.slot_list_append PySem.F.type_list_append mt_append (pv 2) (pa_cons (pe_op op_add_str pe_str (pe_f cSd hr (by omega) rfl (pa_cons (pv 0) (pa_cons (pv 1) pa_nil)))) pa_nil))) (pss_cons (ps_for PassesOwn.never rfl (pi_list (pe_dget (hu_of hr) (pv 1) pe_str (fun _ _ => rfl))) (pg_name (i := 3) sc.nd rfl (Or.inl rfl)) (pss_one (ps_expr (pe_bm PySem.F.plainAttrs_list PySem.F.slot_list_append PySem.F.type_list_append mt_append (pv 2) (pa_cons (pe_op op_add_str pe_str (pv 3)) pa_nil))))) (pss_cons (ps_for PassesOwn.never rfl (pi_list (pe_dget (hu_of hr) (pv 1) pe_str (fun _ _ => rfl))) (pg_name (i := 3) sc.nd rfl (Or.inl rfl)) (pss_one (ps_set (i := 2) sc.nd rfl (Or.inl rfl) (pe_op op_cat (pv 2) (pe_lst (pa_cons (pe_op op_add_str pe_str (pv 3)) (pa_cons (pe_op op_add_str pe_str (pv 3)) pa_nil))))))) (pss_cons (ps_for PassesOwn.never rfl (pi_list (pe_dget (hu_of hr) (pv 1) pe_str (fun _ _ => rfl))) (pg_name (i := 3) sc.nd rfl (Or.inl rfl)) (pss_cons (ps_expr (pe_bm PySem.F.plainAttrs_list PySem.F.slot_list_append PySem.F.type_list_append mt_append (pv 2) (pa_cons (pe_op op_add_str (pe_op op_add_str (pe_op op_add_str pe_str (pv 3)) pe_str) (pe_f cSd hr (by omega) rfl (pa_cons (pv 0) (pa_cons (pv 1) pa_nil)))) pa_nil))) (pss_one (ps_expr (pe_bm PySem.F.plainAttrs_list PySem.F.slot_list_append PySem.F.type_list_append mt_append (pv 2) (pa_cons (pe_op op_add_str (pe_op op_add_str (pe_op op_add_str pe_str (pv 3)) pe_str) (pe_f cO hr (by omega) rfl (pa_cons (pv 0) (pa_cons (pe_op op_cat (pe_lst (pa_cons pe_str pa_nil)) (pe_dget (hu_of hr) (pv 1) pe_str (fun _ _ => rfl))) pa_nil)))) pa_nil)))))) (pss_cons (ps_for PassesOwn.never rfl (pi_list (pe_dget (hu_of hr) (pv 1) pe_str (fun _ _ => rfl))) (pg_name (i := 3) sc.nd rfl (Or.inl rfl)) (pss_one (ps_expr (pe_bm PySem.F.plainAttrs_list PySem.F.slot_list_append PySem.F.type_list_append mt_append (pv 2) (pa_cons (pe_op op_add_str pe_str (pv 3)) pa_nil))))) (pss_cons (ps_for PassesOwn.never rfl (pi_list (pe_dget (hu_of hr) (pv 1) pe_str (fun _ _ => rfl))) (pg_name (i := 3) sc.nd rfl (Or.inl rfl)) (pss_one (ps_set (i := 2) sc.nd rfl (Or.inl rfl) (pe_op op_cat (pv 2) (pe_lst (pa_cons (pe_op op_add_str pe_str (pv 3)) (pa_cons (pe_op op_add_str pe_str (pv 3)) pa_nil))))))) (pss_one (ps_ret (pe_f cO hr (by omega) rfl (pa_cons (pv 0) (pa_cons (pv 2) pa_nil))))))))))))), ?_⟩
    have S := Sx.start hp
    unfold qP at hm
    rw [qV2] at hm
    refine ⟨_, rfl, by show 4 ≤ sizeLine; decide, fun l1 n1 => ?_⟩
    have S1 := S.new n1 (.lst [.int 0, .int 1, .int 5, .int 99])
    refine ⟨p, l1, _, _, rfl, S1.pot, by omega, S1.i 0, S1.np 0, by show 1 ≤ 4; decide, by show 4 ≤ 1000; decide, fun v G1 hv hp1 c1 => ?_⟩
    have S2 := S1.drw hp1 c1
    obtain ⟨i1, rfl, i10, i11⟩ := mem_int (l := [0, 1, 5, 99]) hv (by decide)
    have x1 : wok 8 ("work " ++ Str.ofString (toString i1)) = true := wok_app (n := 5) (by decide +kernel) (num_wok i10 i11)
    refine ⟨i1, rfl, num_log i10 i11, _, _, rfl, rfl, add_sz (n := 5) (by decide +kernel) (num_wok i10 i11) (by decide), ?_⟩
    refine ⟨_, rfl, by show 3 ≤ sizeLine; decide, fun l2 n2 => ?_⟩
    have S3 := S2.new n2 (.lst [.int 0, .int 3, .int 99])
    refine ⟨p, l2, _, _, rfl, S3.pot, by omega, S3.i 0, S3.np 0, by show 1 ≤ 3; decide, by show 3 ≤ 1000; decide, fun v G2 hv hp2 c2 => ?_⟩
    have S4 := S3.drw hp2 c2
    obtain ⟨i2, rfl, i20, i21⟩ := mem_int (l := [0, 3, 99]) hv (by decide)
    have x2 : wok 9 ("sleep " ++ Str.ofString (toString i2)) = true := wok_app (n := 6) (by decide +kernel) (num_wok i20 i21)
    refine ⟨i2, rfl, num_log i20 i21, _, _, rfl, rfl, add_sz (n := 6) (by decide +kernel) (num_wok i20 i21) (by decide), ?_⟩
    refine ⟨by show 2 ≤ sizeLine; decide, fun l nl => ?_⟩
    have S5 := (S4.new nl (.lst ([.str ("work " ++ Str.ofString (toString i1)), .str ("sleep " ++ Str.ofString (toString i2))]))).sub (G := [(l, .lst (["work " ++ Str.ofString (toString i1), "sleep " ++ Str.ofString (toString i2)].map V.str))]) (by intro q hq; rw [List.mem_singleton.mp hq]; exact List.mem_cons_self ..)
    have t5 : txs 5000 2 ["work " ++ Str.ofString (toString i1), "sleep " ++ Str.ofString (toString i2)] = true := txs_app (l := [_]) (txs_one (wok_mono x1 (by decide))) (txs_one (wok_mono x2 (by decide)))
    generalize ["work " ++ Str.ofString (toString i1), "sleep " ++ Str.ofString (toString i2)] = rows5 at S5 t5
    -- x = ..
    refine ⟨_, rfl, .inl ⟨rfl, _, SqL.of (S5.i 0)⟩, ?_⟩
    refine ⟨_, rfl, by show 2 ≤ sizeLine; decide, fun l3 n3 => ?_⟩
    have S6 := S5.new n3 (.lst [.str "x", .str "y"])
    have bx6 := hb.ch S6.ch
    obtain ⟨a, names, hg, ha, nap, hn⟩ := bx6.get (k := "cell") (by decide)
    refine ⟨_, rfl, _, .ref a, rfl, hg, l3, a, _, _, rfl, rfl, S6.i 0, ha, by rw [List.length_map]; exact szl (by show 2 + names.length ≤ _; have := txs_len hn; omega), fun l4 n4 => ?_⟩
    have S7 := S6.new n4 (.lst ([.str "x", .str "y"] ++ names.map V.str))
    refine ⟨p, l4, _, _, rfl, S7.pot, by omega, S7.i 0, S7.np 0, by rw [List.length_append]; show 1 ≤ 2 + _; omega, by rw [List.length_append, List.length_map]; show 2 + _ ≤ 1000; have := txs_len hn; omega, fun v G3 hv hp3 c3 => ?_⟩
    have S8 := S7.drw hp3 c3
    obtain ⟨x3, rfl, hx3⟩ : ∃ x, v = .str x ∧ wok 5 x = true := by
      rcases List.mem_append.mp hv with hv | hv
      · obtain ⟨x, rfl, hx⟩ := mem_str (l := ["x", "y"]) hv
        exact ⟨x, rfl, txs_mem (show txs 5 2 ["x", "y"] = true by decide +kernel) hx⟩
      · obtain ⟨x, rfl, hx⟩ := mem_str hv
        exact ⟨x, rfl, txs_mem hn hx⟩
    refine ⟨_, _, rfl, rfl, add_sz hx3 (m := 3) (by decide +kernel) (by decide), ?_⟩
    have bx8 := hb.ch S8.ch
    refine ⟨_, rfl, _, rfl, p, b, _, rfl, S8.pot, by rw [qV2]; omega, bx8, fun x4 G4 hx4 hp4 c4 => ?_⟩
    have S9 := S8.drw hp4 c4
    have x5 : wok 4708 (x3 ++ " = " ++ x4) = true := wok_app (wok_app hx3 (m := 3) (by decide +kernel)) hx4
    refine ⟨_, _, rfl, rfl, add_sz (wok_app hx3 (m := 3) (by decide +kernel)) hx4 (by decide), ?_⟩
    refine ⟨l, _, _, rfl, rfl, S9.i 2, ?_, ?_⟩
    · rw [List.length_map]
      exact Nat.lt_of_le_of_lt (txs_len t5) (by decide)
    have T1 := S9.app (x := x3 ++ " = " ++ x4) 2
    have t6 := txs_app t5 (txs_one (wok_mono x5 (by decide : 4708 ≤ 5000)))
    generalize rows5 ++ [x3 ++ " = " ++ x4] = rows6 at T1 t6
    generalize upd G4 l _ = G5 at T1 ⊢
    -- say ..
    refine ⟨_, rfl, .inl ⟨rfl, _, SqL.of (T1.i 0)⟩, _, rfl, _, rfl, p, b, _, rfl, T1.pot, by rw [qV2]; omega, hb.ch T1.ch, fun x6 G6 hx6 hp6 c6 => ?_⟩
    have T2 := T1.drw hp6 c6
    refine ⟨_, _, rfl, rfl, add_sz (n := 4) (by decide +kernel) hx6 (by decide), l, _, _, rfl, rfl, T2.i 0, ?_, ?_⟩
    · rw [List.length_map]
      exact Nat.lt_of_le_of_lt (txs_len t6) (by decide)
    have T3 := T2.app (x := "say " ++ x6) 0
    have t7 := txs_app t6 (txs_one (wok_mono (wok_app (n := 4) (x := "say ") (by decide +kernel) hx6) (by decide : 4 + 4700 ≤ 5000)))
    have r7 : rows6 ++ ["say " ++ x6] ≠ [] := by simp
    generalize rows6 ++ ["say " ++ x6] = rows7 at T3 t7 r7
    generalize upd G6 l _ = G7 at T3 ⊢
    clear T2 T1 S9 S8 S7 S6 S5 S4 S3 S2 S1
    obtain ⟨a1, nm1, g1, np1, u1⟩ := hb.get2 (k := "part") (by decide)
    obtain ⟨a2, nm2, g2, np2, u2⟩ := hb.get2 (k := "lock") (by decide)
    obtain ⟨a3, nm3, g3, np3, u3⟩ := hb.get2 (k := "queue") (by decide)
    obtain ⟨a4, nm4, g4, np4, u4⟩ := hb.get2 (k := "task") (by decide)
    obtain ⟨a5, nm5, g5, np5, u5⟩ := hb.get2 (k := "later") (by decide)
    rw [qV2] at T3
    -- parts
    refine ⟨_, rfl, _, .ref a1, rfl, (g1 _ T3.ch).1, a1, rfl, ⟨_, SqL.of (g1 _ T3.ch).2⟩, for_list (xs := nm1.map V.str) (LInv H p b (m + 1 + 1 + 1 + 602 + 602) 0 4) ⟨_, l, rows7, rfl, T3.mono (by simp), txs_mono t7 (Nat.le_refl _) (by omega), r7⟩ ?_ ?_ ?_⟩
    · rintro i σ G hi ⟨o3, l, rows, rfl, S, t, r⟩
      exact SqL.of (g1 _ S.ch).2
    · rintro i x σ G hx ⟨o3, l, rows, rfl, S, t, r⟩
      obtain ⟨z, rfl, hz⟩ := at_str hx
      have hi : i < nm1.length := by have := (List.getElem?_eq_some_iff.mp hx).1; rw [List.length_map] at this; exact this
      have hil := txs_len u1
      refine ⟨_, rfl, .inl ⟨rfl, _, SqL.of (S.i 0)⟩, _, rfl, _, _, rfl, rfl, add_sz (n := 7) (by decide +kernel) (txs_mem u1 hz) (by decide), l, _, _, rfl, rfl, S.i 0, ?_, ?_⟩
      · rw [List.length_map]
        exact Nat.lt_of_le_of_lt (txs_len t) (Nat.lt_of_le_of_lt (show _ ≤ 100 by omega) (by decide))
      exact ⟨_, l, _, rfl, (S.app (x := "work 4 " ++ z) 0).mono (by simp), txs_mono (txs_app t (txs_one (wok_mono (wok_app (n := 7) (x := "work 4 ") (by decide +kernel) (txs_mem u1 hz)) (by decide : 7 + 5 ≤ 5000)))) (Nat.le_refl _) (by omega), by simp⟩
    intro σ G hI
    obtain ⟨o3, l, rows8, rfl, S, t8, r8⟩ := hI.end_ (by rw [List.length_map]; exact txs_len u1)
    -- locks
    refine ⟨_, rfl, _, .ref a2, rfl, (g2 _ S.ch).1, a2, rfl, ⟨_, SqL.of (g2 _ S.ch).2⟩, for_list (xs := nm2.map V.str) (LInv H p b (m + 1 + 1 + 1 + 602 + 602) 0 8) ⟨_, l, rows8, rfl, S.mono (by simp), txs_mono t8 (Nat.le_refl _) (by omega), r8⟩ ?_ ?_ ?_⟩
    · rintro i σ G hi ⟨o3, l, rows, rfl, S, t, r⟩
      exact SqL.of (g2 _ S.ch).2
    · rintro i x σ G hx ⟨o3, l, rows, rfl, S, t, r⟩
      obtain ⟨z, rfl, hz⟩ := at_str hx
      have hi : i < nm2.length := by have := (List.getElem?_eq_some_iff.mp hx).1; rw [List.length_map] at this; exact this
      have hil := txs_len u2
      have w1 := wok_app (n := 5) (x := "lock ") (by decide +kernel) (txs_mem u2 hz)
      have w2 := wok_app (n := 7) (x := "unlock ") (by decide +kernel) (txs_mem u2 hz)
      refine ⟨_, rfl, _, rfl, _, _, rfl, rfl, add_sz (n := 5) (by decide +kernel) (txs_mem u2 hz) (by decide), _, rfl, _, _, rfl, rfl, add_sz (n := 7) (by decide +kernel) (txs_mem u2 hz) (by decide), by show 2 ≤ sizeLine; decide, fun l4 n4 => ?_⟩
      have S1 := S.new n4 (.lst [.str ("lock " ++ z), .str ("unlock " ++ z)])
      refine ⟨l, l4, _, _, rfl, rfl, S1.i 1, S1.i 0, ?_, fun l5 n5 => ?_⟩
      · rw [List.length_map]
        exact szl (show rows.length + 2 ≤ 20000 by have := txs_len t; omega)
      have S2 := (S1.new n5 (.lst (rows.map V.str ++ [.str ("lock " ++ z), .str ("unlock " ++ z)]))).lst (ys := (rows ++ ["lock " ++ z, "unlock " ++ z]).map V.str) (by rw [List.map_append]; rfl)
      exact ⟨_, l5, _, rfl, (S2.sub (G := [(l5, .lst ((rows ++ ["lock " ++ z, "unlock " ++ z]).map V.str))]) (by intro q hq; rw [List.mem_singleton.mp hq]; exact List.mem_cons_self ..)).mono (by simp), txs_mono (txs_app t (txs_app (l := ["lock " ++ z]) (txs_one (wok_mono w1 (by decide : 5 + 5 ≤ 5000))) (txs_one (wok_mono w2 (by decide : 7 + 5 ≤ 5000))))) (Nat.le_refl _) (by omega), by simp⟩
    intro σ G hI
    obtain ⟨o3, l, rows, rfl, S, t, r⟩ := hI.end_ (by rw [List.length_map]; exact txs_len u2)
    -- queues
    refine ⟨_, rfl, _, .ref a3, rfl, (g3 _ S.ch).1, a3, rfl, ⟨_, SqL.of (g3 _ S.ch).2⟩, for_list (xs := nm3.map V.str) (LInv H p b (m + 1 + 1 + 1 + 602 + 602) 603 12) ⟨_, l, rows, rfl, S.mono (by simp), txs_mono t (Nat.le_refl _) (by omega), r⟩ ?_ ?_ ?_⟩
    · rintro i σ G hi ⟨o3, l, rows, rfl, S, t, r⟩
      exact SqL.of (g3 _ S.ch).2
    · rintro i x σ G hx ⟨o3, l, rows, rfl, S, t, r⟩
      obtain ⟨z, rfl, hz⟩ := at_str hx
      have hi : i < nm3.length := by have := (List.getElem?_eq_some_iff.mp hx).1; rw [List.length_map] at this; exact this
      have hil := txs_len u3
      have hic : i * 603 ≤ 603 := by omega
      have wz := txs_mem u3 hz
      have w1 := wok_app (wok_app (n := 4) (x := "put ") (by decide +kernel) wz) (m := 1) (y := " ") (by decide +kernel)
      have w2 := wok_app (wok_app (n := 5) (x := "take ") (by decide +kernel) wz) (m := 1) (y := " ") (by decide +kernel)
      refine ⟨_, rfl, .inl ⟨rfl, _, SqL.of (S.i 0)⟩, _, rfl, _, _, rfl, rfl, add_sz (n := 4) (by decide +kernel) wz (by decide), _, _, rfl, rfl, add_sz (wok_app (n := 4) (x := "put ") (by decide +kernel) wz) (m := 1) (by decide +kernel) (by decide), _, rfl, _, rfl, p, b, _, rfl, S.pot, by rw [qV2]; omega, hb.ch S.ch, fun y1 G1 hy1 hp1 c1 => ?_⟩
      have S1 := S.drw hp1 c1
      refine ⟨_, _, rfl, rfl, add_sz w1 hy1 (by decide), l, _, _, rfl, rfl, S1.i 0, ?_, ?_⟩
      · rw [List.length_map]
        exact Nat.lt_of_le_of_lt (txs_len t) (Nat.lt_of_le_of_lt (show _ ≤ 100 by omega) (by decide))
      have S2 := S1.app (x := "put " ++ z ++ " " ++ y1) 0
      have t2 := txs_app t (txs_one (wok_mono (wok_app w1 hy1) (by decide : 4 + 5 + 1 + 4700 ≤ 5000)))
      have hl2 : (rows ++ ["put " ++ z ++ " " ++ y1]).length ≤ 100 := Nat.le_trans (txs_len t2) (by omega)
      generalize rows ++ ["put " ++ z ++ " " ++ y1] = rows2 at S2 t2 hl2
      generalize upd G1 l _ = G2 at S2 ⊢
      rw [qV2] at S2
      refine ⟨_, rfl, .inl ⟨rfl, _, SqL.of (S2.i 0)⟩, _, rfl, _, _, rfl, rfl, add_sz (n := 5) (by decide +kernel) wz (by decide), _, _, rfl, rfl, add_sz (wok_app (n := 5) (x := "take ") (by decide +kernel) wz) (m := 1) (by decide +kernel) (by decide), _, rfl, by show 1 ≤ sizeLine; decide, fun l3 n3 => ?_⟩
      have S3 := S2.new n3 (.lst [.str "x"])
      obtain ⟨a6, nm6, g6, np6, u6⟩ := hb.get2 (k := "cell") (by decide)
      have hn6 := txs_len u6
      refine ⟨_, rfl, _, .ref a6, rfl, (g6 _ S3.ch).1, l3, a6, _, _, rfl, rfl, S3.i 0, (g6 _ S3.ch).2, by rw [List.length_map]; exact szl (by show 1 + nm6.length ≤ _; omega), fun l4 n4 => ?_⟩
      have S4 := S3.new n4 (.lst ([.str "x"] ++ nm6.map V.str))
      refine ⟨p, l4, _, _, rfl, S4.pot, by omega, S4.i 0, S4.np 0, by rw [List.length_append]; show 1 ≤ 1 + _; omega, by rw [List.length_append, List.length_map]; show 1 + _ ≤ 1000; omega, fun v G3 hv hp3 c3 => ?_⟩
      have S5 := S4.drw hp3 c3
      obtain ⟨y2, rfl, hy2⟩ : ∃ x, v = .str x ∧ wok 5 x = true := by
        rcases List.mem_append.mp hv with hv | hv
        · obtain ⟨x, rfl, hx⟩ := mem_str (l := ["x"]) hv
          exact ⟨x, rfl, txs_mem (show txs 5 1 ["x"] = true by decide +kernel) hx⟩
        · obtain ⟨x, rfl, hx⟩ := mem_str hv
          exact ⟨x, rfl, txs_mem u6 hx⟩
      refine ⟨_, _, rfl, rfl, add_sz w2 hy2 (by decide), l, _, _, rfl, rfl, S5.i 2, ?_, ?_⟩
      · rw [List.length_map]
        exact Nat.lt_of_le_of_lt hl2 (by decide)
      have e3 : ((i + 1 : Nat) * 603 : Nat) = i * 603 + 603 := by omega
      exact ⟨_, l, _, rfl, (S5.app (x := "take " ++ z ++ " " ++ y2) 2).mono (by rw [e3]; omega), txs_mono (txs_app t2 (txs_one (wok_mono (wok_app w2 hy2) (by decide : 5 + 5 + 1 + 5 ≤ 5000)))) (Nat.le_refl _) (by omega), by simp⟩
    intro σ G hI
    obtain ⟨o3, l, rows, rfl, S, t, r⟩ := hI.end_ (by rw [List.length_map]; exact txs_len u3)
    -- tasks
    refine ⟨_, rfl, _, .ref a4, rfl, (g4 _ S.ch).1, a4, rfl, ⟨_, SqL.of (g4 _ S.ch).2⟩, for_list (xs := nm4.map V.str) (LInv H p b (m + 1 + 1 + 1 + 602 + 602 + 1206) 0 16) ⟨_, l, rows, rfl, S.mono (by simp), txs_mono t (Nat.le_refl _) (by omega), r⟩ ?_ ?_ ?_⟩
    · rintro i σ G hi ⟨o3, l, rows, rfl, S, t, r⟩
      exact SqL.of (g4 _ S.ch).2
    · rintro i x σ G hx ⟨o3, l, rows, rfl, S, t, r⟩
      obtain ⟨z, rfl, hz⟩ := at_str hx
      have hi : i < nm4.length := by have := (List.getElem?_eq_some_iff.mp hx).1; rw [List.length_map] at this; exact this
      have hil := txs_len u4
      refine ⟨_, rfl, .inl ⟨rfl, _, SqL.of (S.i 0)⟩, _, rfl, _, _, rfl, rfl, add_sz (n := 5) (by decide +kernel) (txs_mem u4 hz) (by decide), l, _, _, rfl, rfl, S.i 0, ?_, ?_⟩
      · rw [List.length_map]
        exact Nat.lt_of_le_of_lt (txs_len t) (Nat.lt_of_le_of_lt (show _ ≤ 100 by omega) (by decide))
      exact ⟨_, l, _, rfl, (S.app (x := "wait " ++ z) 0).mono (by simp), txs_mono (txs_app t (txs_one (wok_mono (wok_app (n := 5) (x := "wait ") (by decide +kernel) (txs_mem u4 hz)) (by decide : 5 + 5 ≤ 5000)))) (Nat.le_refl _) (by omega), by simp⟩
    intro σ G hI
    obtain ⟨o3, l, rows, rfl, S, t, r⟩ := hI.end_ (by rw [List.length_map]; exact txs_len u4)
    -- later
    refine ⟨_, rfl, _, .ref a5, rfl, (g5 _ S.ch).1, a5, rfl, ⟨_, SqL.of (g5 _ S.ch).2⟩, for_list (xs := nm5.map V.str) (LInv H p b (m + 1 + 1 + 1 + 602 + 602 + 1206) 0 20) ⟨_, l, rows, rfl, S.mono (by simp), txs_mono t (Nat.le_refl _) (by omega), r⟩ ?_ ?_ ?_⟩
    · rintro i σ G hi ⟨o3, l, rows, rfl, S, t, r⟩
      exact SqL.of (g5 _ S.ch).2
    · rintro i x σ G hx ⟨o3, l, rows, rfl, S, t, r⟩
      obtain ⟨z, rfl, hz⟩ := at_str hx
      have hi : i < nm5.length := by have := (List.getElem?_eq_some_iff.mp hx).1; rw [List.length_map] at this; exact this
      have hil := txs_len u5
      have w1 := wok_app (n := 6) (x := "start ") (by decide +kernel) (txs_mem u5 hz)
      have w2 := wok_app (n := 5) (x := "wait ") (by decide +kernel) (txs_mem u5 hz)
      refine ⟨_, rfl, _, rfl, _, _, rfl, rfl, add_sz (n := 6) (by decide +kernel) (txs_mem u5 hz) (by decide), _, rfl, _, _, rfl, rfl, add_sz (n := 5) (by decide +kernel) (txs_mem u5 hz) (by decide), by show 2 ≤ sizeLine; decide, fun l4 n4 => ?_⟩
      have S1 := S.new n4 (.lst [.str ("start " ++ z), .str ("wait " ++ z)])
      refine ⟨l, l4, _, _, rfl, rfl, S1.i 1, S1.i 0, ?_, fun l5 n5 => ?_⟩
      · rw [List.length_map]
        exact szl (show rows.length + 2 ≤ 20000 by have := txs_len t; omega)
      have S2 := (S1.new n5 (.lst (rows.map V.str ++ [.str ("start " ++ z), .str ("wait " ++ z)]))).lst (ys := (rows ++ ["start " ++ z, "wait " ++ z]).map V.str) (by rw [List.map_append]; rfl)
      exact ⟨_, l5, _, rfl, (S2.sub (G := [(l5, .lst ((rows ++ ["start " ++ z, "wait " ++ z]).map V.str))]) (by intro q hq; rw [List.mem_singleton.mp hq]; exact List.mem_cons_self ..)).mono (by simp), txs_mono (txs_app t (txs_app (l := ["start " ++ z]) (txs_one (wok_mono w1 (by decide : 6 + 5 ≤ 5000))) (txs_one (wok_mono w2 (by decide : 5 + 5 ≤ 5000))))) (Nat.le_refl _) (by omega), by simp⟩
    intro σ G hI
    obtain ⟨o3, l, rows, rfl, S, t, r⟩ := hI.end_ (by rw [List.length_map]; exact txs_len u5)
    have hrl := txs_len t
    refine ⟨_, rfl, _, rfl, p, l, _, _, rfl, S.pot, by omega, S.i 0, S.np 0, ?_, ?_, fun v G1 hv hp1 c1 => ?_⟩
    · rw [List.length_map]
      exact List.length_pos_iff.mpr r
    · rw [List.length_map]
      omega
    obtain ⟨x, rfl, hx⟩ := mem_str hv
    have S1 := S.drw hp1 c1
    exact q x _ (txs_mem t hx) (S1.pot.mono (by unfold qP; rw [qV2]; omega)) S1.ch
end
/-! ### drawn blocks: how many lines, how many draws -/
noncomputable def nBk : Nat → Nat
  | 0 => 3
  | d + 1 => 3 * (3 + 2 * nBk d)
noncomputable def qBk : Nat → Nat
  | 0 => 9301
  | d + 1 => 1 + 3 * (3100 + 2 * qBk d)
noncomputable def tB : Nat → Nat
  | 0 => 1
  | d + 1 => 3 + 2 * nBk d
noncomputable def qPk : Nat → Nat
  | 0 => 0
  | d + 1 => qBk d
theorem nBk_eq : ∀ d, nBk d = 3 * tB d
  | 0 => rfl
  | _ + 1 => rfl
theorem qBk_eq : ∀ d, qBk d = 1 + 3 * (3100 + 2 * qPk d)
  | 0 => rfl
  | _ + 1 => rfl
noncomputable def spBlk (d : Nat) : Sp := fun vs H Q _ => ∃ (p b : Addr) (m : Int), vs = [.ref p, .ref b, .int d] ∧ PotAt H p m ∧ m + qBk d ≤ 9000000000 ∧ BoxAt H p b six ∧ ∀ (r : Addr) (rows : List Str) (H' : Hp), H r = none → H' r = some (.lst (rows.map V.str)) → txs 5000 (nBk d) rows = true → PotAt H' p (m + qBk d) → Ch p H H' → Q (.ref r) H'
noncomputable def spBlkP : Nat → Sp
  | 0 => fun _ _ _ _ => False
  | d + 1 => spBlk d
section
variable {P : Program} {w : World} {K : PySem.W.Frag} {mg : Str → Option Value} {base : Heap} {f : Addr} {fd : FuncData}
theorem ok_block (F : L2.Fun K "_law_block" "_law_block" sDBlock f fd) (b : Binds K fd PDBlock []) (B : Bi mg) (cT : CalF P w K mg base 1 "_law_take" spTake) (cO : CalF P w K mg base 2 "_law_of" spOf) (cSd : CalF P w K mg base 12 "_law_said" spSaid) (cPl : CalF P w K mg base 13 "_law_plain" spPlain)
    (d : Nat) (hd : d ≤ 3) (cBk : CalF P w K mg base (d + 13) "_law_block" (spBlkP d)) : FnR P w K mg base CX0 (d + 14) f (spBlk d) := by
  refine fnR_of (k := d + 13) F b scDBlock (fun vs H Q E h => ?_) (fun cdv A outer s H vs Q E hr h => ?_)
  · obtain ⟨p, b, m, rfl, _⟩ := h
    rfl
  · have sc := scDBlock
    obtain ⟨p, b, m, rfl, hp, hm, hb, q⟩ := h
    refine ⟨_, (pss_cons (ps_set (i := 3) sc.nd rfl (Or.inl rfl) (pe_lst pa_nil)) (pss_cons (ps_for PassesOwn.never rfl (pi_range1 (by rfl) B.range (pa_cons (pe_op op_add pe_int (pe_f cT hr (by omega) rfl (pa_cons (pv 0) (pa_cons pe_int pa_nil)))) pa_nil)) (pg_name (i := 4) sc.nd rfl (Or.inl rfl)) (pss_cons (ps_set (i := 5) sc.nd rfl (Or.inl rfl) (pe_ifExp (pt_cmpR op_gt (pv 2) pe_int (nomark _)) (pe_f cT hr (by omega) rfl (pa_cons (pv 0) (pa_cons pe_int pa_nil))) pe_int)) (pss_one (ps_if (pt_cmpR op_gt (pv 5) pe_int (nomark _)) (pss_one (ps_expr (pe_bm PySem.F.plainAttrs_list PySem.F.slot_list_append PySem.F.type_list_append mt_append (pv 3) (pa_cons (pe_f cPl hr (by omega) rfl (pa_cons (pv 0) (pa_cons (pv 1) pa_nil))) pa_nil)))) (pss_cons (ps_set (i := 6) sc.nd rfl (Or.inl rfl) (pe_op op_add_str pe_str (pe_f cO hr (by omega) rfl (pa_cons (pv 0) (pa_cons (pe_lst (pa_cons pe_str (pa_cons pe_str (pa_cons pe_str pa_nil)))) pa_nil))))) (pss_cons (ps_if (pt_cmpR op_lt (pv 5) pe_int (nomark _)) (pss_one (ps_set (i := 6) sc.nd rfl (Or.inl rfl) (pe_op op_add_str (pe_ix ix_list (pe_lst (pa_cons pe_str (pa_cons pe_str pa_nil))) (pv 5) (fun _ _ => rfl)) (pe_f cSd hr (by omega) rfl (pa_cons (pv 0) (pa_cons (pv 1) pa_nil)))))) pss_nil) (pss_cons (ps_set (i := 3) sc.nd rfl (Or.inl rfl) (pe_op op_cat (pe_op op_cat (pv 3) (pe_lst (pa_cons (pv 6) pa_nil))) (pe_f cBk hr (by omega) rfl (pa_cons (pv 0) (pa_cons (pv 1) (pa_cons (pe_op op_sub (pv 2) pe_int) pa_nil)))))) (pss_cons (ps_if (PW.pt (pw_and (pt_cmpR op_eq (pv 5) pe_int (nomark _)) (pw_and1 (pt_cmpR op_eq (pe_f cT hr (by omega) rfl (pa_cons (pv 0) (pa_cons pe_int pa_nil))) pe_int (nomark _))))) (pss_one (ps_set (i := 3) sc.nd rfl (Or.inl rfl) (pe_op op_cat (pe_op op_cat (pv 3) (pe_lst (pa_cons pe_str pa_nil))) (pe_f cBk hr (by omega) rfl (pa_cons (pv 0) (pa_cons (pv 1) (pa_cons (pe_op op_sub (pv 2) pe_int) pa_nil))))))) pss_nil) (pss_one (ps_expr (pe_bm PySem.F.plainAttrs_list PySem.F.slot_list_append PySem.F.type_list_append mt_append (pv 3) (pa_cons pe_str pa_nil)))))))))))) (pss_one (ps_ret (pv 3))))), ?_⟩
    have S := Sx.start hp
    have eq := qBk_eq d
    have en := nBk_eq d
    have en3 : tB d ≤ 1000 := by
      have : ∀ k : Fin 4, tB k ≤ 1000 := by decide
      exact this ⟨d, by omega⟩
    refine ⟨by show 0 ≤ sizeLine; decide, fun l1 n1 => ?_⟩
    have S1 := S.new n1 (.lst [])
    refine ⟨_, rfl, p, 3, _, rfl, S1.pot, by omega, by decide, by decide, fun t H1 t0 t3 hp1 c1 => ⟨_, _, rfl, rfl, ?_⟩⟩
    have S2 := S1.drw hp1 c1
    refine ⟨1 + t, rfl, by omega, by omega, for_range (n := (1 + t).toNat) (fun i σ G => ∃ (o4 o5 o6 : Option V) (l : Addr) (rows : List Str), σ = [some (.ref p), some (.ref b), some (.int d), some (.ref l), o4, o5, o6] ∧ Sx H G p (m + 1 + (i * (3100 + 2 * qPk d) : Nat)) [(l, .lst (rows.map V.str))] ∧ txs 5000 (i * tB d) rows = true) ?_ ?_ ?_⟩
    · exact ⟨_, _, _, l1, [], rfl, S2.mono (by simp), by simp [txs]⟩
    · rintro i σ G hi ⟨o4, o5, o6, l, rows, rfl, T, t⟩
      have i2 : i ≤ 2 := by omega
      have hi1 : i * (3100 + 2 * qPk d) ≤ 2 * (3100 + 2 * qPk d) := Nat.mul_le_mul_right _ i2
      have hi2 : i * tB d ≤ 2 * tB d := Nat.mul_le_mul_right _ i2
      have ei1 : (i + 1) * (3100 + 2 * qPk d) = i * (3100 + 2 * qPk d) + (3100 + 2 * qPk d) := by rw [Nat.add_mul, Nat.one_mul]
      have ei2 : (i + 1) * tB d = i * tB d + tB d := by rw [Nat.add_mul, Nat.one_mul]
      generalize i * (3100 + 2 * qPk d) = ci at *
      generalize i * tB d = ni at *
      rw [ei1, ei2]
      rw [Int.zero_add]
      refine ⟨_, rfl, _, _, rfl, rfl, _, rfl, ?_⟩
      cases d with
      | zero =>
        have enz : tB 0 = 1 := rfl
        refine ifF (by decide) ?_
        refine ⟨_, rfl, _, _, rfl, rfl, _, rfl, ifT (by decide) ?_⟩
        refine ⟨_, rfl, .inl ⟨rfl, _, SqL.of (T.i 0)⟩, _, rfl, _, rfl, p, b, _, rfl, T.pot, by unfold qP; rw [qV2]; omega, hb.ch T.ch, fun x G3 hx hp3 c3 => ?_⟩
        have U := T.drw hp3 c3
        refine ⟨l, _, _, rfl, rfl, U.i 0, ?_, ?_⟩
        · rw [List.length_map]
          exact Nat.lt_of_le_of_lt (txs_len t) (Nat.lt_of_le_of_lt (show _ ≤ 20000 by omega) (by decide))
        exact ⟨_, _, _, l, _, rfl, (U.app (x := x) 0).mono (by unfold qP; rw [qV2]; omega), txs_mono (txs_app t (txs_one hx)) (Nat.le_refl _) (by omega)⟩
      | succ d =>
        have eqk : qPk (d + 1) = qBk d := rfl
        have enk : tB (d + 1) = 3 + 2 * nBk d := rfl
        refine ifT (decide_eq_true (by show (0 : Int) < ((d + 1 : Nat) : Int); omega)) ?_
        refine ⟨_, rfl, p, 8, _, rfl, T.pot, by omega, by decide, by decide, fun wy G1 w0 w8 hpw cw => ?_⟩
        have T1 := T.drw hpw cw
        refine ⟨_, rfl, _, _, rfl, rfl, _, rfl, if2 (fun hw => ?_) (fun hw => ?_)⟩
        · refine ⟨_, rfl, .inl ⟨rfl, _, SqL.of (T1.i 0)⟩, _, rfl, _, rfl, p, b, _, rfl, T1.pot, by unfold qP; rw [qV2]; omega, hb.ch T1.ch, fun x G3 hx hp3 c3 => ?_⟩
          have U := T1.drw hp3 c3
          refine ⟨l, _, _, rfl, rfl, U.i 0, ?_, ?_⟩
          · rw [List.length_map]
            exact Nat.lt_of_le_of_lt (txs_len t) (Nat.lt_of_le_of_lt (show _ ≤ 20000 by omega) (by decide))
          exact ⟨_, _, _, l, _, rfl, (U.app (x := x) 0).mono (by unfold qP; rw [qV2]; omega), txs_mono (txs_app t (txs_one hx)) (Nat.le_refl _) (by omega)⟩
        have hw2 : wy ≤ 2 := by have := of_decide_eq_false hw; omega
        refine ⟨_, rfl, by show 3 ≤ sizeLine; decide, fun l2 n2 => ?_⟩
        have T2 := T1.new n2 (.lst [.str "0", .str "2", .str "50"])
        refine ⟨p, l2, _, _, rfl, T2.pot, by omega, T2.i 0, T2.np 0, by show 1 ≤ 3; decide, by show 3 ≤ 1000; decide, fun v G2 hv hp2 c2 => ?_⟩
        have T3 := T2.drw hp2 c2
        obtain ⟨x1, rfl, hx1⟩ := mem_str (l := ["0", "2", "50"]) hv
        have hx1 := txs_mem (show txs 2 3 ["0", "2", "50"] = true by decide +kernel) hx1
        refine ⟨_, _, rfl, rfl, add_sz (n := 7) (by decide +kernel) hx1 (by decide), ?_⟩
        have wx1 := wok_app (n := 7) (x := "repeat ") (by decide +kernel) hx1
        refine ⟨_, rfl, _, _, rfl, rfl, _, rfl, ?_⟩
        refine if2 (fun hw3 => ?_) (fun hw3 => ?_)
        · have hw4 : wy < 2 := of_decide_eq_true hw3
          refine ⟨by show 2 ≤ sizeLine; decide, fun l3 n3 => ?_⟩
          have T4 := T3.new n3 (.lst [.str "if ", .str "while "])
          obtain ⟨x2, hx2, wx2⟩ : ∃ x2 : Str, atI [V.str "if ", V.str "while "] wy = some (.str x2) ∧ wok 6 x2 = true := by
            have : wy = 0 ∨ wy = 1 := by omega
            rcases this with rfl | rfl
            · exact ⟨"if ", rfl, by decide +kernel⟩
            · exact ⟨"while ", rfl, by decide +kernel⟩
          refine ⟨_, rfl, l3, _, _, _, rfl, rfl, SqL.of (T4.i 0), hx2, ?_⟩
          refine ⟨_, rfl, _, rfl, p, b, _, rfl, T4.pot, by rw [qV2]; omega, hb.ch T4.ch, fun y G5 hy hp5 c5 => ?_⟩
          have T5 := T4.drw hp5 c5
          rw [qV2] at T5
          refine ⟨_, _, rfl, rfl, add_sz wx2 hy (by decide), ?_⟩
          have whd := wok_mono (wok_app wx2 hy) (by decide : 6 + 4700 ≤ 5000)
          generalize x2 ++ y = hd0 at whd ⊢
          refine ⟨_, rfl, _, rfl, by show 1 ≤ sizeLine; decide, fun Al4 n4 => ?_⟩
          have A4 := T5.new n4 (.lst [.str hd0])
          refine ⟨l, Al4, _, _, rfl, rfl, A4.i 3, A4.i 0, ?_, fun Al5 n5 => ?_⟩
          · rw [List.length_map]
            exact szl (show rows.length + 1 ≤ 20000 by have := txs_len t; omega)
          have A5 := A4.new n5 (.lst (rows.map V.str ++ [.str hd0]))
          refine ⟨_, rfl, _, rfl, _, rfl, _, _, rfl, rfl, p, b, _, ?_, A5.pot, by omega, hb.ch A5.ch, fun Al6 Ays AG6 n6 e6 Ahys hp6 c6 => ?_⟩
          · show [V.ref p, V.ref b, V.int (((d + 1 : Nat) : Int) - 1)] = _
            rw [show ((d + 1 : Nat) : Int) - 1 = (d : Int) by omega]
          have A6 := A5.got hp6 c6 n6 e6
          have Ayl := txs_len Ahys
          refine ⟨Al5, Al6, _, _, rfl, rfl, A6.i 1, A6.i 0, ?_, fun Al7 n7 => ?_⟩
          · rw [List.length_append, List.length_map, List.length_map]
            exact szl (show rows.length + 1 + Ays.length ≤ 20000 by have := txs_len t; omega)
          have A7 := (A6.new n7 (.lst (rows.map V.str ++ [.str hd0] ++ Ays.map V.str))).lst (ys := (rows ++ [hd0] ++ Ays).map V.str) (by rw [List.map_append, List.map_append]; rfl)
          have At := txs_app (txs_app t (txs_one whd)) Ahys
          generalize rows ++ [hd0] ++ Ays = rows2 at A7 At
          refine ⟨_, rfl, rfl, _, rfl, ?_⟩
          refine if2 (fun hz => ⟨_, rfl, p, 2, _, rfl, A7.pot, by omega, by decide, by decide, fun e G8 e0 e2 hp8 c8 => ⟨rfl, _, rfl, if2 (fun hy => ?_) (fun hy => ?_)⟩⟩) (fun hz => ifF rfl ?_)
          · have A8 := A7.drw hp8 c8
            refine ⟨_, rfl, by show 1 ≤ sizeLine; decide, fun Bl4 n4 => ?_⟩
            have B4 := A8.new n4 (.lst [.str ("else" : Str)])
            refine ⟨Al7, Bl4, _, _, rfl, rfl, B4.i 1, B4.i 0, ?_, fun Bl5 n5 => ?_⟩
            · rw [List.length_map]
              exact szl (show rows2.length + 1 ≤ 20000 by have := txs_len At; omega)
            have B5 := B4.new n5 (.lst (rows2.map V.str ++ [.str ("else" : Str)]))
            refine ⟨_, rfl, _, rfl, _, rfl, _, _, rfl, rfl, p, b, _, ?_, B5.pot, by omega, hb.ch B5.ch, fun Bl6 Bys BG6 n6 e6 Bhys hp6 c6 => ?_⟩
            · show [V.ref p, V.ref b, V.int (((d + 1 : Nat) : Int) - 1)] = _
              rw [show ((d + 1 : Nat) : Int) - 1 = (d : Int) by omega]
            have B6 := B5.got hp6 c6 n6 e6
            have Byl := txs_len Bhys
            refine ⟨Bl5, Bl6, _, _, rfl, rfl, B6.i 1, B6.i 0, ?_, fun Bl7 n7 => ?_⟩
            · rw [List.length_append, List.length_map, List.length_map]
              exact szl (show rows2.length + 1 + Bys.length ≤ 20000 by have := txs_len At; omega)
            have B7 := (B6.new n7 (.lst (rows2.map V.str ++ [.str ("else" : Str)] ++ Bys.map V.str))).lst (ys := (rows2 ++ [("else" : Str)] ++ Bys).map V.str) (by rw [List.map_append, List.map_append]; rfl)
            have Bt := txs_app (txs_app At (txs_one (x := "else") (wok_mono (n := 4) (by decide +kernel) (by decide)))) Bhys
            generalize rows2 ++ [("else" : Str)] ++ Bys = rows3 at B7 Bt
            refine ⟨_, rfl, .inl ⟨rfl, _, SqL.of (B7.i 0)⟩, Bl7, _, _, rfl, rfl, B7.i 0, ?_, ?_⟩
            · rw [List.length_map]
              exact Nat.lt_of_le_of_lt (txs_len Bt) (Nat.lt_of_le_of_lt (show _ ≤ 20000 by omega) (by decide))
            exact ⟨_, _, _, Bl7, _, rfl, (B7.app (x := "end") 0).mono (by omega), txs_mono (txs_app Bt (txs_one (x := "end") (by decide +kernel))) (Nat.le_refl _) (by omega)⟩
          · have A8 := A7.drw hp8 c8
            refine ⟨_, rfl, .inl ⟨rfl, _, SqL.of (A8.i 0)⟩, Al7, _, _, rfl, rfl, A8.i 0, ?_, ?_⟩
            · rw [List.length_map]
              exact Nat.lt_of_le_of_lt (txs_len At) (Nat.lt_of_le_of_lt (show _ ≤ 20000 by omega) (by decide))
            exact ⟨_, _, _, Al7, _, rfl, (A8.app (x := "end") 0).mono (by omega), txs_mono (txs_app At (txs_one (x := "end") (by decide +kernel))) (Nat.le_refl _) (by omega)⟩
          · skip
            refine ⟨_, rfl, .inl ⟨rfl, _, SqL.of (A7.i 0)⟩, Al7, _, _, rfl, rfl, A7.i 0, ?_, ?_⟩
            · rw [List.length_map]
              exact Nat.lt_of_le_of_lt (txs_len At) (Nat.lt_of_le_of_lt (show _ ≤ 20000 by omega) (by decide))
            exact ⟨_, _, _, Al7, _, rfl, (A7.app (x := "end") 0).mono (by omega), txs_mono (txs_app At (txs_one (x := "end") (by decide +kernel))) (Nat.le_refl _) (by omega)⟩
        · have hw4 : 2 ≤ wy := by have := of_decide_eq_false hw3; omega
          have whd := wok_mono wx1 (by decide : 7 + 2 ≤ 5000)
          generalize "repeat " ++ x1 = hd0 at whd ⊢
          refine ⟨_, rfl, _, rfl, by show 1 ≤ sizeLine; decide, fun Al4 n4 => ?_⟩
          have A4 := T3.new n4 (.lst [.str hd0])
          refine ⟨l, Al4, _, _, rfl, rfl, A4.i 2, A4.i 0, ?_, fun Al5 n5 => ?_⟩
          · rw [List.length_map]
            exact szl (show rows.length + 1 ≤ 20000 by have := txs_len t; omega)
          have A5 := A4.new n5 (.lst (rows.map V.str ++ [.str hd0]))
          refine ⟨_, rfl, _, rfl, _, rfl, _, _, rfl, rfl, p, b, _, ?_, A5.pot, by omega, hb.ch A5.ch, fun Al6 Ays AG6 n6 e6 Ahys hp6 c6 => ?_⟩
          · show [V.ref p, V.ref b, V.int (((d + 1 : Nat) : Int) - 1)] = _
            rw [show ((d + 1 : Nat) : Int) - 1 = (d : Int) by omega]
          have A6 := A5.got hp6 c6 n6 e6
          have Ayl := txs_len Ahys
          refine ⟨Al5, Al6, _, _, rfl, rfl, A6.i 1, A6.i 0, ?_, fun Al7 n7 => ?_⟩
          · rw [List.length_append, List.length_map, List.length_map]
            exact szl (show rows.length + 1 + Ays.length ≤ 20000 by have := txs_len t; omega)
          have A7 := (A6.new n7 (.lst (rows.map V.str ++ [.str hd0] ++ Ays.map V.str))).lst (ys := (rows ++ [hd0] ++ Ays).map V.str) (by rw [List.map_append, List.map_append]; rfl)
          have At := txs_app (txs_app t (txs_one whd)) Ahys
          generalize rows ++ [hd0] ++ Ays = rows2 at A7 At
          refine ⟨_, rfl, rfl, _, rfl, ?_⟩
          refine ifF (decide_eq_false fun z => by injection z with z; omega) (ifF rfl ?_)
          refine ⟨_, rfl, .inl ⟨rfl, _, SqL.of (A7.i 0)⟩, Al7, _, _, rfl, rfl, A7.i 0, ?_, ?_⟩
          · rw [List.length_map]
            exact Nat.lt_of_le_of_lt (txs_len At) (Nat.lt_of_le_of_lt (show _ ≤ 20000 by omega) (by decide))
          exact ⟨_, _, _, Al7, _, rfl, (A7.app (x := "end") 0).mono (by omega), txs_mono (txs_app At (txs_one (x := "end") (by decide +kernel))) (Nat.le_refl _) (by omega)⟩
    · rintro σ G ⟨o4, o5, o6, l, rows, rfl, T, t'⟩
      have ht : (1 + t).toNat ≤ 3 := by omega
      have h1 : (1 + t).toNat * (3100 + 2 * qPk d) ≤ 3 * (3100 + 2 * qPk d) := Nat.mul_le_mul_right _ ht
      have h2 : (1 + t).toNat * tB d ≤ 3 * tB d := Nat.mul_le_mul_right _ ht
      have T1 := T.mono (m' := m + qBk d) (by omega)
      exact ⟨_, rfl, q l rows G (T1.fr 0) (T1.i 0) (txs_mono t' (Nat.le_refl _) (by omega)) T1.pot T1.ch⟩
/-- the drawn blocks, level by level -/
theorem ok_blocks (F : L2.Fun K "_law_block" "_law_block" sDBlock f fd) (b : Binds K fd PDBlock []) (g : mg "_law_block" = some (.ref f)) (k : PySem.W.keepIn K (.ref f) = true) (B : Bi mg) (cT : CalF P w K mg base 1 "_law_take" spTake) (cO : CalF P w K mg base 2 "_law_of" spOf) (cSd : CalF P w K mg base 12 "_law_said" spSaid) (cPl : CalF P w K mg base 13 "_law_plain" spPlain) : ∀ d, d ≤ 3 → CalF P w K mg base (d + 14) "_law_block" (spBlk d)
  | 0, hd => ⟨f, ok_block F b B cT cO cSd cPl 0 hd ⟨f, fnR_no fun vs H Q E h => h, g, k⟩, g, k⟩
  | d + 1, hd => ⟨f, ok_block F b B cT cO cSd cPl (d + 1) hd (ok_blocks F b g k B cT cO cSd cPl d (by omega)), g, k⟩
end
end Ws

namespace Ws
open PySem PySem.Spec PyProof.Rows L2
noncomputable abbrev sDRows : Stmt := (PySem.Challenge.pw_whatspeed_k17_what_a_program_tells.main.body.getD 67 (.Pass ⟨0, 0, 0, 0⟩))
noncomputable abbrev NDRows : List Str := ["pot", "deep", "rows", "box", "tails", "kind", "many", "marks", "heads", "at", "head", "name"]
noncomputable abbrev PDRows : List Str := ["pot", "deep"]
theorem scDRows : FnScope NDRows PDRows (defScope sDRows) := ⟨rfl, rfl, rfl, by decide +kernel, rfl, by decide +kernel, by decide +kernel⟩
/-! ### drawn programs -/
noncomputable def four : List Str := ["lock", "queue", "cell", "part"]
noncomputable def coreRows : List Str := ["cores 1", "cores 2", "cores 3"]
noncomputable def sliceRows : List Str := ["slice 0", "slice 4", "slice 20"]
noncomputable def three : List Str := ["one", "two", "tri"]
noncomputable def tkHeads : List Str := ["task one 1", "task one 2", "task one 3", "task one 4", "task one 5", "task one 6", "task one 7", "task one 8", "task one 9", "task two 1", "task two 2", "task two 3", "task two 4", "task two 5", "task two 6", "task two 7", "task two 8", "task two 9", "task tri 1", "task tri 2", "task tri 3", "task tri 4", "task tri 5", "task tri 6", "task tri 7", "task tri 8", "task tri 9"]
noncomputable def tkRows : List Str := tkHeads ++ tkHeads.map fun x => x ++ (" later" : Str)
noncomputable def qR (d : Nat) : Nat := 30 + 3 * (1 + qBk d)
noncomputable def nR (d : Nat) : Nat := 10 + 3 * (1 + nBk d)
theorem head_mem {nm : Str} (hn : nm ∈ three) {t : Int} (h0 : 0 ≤ t) (h : t < 9) : "task " ++ nm ++ " " ++ Str.ofString (toString (1 + t)) ∈ tkHeads := by
  have h1 : ∀ z ∈ three, ∀ k : Fin 9, "task " ++ z ++ " " ++ Str.ofString (toString (1 + ((k : Nat) : Int))) ∈ tkHeads := by decide +kernel
  have h2 := h1 nm hn ⟨t.toNat, by omega⟩
  have e : ((t.toNat : Nat) : Int) = t := Int.toNat_of_nonneg h0
  rw [← e]
  exact h2
theorem mark_mem {x : Str} (hx : x ∈ tkHeads) : x ++ "" ∈ tkRows ∧ x ++ " later" ∈ tkRows := by
  have h1 : ∀ z ∈ tkHeads, z ++ "" ∈ tkRows ∧ z ++ " later" ∈ tkRows := by decide +kernel
  exact h1 x hx
theorem tk_wok {x : Str} (hx : x ∈ tkRows) : wok 20 x = true := by
  have h1 : ∀ z ∈ tkRows, wok 20 z = true := by decide +kernel
  exact h1 x hx
theorem hd_wok {x : Str} (hx : x ∈ tkHeads) : wok 20 x = true := tk_wok (List.mem_append_left _ hx)
theorem hd_three {t : Int} (h0 : 0 ≤ t) (h : t < 3) : ∃ hs : List Str, cutV [V.str "one", .str "two", .str "tri"] none (some (1 + t)) = hs.map V.str ∧ (∀ x ∈ hs, x ∈ three) ∧ hs.length ≤ 3 ∧ 1 ≤ hs.length := by
  have : t = 0 ∨ t = 1 ∨ t = 2 := by omega
  rcases this with rfl | rfl | rfl
  · exact ⟨["one"], rfl, by decide +kernel, by decide, by decide⟩
  · exact ⟨["one", "two"], rfl, by decide +kernel, by decide, by decide⟩
  · exact ⟨["one", "two", "tri"], rfl, by decide +kernel, by decide, by decide⟩
theorem core_mem {t : Int} (h0 : 0 ≤ t) (h : t < 3) : "cores " ++ Str.ofString (toString (1 + t)) ∈ coreRows := by
  have : t = 0 ∨ t = 1 ∨ t = 2 := by omega
  rcases this with rfl | rfl | rfl <;> decide +kernel
theorem slice_mem {v : V} (h : v ∈ [V.int 0, V.int 4, V.int 20]) : ∃ i, v = .int i ∧ 0 ≤ i ∧ i ≤ 999 ∧ "slice " ++ Str.ofString (toString i) ∈ sliceRows := by
  simp only [List.mem_cons, List.not_mem_nil, or_false] at h
  rcases h with rfl | rfl | rfl
  · exact ⟨0, rfl, by decide, by decide, by decide +kernel⟩
  · exact ⟨4, rfl, by decide, by decide, by decide +kernel⟩
  · exact ⟨20, rfl, by decide, by decide, by decide +kernel⟩
theorem putK_len {k : Key} {v : V} (kvs : List (Key × V)) : (putK kvs k v).length ≤ kvs.length + 1 := by
  unfold putK
  split
  · rw [List.length_map]
    exact Nat.le_succ _
  · rw [List.length_append]
    exact Nat.le_refl _
theorem BoxK.ch {H H' : Hp} {p : Addr} {kvs : List (Key × V)} {k : Str} (h : BoxK H p kvs k) (c : Ch p H H') : BoxK H' p kvs k := by
  obtain ⟨a, names, h1, h2, h3, h4⟩ := h
  exact ⟨a, names, h1, c _ _ h3 h2, h3, h4⟩
theorem BoxK.upd {H : Hp} {p d : Addr} {kvs kv0 : List (Key × V)} {k : Str} {o : HO} (h : BoxK H p kvs k) (e : H d = some (.dK kv0)) : BoxK (L2.upd H d o) p kvs k := by
  obtain ⟨a, names, h1, h2, h3, h4⟩ := h
  exact ⟨a, names, h1, (upd_ne fun z => by rw [z, e] at h2; cases h2).trans h2, h3, h4⟩
theorem BoxK.put {H : Hp} {p a : Addr} {kvs : List (Key × V)} {k j : Str} {names : List Str} (h : BoxK H p kvs j ∨ j = k) (ha : H a = some (.lst (names.map V.str))) (np : a ≠ p) (t : txs 5 2 names = true) : BoxK H p (putK kvs (.inr k) (.ref a)) j := by
  by_cases e : j = k
  · subst e
    exact ⟨a, names, by rw [valV_put, if_pos rfl], ha, np, t⟩
  · rcases h with ⟨b, nm, h1, h2, h3, h4⟩ | h
    · exact ⟨b, nm, by rw [valV_put, if_neg (fun z => e (by injection z))]; exact h1, h2, h3, h4⟩
    · exact absurd h e
noncomputable def TB (H : Hp) (p : Addr) (tk : List (Key × V)) : Prop := ∀ k ∈ four, ∃ (a : Addr) (ls : List Str), valV tk (.inr k) = some (.ref a) ∧ H a = some (.lst (ls.map V.str)) ∧ a ≠ p ∧ txs 5 2 ls = true ∧ 1 ≤ ls.length
theorem TB.ch {H H' : Hp} {p : Addr} {tk : List (Key × V)} (h : TB H p tk) (c : Ch p H H') : TB H' p tk := fun k hk => by
  obtain ⟨a, ls, h1, h2, h3, h4⟩ := h k hk
  exact ⟨a, ls, h1, c _ _ h3 h2, h3, h4⟩
theorem TB.upd {H : Hp} {p d : Addr} {tk kv0 : List (Key × V)} {o : HO} (h : TB H p tk) (e : H d = some (.dK kv0)) : TB (L2.upd H d o) p tk := fun k hk => by
  obtain ⟨a, ls, h1, h2, h3, h4⟩ := h k hk
  exact ⟨a, ls, h1, (upd_ne fun z => by rw [z, e] at h2; cases h2).trans h2, h3, h4⟩
section
variable {P : Program} {w : World} {K : PySem.W.Frag} {mg : Str → Option Value} {base : Heap} {f : Addr} {fd : FuncData}
noncomputable def spRows (d : Nat) : Sp := fun vs H Q _ => ∃ (p : Addr) (m : Int), vs = [.ref p, .int d] ∧ PotAt H p m ∧ m + qR d ≤ 9000000000 ∧ ∀ (r : Addr) (a b : Str) (rest : List Str) (H' : Hp), H r = none → H' r = some (.lst ((a :: b :: rest).map V.str)) → a ∈ coreRows → b ∈ sliceRows → (∃ x ∈ rest, x ∈ tkRows) → txs 5000 (nR d) (a :: b :: rest) = true → PotAt H' p (m + qR d) → Ch p H H' → Q (.ref r) H'
theorem ok_rows (F : L2.Fun K "_law_rows" "_law_rows" sDRows f fd) (b : Binds K fd PDRows []) (B : Bi mg) (gSt : mg "str" = none) (gEn : mg "enumerate" = none) (cT : CalF P w K mg base 1 "_law_take" spTake) (cO : CalF P w K mg base 2 "_law_of" spOf)
    (d : Nat) (hd : d ≤ 3) (cBk : CalF P w K mg base (d + 14) "_law_block" (spBlk d)) : FnR P w K mg base CX0 (d + 15) f (spRows d) := by
  refine fnR_of (k := d + 14) F b scDRows (fun vs H Q E h => ?_) (fun cdv A outer s H vs Q E hr h => ?_)
  · obtain ⟨p, m, rfl, _⟩ := h
    rfl
  · have sc := scDRows
    obtain ⟨p, m, rfl, hp, hm, q⟩ := h
    refine ⟨_, (pss_cons (ps_set (i := 2) sc.nd rfl (Or.inl rfl) (pe_lst (pa_cons (pe_op op_add_str pe_str (pe_callTy call_str_int (by rfl) gSt (by decide +kernel) (pa_cons (pe_op op_add pe_int (pe_f cT hr (by omega) rfl (pa_cons (pv 0) (pa_cons pe_int pa_nil)))) pa_nil))) (pa_cons (pe_op op_add_str pe_str (pe_callTy call_str_int (by rfl) gSt (by decide +kernel) (pa_cons (pe_f cO hr (by omega) rfl (pa_cons (pv 0) (pa_cons (pe_lst (pa_cons pe_int (pa_cons pe_int (pa_cons pe_int pa_nil)))) pa_nil))) pa_nil))) pa_nil)))) (pss_cons (ps_set (i := 3) sc.nd rfl (Or.inl rfl) (pe_disp (pps_cons pe_str (pe_lst (pa_cons pe_str (pa_cons pe_str pa_nil))) (pps_cons pe_str (pe_lst (pa_cons pe_str (pa_cons pe_str pa_nil))) (pps_cons pe_str (pe_lst (pa_cons pe_str (pa_cons pe_str pa_nil))) (pps_cons pe_str (pe_lst (pa_cons pe_str (pa_cons pe_str pa_nil))) pps_nil)))) (by rfl) (by rfl) (fun z => by cases z) (by decide))) (pss_cons (ps_set (i := 4) sc.nd rfl (Or.inr rfl) (pe_disp (pps_cons pe_str (pe_lst (pa_cons pe_str (pa_cons pe_str pa_nil))) (pps_cons pe_str (pe_lst (pa_cons pe_str (pa_cons pe_str pa_nil))) (pps_cons pe_str (pe_lst (pa_cons pe_str (pa_cons pe_str pa_nil))) (pps_cons pe_str (pe_lst (pa_cons pe_str pa_nil)) pps_nil)))) (by rfl) (by rfl) (fun z => by cases z) (by decide))) (pss_cons (ps_for PassesOwn.never rfl (pi_list (pe_lst (pa_cons pe_str (pa_cons pe_str (pa_cons pe_str (pa_cons pe_str pa_nil)))))) (pg_name (i := 5) sc.nd rfl (Or.inr rfl)) (pss_cons (ps_dput (hu_of hr) (pv 3) (pv 5) (pe_slice sl_list (pe_dget (hu_of hr) (pv 3) (pv 5) (fun _ _ => rfl)) po_none (po_some (pe_f cT hr (by omega) rfl (pa_cons (pv 0) (pa_cons pe_int pa_nil))))) rfl) (pss_one (ps_set (i := 2) sc.nd rfl (Or.inl rfl) (pe_op op_cat (pv 2) (pe_lc (own := [("name", 11)]) rfl sc.nd (pi_list (pe_dget (hu_of hr) (pv 3) (pv 5) (fun _ _ => rfl))) (blkOk_by (N := NDRows) (sc := defScope sDRows) (by decide +kernel)) (fun _ _ _ _ _ => by exact (pg_name (i := 11) sc.nd rfl (Or.inl rfl))) (fun _ _ _ _ _ => by exact pts_nil) (fun _ _ _ _ _ => by exact (pe_op op_add_str (pe_op op_add_str (pe_op op_add_str (pv 5) pe_str) (pv 11)) (pe_f cO hr (by omega) rfl (pa_cons (pv 0) (pa_cons (pe_dget (hu_of hr) (pv 4) (pv 5) (fun _ _ => rfl)) pa_nil))))))))))) (pss_cons (ps_set (i := 6) sc.nd rfl (Or.inl rfl) (pe_op op_add pe_int (pe_f cT hr (by omega) rfl (pa_cons (pv 0) (pa_cons pe_int pa_nil))))) (pss_cons (ps_set (i := 7) sc.nd rfl (Or.inl rfl) (pe_lst (pa_cons pe_str (pa_cons pe_str (pa_cons pe_str pa_nil))))) (pss_cons (ps_setLc (i := 8) (own := [("name", 11)]) rfl sc.nd rfl rfl (sw_true rfl rfl rfl (by decide +kernel)) (pi_list (pe_slice sl_list (pe_lst (pa_cons pe_str (pa_cons pe_str (pa_cons pe_str pa_nil)))) po_none (po_some (pv 6)))) (blkOk_by (N := NDRows) (sc := defScope sDRows) (by decide +kernel)) (fun _ _ _ _ _ => by exact (pg_name (i := 11) sc.nd rfl (Or.inl rfl))) (fun _ _ _ _ _ => by exact pts_nil) (fun _ _ _ _ _ => by exact (pe_op op_add_str (pe_op op_add_str (pe_op op_add_str pe_str (pv 11)) pe_str) (pe_callTy call_str_int (by rfl) gSt (by decide +kernel) (pa_cons (pe_op op_add pe_int (pe_f cT hr (by omega) rfl (pa_cons (pv 0) (pa_cons pe_int pa_nil)))) pa_nil))))) (pss_cons (ps_asg (pe_tup (pa_cons (pe_slice sl_list (pe_lst (pa_cons pe_str (pa_cons pe_str pa_nil))) po_none (po_some (pe_op op_add pe_int (pe_callTy call_int1 (by rfl) B.int (by decide +kernel) (pa_cons (pe_cmpR op_eq (pv 6) pe_int (nomark _)) pa_nil))))) (pa_cons (pe_slice sl_list (pe_lst (pa_cons pe_str pa_nil)) po_none (po_some (pe_op op_sub (pv 6) pe_int))) pa_nil))) (pg_tup rfl (pgs_cons (pg_sub (pv 3) pe_str (set_dict (hu_of hr))) (pgs_cons (pg_sub (pv 3) pe_str (set_dict (hu_of hr))) pgs_nil)))) (pss_cons (ps_for PassesOwn.never rfl (pi_enum (by rfl) gEn (pa_cons (pv 8) pa_nil)) (pg_tup rfl (pgs_cons (pg_name (i := 9) sc.nd rfl (Or.inl rfl)) (pgs_cons (pg_name (i := 10) sc.nd rfl (Or.inl rfl)) pgs_nil))) (pss_one (ps_set (i := 2) sc.nd rfl (Or.inl rfl) (pe_op op_cat (pe_op op_cat (pv 2) (pe_lst (pa_cons (pe_op op_add_str (pv 10) (pe_ix ix_list (pv 7) (pv 9) (fun _ _ => rfl))) pa_nil))) (pe_f cBk hr (by omega) rfl (pa_cons (pv 0) (pa_cons (pv 3) (pa_cons (pv 1) pa_nil)))))))) (pss_one (ps_ret (pv 2)))))))))))), ?_⟩
    have S := Sx.start hp
    have hm : m + (30 + 3 * (1 + qBk d) : Nat) ≤ 9000000000 := hm
    refine ⟨_, rfl, p, 3, m, rfl, S.pot, by omega, by decide, by decide, fun t H1 t0 t3 hp1 c1 => ?_⟩
    have S1 := S.drw hp1 c1
    refine ⟨_, _, rfl, rfl, 1 + t, rfl, num_log (by omega) (by omega), _, _, rfl, rfl, add_sz (n := 6) (by decide +kernel) (num_wok (by omega) (by omega)) (by decide), ?_⟩
    have ha := core_mem t0 t3
    generalize "cores " ++ Str.ofString (toString (1 + t)) = ra at ha ⊢
    refine ⟨_, rfl, by show 3 ≤ sizeLine; decide, fun l2 n2 => ?_⟩
    have S2 := S1.new n2 (.lst [.int 0, .int 4, .int 20])
    refine ⟨p, l2, _, _, rfl, S2.pot, by omega, S2.i 0, S2.np 0, by show 1 ≤ 3; decide, by show 3 ≤ 1000; decide, fun v H2 hv hp2 c2 => ?_⟩
    have S3 := S2.drw hp2 c2
    obtain ⟨i2, rfl, i20, i21, hb⟩ := slice_mem hv
    refine ⟨i2, rfl, num_log i20 i21, _, _, rfl, rfl, add_sz (n := 6) (by decide +kernel) (num_wok i20 i21) (by decide), ?_⟩
    generalize "slice " ++ Str.ofString (toString i2) = rb at hb ⊢
    refine ⟨by show 2 ≤ sizeLine; decide, fun lr nr => ?_⟩
    have S4 := S3.new nr (.lst [.str ra, .str rb])
    have t2 : txs 5000 2 [ra, rb] = true := by
      rw [txs_iff]
      refine ⟨Nat.le_refl 2, fun x hx => ?_⟩
      have hc : ∀ z ∈ coreRows, wok 5000 z = true := by decide +kernel
      have hs : ∀ z ∈ sliceRows, wok 5000 z = true := by decide +kernel
      rcases List.mem_cons.mp hx with rfl | hx
      · exact hc _ ha
      · rw [List.mem_singleton.mp hx]
        exact hs _ hb
    -- the box
    refine fun dp nd => ?_
    have S5 := S4.new nd (.dK [])
    refine ⟨by show 2 ≤ sizeLine; decide, fun k1 m1 => ?_⟩
    have S6 := S5.new m1 (.lst [.str "door", .str "gate"])
    refine ⟨by show 2 ≤ sizeLine; decide, fun k2 m2 => ?_⟩
    have S7 := S6.new m2 (.lst [.str "belt", .str "pipe"])
    refine ⟨by show 2 ≤ sizeLine; decide, fun k3 m3 => ?_⟩
    have S8 := S7.new m3 (.lst [.str "n", .str "total"])
    refine ⟨by show 2 ≤ sizeLine; decide, fun k4 m4 => ?_⟩
    have S9 := S8.new m4 (.lst [.str "fetch", .str "store"])
    refine ⟨S9.i 4, [(.inr "lock", .ref k1), (.inr "queue", .ref k2), (.inr "cell", .ref k3), (.inr "part", .ref k4)], rfl, (by show 4 ≤ 15; decide), ?_⟩
    have kd4 : ∀ {q : Addr × HO}, q ∈ [(k4, HO.lst [V.str "fetch", V.str "store"]), (k3, .lst [.str "n", .str "total"]), (k2, .lst [.str "belt", .str "pipe"]), (k1, .lst [.str "door", .str "gate"]), (lr, .lst [.str ra, .str rb])] → q ∈ [(k4, HO.lst [V.str "fetch", V.str "store"]), (k3, .lst [.str "n", .str "total"]), (k2, .lst [.str "belt", .str "pipe"]), (k1, .lst [.str "door", .str "gate"]), (dp, .dK []), (lr, .lst [.str ra, .str rb]), (l2, .lst [.int 0, .int 4, .int 20])] ∧ q.1 ≠ dp := fun {q} hq => by
      simp only [List.mem_cons, List.not_mem_nil, or_false] at hq
      rcases hq with rfl | rfl | rfl | rfl | rfl
      · exact ⟨by simp, S9.kind 0 4⟩
      · exact ⟨by simp, S9.kind 1 4⟩
      · exact ⟨by simp, S9.kind 2 4⟩
      · exact ⟨by simp, S9.kind 3 4⟩
      · exact ⟨by simp, S9.kind 5 4⟩
    have S10 := S9.upd 4 rfl (.dK (mergeK [] [(.inr "lock", .ref k1), (.inr "queue", .ref k2), (.inr "cell", .ref k3), (.inr "part", .ref k4)])) _ (fun q hq => kd4 hq)
    have hB : ∀ k ∈ four, BoxK _ p (mergeK [] [(.inr "lock", .ref k1), (.inr "queue", .ref k2), (.inr "cell", .ref k3), (.inr "part", .ref k4)]) k := fun k hk => by
      simp only [four, List.mem_cons, List.not_mem_nil, or_false] at hk
      rcases hk with rfl | rfl | rfl | rfl
      · exact ⟨k1, ["door", "gate"], rfl, S10.i 4, S10.np 4, by decide +kernel⟩
      · exact ⟨k2, ["belt", "pipe"], rfl, S10.i 3, S10.np 3, by decide +kernel⟩
      · exact ⟨k3, ["n", "total"], rfl, S10.i 2, S10.np 2, by decide +kernel⟩
      · exact ⟨k4, ["fetch", "store"], rfl, S10.i 1, S10.np 1, by decide +kernel⟩
    have hBl : (mergeK [] [((.inr "lock" : Key), V.ref k1), (.inr "queue", .ref k2), (.inr "cell", .ref k3), (.inr "part", .ref k4)]).length ≤ 4 := Nat.le_of_eq rfl
    have S11 := S10.sub (G := [(dp, .dK (mergeK [] [((.inr "lock" : Key), V.ref k1), (.inr "queue", .ref k2), (.inr "cell", .ref k3), (.inr "part", .ref k4)])), (lr, .lst [.str ra, .str rb])]) (by intro q hq; simp only [List.mem_cons, List.not_mem_nil, or_false] at hq; rcases hq with rfl | rfl; exact List.mem_cons_self ..; simp only [List.mem_cons, true_or, or_true])
    generalize mergeK [] [((.inr "lock" : Key), V.ref k1), (.inr "queue", .ref k2), (.inr "cell", .ref k3), (.inr "part", .ref k4)] = kv0 at S11 hB hBl ⊢
    generalize upd _ dp (.dK kv0) = H3 at S11 hB ⊢
    clear S10 kd4 S9 S8 S7 S6 S5 S4
    -- the tails
    refine fun tp nt => ?_
    have T5 := S11.new nt (.dK [])
    refine ⟨by show 2 ≤ sizeLine; decide, fun j1 m1 => ?_⟩
    have T6 := T5.new m1 (.lst [.str "", .str " lent"])
    refine ⟨by show 2 ≤ sizeLine; decide, fun j2 m2 => ?_⟩
    have T7 := T6.new m2 (.lst [.str " 1", .str " 4"])
    refine ⟨by show 2 ≤ sizeLine; decide, fun j3 m3 => ?_⟩
    have T8 := T7.new m3 (.lst [.str " 0", .str " 999"])
    refine ⟨by show 1 ≤ sizeLine; decide, fun j4 m4 => ?_⟩
    have T9 := T8.new m4 (.lst [.str ""])
    refine ⟨T9.i 4, [(.inr "lock", .ref j1), (.inr "queue", .ref j2), (.inr "cell", .ref j3), (.inr "part", .ref j4)], rfl, (by show 4 ≤ 15; decide), ?_⟩
    have ndt : dp ≠ tp := ne_of_none (S11.i 0) nt
    have kd5 : ∀ {q : Addr × HO}, q ∈ [(j4, HO.lst [V.str ""]), (j3, .lst [.str " 0", .str " 999"]), (j2, .lst [.str " 1", .str " 4"]), (j1, .lst [.str "", .str " lent"]), (dp, .dK kv0), (lr, .lst [.str ra, .str rb])] → q ∈ [(j4, HO.lst [V.str ""]), (j3, .lst [.str " 0", .str " 999"]), (j2, .lst [.str " 1", .str " 4"]), (j1, .lst [.str "", .str " lent"]), (tp, .dK []), (dp, .dK kv0), (lr, .lst [.str ra, .str rb])] ∧ q.1 ≠ tp := fun {q} hq => by
      simp only [List.mem_cons, List.not_mem_nil, or_false] at hq
      rcases hq with rfl | rfl | rfl | rfl | rfl | rfl
      · exact ⟨by simp, T9.kind 0 4⟩
      · exact ⟨by simp, T9.kind 1 4⟩
      · exact ⟨by simp, T9.kind 2 4⟩
      · exact ⟨by simp, T9.kind 3 4⟩
      · exact ⟨by simp, ndt⟩
      · exact ⟨by simp, T9.kind 6 4⟩
    have T10 := T9.upd 4 rfl (.dK (mergeK [] [(.inr "lock", .ref j1), (.inr "queue", .ref j2), (.inr "cell", .ref j3), (.inr "part", .ref j4)])) _ (fun q hq => kd5 hq)
    have hT : ∀ k ∈ four, ∃ (a : Addr) (ls : List Str), valV (mergeK [] [((.inr "lock" : Key), V.ref j1), (.inr "queue", .ref j2), (.inr "cell", .ref j3), (.inr "part", .ref j4)]) (.inr k) = some (.ref a) ∧ (_ : Hp) a = some (.lst (ls.map V.str)) ∧ a ≠ p ∧ txs 5 2 ls = true ∧ 1 ≤ ls.length := fun k hk => by
      simp only [four, List.mem_cons, List.not_mem_nil, or_false] at hk
      rcases hk with rfl | rfl | rfl | rfl
      · exact ⟨j1, ["", " lent"], rfl, T10.i 4, T10.np 4, by decide +kernel, by decide⟩
      · exact ⟨j2, [" 1", " 4"], rfl, T10.i 3, T10.np 3, by decide +kernel, by decide⟩
      · exact ⟨j3, [" 0", " 999"], rfl, T10.i 2, T10.np 2, by decide +kernel, by decide⟩
      · exact ⟨j4, [""], rfl, T10.i 1, T10.np 1, by decide +kernel, by decide⟩
    have T11 := T10.sub (G := [(dp, .dK kv0), (tp, .dK (mergeK [] [((.inr "lock" : Key), V.ref j1), (.inr "queue", .ref j2), (.inr "cell", .ref j3), (.inr "part", .ref j4)])), (lr, .lst [.str ra, .str rb])]) (by intro q hq; simp only [List.mem_cons, List.not_mem_nil, or_false] at hq; rcases hq with rfl | rfl | rfl; simp only [List.mem_cons, true_or, or_true]; exact List.mem_cons_self ..; simp only [List.mem_cons, true_or, or_true])
    have hB : ∀ k ∈ four, BoxK _ p kv0 k := fun k hk => ((((((hB k hk).ch (Ch.new nt)).ch (Ch.new m1)).ch (Ch.new m2)).ch (Ch.new m3)).ch (Ch.new m4)).upd (o := .dK (mergeK [] [((.inr "lock" : Key), V.ref j1), (.inr "queue", .ref j2), (.inr "cell", .ref j3), (.inr "part", .ref j4)])) (T9.i 4)
    generalize mergeK [] [((.inr "lock" : Key), V.ref j1), (.inr "queue", .ref j2), (.inr "cell", .ref j3), (.inr "part", .ref j4)] = tk at T11 hT hB ⊢
    generalize upd _ tp (.dK tk) = H4 at T11 hT hB ⊢
    clear T10 kd5 T9 T8 T7 T6 T5 S11
    clear S1 S2 S3 hp1 hp2 c1 c2
    -- the kinds
    refine ⟨by show 4 ≤ sizeLine; decide, fun lk nk => ?_⟩
    have U1 := T11.new nk (.lst (four.map V.str))
    have hB := fun k hk => (hB k hk).ch (Ch.new (o := .lst (four.map V.str)) nk)
    have hT : ∀ k ∈ four, ∃ (a : Addr) (ls : List Str), valV tk (.inr k) = some (.ref a) ∧ (upd H4 lk (.lst (four.map V.str))) a = some (.lst (ls.map V.str)) ∧ a ≠ p ∧ txs 5 2 ls = true ∧ 1 ≤ ls.length := fun k hk => by
      obtain ⟨a, ls, h1, h2, h3, h4, h5⟩ := hT k hk
      exact ⟨a, ls, h1, (Same.new nk) _ _ h2, h3, h4, h5⟩
    refine ⟨lk, rfl, ⟨_, SqL.of upd_same⟩, for_list (xs := four.map V.str) (fun i σ G => ∃ (o5 : Option V) (lr : Addr) (rest : List Str) (kvs : List (Key × V)), σ = [some (.ref p), some (.int d), some (.ref lr), some (.ref dp), some (.ref tp), o5, none, none, none, none, none, none] ∧
      Sx H G p (m + 2 + 3 * (i : Int)) [(dp, .dK kvs), (tp, .dK tk), (lk, .lst (four.map V.str)), (lr, .lst ((ra :: rb :: rest).map V.str))] ∧ (∀ k ∈ four, BoxK G p kvs k) ∧ kvs.length ≤ 4 + i ∧ TB G p tk ∧ txs 5000 (2 + 2 * i) (ra :: rb :: rest) = true) ?_ ?_ ?_ ?_⟩
    · exact ⟨_, lr, [], kv0, rfl, (U1.sub (by intro q hq; simp only [List.mem_cons, List.not_mem_nil, or_false] at hq ⊢; rcases hq with rfl | rfl | rfl | rfl <;> simp)).mono (by omega), hB, hBl, hT, t2⟩
    · rintro i σ G hi ⟨o5, lr, rest, kvs, rfl, V1, hB, hBl, hT, t2⟩
      exact SqL.of (V1.i 2)
    · rintro i x σ G hx ⟨o5, lr, rest, kvs, rfl, V1, hB, hBl, hT, t2⟩
      obtain ⟨kd, rfl, hkd⟩ := at_str hx
      have hi : i < 4 := by have := (List.getElem?_eq_some_iff.mp hx).1; rw [List.length_map] at this; exact this
      obtain ⟨ak, names, hv, hak, nak, tn⟩ := hB kd hkd
      refine ⟨_, rfl, _, rfl, dp, .ref ak, rfl, .inl ⟨_, .inr kd, .inl (V1.i 0), rfl, hv.symm⟩, ?_⟩
      refine ⟨_, rfl, p, 3, _, rfl, V1.pot, by omega, by decide, by decide, fun kt G1 kt0 kt3 hp1 c1 => ?_⟩
      have V2 := V1.drw hp1 c1
      have hB := fun k hk => (hB k hk).ch c1
      have hT := hT.ch c1
      refine ⟨kt, rfl, ak, _, rfl, SqL.of (c1 _ _ nak hak), fun la na => ?_⟩
      obtain ⟨nm2, ecut, hsub, hlen⟩ := cut_str names none (some kt)
      rw [ecut]
      have tn2 : txs 5 2 nm2 = true := txs_sub tn hsub (Nat.le_trans hlen (txs_len tn))
      have V3 := V2.new na (.lst (nm2.map V.str))
      have hB := fun k hk => (hB k hk).ch (Ch.new (o := .lst (nm2.map V.str)) na)
      have hT := hT.ch (Ch.new (o := .lst (nm2.map V.str)) na)
      refine ⟨_, rfl, _, rfl, dp, _, rfl, DPut.k (k := .inr kd) (V3.i 1) (Nat.lt_of_le_of_lt hBl (Nat.lt_of_le_of_lt (show _ ≤ 100 by omega) (by decide))), ?_⟩
      have ne1 : lk ≠ dp := V3.kind 3 1
      have ne2 : lr ≠ dp := V3.kind 4 1
      have ne3 : la ≠ dp := V3.kind 0 1
      have ne4 : tp ≠ dp := Ne.symm ndt
      have V4 := V3.upd 1 rfl (.dK (putK kvs (.inr kd) (.ref la))) [(tp, .dK tk), (lk, .lst (four.map V.str)), (lr, .lst ((ra :: rb :: rest).map V.str)), (la, .lst (nm2.map V.str))] (by
        intro q hq
        simp only [List.mem_cons, List.not_mem_nil, or_false] at hq
        rcases hq with rfl | rfl | rfl | rfl
        · exact ⟨by simp only [List.mem_cons, true_or, or_true], ne4⟩
        · exact ⟨by simp only [List.mem_cons, true_or, or_true], ne1⟩
        · exact ⟨by simp only [List.mem_cons, true_or, or_true], ne2⟩
        · exact ⟨by simp only [List.mem_cons, true_or, or_true], ne3⟩)
      have e31 : (L2.upd G1 la (.lst (nm2.map V.str))) dp = some (.dK kvs) := V3.i 1
      have hB := fun k hk => (hB k hk).upd (o := .dK (putK kvs (.inr kd) (.ref la))) e31
      have hB := fun k hk => BoxK.put (k := kd) (names := nm2) (.inl (hB k hk)) (V4.i 4) (V4.np 4) tn2
      have hT := hT.upd (o := .dK (putK kvs (.inr kd) (.ref la))) e31
      have hBl2 := putK_len (k := .inr kd) (v := .ref la) kvs
      have hget : valV (putK kvs (.inr kd) (.ref la)) (.inr kd) = some (V.ref la) := by rw [valV_put, if_pos rfl]
      generalize putK kvs (.inr kd) (.ref la) = kvs2 at V4 hB hT hBl2 hget ⊢
      generalize L2.upd _ dp (.dK kvs2) = G2 at V4 hB hT ⊢
      have wkd : wok 5 kd = true := by
        have : ∀ z ∈ four, wok 5 z = true := by decide +kernel
        exact this kd hkd
      refine ⟨_, rfl, _, rfl, _, rfl, dp, .ref la, rfl, .inl ⟨_, .inr kd, .inl (V4.i 0), rfl, hget.symm⟩, la, rfl, ⟨_, SqL.of (V4.i 4)⟩, fun D nD => ?_⟩
      have hn2 := txs_len tn2
      refine lc_list (xs := nm2.map V.str) (fun j Gj => ∃ acc : List Str, Sx G2 Gj p (m + 2 + 3 * (i : Int) + 1 + (j : Int)) [(D, .lst (acc.map V.str))] ∧ txs 20 j acc = true) ?_ ?_ ?_ ?_
      · exact ⟨[], ((Sx.start V4.pot).new nD (.lst [])).mono (by omega), by decide⟩
      · rintro j Gj hj ⟨acc, W, ta⟩
        exact SqL.of (W.ch _ _ (V4.np 4) (V4.i 4))
      · rintro j x Gj hxj ⟨acc, W, ta⟩
        obtain ⟨z, rfl, hz⟩ := at_str hxj
        have hj : j < nm2.length := by have := (List.getElem?_eq_some_iff.mp hxj).1; rw [List.length_map] at this; exact this
        have wz := txs_mem tn2 hz
        have w1 := wok_app wkd (m := 1) (y := " ") (by decide +kernel)
        have w2 := wok_app w1 wz
        obtain ⟨at1, ls, hv1, ha1, nat1, tl1, hl1⟩ := (hT.ch W.ch) kd hkd
        have hll := txs_len tl1
        refine ⟨rfl, _, rfl, _, _, rfl, rfl, add_sz wkd (m := 1) (by decide +kernel) (by decide), _, rfl, _, _, rfl, rfl, add_sz w1 wz (by decide), ?_⟩
        refine ⟨_, rfl, _, rfl, _, rfl, tp, .ref at1, rfl, .inl ⟨_, .inr kd, .inl (W.ch _ _ (V4.np 1) (V4.i 1)), rfl, hv1.symm⟩, p, at1, _, _, rfl, W.pot, by omega, ha1, nat1, by rw [List.length_map]; exact hl1, by rw [List.length_map]; omega, fun v G3 hv hp3 c3 => ?_⟩
        obtain ⟨y, rfl, hy⟩ := mem_str hv
        have wy := txs_mem tl1 hy
        have W2 := W.drw hp3 c3
        have hal := txs_len ta
        refine ⟨_, _, rfl, rfl, add_sz w2 wy (by decide), _, W2.i 0, by rw [List.length_map]; exact Nat.lt_of_le_of_lt hal (Nat.lt_of_le_of_lt (show j ≤ 100 by omega) (by decide)), acc ++ [kd ++ " " ++ z ++ y], (W2.app (x := kd ++ " " ++ z ++ y) 0).mono (by omega), txs_app ta (txs_one (wok_mono (wok_app w2 wy) (by decide)))⟩
      · rintro Gj ⟨acc, W, ta⟩
        rw [List.length_map] at W ta
        have hal := txs_len ta
        have V5 := V4.drw W.pot W.ch
        have hB := fun k hk => (hB k hk).ch W.ch
        have hT := hT.ch W.ch
        have hrl := txs_len t2
        refine ⟨lr, D, _, _, rfl, rfl, V5.i 3, W.i 0, by rw [List.length_map, List.length_map]; exact szl (by omega), fun l5 n5 => ?_⟩
        have V6 := (V5.new n5 (.lst ((ra :: rb :: rest).map V.str ++ acc.map V.str))).lst (ys := (ra :: rb :: (rest ++ acc)).map V.str) (by rw [← List.map_append]; rfl)
        refine ⟨_, l5, rest ++ acc, kvs2, rfl, (V6.sub (by
          intro q hq
          simp only [List.mem_cons, List.not_mem_nil, or_false] at hq
          rcases hq with rfl | rfl | rfl | rfl <;> simp only [List.mem_cons, true_or, or_true])).mono (by omega), fun k hk => (hB k hk).ch (Ch.new n5), by omega, hT.ch (Ch.new n5), ?_⟩
        exact txs_mono (txs_app t2 (txs_mono ta (by decide : 20 ≤ 5000) (Nat.le_refl _))) (Nat.le_refl _) (by omega)
    · rintro σ G ⟨o5, lr, rest, kvs, rfl, V1, hB, hBl, hT, t2⟩
      rw [List.length_map] at V1 hBl t2
      have V1 := V1.mono (m' := m + 14) (by show m + 2 + 3 * ((4 : Nat) : Int) ≤ _; omega)
      have hBl : kvs.length ≤ 8 := hBl
      have t2 : txs 5000 10 (ra :: rb :: rest) = true := t2
      refine ⟨_, rfl, p, 3, _, rfl, V1.pot, by omega, by decide, by decide, fun mt G1 mt0 mt3 hp1 c1 => ⟨_, _, rfl, rfl, ?_⟩⟩
      have V2 := V1.drw hp1 c1
      have hB := fun k hk => (hB k hk).ch c1
      refine ⟨by show 3 ≤ sizeLine; decide, fun lm nlm => ?_⟩
      have V3 := V2.new nlm (.lst [.str "", .str " later", .str ""])
      have hB := fun k hk => (hB k hk).ch (Ch.new (o := .lst [.str "", .str " later", .str ""]) nlm)
      refine ⟨by show 3 ≤ sizeLine; decide, fun l3 n3 => ?_⟩
      have V4 := V3.new n3 (.lst [.str "one", .str "two", .str "tri"])
      have hB := fun k hk => (hB k hk).ch (Ch.new (o := .lst [.str "one", .str "two", .str "tri"]) n3)
      refine ⟨_, rfl, _, rfl, l3, _, rfl, SqL.of (V4.i 0), fun l4 n4 => ?_⟩
      obtain ⟨hs, ecut, hsub, hsl, hs1⟩ := hd_three mt0 mt3
      rw [ecut]
      have V5 := V4.new n4 (.lst (hs.map V.str))
      have hB := fun k hk => (hB k hk).ch (Ch.new (o := .lst (hs.map V.str)) n4)
      generalize L2.upd _ l4 (.lst (hs.map V.str)) = G2 at V5 hB ⊢
      refine ⟨l4, rfl, ⟨_, SqL.of (V5.i 0)⟩, fun D nD => ?_⟩
      refine lc_list (xs := hs.map V.str) (fun j Gj => ∃ acc : List Str, Sx G2 Gj p (m + 15 + (j : Int)) [(D, .lst (acc.map V.str))] ∧ acc.length = j ∧ ∀ x ∈ acc, x ∈ tkHeads) ?_ ?_ ?_ ?_
      · exact ⟨[], ((Sx.start V5.pot).new nD (.lst [])).mono (by omega), rfl, fun x hx => absurd hx List.not_mem_nil⟩
      · rintro j Gj hj ⟨acc, W, ta⟩
        exact SqL.of (W.ch _ _ (V5.np 0) (V5.i 0))
      · rintro j x Gj hxj ⟨acc, W, tal, ta⟩
        obtain ⟨z, rfl, hz⟩ := at_str hxj
        have hj : j < hs.length := by have := (List.getElem?_eq_some_iff.mp hxj).1; rw [List.length_map] at this; exact this
        have hz3 := hsub z hz
        have wz : wok 3 z = true := by
          have : ∀ z ∈ three, wok 3 z = true := by decide +kernel
          exact this z hz3
        have w1 := wok_app (n := 5) (x := "task ") (by decide +kernel) wz
        have w2 := wok_app w1 (m := 1) (y := " ") (by decide +kernel)
        refine ⟨rfl, _, rfl, _, _, rfl, rfl, add_sz (n := 5) (by decide +kernel) wz (by decide), _, _, rfl, rfl, add_sz w1 (m := 1) (by decide +kernel) (by decide), _, rfl, p, 9, _, rfl, W.pot, by omega, by decide, by decide, fun rt G3 rt0 rt9 hp3 c3 => ⟨_, _, rfl, rfl, 1 + rt, rfl, num_log (by omega) (by omega), _, _, rfl, rfl, add_sz w2 (num_wok (by omega) (by omega)) (by decide), ?_⟩⟩
        have W2 := W.drw hp3 c3
        refine ⟨_, W2.i 0, by rw [List.length_map, tal]; exact Nat.lt_of_lt_of_le hj (Nat.le_trans hsl (by decide)), acc ++ ["task " ++ z ++ " " ++ Str.ofString (toString (1 + rt))], (W2.app (x := "task " ++ z ++ " " ++ Str.ofString (toString (1 + rt))) 0).mono (by omega), by rw [List.length_append, tal]; rfl, fun x hx => ?_⟩
        rcases List.mem_append.mp hx with hx | hx
        · exact ta x hx
        · rw [List.mem_singleton.mp hx]
          exact head_mem hz3 rt0 rt9
      · rintro Gj ⟨acc, W, tal, ta⟩
        rw [List.length_map] at W tal
        have V6 := V5.got (o := .lst (acc.map V.str)) (W.pot.mono (m' := m + 18) (by omega)) W.ch nD (W.i 0)
        have hB := fun k hk => (hB k hk).ch W.ch
        -- the tasks' names
        refine ⟨by show 2 ≤ sizeLine; decide, fun q1 nq1 => ?_⟩
        have X1 := V6.new nq1 (.lst [.str "one", .str "tri"])
        refine ⟨_, rfl, rfl, .inr ⟨_, rfl, _, _, rfl, rfl, _, rfl, q1, _, rfl, SqL.of (X1.i 0), fun q2 nq2 => ?_⟩⟩
        obtain ⟨tn1, ec1, sb1, hl1⟩ := cut_str ["one", "tri"] none (some (1 + if decide ((fun i j => V.int (i + j)) 1 mt = V.int 3) = true then 1 else 0))
        rw [show cutV [V.str "one", V.str "tri"] none (some (1 + if decide ((fun i j => V.int (i + j)) 1 mt = V.int 3) = true then 1 else 0)) = tn1.map V.str from ec1]
        have tt1 : txs 5 2 tn1 = true := txs_sub (show txs 5 2 ["one", "tri"] = true by decide +kernel) sb1 hl1
        have X2 := X1.new nq2 (.lst (tn1.map V.str))
        refine ⟨by show 1 ≤ sizeLine; decide, fun q3 nq3 => ?_⟩
        have X3 := X2.new nq3 (.lst [.str "two"])
        refine ⟨_, rfl, _, _, rfl, rfl, _, rfl, q3, _, rfl, SqL.of (X3.i 0), fun q4 nq4 => ?_⟩
        obtain ⟨tn2, ec2, sb2, hl2⟩ := cut_str ["two"] none (some (1 + mt - 1))
        rw [show cutV [V.str "two"] none (some (1 + mt - 1)) = tn2.map V.str from ec2]
        have tt2 : txs 5 2 tn2 = true := txs_sub (show txs 5 1 ["two"] = true by decide +kernel) sb2 (Nat.le_trans hl2 (by decide))
        have X4 := X3.new nq4 (.lst (tn2.map V.str))
        refine ⟨by show 2 ≤ sizeLine; decide, fun tq ntq => ?_⟩
        have X5 := X4.new ntq (.tup [.ref q2, .ref q4])
        refine ⟨tq, _, rfl, SqT.of upd_same, rfl, _, _, rfl, _, rfl, dp, _, rfl, DPut.k (k := .inr "task") (X5.i 9) (Nat.lt_of_le_of_lt hBl (by decide)), ?_⟩
        have hB := fun k hk => ((((((hB k hk).ch (Ch.new nq1)).ch (Ch.new nq2)).ch (Ch.new nq3)).ch (Ch.new nq4)).ch (Ch.new (o := .tup [.ref q2, .ref q4]) ntq))
        have e5 : (L2.upd (L2.upd (L2.upd (L2.upd (L2.upd Gj q1 (.lst [.str "one", .str "tri"])) q2 (.lst (tn1.map V.str))) q3 (.lst [.str "two"])) q4 (.lst (tn2.map V.str))) tq (.tup [.ref q2, .ref q4])) dp = some (.dK kvs) := X5.i 9
        have X6 := X5.upd 9 rfl (.dK (putK kvs (.inr "task") (.ref q2))) [(q4, .lst (tn2.map V.str)), (q2, .lst (tn1.map V.str)), (D, .lst (acc.map V.str)), (lm, .lst [.str "", .str " later", .str ""]), (lr, .lst ((ra :: rb :: rest).map V.str)), (tq, .tup [.ref q2, .ref q4])] (by
          intro q hq
          simp only [List.mem_cons, List.not_mem_nil, or_false] at hq
          rcases hq with rfl | rfl | rfl | rfl | rfl | rfl
          · exact ⟨by simp only [List.mem_cons, true_or, or_true], X5.kind 1 9⟩
          · exact ⟨by simp only [List.mem_cons, true_or, or_true], X5.kind 3 9⟩
          · exact ⟨by simp only [List.mem_cons, true_or, or_true], X5.kind 5 9⟩
          · exact ⟨by simp only [List.mem_cons, true_or, or_true], X5.kind 8 9⟩
          · exact ⟨by simp only [List.mem_cons, true_or, or_true], X5.kind 12 9⟩
          · refine ⟨by simp only [List.mem_cons, true_or, or_true], fun z => ?_⟩
            have z : tq = dp := z
            have e6 := e5
            rw [← z, upd_same] at e6
            cases e6)
        have hB := fun k hk => (hB k hk).upd (o := .dK (putK kvs (.inr "task") (.ref q2))) e5
        have hB1 : ∀ k, k ∈ four ∨ k = "task" → BoxK _ p (putK kvs (.inr "task") (.ref q2)) k := fun k hk => BoxK.put (k := "task") (names := tn1) (hk.imp (hB k) id) (X6.i 2) (X6.np 2) tt1
        have hl6 := putK_len (k := .inr "task") (v := .ref q2) kvs
        generalize putK kvs (.inr "task") (.ref q2) = kv6 at X6 hB1 hl6 ⊢
        clear hB
        generalize L2.upd _ dp (.dK kv6) = G6 at X6 hB1 ⊢
        refine ⟨_, _, rfl, _, rfl, dp, _, rfl, DPut.k (k := .inr "later") (X6.i 0) (Nat.lt_of_le_of_lt hl6 (Nat.lt_of_le_of_lt (show _ ≤ 100 by omega) (by decide))), rfl, ?_⟩
        have e6 : G6 dp = some (.dK kv6) := X6.i 0
        have X7 := X6.upd 0 rfl (.dK (putK kv6 (.inr "later") (.ref q4))) [(q4, .lst (tn2.map V.str)), (D, .lst (acc.map V.str)), (lm, .lst [.str "", .str " later", .str ""]), (lr, .lst ((ra :: rb :: rest).map V.str))] (by
          intro q hq
          simp only [List.mem_cons, List.not_mem_nil, or_false] at hq
          rcases hq with rfl | rfl | rfl | rfl
          · exact ⟨by simp only [List.mem_cons, true_or, or_true], X6.kind 1 0⟩
          · exact ⟨by simp only [List.mem_cons, true_or, or_true], X6.kind 3 0⟩
          · exact ⟨by simp only [List.mem_cons, true_or, or_true], X6.kind 4 0⟩
          · exact ⟨by simp only [List.mem_cons, true_or, or_true], X6.kind 5 0⟩)
        have hB2 : ∀ k, (k ∈ four ∨ k = "task") ∨ k = "later" → BoxK _ p (putK kv6 (.inr "later") (.ref q4)) k := fun k hk => BoxK.put (k := "later") (names := tn2) (hk.imp (fun z => (hB1 k z).upd (o := .dK (putK kv6 (.inr "later") (.ref q4))) e6) id) (X7.i 1) (X7.np 1) tt2
        generalize putK kv6 (.inr "later") (.ref q4) = kv7 at X7 hB2 ⊢
        generalize L2.upd _ dp (.dK kv7) = G7 at X7 hB2 ⊢
        have hbox : BoxAt G7 p dp six := ⟨kv7, X7.i 0, X7.np 0, fun k hk => hB2 k (by
          simp only [six, List.mem_cons, List.not_mem_nil, or_false] at hk
          rcases hk with rfl | rfl | rfl | rfl | rfl | rfl
          · exact .inl (.inl (by decide))
          · exact .inl (.inl (by decide))
          · exact .inl (.inl (by decide))
          · exact .inl (.inl (by decide))
          · exact .inl (.inr rfl)
          · exact .inr rfl)⟩
        have X8 := X7.sub (G := [(D, .lst (acc.map V.str)), (lm, .lst [.str "", .str " later", .str ""]), (lr, .lst ((ra :: rb :: rest).map V.str))]) (by
          intro q hq
          simp only [List.mem_cons, List.not_mem_nil, or_false] at hq
          rcases hq with rfl | rfl | rfl <;> simp only [List.mem_cons, true_or, or_true])
        clear X7 X6 X5 X4 X3 X2 X1 V6 V5 V4 V3 V2 V1
        have hqb : qBk d ≤ 3000000 := by
          have : ∀ k : Fin 4, qBk k ≤ 3000000 := by decide
          exact this ⟨d, by omega⟩
        have hnb : nBk d ≤ 3000 := by
          have : ∀ k : Fin 4, nBk k ≤ 3000 := by decide
          exact this ⟨d, by omega⟩
        refine ⟨_, rfl, D, _, rfl, SqL.of (X8.i 0), ?_⟩
        refine for_enum (xs := acc.map V.str) (fun i σ G => ∃ (o9 o10 : Option V) (lr : Addr) (rest : List Str), σ = [some (.ref p), some (.int d), some (.ref lr), some (.ref dp), some (.ref tp), o5, some (.int (1 + mt)), some (.ref lm), some (.ref D), o9, o10, none] ∧
          Sx H G p (m + 18 + (i * (1 + qBk d) : Nat)) [(lr, .lst ((ra :: rb :: rest).map V.str))] ∧ Ch p G7 G ∧ txs 5000 (10 + i * (1 + nBk d)) (ra :: rb :: rest) = true ∧ (1 ≤ i → ∃ x ∈ rest, x ∈ tkRows)) ?_ ?_ ?_ ?_
        · exact ⟨_, _, lr, rest, rfl, (X8.sub (by intro q hq; rw [List.mem_singleton.mp hq]; simp only [List.mem_cons, true_or, or_true])).mono (by simp), Ch.refl, txs_mono t2 (Nat.le_refl _) (by omega), fun h => absurd h (by omega)⟩
        · rintro i σ G hi ⟨o9, o10, lr, rest, rfl, V1, cG, t2, tk2⟩
          exact SqL.of (cG _ _ (X8.np 0) (X8.i 0))
        · rintro i v σ G T hv ⟨o9, o10, lr, rest, rfl, V1, cG, t2, tk2⟩ nT
          rw [List.getElem?_map] at hv
          obtain ⟨hd0, hxr, rfl⟩ := Option.map_eq_some_iff.mp hv
          have hm0 := ta hd0 (List.mem_of_getElem? hxr)
          have il : i < acc.length := (List.getElem?_eq_some_iff.mp hxr).1
          have i3 : i < 3 := by omega
          have ei1 : (i + 1) * (1 + qBk d) = i * (1 + qBk d) + (1 + qBk d) := by rw [Nat.add_mul, Nat.one_mul]
          have ei2 : (i + 1) * (1 + nBk d) = i * (1 + nBk d) + (1 + nBk d) := by rw [Nat.add_mul, Nat.one_mul]
          have hi1 : i * (1 + qBk d) ≤ 2 * (1 + qBk d) := Nat.mul_le_mul_right _ (by omega)
          have hi2 : i * (1 + nBk d) ≤ 2 * (1 + nBk d) := Nat.mul_le_mul_right _ (by omega)
          rw [ei1, ei2]
          generalize i * (1 + qBk d) = ci at *
          generalize i * (1 + nBk d) = ni at *
          have hrl := txs_len t2
          have V2 := V1.new nT (.tup [.int i, .str hd0])
          have cG2 := cG.trans (Ch.new (o := .tup [.int i, .str hd0]) nT)
          obtain ⟨mk, hmk, hmr⟩ : ∃ mk : Str, atI [V.str "", .str " later", .str ""] (i : Int) = some (.str mk) ∧ hd0 ++ mk ∈ tkRows ∧ wok 6 mk = true := by
            have : i = 0 ∨ i = 1 ∨ i = 2 := by omega
            rcases this with rfl | rfl | rfl
            · exact ⟨"", rfl, (mark_mem hm0).1, by decide +kernel⟩
            · exact ⟨" later", rfl, (mark_mem hm0).2, by decide +kernel⟩
            · exact ⟨"", rfl, (mark_mem hm0).1, by decide +kernel⟩
          refine ⟨T, _, rfl, .inl (.inl upd_same), rfl, _, _, rfl, _, _, rfl, rfl, ?_⟩
          refine ⟨_, rfl, _, rfl, _, rfl, _, rfl, lm, _, _, _, rfl, rfl, SqL.of (cG2 _ _ (X8.np 1) (X8.i 1)), hmk, _, _, rfl, rfl, add_sz (hd_wok hm0) hmr.2 (by decide), ?_⟩
          have wrow := tk_wok hmr.1
          have mrow := hmr.1
          generalize hd0 ++ mk = row at wrow mrow ⊢
          refine ⟨by show 1 ≤ sizeLine; decide, fun l4 n4 => ?_⟩
          have V3 := V2.new n4 (.lst [.str row])
          refine ⟨lr, l4, _, _, rfl, rfl, V3.i 2, V3.i 0, by rw [List.length_map]; exact szl (show _ + 1 ≤ 20000 by omega), fun l5 n5 => ?_⟩
          have V4 := V3.new n5 (.lst ((ra :: rb :: rest).map V.str ++ [.str row]))
          have cG4 := (cG2.trans (Ch.new (o := .lst [.str row]) n4)).trans (Ch.new (o := .lst ((ra :: rb :: rest).map V.str ++ [.str row])) n5)
          refine ⟨_, rfl, _, rfl, _, rfl, p, dp, _, rfl, V4.pot, by omega, hbox.ch cG4, fun l6 ys G6 n6 e6 hys hp6 c6 => ?_⟩
          have V5 := V4.got hp6 c6 n6 e6
          have hyl := txs_len hys
          refine ⟨l5, l6, _, _, rfl, rfl, V5.i 1, V5.i 0, by rw [List.length_append, List.length_map, List.length_map]; exact szl (show (ra :: rb :: rest).length + 1 + ys.length ≤ 20000 by omega), fun l7 n7 => ?_⟩
          have V6 := (V5.new n7 (.lst ((ra :: rb :: rest).map V.str ++ [.str row] ++ ys.map V.str))).lst (ys := (ra :: rb :: (rest ++ [row] ++ ys)).map V.str) (by rw [List.map_cons, List.map_cons, List.map_cons, List.map_cons, List.map_append, List.map_append]; rfl)
          refine ⟨_, _, l7, rest ++ [row] ++ ys, rfl, (V6.sub (by intro q hq; rw [List.mem_singleton.mp hq]; exact List.mem_cons_self ..)).mono (by omega), (cG4.trans c6).trans (Ch.new n7), ?_, fun _ => ⟨row, by simp, mrow⟩⟩
          exact txs_mono (txs_app (txs_app t2 (txs_one (wok_mono wrow (by decide : 20 ≤ 5000)))) hys) (Nat.le_refl _) (by omega)
        · rintro σ G ⟨o9, o10, lr, rest, rfl, V1, cG, t2, tk2⟩
          rw [List.length_map] at V1 t2 tk2
          have h1 : acc.length * (1 + qBk d) ≤ 3 * (1 + qBk d) := Nat.mul_le_mul_right _ (by omega)
          have h2 : acc.length * (1 + nBk d) ≤ 3 * (1 + nBk d) := Nat.mul_le_mul_right _ (by omega)
          have V2 := V1.mono (m' := m + qR d) (by unfold qR; omega)
          exact ⟨_, rfl, q lr ra rb rest G (V2.fr 0) (V2.i 0) ha hb (tk2 (by omega)) (txs_mono t2 (Nat.le_refl _) (by unfold nR; omega)) V2.pot V2.ch⟩
end
end Ws

namespace Ws
open PySem PySem.Spec PyProof.Rows L2
noncomputable def RowsP (rows : List Str) : Prop := ∃ (a b : Str) (rest : List Str), rows = a :: b :: rest ∧ a ∈ coreRows ∧ b ∈ sliceRows ∧ ∃ x ∈ rest, x ∈ tkRows
theorem RowsP.ins {rows : List Str} (h : RowsP rows) {n : Nat} (hn : 2 ≤ n) (r : List Str) : RowsP (rows.take n ++ r ++ rows.drop n) := by
  obtain ⟨a, b, rest, rfl, ha, hb, x, hx, hk⟩ := h
  obtain ⟨j, rfl⟩ : ∃ j, n = j + 2 := ⟨n - 2, by omega⟩
  refine ⟨a, b, rest.take j ++ r ++ rest.drop j, rfl, ha, hb, x, ?_, hk⟩
  rw [← List.take_append_drop j rest] at hx
  rcases List.mem_append.mp hx with hx | hx
  · exact List.mem_append_left _ (List.mem_append_left _ hx)
  · exact List.mem_append_right _ hx
/-- the first word is "task" -/
noncomputable def isTk (x : Str) : Bool := decide ((Txt.split x " ")[0]? = some ("task" : Str))
theorem isTk_tk {x : Str} (h : x ∈ tkRows) : isTk x = true := by
  have : ∀ z ∈ tkRows, isTk z = true := by decide +kernel
  exact this x h
theorem isTk_no {x : Str} (h : x ∈ coreRows ∨ x ∈ sliceRows) : isTk x = false := by
  have h1 : ∀ z ∈ coreRows, isTk z = false := by decide +kernel
  have h2 : ∀ z ∈ sliceRows, isTk z = false := by decide +kernel
  exact h.elim (h1 x) (h2 x)
end Ws

namespace Mi
open PySem
/-! ### the names that a text declares, told by the first words of its lines -/
noncomputable def namesL (k : Str) : List (List Str) → List Str
  | [] => []
  | [] :: wss => namesL k wss
  | (a :: r) :: wss => if a = k then r.getD 0 "" :: namesL k wss else namesL k wss
/-- the kinds of forms that this first word declares -/
theorem grp_cons (f : Fm) (fs : List Fm) (g : G) : (grp (f :: fs) g) = if f.kind.group = some g then f :: grp fs g else grp fs g := by
  unfold grp
  rw [List.filter_cons]
  by_cases h : f.kind.group = some g
  · simp [h]
  · simp [h]
theorem kind_word {n : Nat} {t : Bool} {a : Str} {r : List Str} {k : K} {f : Fm} (hc : cls (a :: r) = some k) (hm : Match (pl n t) k f) (hn : n < 2 → t = false) :
    (f.kind.group = some .part ↔ a = "part") ∧ (f.kind.group = some .task ↔ a = "task") ∧ (f.kind.declares = true → f.nm = r.getD 0 "") := by
  obtain ⟨e1, e2, e3⟩ := decl_some hc hm.kind hn
  have hp : (a = "part") ↔ kw a = .part := (kw_iff (k := .part) (by decide)).symm
  have ht : (a = "task") ↔ kw a = .task := (kw_iff (k := .task) (by decide)).symm
  refine ⟨?_, ?_, fun hq => ?_⟩
  · rw [hp]
    unfold declL at e1
    constructor
    · intro hg
      have hd : f.kind.d = some .part := by
        revert hg
        cases f.kind <;> decide
      rw [hd] at e1
      split at e1
      · revert e1
        cases kw a <;> simp [dOf] <;> (try split) <;> simp
      · cases e1
    · intro hk
      rw [hk] at e1
      simp [dOf] at e1
      revert e1
      cases f.kind <;> decide
  · rw [ht]
    unfold declL at e1
    constructor
    · intro hg
      have hd : f.kind.d = some .task ∨ f.kind.d = some .later := by
        revert hg
        cases f.kind <;> decide
      split at e1
      · rcases hd with hd | hd <;> rw [hd] at e1 <;> revert e1 <;> cases kw a <;> simp [dOf]
      · rcases hd with hd | hd <;> rw [hd] at e1 <;> cases e1
    · intro hk
      rw [hk] at e1
      have hd : f.kind.d = some .task ∨ f.kind.d = some .later := by
        rw [if_pos (by simp)] at e1
        unfold dOf at e1
        dsimp only at e1
        split at e1
        · exact .inr e1.symm
        · exact .inl e1.symm
      rcases hd with hd | hd <;> revert hd <;> cases f.kind <;> decide
  · obtain ⟨x, x1, x2⟩ := hm.name hq
    have := e3 hq
    rw [x1] at this
    have nm : f.nm = x := by unfold Fm.nm; rw [x2]
    rw [nm, Option.some.inj this]
theorem names_same : ∀ {n : Nat} {t : Bool} {fs : List Fm} {wss : List (List Str)}, Rel n t fs wss → (n < 2 → t = false) → (grp fs .part).map Fm.nm = namesL "part" wss ∧ (grp fs .task).map Fm.nm = namesL "task" wss := by
  intro n t fs wss h
  induction h with
  | nil => intro _; exact ⟨rfl, rfl⟩
  | cons h1 h2 _ ih =>
    intro hn
    rename_i n t f fs a r wss k _
    obtain ⟨p1, p2, p3⟩ := kind_word h1 h2 hn
    obtain ⟨i1, i2⟩ := ih (first_next h2.kind hn)
    rw [grp_cons, grp_cons]
    unfold namesL
    have dec : ∀ g, (g = G.part ∨ g = G.task) → f.kind.group = some g → f.kind.declares = true := by
      intro g hg
      rcases hg with rfl | rfl <;> cases f.kind <;> decide
    constructor
    · by_cases hg : f.kind.group = some .part
      · rw [if_pos hg, if_pos (p1.mp hg), List.map_cons, i1, p3 (dec _ (.inl rfl) hg)]
      · rw [if_neg hg, if_neg (fun z => hg (p1.mpr z)), i1]
    · by_cases hg : f.kind.group = some .task
      · rw [if_pos hg, if_pos (p2.mp hg), List.map_cons, i2, p3 (dec _ (.inr rfl) hg)]
      · rw [if_neg hg, if_neg (fun z => hg (p2.mpr z)), i2]
/-- a line that declares has a second word -/
theorem names_two {wss : List (List Str)} {fs : List Fm} (hn : ∀ ws ∈ wss, ws ≠ []) (h : readAll [] [] wss = .ok fs) : (grp fs .part).map Fm.nm = namesL "part" wss ∧ (grp fs .task).map Fm.nm = namesL "task" wss := by
  rcases read_sim wss [] [] _ hn inv0 with ⟨n, e1, e2⟩ | ⟨gs, e1, e2, e3⟩
  · rw [h] at e1; cases e1
  · rw [h] at e1
    cases e1
    have e3' : Rel 0 false gs wss := e3
    exact names_same e3' (fun _ => rfl)
theorem rel_two : ∀ {n : Nat} {t : Bool} {fs : List Fm} {wss : List (List Str)}, Rel n t fs wss → ∀ ws ∈ wss, ∀ a r, ws = a :: r → (a = "part" ∨ a = "task") → r ≠ [] := by
  intro n t fs wss h
  induction h with
  | nil => intro ws hw; cases hw
  | cons h1 _ _ ih =>
    rename_i n t f fs a0 r0 wss k h2 h3
    intro ws hw a r e ha
    rcases List.mem_cons.mp hw with hw | hw
    · rw [e] at hw
      obtain ⟨e1, e2⟩ := List.cons.inj hw
      rw [← e1, ← e2] at h1
      intro e3
      rw [e3] at h1
      have h2 : clsK (kw a) a [] = some k := h1
      rcases ha with rfl | rfl
      · rw [show kw "part" = .part from by decide +kernel] at h2
        cases h2
      · rw [show kw "task" = .task from by decide +kernel] at h2
        cases h2
    · exact ih ws hw a r e ha
theorem two_words {wss : List (List Str)} {fs : List Fm} (hn : ∀ ws ∈ wss, ws ≠ []) (h : readAll [] [] wss = .ok fs) : ∀ ws ∈ wss, ∀ a r, ws = a :: r → (a = "part" ∨ a = "task") → r ≠ [] := by
  rcases read_sim wss [] [] _ hn inv0 with ⟨n, e1, e2⟩ | ⟨gs, e1, e2, e3⟩
  · rw [h] at e1; cases e1
  · rw [h] at e1
    cases e1
    exact rel_two (show Rel 0 false gs wss from e3)
/-! ### another slice -/
theorem kw_slice : kw "slice" = .slice := by decide +kernel
theorem slice_line {g : Str → Option D} {a : Str} (na : a ≠ "=") : lineL g ["slice", a] = true := by
  have h1 : wantsL g "slice" [a] = true := by
    unfold wantsL
    rw [kw_slice]
    rfl
  have h2 : variablesL "slice" [a] = [] := by
    unfold variablesL
    rw [kw_slice]
    simp [na]
  show (wantsL g "slice" [a] && _) = true
  rw [h1, h2, kw_slice]
  rfl
theorem slice_same {w0 : List Str} {a b : Str} (rest : List (List Str)) (ha : kindOf ["slice", a] = .k .slice) (hb : kindOf ["slice", b] = .k .slice) (na : a ≠ "=") (nb : b ≠ "=") :
    dueL (w0 :: ["slice", a] :: rest) = dueL (w0 :: ["slice", b] :: rest) := by
  have e1 : ∀ s, lawBad 0 s (w0 :: ["slice", a] :: rest) = lawBad 0 s (w0 :: ["slice", b] :: rest) := by
    intro s
    have : ∀ n s, lawBad n s (["slice", a] :: rest) = lawBad n s (["slice", b] :: rest) := by
      intro n s
      unfold lawBad
      rw [ha, hb]
      rfl
    show (if _ then _ else if _ then _ else lawBad 1 _ _) = (if _ then _ else if _ then _ else lawBad 1 _ _)
    rw [this]
  have e2 : ∀ n t, declaredL n t (["slice", a] :: rest) = declaredL n t (["slice", b] :: rest) := by
    intro n t
    have hd : ∀ x, declL t "slice" [x] = none := by
      intro x
      unfold declL
      rw [kw_slice]
      simp
    have h : ∀ x, declaredL n t (["slice", x] :: rest) = declaredL (n + 1) (t || decide (kw "slice" = .task)) rest := by
      intro x
      rw [declaredL, hd]
    rw [h, h]
  have e3 : declaredL 0 false (w0 :: ["slice", a] :: rest) = declaredL 0 false (w0 :: ["slice", b] :: rest) := by
    cases w0 with
    | nil => exact e2 1 false
    | cons x r =>
      show (match declL false x r with | some d => _ :: declaredL 1 _ _ | none => declaredL 1 _ _) = (match declL false x r with | some d => _ :: declaredL 1 _ _ | none => declaredL 1 _ _)
      rw [e2]
  have e4 : ∀ g first n, unnamedL g first n (["slice", a] :: rest) = unnamedL g first n (["slice", b] :: rest) := by
    intro g first n
    show (if (decide (first < n) && (!decide (kw "slice" = .task) && !lineL g ["slice", a])) = true then _ else _) = (if (decide (first < n) && (!decide (kw "slice" = .task) && !lineL g ["slice", b])) = true then _ else _)
    rw [slice_line na, slice_line nb]
  have e5 : ∀ g first, unnamedL g first 0 (w0 :: ["slice", a] :: rest) = unnamedL g first 0 (w0 :: ["slice", b] :: rest) := by
    intro g first
    show (if _ then _ else unnamedL g first 1 _) = (if _ then _ else unnamedL g first 1 _)
    rw [e4]
  unfold dueL
  rw [e1, e3]
  simp only [e5, List.length_cons]
end Mi

namespace Ws
open PySem PySem.Spec PyProof.Rows L2
/-! ### repr of long data without integers -/
noncomputable def rRepB8 : List V → Hp → VK → Prop := fun xs H Q => ∃ (a p : Addr) (d : PyData), xs = [V.ref a] ∧ Da p H (.ref a) d ∧ d.showable = true ∧ d.leavesShort 8 = true ∧ d.bulk ≤ 1600000 ∧ d.depth ≤ 60 ∧ Q (.str d.shown) H
theorem call_repB8 {X : Cx} {j : Nat} (cl : X.A.guards = some []) (hr : Room j X.A) : CallR X (.builtin "repr") rRepB8 := by
  intro pins s σ H xs us Q I r h
  obtain ⟨a, p, d, rfl, da, sh, sl, bk, de, q⟩ := h
  obtain ⟨u, rfl, ru⟩ := vals1 r
  cases (show u = Value.ref a from ru)
  obtain ⟨as, rd, ns⟩ := Da.reads I da _ rfl
  have sz := PyData.shown_le_bulk 8 (by decide) d sl
  have sz2 : d.shown.length ≤ sizeLine := by
    have : sizeLine = 16777216 := by decide
    omega
  refine repr_of_reads' rd sh (fun _ => ns) cl ?_ (fun _ _ e => e) (fun h' u tk hk => ⟨.str d.shown, H, I.kept hk, ⟨u, rfl⟩, q⟩) sz2
  have := hr.un
  omega
end Ws

namespace Ws
open PySem PySem.Spec PyProof.Rows L2
/-! ### a text that was read has 80 lines or fewer; texts as data -/
theorem read80 : ∀ (wss : List (List Str)) (fs gs : List Mi.Fm) (bs : List Mi.Bk), Mi.readAll fs bs wss = .ok gs → fs.length ≤ 80 → gs.length ≤ 80 ∧ gs.length = fs.length + wss.length
  | [], fs, gs, bs, h, hl => by
    unfold Mi.readAll at h
    split at h
    · cases h
    · split at h <;> cases h
      exact ⟨hl, rfl⟩
  | ws :: wss, fs, gs, bs, h, hl => by
    unfold Mi.readAll at h
    cases ha : Mi.addLine fs bs ws with
    | error k => rw [ha] at h; cases h
    | ok q =>
      obtain ⟨f, bs'⟩ := q
      rw [ha] at h
      have hlt : fs.length < 80 := by
        unfold Mi.addLine at ha
        split at ha
        · cases ha
        · split at ha
          · cases ha
          · split at ha
            · cases ha
            · rename_i hn
              exact Nat.lt_of_not_le fun z => hn (.inl z)
      have := read80 wss (fs ++ [f]) gs bs' h (by rw [List.length_append]; exact hlt)
      rw [List.length_append, List.length_cons, List.length_nil] at this
      rw [List.length_cons]
      omega
theorem okStr {x : Str} (h : PyData.strOk x = true) : (PyData.str x).leavesShort 8 = true := by
  show x.cps.toList.all (fun c => decide (c < 16 ^ 8)) = true
  unfold PyData.strOk at h
  rw [List.all_eq_true]
  rw [Array.all_eq_true_iff_forall_mem] at h
  intro c hc
  have := h c (Array.mem_toList_iff.mp hc)
  simp only [decide_eq_true_eq] at this ⊢
  exact Nat.lt_of_lt_of_le this (by decide)
theorem rows_data {k : Nat} : ∀ {rows : List Str}, (∀ x ∈ rows, PyData.strOk x = true ∧ x.length ≤ k) → PyData.showableAll (rows.map .str) = true ∧ PyData.leavesShortAll 8 (rows.map .str) = true ∧ PyData.bulkAll (rows.map .str) ≤ rows.length * (k + 1) ∧ PyData.depthAll (rows.map .str) = 0
  | [], _ => ⟨rfl, rfl, Nat.zero_le _, rfl⟩
  | x :: r, h => by
    obtain ⟨h1, h2, h3, h4⟩ := rows_data (rows := r) fun z hz => h z (List.mem_cons_of_mem _ hz)
    obtain ⟨g1, g2⟩ := h x (List.mem_cons_self ..)
    have g3 := okStr g1
    refine ⟨?_, ?_, ?_, ?_⟩
    · show (true && PyData.showableAll (r.map .str)) = true
      rw [h1]; rfl
    · show ((PyData.str x).leavesShort 8 && PyData.leavesShortAll 8 (r.map .str)) = true
      rw [h2, g3]; rfl
    · show (PyData.str x).bulk + 1 + PyData.bulkAll (r.map .str) ≤ (r.length + 1) * (k + 1)
      have : (PyData.str x).bulk = x.length := by simp only [PyData.bulk]; rfl
      rw [Nat.add_mul, this]
      omega
    · show max 0 (PyData.depthAll (r.map .str)) = 0
      rw [h4]; rfl
/-- a text and its lines -/
theorem told_data {k n : Nat} {tx : Str} {rows : List Str} (ht : PyData.strOk tx = true) (hl : tx.length ≤ n) (hr : ∀ x ∈ rows, PyData.strOk x = true ∧ x.length ≤ k) (hb : n + rows.length * (k + 1) + 2 ≤ 1600000) :
    (PyData.tuple [.str tx, .tuple (rows.map .str)]).showable = true ∧ (PyData.tuple [.str tx, .tuple (rows.map .str)]).leavesShort 8 = true ∧ (PyData.tuple [.str tx, .tuple (rows.map .str)]).bulk ≤ 1600000 ∧ (PyData.tuple [.str tx, .tuple (rows.map .str)]).depth ≤ 60 := by
  obtain ⟨h1, h2, h3, h4⟩ := rows_data hr
  refine ⟨?_, ?_, ?_, ?_⟩
  · simp only [PyData.showable, PyData.showableAll, h1, Bool.and_self]
  · have := okStr ht
    simp only [PyData.leavesShort, PyData.leavesShortAll] at this ⊢
    rw [this, h2]; rfl
  · have : tx.cps.size = tx.length := rfl
    simp only [PyData.bulk, PyData.bulkAll]
    omega
  · simp only [PyData.depth, PyData.depthAll, h4]
    decide
/-- two rows of texts -/
theorem pair_data {k : Nat} {as bs : List Str} (ha : ∀ x ∈ as, PyData.strOk x = true ∧ x.length ≤ k) (hb : ∀ x ∈ bs, PyData.strOk x = true ∧ x.length ≤ k) (h : as.length * (k + 1) + bs.length * (k + 1) + 2 ≤ 1600000) :
    (PyData.tuple [.tuple (as.map .str), .tuple (bs.map .str)]).showable = true ∧ (PyData.tuple [.tuple (as.map .str), .tuple (bs.map .str)]).leavesShort 8 = true ∧ (PyData.tuple [.tuple (as.map .str), .tuple (bs.map .str)]).bulk ≤ 1600000 ∧ (PyData.tuple [.tuple (as.map .str), .tuple (bs.map .str)]).depth ≤ 60 := by
  obtain ⟨h1, h2, h3, h4⟩ := rows_data ha
  obtain ⟨g1, g2, g3, g4⟩ := rows_data hb
  refine ⟨?_, ?_, ?_, ?_⟩
  · simp only [PyData.showable, PyData.showableAll, h1, g1, Bool.and_self]
  · simp only [PyData.leavesShort, PyData.leavesShortAll, h2, g2, Bool.and_self]
  · simp only [PyData.bulk, PyData.bulkAll]
    omega
  · simp only [PyData.depth, PyData.depthAll, h4, g4]
    decide
theorem da_strs {p : Addr} {H : Hp} : ∀ {xs : List Str}, DaAll p H (xs.map V.str) (xs.map .str)
  | [] => .nil
  | x :: r => .cons (.str x) da_strs
theorem val_two {u v : V} (z : Str) : valV [((.inr "part" : Key), u), (.inr "task", v)] (.inr z) = if z = "part" then some u else if z = "task" then some v else none := by
  by_cases h1 : z = "part"
  · subst h1
    rfl
  · by_cases h2 : z = "task"
    · subst h2
      rfl
    · rw [if_neg h1, if_neg h2]
      simp [valV, h1, h2, Ne.symm h1, Ne.symm h2]
/-! names of one more line -/
theorem names_snoc (k : Str) : ∀ (wss : List (List Str)) (ws : List Str), Mi.namesL k (wss ++ [ws]) = Mi.namesL k wss ++ Mi.namesL k [ws]
  | [], ws => rfl
  | [] :: wss, ws => names_snoc k wss ws
  | (a :: r) :: wss, ws => by
    show (if a = k then _ else _) = (if a = k then _ else _) ++ _
    split
    · show _ :: Mi.namesL k (wss ++ [ws]) = _ :: (_ ++ _)
      rw [names_snoc k wss ws]
    · exact names_snoc k wss ws
theorem names_mem {k : Str} : ∀ {wss : List (List Str)} {x : Str}, x ∈ Mi.namesL k wss → ∃ a r, (a :: r) ∈ wss ∧ x = r.getD 0 ""
  | [], x, h => by cases h
  | [] :: wss, x, h => let ⟨a, r, h1, h2⟩ := names_mem (wss := wss) h; ⟨a, r, List.mem_cons_of_mem _ h1, h2⟩
  | (a :: r) :: wss, x, h => by
    have h' : x ∈ (if a = k then r.getD 0 "" :: Mi.namesL k wss else Mi.namesL k wss) := h
    split at h'
    · rcases List.mem_cons.mp h' with e | h'
      · exact ⟨a, r, List.mem_cons_self .., e⟩
      · obtain ⟨b, s, h1, h2⟩ := names_mem h'
        exact ⟨b, s, List.mem_cons_of_mem _ h1, h2⟩
    · obtain ⟨b, s, h1, h2⟩ := names_mem h'
      exact ⟨b, s, List.mem_cons_of_mem _ h1, h2⟩
theorem names_len {k : Str} : ∀ (wss : List (List Str)), (Mi.namesL k wss).length ≤ wss.length
  | [] => Nat.le_refl _
  | [] :: wss => Nat.le_succ_of_le (names_len wss)
  | (a :: r) :: wss => by
    show (if a = k then _ else _ : List Str).length ≤ wss.length + 1
    have := names_len (k := k) wss
    split
    · rw [List.length_cons]; omega
    · omega
end Ws

namespace Ws
open PySem PySem.Spec PyProof.Rows L2
noncomputable abbrev sDMad : Stmt := (PySem.Challenge.pw_whatspeed_k17_what_a_program_tells.main.body.getD 68 (.Pass ⟨0, 0, 0, 0⟩))
noncomputable abbrev NDMad : List Str := ["text", "found"]
noncomputable abbrev PDMad : List Str := ["text"]
theorem scDMad : FnScope NDMad PDMad (defScope sDMad) := ⟨rfl, rfl, rfl, by decide +kernel, rfl, by decide +kernel, by decide +kernel⟩
noncomputable abbrev sRight : Stmt := (PySem.Challenge.pw_whatspeed_k17_what_a_program_tells.main.body.getD 69 (.Pass ⟨0, 0, 0, 0⟩))
noncomputable abbrev NRight : List Str := ["pot", "rows", "at", "program", "names", "line", "words", "other", "thing"]
noncomputable abbrev PRight : List Str := ["pot"]
theorem scRight : FnScope NRight PRight (defScope sRight) := ⟨rfl, rfl, rfl, by decide +kernel, rfl, by decide +kernel, by decide +kernel⟩
/-- a promise that lets nothing out, where nothing may be let out -/
theorem fnR_calm {P : Program} {w : World} {K : PySem.W.Frag} {mg : Str → Option Value} {base : Heap} {k : Nat} {f : Addr} {sp sp' : Sp} (F : FnR P w K mg base (L2.CX P w) k f sp) (h : ∀ vs H Q E, sp' vs H Q E → sp vs H Q (fun _ _ _ => False)) : FnR P w K mg base CX0 k f sp' :=
  fun A outer s H us vs Q E hr e0 r q => codeAny_mono (F A outer s H us vs Q (fun _ _ _ => False) hr e0 r (h _ _ _ _ q)) fun out s' z => by
    cases out with
    | ok o => cases o <;> exact z
    | error e =>
      obtain ⟨_, _, _, _, _, _, _, _, _, _, _, _, no⟩ := (show L2.CX P w outer H s (fun _ _ _ => False) e s' from z)
      exact no.elim
noncomputable def fms (tx : Str) (fs : List Mi.Fm) : Prop := Mi.readAll [] [] ((Txt.split tx "\n").map wdsL) = .ok fs
noncomputable def spGInitA (K : PySem.W.Frag) (CG Cb Cd Cu : Addr) : Sp := fun vs H Q E => ∃ (x dx : Addr) (tx : Str), vs = [.ref x, .str tx] ∧ H x = some (.ins CG dx []) ∧ tx.length + 2 ≤ sizeLine ∧
  (∀ n, dueOf tx = .bad n → RaisesL Cb H (n : Nat) E) ∧ (∀ n, dueOf tx = .doubled n → RaisesL Cd H (n : Nat) E) ∧ (∀ n, dueOf tx = .unnamed n → RaisesL Cu H (n : Nat) E) ∧
  (dueOf tx = .fine → ∀ fs, fms tx fs → ∀ H', PrgAt CG H' x tx ((Mi.grp fs .part).map Mi.Fm.nm) ((Mi.grp fs .task).map Mi.Fm.nm) → Ch x H H' → Q .non H')
theorem ginit_split {K : PySem.W.Frag} {CG Cb Cd Cu : Addr} {vs : List V} {H : Hp} {Q : VK} {E : XK} (h : spGInitA K CG Cb Cd Cu vs H Q E) : spGInit K CG Cb Cd Cu vs H Q E ∨ spGInitF K CG vs H Q E := by
  obtain ⟨x, dx, tx, rfl, hx, hz, k1, k2, k3, k4⟩ := h
  by_cases e : dueOf tx = .fine
  · exact .inr ⟨x, dx, tx, rfl, hx, hz, e, k4 e⟩
  · exact .inl ⟨x, dx, tx, rfl, hx, hz, k1, k2, k3, fun z => absurd z e⟩
noncomputable def spMad (CG : Addr) : Sp := fun vs H Q _ => ∃ tx : Str, vs = [.str tx] ∧ tx.length + 2 ≤ sizeLine ∧ (dueOf tx ≠ .fine → ∀ H', Same H H' → Q .non H') ∧
  (dueOf tx = .fine → ∀ x fs H', fms tx fs → PrgAt CG H' x tx ((Mi.grp fs .part).map Mi.Fm.nm) ((Mi.grp fs .task).map Mi.Fm.nm) → Same H H' → Q (.ref x) H')
theorem new_same {H H1 : Hp} {x dx CG : Addr} (nx : H x = none) (nd : H dx = none) (c : Ch x (upd (upd H dx (.own x)) x (.ins CG dx [])) H1) : Same H H1 := fun b o e => c _ _ (ne_of_none e nx) ((upd_ne (ne_of_none e nx)).trans ((upd_ne (ne_of_none e nd)).trans e))
section
variable {P : Program} {w : World} {K : PySem.W.Frag} {mg : Str → Option Value} {base : Heap} {f : Addr} {fd : FuncData}
theorem ok_mad {CG Ce Cb Cd Cu : Addr} (F : L2.Fun K "_law_made" "_law_made" sDMad f fd) (b : Binds K fd PDMad []) (B : Bi mg) (gE : mg "SpeedError" = some (.ref Ce)) (x1 : PySem.W.exmOne K (.ref Cb) (.ref Ce) = some true) (x2 : PySem.W.exmOne K (.ref Cd) (.ref Ce) = some true) (x3 : PySem.W.exmOne K (.ref Cu) (.ref Ce) = some true) (mG : MakE P w K mg base (L2.CX P w) 173 "Program" CG (spGInitA K CG Cb Cd Cu)) : FnR P w K mg base CX0 175 f (spMad CG) := by
  refine fnR_of F b scDMad (fun vs H Q E h => ?_) (fun cdv A outer s H vs Q E hr h => ?_)
  · obtain ⟨_, rfl, _⟩ := h
    rfl
  · have sc := scDMad
    obtain ⟨tx, rfl, hz, kn, kf⟩ := h
    refine ⟨_, (pss_cons (ps_set (i := 1) sc.nd rfl (Or.inl rfl) pe_non) (pss_cons (ps_try_only rfl rfl ⟨rfl, by decide, .inl gE⟩ LamX.takes0 (fun W pn xe tk _ => by exact (pss_one (ps_set (i := 1) sc.nd rfl (Or.inl rfl) (pe_mkS mG hr (by omega) (fun σ => passAt tk σ) rfl (pa_cons (pv 0) pa_nil))))) (fun a oe cls d pn hz hf => by exact (pss_one (ps_set (i := 1) sc.nd rfl (Or.inl rfl) pe_non)))) (pss_one (ps_ret (pv 1))))), ?_⟩
    refine ⟨_, rfl, fun x dx nx nd ne => ?_⟩
    have j0 : Same H (upd (upd H dx (.own x)) x (.ins CG dx [])) := fun b o e => (upd_ne (ne_of_none e nx)).trans ((upd_ne (ne_of_none e nd)).trans e)
    refine ⟨x, dx, tx, rfl, upd_same, hz, fun n hn d G1 ed s1 => ⟨true, x1, fun _ a na => ⟨_, rfl, kn (by rw [hn]; simp) _ (j0.trans s1)⟩, fun z => by cases z⟩, fun n hn d G1 ed s1 => ⟨true, x2, fun _ a na => ⟨_, rfl, kn (by rw [hn]; simp) _ (j0.trans s1)⟩, fun z => by cases z⟩, fun n hn d G1 ed s1 => ⟨true, x3, fun _ a na => ⟨_, rfl, kn (by rw [hn]; simp) _ (j0.trans s1)⟩, fun z => by cases z⟩, fun hn fs hfs H1 P1 c1 => ⟨rfl, ?_⟩⟩
    exact ⟨_, rfl, kf hn x fs H1 hfs P1 (new_same nx nd c1)⟩
theorem text17 {k n : Nat} {rows : List Str} (h : txs k n rows = true) (hne : rows ≠ []) (hk : n * (k + 1) ≤ 16000000) :
    Txt.split (Txt.join "\n" rows) "\n" = rows ∧ (Txt.join "\n" rows).length ≤ rows.length * (k + 1) ∧ PyData.strOk (Txt.join "\n" rows) = true ∧ (rows.map (·.length)).sum + rows.length * ("\n" : Str).length ≤ 16777216 ∧ (∀ x ∈ rows, PyData.strOk x = true ∧ x.length ≤ k) := by
  have hl := txs_len h
  have ok : ∀ z ∈ rows, PyData.strOk z = true ∧ z.length ≤ k ∧ 10 ∉ TL.tl z := fun z hz => by
    have h2 := txs_mem h hz
    unfold wok at h2
    simp only [Bool.and_eq_true, decide_eq_true_iff, Bool.not_eq_true'] at h2
    refine ⟨h2.1.1, h2.1.2, fun hc => ?_⟩
    rw [List.contains_iff_mem.mpr hc] at h2
    cases h2.2
  have h2 : ("\n" : Str).length = 1 := rfl
  have hs := sum_le (l := rows) (k := k) fun z hz => (ok z hz).2.1
  have hmul : rows.length * (k + 1) ≤ n * (k + 1) := Nat.mul_le_mul_right (k + 1) hl
  rw [Nat.mul_add, Nat.mul_one] at hmul
  have etx : Txt.join "\n" rows = Str.join "\n" rows := TL.join_eq _ _
  refine ⟨TL.split_join (s := 10) (S := []) (by decide +kernel) (by decide +kernel) hne fun z hz => (ok z hz).2.2, ?_, ?_, ?_, fun x hx => ⟨(ok x hx).1, (ok x hx).2.1⟩⟩
  · rw [etx, Nat.mul_add, Nat.mul_one]
    have h0 := join_len (y := "\n") rows
    rw [h2] at h0
    omega
  · rw [etx]
    exact join_ok (by decide +kernel) rows fun z hz => (ok z hz).1
  · rw [h2]
    omega
theorem slice17 {b : Str} (hb : b ∈ (["slice 0", "slice 4", "slice 20", "slice 7"] : List Str)) : ∃ n : Str, wdsL b = (["slice", n] : List Str) ∧ Mi.kindOf ["slice", n] = .k .slice ∧ n ≠ "=" := by
  have h : ∀ z ∈ (["slice 0", "slice 4", "slice 20", "slice 7"] : List Str), wdsL z = (["slice", (wdsL z).getD 1 ""] : List Str) ∧ Mi.kindOf ["slice", (wdsL z).getD 1 ""] = .k .slice ∧ (wdsL z).getD 1 "" ≠ "=" := by decide +kernel
  exact ⟨_, h b hb⟩
theorem wds_ne {rows : List Str} : ∀ ws ∈ rows.map wdsL, ws ≠ [] := fun ws hw => by
  obtain ⟨z, _, rfl⟩ := List.mem_map.mp hw
  exact split_ne z " "
theorem due17 {a b b' : Str} {rest : List Str} (hb : b ∈ (["slice 0", "slice 4", "slice 20", "slice 7"] : List Str)) (hb' : b' ∈ (["slice 0", "slice 4", "slice 20", "slice 7"] : List Str)) : Mi.dueP ((a :: b :: rest).map wdsL) = Mi.dueP ((a :: b' :: rest).map wdsL) := by
  obtain ⟨n, e1, e2, e3⟩ := slice17 hb
  obtain ⟨n', f1, f2, f3⟩ := slice17 hb'
  rw [Mi.due_same _ wds_ne, Mi.due_same _ wds_ne]
  simp only [List.map_cons, e1, f1]
  exact Mi.slice_same _ e2 f2 e3 f3
theorem fine17 {tx : Str} (h : dueOf tx = .fine) : ∃ fs, fms tx fs := by
  unfold dueOf Mi.dueP at h
  unfold fms
  cases e : Mi.readAll [] [] ((Txt.split tx "\n").map wdsL) with
  | error n => rw [e] at h; cases h
  | ok fs => exact ⟨fs, rfl⟩
theorem names_ok {k : Str} {rows : List Str} (h : ∀ x ∈ rows, PyData.strOk x = true ∧ x.length ≤ 5000) : ∀ z ∈ Mi.namesL k (rows.map wdsL), PyData.strOk z = true ∧ z.length ≤ 5000 := by
  intro z hz
  obtain ⟨a, r, h1, rfl⟩ := names_mem hz
  obtain ⟨y, hy, e⟩ := List.mem_map.mp h1
  obtain ⟨g1, g2⟩ := h y hy
  cases r with
  | nil => exact ⟨by decide +kernel, by decide +kernel⟩
  | cons w r =>
    have hm : w ∈ Txt.split y " " := by
      have e' : Txt.split y " " = a :: w :: r := e
      rw [e']
      exact List.mem_cons_of_mem _ (List.mem_cons_self ..)
    exact ⟨split_ok " " g1 w hm, Nat.le_trans (split_len y " " w hm) g2⟩
theorem notFirst17 {K : PySem.W.Frag} {t : Value} {D : Addr} (h : PySem.W.subIn K t (.ref D) = some false) : PySem.W.notFirst K D t = true := by
  unfold PySem.W.notFirst
  rw [h]
  simp
structure NoG (K : PySem.W.Frag) (CG : Addr) (t : String) : Prop where
  kit : PySem.W.kitOne K (.type t) (.ref CG) = some false
  nf : PySem.W.notFirst K CG (.type t) = true
theorem four_mem {v : V} (h : v ∈ [V.int 0, V.int 4, V.int 20, V.int 7]) : ∃ i, v = .int i ∧ 0 ≤ i ∧ i ≤ 999 ∧ "slice " ++ Str.ofString (toString i) ∈ (["slice 0", "slice 4", "slice 20", "slice 7"] : List Str) := by
  simp only [List.mem_cons, List.not_mem_nil, or_false] at h
  rcases h with rfl | rfl | rfl | rfl <;> exact ⟨_, rfl, by decide, by decide, by decide +kernel⟩
theorem four_ok {b : Str} (h : b ∈ (["slice 0", "slice 4", "slice 20", "slice 7"] : List Str)) : wok 5000 b = true := by
  have : ∀ z ∈ (["slice 0", "slice 4", "slice 20", "slice 7"] : List Str), wok 5000 z = true := by decide +kernel
  exact this b h
theorem txs_snd {a b b' : Str} {rest : List Str} {n : Nat} (h : txs 5000 n (a :: b :: rest) = true) (hb : wok 5000 b' = true) : txs 5000 n (a :: b' :: rest) = true := by
  rw [txs_iff] at h ⊢
  refine ⟨h.1, fun x hx => ?_⟩
  rcases List.mem_cons.mp hx with rfl | hx
  · exact h.2 _ (List.mem_cons_self ..)
  · rcases List.mem_cons.mp hx with rfl | hx
    · exact hb
    · exact h.2 _ (List.mem_cons_of_mem _ (List.mem_cons_of_mem _ hx))
/-- what stands in the law's turn: the lines, the program that was made of them -/
structure St17 (CG : Addr) (H0 G : Hp) (p l x dx lt pt tt yp : Addr) (tx : Str) (rows ps ts : List Str) (m : Int) : Prop where
  S : Sx H0 G p m [(l, .lst (rows.map V.str))]
  x : G x = some (.ins CG dx (prgF tx lt pt tt yp))
  lt : G lt = some (.tup (rows.map V.str))
  pt : G pt = some (.tup (ps.map V.str))
  tt : G tt = some (.tup (ts.map V.str))
section
variable {CG : Addr} {H0 G G' : Hp} {p l x dx lt pt tt yp : Addr} {tx : Str} {rows ps ts : List Str} {m m' : Int}
theorem St17.same (s : St17 CG H0 G p l x dx lt pt tt yp tx rows ps ts m) (j : Same G G') : St17 CG H0 G' p l x dx lt pt tt yp tx rows ps ts m := ⟨s.S.same j, j _ _ s.x, j _ _ s.lt, j _ _ s.pt, j _ _ s.tt⟩
theorem St17.tp (s : St17 CG H0 G p l x dx lt pt tt yp tx rows ps ts m) {a : Addr} {xs : List V} (e : G a = some (.tup xs)) : a ≠ p := by
  obtain ⟨_, _, _, h, _⟩ := s.S.pot
  exact ne_of e h (fun z => by cases z)
theorem St17.ip (s : St17 CG H0 G p l x dx lt pt tt yp tx rows ps ts m) : x ≠ p := by
  obtain ⟨_, _, _, h, _⟩ := s.S.pot
  exact ne_of s.x h (fun z => by cases z)
theorem St17.drw (s : St17 CG H0 G p l x dx lt pt tt yp tx rows ps ts m) (hp : PotAt G' p m') (c : Ch p G G') : St17 CG H0 G' p l x dx lt pt tt yp tx rows ps ts m' :=
  ⟨s.S.drw hp c, c _ _ s.ip s.x, c _ _ (s.tp s.lt) s.lt, c _ _ (s.tp s.pt) s.pt, c _ _ (s.tp s.tt) s.tt⟩
end
theorem dp_neT (x y : Str) (h : x = y) : (!decide (V.str x = V.str y)) = false := by subst h; simp
noncomputable def spRight17 : Sp := fun vs H Q _ => ∃ (p : Addr) (m : Int), vs = [.ref p] ∧ PotAt H p m ∧ m ≤ 1000000000 ∧ ∀ H', PotAt H' p (m + 100000000) → Ch p H H' → Q (.bl true) H'
theorem ok_right {CG : Addr} (F : L2.Fun K "_law_right" "_law_right" sRight f fd) (b : Binds K fd PRight []) (B : Bi mg) (GC : ProgC K CG) (GT : ProgT K CG) (nf : PySem.W.notFirst K CG (.ref CG) = true) (oN : NoG K CG "NoneType") (oS : NoG K CG "str") (oT : NoG K CG "tuple") (oL : NoG K CG "list") (oI : NoG K CG "int") (zR : mg "repr" = none) (gSt : mg "str" = none) (gTu : mg "tuple" = none) (cT : CalF P w K mg base 1 "_law_take" spTake) (cO : CalF P w K mg base 2 "_law_of" spOf) (cRows : CalF P w K mg base 17 "_law_rows" (spRows 2)) (cMd : CalF P w K mg base 175 "_law_made" (spMad CG)) (mG2 : MakF P w K mg base 173 "Program" CG (spGInitF K CG)) (oE : OpnF P w K mg base 1 CG "__eq__" (spGEq K CG))
    (pTx : PrpF P w K mg base 1 CG "text" (spGTx K CG)) (pLn : PrpF P w K mg base 1 CG "lines" (spGLn K CG)) (pPa : PrpF P w K mg base 1 CG "parts" (spGPa K CG)) (pTk : PrpF P w K mg base 1 CG "tasks" (spGTk K CG)) : FnG P w K mg base CX0 176 f spRight17 := by
  refine fnG_of F b scRight (fun vs H Q E h => ?_) (fun cdv A outer s H vs Q E cl hr h => ?_)
  · obtain ⟨p, m, rfl, _⟩ := h
    rfl
  · have sc := scRight
    obtain ⟨p, m, rfl, hp, hm, q⟩ := h
    refine ⟨_, (pss_cons (ps_par (i := 1) (j := 2) (by rfl) sc.nd rfl rfl (by decide) rfl rfl (pa_cons (pe_f cRows hr (by omega) rfl (pa_cons (pv 0) (pa_cons pe_int pa_nil))) (pa_cons pe_int pa_nil)) (by rfl)) (pss_cons (ps_set (i := 3) sc.nd rfl (Or.inr rfl) (pe_f cMd hr (by omega) rfl (pa_cons (pe_join pe_str (pv 1)) pa_nil))) (pss_cons (ps_if (pt_cmpR op_isN (pv 3) pe_non (nomark _)) (pss_one (ps_ret pe_bl)) pss_nil) (pss_cons (ps_if (pt_cmpR op_ne (pe_callB (call_repB8 cl hr) (by rfl) zR (by decide +kernel) (pa_cons (pe_tup (pa_cons (pe_pr pTx hr (by omega) (pv 3)) (pa_cons (pe_pr pLn hr (by omega) (pv 3)) pa_nil))) pa_nil)) (pe_callB (call_repB8 cl hr) (by rfl) zR (by decide +kernel) (pa_cons (pe_tup (pa_cons (pe_join pe_str (pv 1)) (pa_cons (pe_callTy call_tuple_of (by rfl) gTu (by decide +kernel) (pa_cons (pv 1) pa_nil)) pa_nil))) pa_nil)) (nomark _)) (pss_one (ps_ret pe_bl)) pss_nil) (pss_cons (ps_set (i := 4) sc.nd rfl (Or.inl rfl) (pe_disp (pps_cons pe_str (pe_lst pa_nil) (pps_cons pe_str (pe_lst pa_nil) pps_nil)) (by rfl) (by rfl) (fun z => by cases z) (by decide))) (pss_cons (ps_for PassesOwn.never rfl (pi_list (pv 1)) (pg_name (i := 5) sc.nd rfl (Or.inl rfl)) (pss_cons (ps_set (i := 6) sc.nd rfl (Or.inl rfl) (pe_split (pv 5) pe_str)) (pss_one (ps_if (pt_cmp (pc_din (hu_of hr) (pe_ix ix_list (pv 6) pe_int (fun _ _ => rfl)) (pv 4))) (pss_one (ps_expr (pe_bm PySem.F.plainAttrs_list PySem.F.slot_list_append PySem.F.type_list_append mt_append (pe_dget (hu_of hr) (pv 4) (pe_ix ix_list (pv 6) pe_int (fun _ _ => rfl)) (fun _ _ => rfl)) (pa_cons (pe_ix ix_list (pv 6) pe_int (fun _ _ => rfl)) pa_nil)))) pss_nil)))) (pss_cons (ps_if (pt_cmpR op_ne (pe_callB (call_repB8 cl hr) (by rfl) zR (by decide +kernel) (pa_cons (pe_tup (pa_cons (pe_pr pPa hr (by omega) (pv 3)) (pa_cons (pe_pr pTk hr (by omega) (pv 3)) pa_nil))) pa_nil)) (pe_callB (call_repB8 cl hr) (by rfl) zR (by decide +kernel) (pa_cons (pe_tup (pa_cons (pe_callTy call_tuple_of (by rfl) gTu (by decide +kernel) (pa_cons (pe_dget (hu_of hr) (pv 4) pe_str (fun _ _ => rfl)) pa_nil)) (pa_cons (pe_callTy call_tuple_of (by rfl) gTu (by decide +kernel) (pa_cons (pe_dget (hu_of hr) (pv 4) pe_str (fun _ _ => rfl)) pa_nil)) pa_nil))) pa_nil)) (nomark _)) (pss_one (ps_ret pe_bl)) pss_nil) (pss_cons (ps_set (i := 7) sc.nd rfl (Or.inl rfl) (pe_op op_cat (pe_op op_cat (pe_slice sl_list (pv 1) po_none (po_some pe_int)) (pe_lst (pa_cons (pe_op op_add_str pe_str (pe_callTy call_str_int (by rfl) gSt (by decide +kernel) (pa_cons (pe_f cO hr (by omega) rfl (pa_cons (pv 0) (pa_cons (pe_lst (pa_cons pe_int (pa_cons pe_int (pa_cons pe_int (pa_cons pe_int pa_nil))))) pa_nil))) pa_nil))) pa_nil))) (pe_slice sl_list (pv 1) (po_some pe_int) po_none))) (pss_cons (ps_if (PW.pt (pw_or (pt_cmpR op_ne (pe_cmpR (show OpR _ _ (rEqO K CG (spGEq K CG)) from op_eqO oE hr (by omega)) (pv 3) (pe_mk mG2 hr (by omega) rfl (pa_cons (pe_join pe_str (pv 7)) pa_nil)) (nomark _)) (pe_cmpR (op_eqD hr.units) (pv 7) (pv 1) (nomark _)) (nomark _)) (pw_or1 (pt_not (pt_cmpR (show OpR _ _ (rEqO K CG (spGEq K CG)) from op_eqO oE hr (by omega)) (pv 3) (pe_mk mG2 hr (by omega) rfl (pa_cons (pe_join pe_str (pv 1)) pa_nil)) (nomark _)))))) (pss_one (ps_ret pe_bl)) pss_nil) (pss_one (ps_ret (pe_not (pe_callB (cr_any rfl) (by rfl) B.any (by decide +kernel) (pa_cons (pe_lc (own := [("thing", 8)]) rfl sc.nd (pi_tup (pe_tup (pa_cons pe_non (pa_cons (pe_pr pTx hr (by omega) (pv 3)) (pa_cons (pe_callTy call_tuple_of (by rfl) gTu (by decide +kernel) (pa_cons (pv 1) pa_nil)) (pa_cons (pv 1) (pa_cons pe_int pa_nil))))))) (blkOk_by (N := NRight) (sc := defScope sRight) (by decide +kernel)) (fun _ _ _ _ _ => by exact (pg_name (i := 8) sc.nd rfl (Or.inl rfl))) (fun _ _ _ _ _ => by exact pts_nil) (fun _ _ _ _ _ => by exact (pe_cmpR (show OpR _ _ (rEqO K CG (spGEq K CG)) from op_eqO oE hr (by omega)) (pv 3) (pv 8) (nomark _)))) pa_nil)))))))))))))), ?_⟩
    have S := Sx.start hp
    have e1 : qR 2 = 1199862 := by decide
    have e2 : nR 2 = 526 := by decide
    refine ⟨_, rfl, p, m, rfl, S.pot, by rw [e1]; omega, fun l a b rest H1 n1 el ha hb _ ht hp1 c1 => ⟨_, _, rfl, ?_⟩⟩
    rw [e1] at hp1
    rw [e2] at ht
    have S1 := S.got hp1 c1 n1 el
    obtain ⟨f1, f2, f3, f4, f5⟩ := text17 ht (by simp) (by decide)
    have hb4 : b ∈ (["slice 0", "slice 4", "slice 20", "slice 7"] : List Str) := by
      have : ∀ z ∈ sliceRows, z ∈ (["slice 0", "slice 4", "slice 20", "slice 7"] : List Str) := by decide +kernel
      exact this b hb
    have hlen := txs_len ht
    generalize hrows : a :: b :: rest = rows at *
    have f2' : (Txt.join "\n" rows).length ≤ 526 * 5001 := Nat.le_trans f2 (Nat.mul_le_mul_right _ hlen)
    generalize htx : Txt.join "\n" rows = tx at f1 f2 f2' f3 ⊢
    have hsz : sizeLine = 16777216 := by decide
    refine ⟨⟨_, rfl⟩, _, rfl, "\n", l, rows, rfl, rfl, .inl (SqL.of (S1.i 0)), f4, ?_⟩
    rw [htx]
    refine ⟨tx, rfl, by omega, fun nf H2 s2 => ?_, fun fine x fs H2 hfs P2 s2 => ?_⟩
    · exact ⟨_, rfl, rfl, _, rfl, ifT (decide_eq_true rfl) (q _ ((S1.same s2).pot.mono (by omega)) (S1.same s2).ch)⟩
    refine ⟨_, rfl, rfl, _, rfl, ifF (decide_eq_false (fun z => by cases z)) ?_⟩
    have S2 := S1.same s2
    obtain ⟨dx, lt, pt, tt, yp, hx, hl, hpt, htt⟩ := P2
    rw [f1] at hl
    have W : St17 CG H H2 p l x dx lt pt tt yp tx rows _ _ (m + 1199862) := ⟨S2, hx, hl, hpt, htt⟩
    have r80 : rows.length ≤ 80 := by
      have h1 := read80 _ _ _ _ hfs (Nat.zero_le _)
      rw [f1, List.length_map] at h1
      simp at h1
      omega
    have hnames := Mi.names_two wds_ne hfs
    rw [f1] at hnames
    rw [hnames.1, hnames.2] at W
    clear hx hl hpt htt S2 s2 hp1 c1 S1 el n1
    obtain ⟨d1, d2, d3, d4⟩ := told_data (n := 80 * 5001) f3 (Nat.le_trans f2 (Nat.mul_le_mul_right _ r80)) f5 (by have := Nat.mul_le_mul_right 5001 r80; omega)
    refine ⟨_, rfl, x, dx, _, rfl, W.x, x, dx, lt, pt, tt, yp, tx, rfl, W.x, ?_⟩
    refine ⟨_, rfl, x, dx, _, rfl, W.x, x, dx, lt, pt, tt, yp, tx, rfl, W.x, by show 2 ≤ sizeLine; decide, fun T nT => ?_⟩
    have W1 := W.same (Same.new (o := .tup [.str tx, .ref lt]) nT)
    refine ⟨T, p, .tuple [.str tx, .tuple (rows.map .str)], rfl, .tup upd_same (W.S.pot.ne nT).symm (.cons (.str _) (.cons (.tup W1.lt (W1.tp W1.lt) da_strs) .nil)), d1, d2, d3, d4, ?_⟩
    refine ⟨⟨_, rfl⟩, _, rfl, "\n", l, rows, rfl, rfl, .inl (SqL.of (W1.S.i 0)), f4, ?_⟩
    rw [htx]
    refine ⟨_, rfl, l, _, rfl, .inl ⟨SqL.of (W1.S.i 0), fun M2 nM2 => ?_⟩⟩
    have W2 := W1.same (Same.new (o := .tup (rows.map V.str)) nM2)
    refine ⟨by show 2 ≤ sizeLine; decide, fun T2 nT2 => ?_⟩
    have eM2 := Same.new (o := .tup [.str tx, .ref M2]) nT2 _ _ (upd_same (H := upd H2 T (.tup [.str tx, .ref lt])) (a := M2) (o := .tup (rows.map V.str)))
    have W3 := W2.same (Same.new (o := .tup [.str tx, .ref M2]) nT2)
    refine ⟨T2, p, .tuple [.str tx, .tuple (rows.map .str)], rfl, .tup upd_same (W2.S.pot.ne nT2).symm (.cons (.str _) (.cons (.tup eM2 (W3.tp eM2) da_strs) .nil)), d1, d2, d3, d4, ?_⟩
    refine ⟨rfl, _, rfl, ifF (dp_neT _ _ rfl) ?_⟩
    clear d1 d2 d3 d4 eM2
    generalize upd (upd (upd H2 T (.tup [.str tx, .ref lt])) M2 (.tup (rows.map V.str))) T2 (.tup [.str tx, .ref M2]) = H3 at W3 ⊢
    clear W2 W1 W nT nM2 nT2
    refine fun dn nd => ?_
    refine ⟨by show 0 ≤ sizeLine; decide, fun PA nA => ?_⟩
    refine ⟨by show 0 ≤ sizeLine; decide, fun TB nB => ?_⟩
    obtain ⟨adn, nA3⟩ := upd_none nA
    obtain ⟨bA, nB4⟩ := upd_none nB
    obtain ⟨bdn, nB3⟩ := upd_none nB4
    refine ⟨(upd_ne bdn.symm).trans ((upd_ne adn.symm).trans upd_same), [(.inr "part", .ref PA), (.inr "task", .ref TB)], rfl, by show 2 ≤ 15; decide, ?_⟩
    have s0 : Same H3 (upd (upd (upd (upd H3 dn (.dK [])) PA (.lst [])) TB (.lst [])) dn (.dK (mergeK [] [(.inr "part", .ref PA), (.inr "task", .ref TB)]))) := fun b o e => by
      rw [upd_ne (ne_of_none e nd), upd_ne (ne_of_none e nB3), upd_ne (ne_of_none e nA3), upd_ne (ne_of_none e nd)]
      exact e
    have htwo := Mi.two_words wds_ne hfs
    rw [f1] at htwo
    refine ⟨_, rfl, l, rfl, ⟨_, SqL.of (s0 _ _ (W3.S.i 0))⟩, for_list (xs := rows.map V.str) (fun i σ G => ∃ u v w' t', σ = [some (.ref p), some (.ref l), some (.int 1), some (.ref x), some (.ref dn), u, v, w', t'] ∧ Same H3 G ∧ G dn = some (.dK [(.inr "part", .ref PA), (.inr "task", .ref TB)]) ∧ G PA = some (.lst ((Mi.namesL "part" ((rows.take i).map wdsL)).map V.str)) ∧ G TB = some (.lst ((Mi.namesL "task" ((rows.take i).map wdsL)).map V.str))) ⟨_, _, _, _, rfl, s0, upd_same, (upd_ne adn).trans ((upd_ne bA.symm).trans upd_same), (upd_ne bdn).trans upd_same⟩ ?_ ?_ ?_⟩
    · rintro i σ G _ ⟨u, v, w', t', _, sg, _⟩
      exact SqL.of (sg _ _ (W3.S.i 0))
    · rintro i z σ G hv ⟨u, v, w', t', rfl, sg, gd, ga, gb⟩
      rw [List.getElem?_map] at hv
      obtain ⟨y, hy, rfl⟩ := Option.map_eq_some_iff.mp hv
      obtain ⟨hy1, hy2⟩ := f5 y (List.mem_of_getElem? hy)
      refine ⟨_, rfl, ⟨_, rfl⟩, y, " ", rfl, rfl, rfl, by omega, fun sp nsp => ?_⟩
      have sg1 := sg.trans (Same.new (o := .lst ((Txt.split y " ").map V.str)) nsp)
      have gd := Same.new (o := .lst ((Txt.split y " ").map V.str)) nsp _ _ gd
      have ga := Same.new (o := .lst ((Txt.split y " ").map V.str)) nsp _ _ ga
      have gb := Same.new (o := .lst ((Txt.split y " ").map V.str)) nsp _ _ gb
      have gs := upd_same (H := G) (a := sp) (o := .lst ((Txt.split y " ").map V.str))
      generalize upd G sp (.lst ((Txt.split y " ").map V.str)) = G1 at sg1 gd ga gb gs ⊢
      obtain ⟨f0, fr, ef⟩ := List.exists_cons_of_ne_nil (split_ne y " ")
      have et : rows.take (i + 1) = rows.take i ++ [y] := by
        rw [List.take_succ, hy]
        rfl
      have en : ∀ k, Mi.namesL k ((rows.take (i + 1)).map wdsL) = Mi.namesL k ((rows.take i).map wdsL) ++ (if f0 = k then [fr.getD 0 ""] else []) := by
        intro k
        rw [et, List.map_append, List.map_cons, List.map_nil, names_snoc]
        show _ ++ Mi.namesL k [Txt.split y " "] = _
        rw [ef]
        rfl
      have etwo := htwo (wdsL y) (List.mem_map.mpr ⟨y, List.mem_of_getElem? hy, rfl⟩) f0 fr ef
      rw [ef] at gs
      refine ⟨_, rfl, sp, _, 0, .str f0, rfl, rfl, SqL.of gs, (show atI (V.str f0 :: fr.map V.str) ((0 : Nat) : Int) = some (.str f0) from atI_nat rfl), _, rfl, dn, _, rfl, DGet.k (k := .inr f0) gd, ?_⟩
      rw [val_two]
      by_cases hP : f0 = "part"
      · subst hP
        obtain ⟨w1, fr', ew⟩ := List.exists_cons_of_ne_nil (etwo (.inl rfl))
        subst ew
        refine ⟨_, rfl, ifT rfl ?_⟩
        refine ⟨_, rfl, _, rfl, sp, _, 0, .str "part", rfl, rfl, SqL.of gs, (show atI (V.str _ :: (w1 :: fr').map V.str) ((0 : Nat) : Int) = some (.str _) from atI_nat rfl), dn, .ref PA, rfl, (show DGet G1 dn (.str "part") (some (.ref PA)) from DGet.k (k := .inr "part") gd), .inl ⟨rfl, _, SqL.of ga⟩, ?_⟩
        refine ⟨_, rfl, sp, _, 1, .str w1, rfl, rfl, SqL.of gs, (show atI (V.str _ :: (w1 :: fr').map V.str) ((1 : Nat) : Int) = some (.str w1) from atI_nat rfl), PA, _, .str w1, rfl, rfl, ga, ?_, ?_⟩
        · rw [List.length_map]
          have h1 := names_len (k := "part") ((rows.take i).map wdsL)
          rw [List.length_map, List.length_take] at h1
          omega
        · refine ⟨_, _, _, _, rfl, fun b o e => (upd_ne (ne_of_none e nA3)).trans (sg1 _ _ e), (upd_ne adn.symm).trans gd, ?_, ?_⟩
          · rw [en]
            exact upd_same.trans (by rw [if_pos rfl, List.map_append]; rfl)
          · rw [en]
            rw [if_neg (by decide +kernel), List.append_nil]; exact (upd_ne bA).trans gb
      by_cases hT : f0 = "task"
      · subst hT
        obtain ⟨w1, fr', ew⟩ := List.exists_cons_of_ne_nil (etwo (.inr rfl))
        subst ew
        refine ⟨_, rfl, ifT rfl ?_⟩
        refine ⟨_, rfl, _, rfl, sp, _, 0, .str "task", rfl, rfl, SqL.of gs, (show atI (V.str _ :: (w1 :: fr').map V.str) ((0 : Nat) : Int) = some (.str _) from atI_nat rfl), dn, .ref TB, rfl, (show DGet G1 dn (.str "task") (some (.ref TB)) from DGet.k (k := .inr "task") gd), .inl ⟨rfl, _, SqL.of gb⟩, ?_⟩
        refine ⟨_, rfl, sp, _, 1, .str w1, rfl, rfl, SqL.of gs, (show atI (V.str _ :: (w1 :: fr').map V.str) ((1 : Nat) : Int) = some (.str w1) from atI_nat rfl), TB, _, .str w1, rfl, rfl, gb, ?_, ?_⟩
        · rw [List.length_map]
          have h1 := names_len (k := "task") ((rows.take i).map wdsL)
          rw [List.length_map, List.length_take] at h1
          omega
        · refine ⟨_, _, _, _, rfl, fun b o e => (upd_ne (ne_of_none e nB3)).trans (sg1 _ _ e), (upd_ne bdn.symm).trans gd, ?_, ?_⟩
          · rw [en]
            rw [if_neg (by decide +kernel), List.append_nil]; exact (upd_ne bA.symm).trans ga
          · rw [en]
            exact upd_same.trans (by rw [if_pos rfl, List.map_append]; rfl)
      rw [if_neg hP, if_neg hT]
      refine ⟨_, rfl, ifF rfl ?_⟩
      refine ⟨_, _, _, _, rfl, sg1, gd, ?_, ?_⟩
      · rw [en, if_neg hP, List.append_nil]; exact ga
      · rw [en, if_neg hT, List.append_nil]; exact gb
    · rintro σ G ⟨u, v, w', t', rfl, sg, gd, ga, gb⟩
      rw [show (rows.map V.str).length = rows.length from List.length_map .., List.take_length] at ga gb
      have W5 := W3.same sg
      clear s0 htwo
      have np := names_ok (k := "part") f5
      have nt := names_ok (k := "task") f5
      have lp := names_len (k := "part") (rows.map wdsL)
      have lt2 := names_len (k := "task") (rows.map wdsL)
      rw [List.length_map] at lp lt2
      generalize Mi.namesL "part" (rows.map wdsL) = ps at *
      generalize Mi.namesL "task" (rows.map wdsL) = ts at *
      obtain ⟨d1, d2, d3, d4⟩ := pair_data np nt (by have h1 := Nat.mul_le_mul_right 5001 (Nat.le_trans lp r80); have h2 := Nat.mul_le_mul_right 5001 (Nat.le_trans lt2 r80); omega)
      refine ⟨_, rfl, x, dx, _, rfl, W5.x, x, dx, lt, pt, tt, yp, tx, rfl, W5.x, ?_⟩
      refine ⟨_, rfl, x, dx, _, rfl, W5.x, x, dx, lt, pt, tt, yp, tx, rfl, W5.x, by show 2 ≤ sizeLine; decide, fun T3 nT3 => ?_⟩
      have j1 := Same.new (o := .tup [.ref pt, .ref tt]) nT3
      have W6 := W5.same j1
      refine ⟨T3, p, .tuple [.tuple (ps.map .str), .tuple (ts.map .str)], rfl, .tup upd_same (W5.S.pot.ne nT3).symm (.cons (.tup W6.pt (W6.tp W6.pt) da_strs) (.cons (.tup W6.tt (W6.tp W6.tt) da_strs) .nil)), d1, d2, d3, d4, ?_⟩
      have gd := j1 _ _ gd
      have ga := j1 _ _ ga
      have gb := j1 _ _ gb
      refine ⟨_, rfl, dn, .ref PA, rfl, (show DGet _ dn (.str "part") (some (.ref PA)) from DGet.k (k := .inr "part") gd), PA, _, rfl, .inl ⟨SqL.of ga, fun Y1 nY1 => ?_⟩⟩
      have j2 := Same.new (o := .tup (ps.map V.str)) nY1
      have gd := j2 _ _ gd
      have gb := j2 _ _ gb
      have W7 := W6.same j2
      refine ⟨_, rfl, dn, .ref TB, rfl, (show DGet _ dn (.str "task") (some (.ref TB)) from DGet.k (k := .inr "task") gd), TB, _, rfl, .inl ⟨SqL.of gb, fun Y2 nY2 => ?_⟩⟩
      have j3 := Same.new (o := .tup (ts.map V.str)) nY2
      have W8 := W7.same j3
      refine ⟨by show 2 ≤ sizeLine; decide, fun T4 nT4 => ?_⟩
      have j4 := Same.new (o := .tup [.ref Y1, .ref Y2]) nT4
      have W9 := W8.same j4
      have y1 := j4 _ _ (j3 _ _ (upd_same (a := Y1) (o := .tup (ps.map V.str)) (H := upd G T3 (.tup [.ref pt, .ref tt]))))
      have y2 := j4 _ _ (upd_same (a := Y2) (o := .tup (ts.map V.str)) (H := upd (upd G T3 (.tup [.ref pt, .ref tt])) Y1 (.tup (ps.map V.str))))
      refine ⟨T4, p, .tuple [.tuple (ps.map .str), .tuple (ts.map .str)], rfl, .tup upd_same (W8.S.pot.ne nT4).symm (.cons (.tup y1 (W9.tp y1) da_strs) (.cons (.tup y2 (W9.tp y2) da_strs) .nil)), d1, d2, d3, d4, ?_⟩
      refine ⟨rfl, _, rfl, ifF (dp_neT _ _ rfl) ?_⟩
      clear y1 y2 d1 d2 d3 d4 gd ga gb
      generalize upd (upd (upd (upd G T3 (.tup [.ref pt, .ref tt])) Y1 (.tup (ps.map V.str))) Y2 (.tup (ts.map V.str))) T4 (.tup [.ref Y1, .ref Y2]) = G9 at W9 ⊢
      clear j1 j2 j3 j4 W8 W7 W6 W5 nT3 nT4 nY1 nY2
      have hr2 : rows.take 1 = [a] ∧ rows.drop 2 = rest := by rw [← hrows]; exact ⟨rfl, rfl⟩
      refine ⟨_, rfl, _, rfl, l, _, rfl, SqL.of (W9.S.i 0), fun a1 q1 => ?_⟩
      rw [show cutV (rows.map V.str) none (some 1) = (rows.take 1).map V.str from cut_lo rows 1, hr2.1]
      have X1 := W9.same (Same.new (o := .lst ([a].map V.str)) q1)
      have Z1 := W9.S.new q1 (.lst ([a].map V.str))
      refine ⟨_, rfl, by show 4 ≤ sizeLine; decide, fun l4 q4 => ?_⟩
      have X2 := X1.same (Same.new (o := .lst [.int 0, .int 4, .int 20, .int 7]) q4)
      have Z2 := Z1.new q4 (.lst [.int 0, .int 4, .int 20, .int 7])
      refine ⟨p, l4, _, _, rfl, Z2.pot, by omega, Z2.i 0, Z2.np 0, by show 1 ≤ 4; decide, by show 4 ≤ 1000; decide, fun v1 G10 hv hp10 c10 => ?_⟩
      have X3 := X2.drw hp10 c10
      have Z3 := Z2.drw hp10 c10
      obtain ⟨i4, rfl, i40, i41, hb'⟩ := four_mem hv
      refine ⟨i4, rfl, num_log i40 i41, _, _, rfl, rfl, add_sz (n := 6) (by decide +kernel) (num_wok i40 i41) (by decide), ?_⟩
      generalize "slice " ++ Str.ofString (toString i4) = b' at hb' ⊢
      refine ⟨by show 1 ≤ sizeLine; decide, fun a2 q2 => ?_⟩
      have X4 := X3.same (Same.new (o := .lst [.str b']) q2)
      have Z4 := Z3.new q2 (.lst [.str b'])
      refine ⟨a1, a2, _, _, rfl, rfl, Z4.i 2, Z4.i 0, by show 2 ≤ sizeLine; decide, fun a3 q3 => ?_⟩
      have X5 := X4.same (Same.new (o := .lst ([a].map V.str ++ [.str b'])) q3)
      have Z5 := Z4.new q3 (.lst ([a].map V.str ++ [.str b']))
      refine ⟨_, rfl, _, rfl, l, _, rfl, SqL.of (Z5.i 4), fun a4 q6 => ?_⟩
      rw [show cutV (rows.map V.str) (some 2) none = (rows.drop 2).map V.str from cut_hi rows 2, hr2.2]
      have X6 := X5.same (Same.new (o := .lst (rest.map V.str)) q6)
      have Z6 := Z5.new q6 (.lst (rest.map V.str))
      have hrl : rest.length ≤ 80 := by rw [← hrows] at r80; simp only [List.length_cons] at r80; omega
      refine ⟨a3, a4, _, _, rfl, rfl, Z6.i 1, Z6.i 0, by rw [List.length_map]; exact szl (show 2 + rest.length ≤ 20000 by omega), fun a5 q5 => ?_⟩
      have X7 := X6.same (Same.new (o := .lst ([a].map V.str ++ [.str b'] ++ rest.map V.str)) q5)
      have Z7 := (Z6.new q5 (.lst ([a].map V.str ++ [.str b'] ++ rest.map V.str))).lst (ys := (a :: b' :: rest).map V.str) rfl
      have eo := Z7.i 0
      generalize upd _ a5 (.lst ([a].map V.str ++ [.str b'] ++ rest.map V.str)) = G11 at X7 eo ⊢
      clear Z7 Z6 Z5 Z4 Z3 Z2 Z1 X6 X5 X4 X3 X2 X1 W9 q1 q2 q3 q4 q5 q6 c10 hp10 hv
      have hto : txs 5000 526 (a :: b' :: rest) = true := txs_snd (b := b) (by rw [hrows]; exact ht) (four_ok hb')
      obtain ⟨g1, g2, g3, g4, g5⟩ := text17 hto (by simp) (by decide)
      have g2' : (Txt.join "\n" (a :: b' :: rest)).length ≤ 526 * 5001 := Nat.le_trans g2 (Nat.mul_le_mul_right _ (txs_len hto))
      have fine' : dueOf (Txt.join "\n" (a :: b' :: rest)) = .fine := by
        unfold dueOf
        rw [g1, ← due17 hb4 hb', hrows]
        unfold dueOf at fine
        rw [f1] at fine
        exact fine
      refine ⟨_, rfl, ⟨_, rfl⟩, _, rfl, "\n", a5, _, rfl, rfl, .inl (SqL.of eo), g4, ?_⟩
      have inj : Txt.join "\n" (a :: b' :: rest) = tx ↔ a :: b' :: rest = rows := by
        constructor
        · intro h
          rw [← g1, h, f1]
        · intro h
          rw [h, htx]
      generalize Txt.join "\n" (a :: b' :: rest) = tx' at *
      refine fun x' dx' nx' nd' ne' => ?_
      refine ⟨x', dx', tx', rfl, upd_same, by omega, fine', fun fs' hfs' H' P' c' => ⟨rfl, ?_⟩⟩
      have s' := new_same nx' nd' c'
      obtain ⟨dx2, lt2, pt2, tt2, yp2, hx2, _⟩ := P'
      have X8 := X7.same s'
      have eo2 := s' _ _ eo
      refine ⟨x, dx, _, _, rfl, X8.x, .ins hx2, nf, ?_⟩
      refine ⟨x, dx, lt, pt, tt, yp, tx, _, rfl, X8.x, .inl ⟨x', dx2, lt2, pt2, tt2, yp2, tx', rfl, hx2, ?_⟩⟩
      refine ⟨_, rfl, _, rfl, _, _, dp_strL (SqL.of eo2), dp_strL (SqL.of (X8.S.i 0)), shaped_strs _ (fun z hz => (g5 z hz).1), shaped_strs _ (fun z hz => (f5 z hz).1), ?_⟩
      rw [eqv_strs]
      have hAB : decide (V.str tx = V.str tx') = decide (a :: b' :: rest = rows) := decide_eq_decide.mpr ⟨fun h => inj.mp (V.str.inj h).symm, fun h => by rw [inj.mpr h]⟩
      rw [hAB]
      refine ⟨rfl, _, rfl, ifF (by simp) ?_⟩
      refine ⟨_, rfl, ⟨_, rfl⟩, _, rfl, "\n", l, rows, rfl, rfl, .inl (SqL.of (X8.S.i 0)), f4, ?_⟩
      rw [htx]
      refine fun x3 dx3 nx3 nd3 ne3 => ?_
      refine ⟨x3, dx3, tx, rfl, upd_same, by omega, fine, fun fs3 hfs3 H3' P3 c3 => ⟨rfl, ?_⟩⟩
      have s3 := new_same nx3 nd3 c3
      obtain ⟨dx4, lt4, pt4, tt4, yp4, hx4, _⟩ := P3
      have X9 := X8.same s3
      refine ⟨x, dx, _, _, rfl, X9.x, .ins hx4, nf, ?_⟩
      refine ⟨x, dx, lt, pt, tt, yp, tx, _, rfl, X9.x, .inl ⟨x3, dx4, lt4, pt4, tt4, yp4, tx, rfl, hx4, ?_⟩⟩
      refine ⟨_, rfl, ?_⟩
      rw [show decide (V.str tx = V.str tx) = true from decide_eq_true rfl]
      refine ifF rfl ?_
      clear hx4 hx2 eo eo2 s3 s' c3 c' X8 X7
      refine ⟨_, rfl, x, dx, _, rfl, X9.x, x, dx, lt, pt, tt, yp, tx, rfl, X9.x, ?_⟩
      refine ⟨_, rfl, l, _, rfl, .inl ⟨SqL.of (X9.S.i 0), fun L9 nL9 => ?_⟩⟩
      have j5 := Same.new (o := .tup (rows.map V.str)) nL9
      have eL9 := upd_same (a := L9) (o := .tup (rows.map V.str)) (H := H3')
      have Y1 := X9.same j5
      generalize upd H3' L9 (.tup (rows.map V.str)) = H5 at Y1 eL9 ⊢
      refine ⟨_, rfl, by show 5 ≤ sizeLine; decide, fun T9 nT9 => ?_⟩
      have j6 := Same.new (o := .tup [.non, .str tx, .ref L9, .ref l, .int 0]) nT9
      have eT9 := upd_same (a := T9) (o := .tup [.non, .str tx, .ref L9, .ref l, .int 0]) (H := H5)
      have Y2 := Y1.same j6
      have eL9 := j6 _ _ eL9
      generalize upd H5 T9 (.tup [.non, .str tx, .ref L9, .ref l, .int 0]) = H6 at Y2 eL9 eT9 ⊢
      refine ⟨T9, rfl, ⟨_, SqT.of eT9⟩, fun D nD => ?_⟩
      refine lc_tup (xs := [.non, .str tx, .ref L9, .ref l, .int 0]) (fun i G => G D = some (.lst (List.replicate i (V.bl false))) ∧ Same H6 G) ⟨upd_same, Same.new nD⟩ ?_ ?_ ?_
      · rintro i G _ ⟨_, sg⟩
        exact SqT.of (sg _ _ eT9)
      · rintro i z G hv ⟨ed, sg⟩
        have Y3 := Y2.same sg
        have hi : i < 5 := (List.getElem?_eq_some_iff.mp hv).1
        have hk : ∃ t, NoG K CG t ∧ TyL G z (.type t) ∧ TyX K G z (.type t) := by
          rcases i with _ | _ | _ | _ | _ | i
          · cases hv; exact ⟨_, oN, .non, .base .non⟩
          · cases hv; exact ⟨_, oS, .str _, .base (.str _)⟩
          · cases hv; exact ⟨_, oT, .tup (sg _ _ eL9), .base (.tup (sg _ _ eL9))⟩
          · cases hv; exact ⟨_, oL, .lst (Y3.S.i 0), .base (.lst (Y3.S.i 0))⟩
          · cases hv; exact ⟨_, oI, .int _, .base (.int _)⟩
          · cases hv
        obtain ⟨t, no, tl, ty⟩ := hk
        refine ⟨rfl, ?_⟩
        unfold tYes
        dsimp only
        rw [if_pos rfl]
        refine ⟨_, rfl, _, rfl, x, dx, _, .type t, rfl, Y3.x, tl, no.nf, x, dx, lt, pt, tt, yp, tx, _, rfl, Y3.x, .inr ⟨.type t, ty, no.kit, _, ed, by rw [List.length_replicate]; omega, ?_, fun b o e => (upd_ne (ne_of_none e nD)).trans (sg b o e)⟩⟩
        exact upd_same.trans (by rw [List.replicate_succ'])
      · rintro G ⟨ed, sg⟩
        refine ⟨D, List.replicate 5 false, rfl, SqL.of ed, _, rfl, ?_⟩
        exact q G ((Y2.same sg).S.pot.mono (by omega)) (Y2.same sg).S.ch
end
end Ws

namespace Ws
open PySem PySem.Spec PyProof.Rows L2
noncomputable abbrev sLaw : Stmt := (PySem.Challenge.pw_whatspeed_k17_what_a_program_tells.main.body.getD 70 (.Pass ⟨0, 0, 0, 0⟩))
noncomputable abbrev NLaw : List Str := ["script", "k", "pot", "turn"]
noncomputable abbrev PLaw : List Str := ["script"]
theorem scLaw : FnScope NLaw PLaw (defScope sLaw) := ⟨rfl, rfl, rfl, by decide +kernel, rfl, by decide +kernel, by decide +kernel⟩
noncomputable def spLaw (K : PySem.W.Frag) : Sp := fun vs H Q _ => ∃ (a : Addr) (ns : List Int), vs = [.ref a] ∧ SqL K H a (ns.map V.int) ∧ ns.length ≤ 63 ∧ ∀ H', Q (.bl true) H'
section
variable {P : Program} {w : World} {K : PySem.W.Frag} {mg : Str → Option Value} {base : Heap} {f : Addr} {fd : FuncData}
theorem ok_law (F : L2.Fun K "law" "law" sLaw f fd) (b : Binds K fd PLaw []) (B : Bi mg) (cP : CalF P w K mg base 1 "_law_pot" (spPot K)) (cR : CalG P w K mg base CX0 176 "_law_right" spRight17) : FnG P w K mg base CX0 177 f (spLaw K) := by
  refine fnG_of F b scLaw (fun vs H Q E h => ?_) (fun cdv A outer s H vs Q E cl hr h => ?_)
  · obtain ⟨a, ns, rfl, _⟩ := h
    rfl
  · have sc := scLaw
    obtain ⟨a, ns, rfl, hS, hlen, q⟩ := h
    refine ⟨_, (pss_cons (ps_for PassesOwn.never rfl (pi_range1 (by rfl) B.range (pa_cons (pe_callB (call_max2 rfl) (by rfl) B.max (by decide +kernel) (pa_cons pe_int (pa_cons (pe_callB (call_min2 rfl) (by rfl) B.min (by decide +kernel) (pa_cons pe_int (pa_cons (pe_callB call_len_seq (by rfl) B.len PySem.boot_len (pa_cons (pv 0) pa_nil)) pa_nil))) pa_nil))) pa_nil)) (pg_name (i := 1) sc.nd rfl (Or.inl rfl)) (pss_cons (ps_set (i := 2) sc.nd rfl (Or.inr rfl) (pe_f cP hr (by omega) rfl (pa_cons (pv 0) (pa_cons (pv 1) pa_nil)))) (pss_one (ps_if (pt_not (pt_val (pe_callB (cr_all rfl) (by rfl) B.all (by decide +kernel) (pa_cons (pe_lc (own := [("turn", 3)]) rfl sc.nd (pi_range1 (by rfl) B.range (pa_cons pe_int pa_nil)) (blkOk_by (N := NLaw) (sc := defScope sLaw) (by decide +kernel)) (fun _ _ _ _ _ => by exact (pg_name (i := 3) sc.nd rfl (Or.inl rfl))) (fun _ _ _ _ _ => by exact pts_nil) (fun _ _ _ _ _ => by exact (pe_g cR cl hr (by omega) rfl (pa_cons (pv 2) pa_nil)))) pa_nil)))) (pss_one (ps_ret pe_bl)) pss_nil)))) (pss_one (ps_ret pe_bl))), ?_⟩
    refine ⟨_, rfl, a, _, rfl, .inl hS, _, _, rfl, _, _, rfl, ?_⟩
    generalize hn : (if (if ((ns.map V.int).length : Int) < 3 then ((ns.map V.int).length : Int) else 3) > 1 then (if ((ns.map V.int).length : Int) < 3 then ((ns.map V.int).length : Int) else 3) else 1) = n
    have hn3 : n ≤ 3 ∧ 0 ≤ n := by
      rw [← hn]
      split <;> split <;> omega
    refine ⟨n, rfl, by omega, by omega, for_range (n := n.toNat) (fun i σ H' => ∃ x y, σ = [some (.ref a), x, y, none] ∧ SqL K H' a (ns.map V.int)) ⟨_, _, rfl, hS⟩ ?_ ?_⟩
    · rintro i σ H0 hi ⟨_, _, rfl, hS0⟩
      rw [Int.zero_add]
      refine ⟨_, rfl, _, rfl, a, ns, i, rfl, hS0, by omega, fun p H1 np hp s1 => ?_⟩
      refine ⟨8, rfl, by decide, by decide, fun D hD => ?_⟩
      have npD : p ≠ D := by obtain ⟨_, _, _, e, _⟩ := hp; exact ne_of_none e hD
      refine lcR (lo := 0) (n := 8) (fun j acc H' => acc = List.replicate j (V.bl true) ∧ PotAt H' p (100000000 * j) ∧ Same H0 H') ⟨rfl, ?_, s1.trans (Same.new hD)⟩ (by decide) ?_ ?_
      · exact hp.same (Same.new hD)
      · rintro j H acc hj ⟨ha, hpj, sj⟩ hDj hl Qn kQ
        refine ⟨rfl, _, rfl, p, 100000000 * (j : Int), rfl, hpj, by omega, fun H' hp' ch => ?_⟩
        have nD0 : ∀ {b : Addr} {o : HO}, H0 b = some o → b ≠ D := fun e => ne_of_none (s1 _ _ e) hD
        refine kQ _ _ (ch _ _ npD.symm hDj) ⟨?_, ?_, fun b o e => ?_⟩
        · rw [ha, List.replicate_succ']
        · obtain ⟨x, y, z, e, r1, r2, r3, r4, r5⟩ := hp'
          exact ⟨x, y, z, (upd_ne npD).trans e, r1, r2, r3, r4, by omega⟩
        · exact (upd_ne (nD0 e)).trans (ch _ _ (ne_of_none e np) (sj _ _ e))
      · rintro ys H2 ⟨hy, hp2, s2⟩ hD2 hl
        subst hy
        refine ⟨D, List.replicate 8 true, rfl, SqL.of hD2, true, rfl, ifF rfl ?_⟩
        exact ⟨_, _, rfl, SqL.same hS0 s2⟩
    · rintro σ H' ⟨_, _, rfl, _⟩
      exact q H'
end

end Ws

namespace Ws
open PySem PySem.Spec PyProof.Rows L2
/-! ### the tables of the package's reader -/
section
variable {K : PySem.W.Frag} {w : World} {a : Addr} {ks : List Str}
theorem declK_of (h : rdDict K a = some declList) (hd : He.dicW K a = some (He.keysIn w.params ks)) : DeclK K w a := by
  intro k
  have hf : findD declList (pkTxt k) = (gV k.group).bind fun v => match v with | .str y => some (.s y) | _ => none := by
    cases k <;> decide +kernel
  rcases rdDict_at h hd (pkTxt k) with ⟨h1, h2⟩ | ⟨d, v, h1, h2, h3⟩
  · rw [hf] at h1
    cases hg : k.group with
    | none => exact h2
    | some g => rw [hg] at h1; cases h1
  · rw [hf] at h1
    cases hg : k.group with
    | none => rw [hg] at h1; cases h1
    | some g =>
      rw [hg] at h1
      cases h1
      cases (show v = V.str (gTxt g) from h2)
      exact h3
theorem mostK_of (h : rdDict K a = some mostList) (hd : He.dicW K a = some (He.keysIn w.params ks)) : ∀ g : Mi.G, KHas K w a (gTxt g) (some (.int g.most)) := by
  intro g
  have hf : findD mostList (gTxt g) = some (.i g.most) := by cases g <;> decide +kernel
  rcases rdDict_at h hd (gTxt g) with ⟨h1, h2⟩ | ⟨d, v, h1, h2, h3⟩
  · rw [hf] at h1; cases h1
  · rw [hf] at h1
    cases h1
    cases (show v = V.int g.most from h2)
    exact h3
theorem want_find (x : Str) : findD wantList x = (wantL x).map DV.t := by
  by_cases h1 : x = "LOCK"
  · subst h1; decide +kernel
  by_cases h2 : x = "QUEUE"
  · subst h2; decide +kernel
  by_cases h3 : x = "PART"
  · subst h3; decide +kernel
  by_cases h4 : x = "TASK"
  · subst h4; decide +kernel
  by_cases h5 : x = "LATER"
  · subst h5; decide +kernel
  by_cases h6 : x = "VARIABLE"
  · subst h6; decide +kernel
  unfold wantL wantList
  rw [if_neg h1, if_neg h2, if_neg h3, if_neg h4, if_neg h5, if_neg h6, find_cons, find_cons, find_cons, find_cons, find_cons, find_cons, if_neg (Ne.symm h1), if_neg (Ne.symm h2), if_neg (Ne.symm h3), if_neg (Ne.symm h4), if_neg (Ne.symm h5), if_neg (Ne.symm h6)]
  rfl
theorem wantK_of (h : rdDict K a = some wantList) (hd : He.dicW K a = some (He.keysIn w.params ks)) : WantK K w a := by
  refine ⟨fun x hx => ?_, fun x xs hx => ?_⟩
  · rcases rdDict_at h hd x with ⟨h1, h2⟩ | ⟨d, v, h1, h2, h3⟩
    · exact h2
    · rw [want_find, hx] at h1; cases h1
  · rcases rdDict_at h hd x with ⟨h1, h2⟩ | ⟨d, v, h1, h2, h3⟩
    · rw [want_find, hx] at h1; cases h1
    · rw [want_find, hx] at h1
      cases h1
      exact ⟨v, h2, h3⟩
end
theorem all_mk {l : PySem.W.OpenLaw} {w : World} {K : PySem.W.Frag} {h : Heap} {mg : Str → Option Value} {fa : Addr} (X : K.In h) (G : h.Ns mainGlobals mg) (hfa : mg "law" = some (.ref fa)) (c : SaysW hkFa hkFn hkTs w K) :
    ∀ base : Heap, K.In base → base.Ns mainGlobals mg → FnG l.prog w K mg base CX0 177 fa (spLaw K) := by
  have g_CF : PySem.W.nsIn K mainGlobals "Form" = some (some (.ref (He.ga K "Form"))) := c.is 0 rfl
  have pg_CF : PySem.W.plainGet K (He.ga K "Form") Str.empty = true := c.is 1 rfl
  have hd_CF : PySem.W.hasDictIn K (He.ga K "Form") = true := c.is 2 rfl
  have po_CF : PySem.W.plainOver K (He.ga K "Form") = true := c.is 3 rfl
  have sa_CF : PySem.W.findIn K (.ref (He.ga K "Form")) "__setattr__" = some (some (.builtin "object.__setattr__")) := c.is 4 rfl
  have mk_CF : PySem.W.makesIn K (He.ga K "Form") = true := c.is 5 rfl
  have kc_CF : PySem.W.keepIn K (.ref (He.ga K "Form")) = true := c.is 6 rfl
  have nkind_CF : PySem.W.findIn K (.ref (He.ga K "Form")) "kind" = some none := c.is 7 rfl
  have nslots_CF : PySem.W.findIn K (.ref (He.ga K "Form")) "slots" = some none := c.is 8 rfl
  have nfound_CF : PySem.W.findIn K (.ref (He.ga K "Form")) "found" = some none := c.is 9 rfl
  have g_CR : PySem.W.nsIn K mainGlobals "Reading" = some (some (.ref (He.ga K "Reading"))) := c.is 10 rfl
  have pg_CR : PySem.W.plainGet K (He.ga K "Reading") Str.empty = true := c.is 11 rfl
  have hd_CR : PySem.W.hasDictIn K (He.ga K "Reading") = true := c.is 12 rfl
  have po_CR : PySem.W.plainOver K (He.ga K "Reading") = true := c.is 13 rfl
  have sa_CR : PySem.W.findIn K (.ref (He.ga K "Reading")) "__setattr__" = some (some (.builtin "object.__setattr__")) := c.is 14 rfl
  have mk_CR : PySem.W.makesIn K (He.ga K "Reading") = true := c.is 15 rfl
  have kc_CR : PySem.W.keepIn K (.ref (He.ga K "Reading")) = true := c.is 16 rfl
  have n_forms_CR : PySem.W.findIn K (.ref (He.ga K "Reading")) "_forms" = some none := c.is 17 rfl
  have n_blocks_CR : PySem.W.findIn K (.ref (He.ga K "Reading")) "_blocks" = some none := c.is 18 rfl
  have g_CS : PySem.W.nsIn K mainGlobals "Statement" = some (some (.ref (He.ga K "Statement"))) := c.is 19 rfl
  have pg_CS : PySem.W.plainGet K (He.ga K "Statement") Str.empty = true := c.is 20 rfl
  have hd_CS : PySem.W.hasDictIn K (He.ga K "Statement") = true := c.is 21 rfl
  have po_CS : PySem.W.plainOver K (He.ga K "Statement") = true := c.is 22 rfl
  have sa_CS : PySem.W.findIn K (.ref (He.ga K "Statement")) "__setattr__" = some (some (.builtin "object.__setattr__")) := c.is 23 rfl
  have mk_CS : PySem.W.makesIn K (He.ga K "Statement") = true := c.is 24 rfl
  have kc_CS : PySem.W.keepIn K (.ref (He.ga K "Statement")) = true := c.is 25 rfl
  have nline_CS : PySem.W.findIn K (.ref (He.ga K "Statement")) "line" = some none := c.is 26 rfl
  have nkind_CS : PySem.W.findIn K (.ref (He.ga K "Statement")) "kind" = some none := c.is 27 rfl
  have nfound_CS : PySem.W.findIn K (.ref (He.ga K "Statement")) "found" = some none := c.is 28 rfl
  have nonward_CS : PySem.W.findIn K (.ref (He.ga K "Statement")) "onward" = some none := c.is 29 rfl
  have naside_CS : PySem.W.findIn K (.ref (He.ga K "Statement")) "aside" = some none := c.is 30 rfl
  have g_CT : PySem.W.nsIn K mainGlobals "Task" = some (some (.ref (He.ga K "Task"))) := c.is 31 rfl
  have pg_CT : PySem.W.plainGet K (He.ga K "Task") Str.empty = true := c.is 32 rfl
  have hd_CT : PySem.W.hasDictIn K (He.ga K "Task") = true := c.is 33 rfl
  have po_CT : PySem.W.plainOver K (He.ga K "Task") = true := c.is 34 rfl
  have sa_CT : PySem.W.findIn K (.ref (He.ga K "Task")) "__setattr__" = some (some (.builtin "object.__setattr__")) := c.is 35 rfl
  have mk_CT : PySem.W.makesIn K (He.ga K "Task") = true := c.is 36 rfl
  have kc_CT : PySem.W.keepIn K (.ref (He.ga K "Task")) = true := c.is 37 rfl
  have nline_CT : PySem.W.findIn K (.ref (He.ga K "Task")) "line" = some none := c.is 38 rfl
  have nname_CT : PySem.W.findIn K (.ref (He.ga K "Task")) "name" = some none := c.is 39 rfl
  have nrank_CT : PySem.W.findIn K (.ref (He.ga K "Task")) "rank" = some none := c.is 40 rfl
  have nis_later_CT : PySem.W.findIn K (.ref (He.ga K "Task")) "is_later" = some none := c.is 41 rfl
  have nentry_CT : PySem.W.findIn K (.ref (He.ga K "Task")) "entry" = some none := c.is 42 rfl
  have g_CL : PySem.W.nsIn K mainGlobals "Layout" = some (some (.ref (He.ga K "Layout"))) := c.is 43 rfl
  have pg_CL : PySem.W.plainGet K (He.ga K "Layout") Str.empty = true := c.is 44 rfl
  have hd_CL : PySem.W.hasDictIn K (He.ga K "Layout") = true := c.is 45 rfl
  have po_CL : PySem.W.plainOver K (He.ga K "Layout") = true := c.is 46 rfl
  have sa_CL : PySem.W.findIn K (.ref (He.ga K "Layout")) "__setattr__" = some (some (.builtin "object.__setattr__")) := c.is 47 rfl
  have mk_CL : PySem.W.makesIn K (He.ga K "Layout") = true := c.is 48 rfl
  have kc_CL : PySem.W.keepIn K (.ref (He.ga K "Layout")) = true := c.is 49 rfl
  have n_forms_CL : PySem.W.findIn K (.ref (He.ga K "Layout")) "_forms" = some none := c.is 50 rfl
  have n_openers_CL : PySem.W.findIn K (.ref (He.ga K "Layout")) "_openers" = some none := c.is 51 rfl
  have n_elses_CL : PySem.W.findIn K (.ref (He.ga K "Layout")) "_elses" = some none := c.is 52 rfl
  have n_ends_CL : PySem.W.findIn K (.ref (He.ga K "Layout")) "_ends" = some none := c.is 53 rfl
  have g_CP : PySem.W.nsIn K mainGlobals "Plan" = some (some (.ref (He.ga K "Plan"))) := c.is 54 rfl
  have pg_CP : PySem.W.plainGet K (He.ga K "Plan") Str.empty = true := c.is 55 rfl
  have hd_CP : PySem.W.hasDictIn K (He.ga K "Plan") = true := c.is 56 rfl
  have po_CP : PySem.W.plainOver K (He.ga K "Plan") = true := c.is 57 rfl
  have sa_CP : PySem.W.findIn K (.ref (He.ga K "Plan")) "__setattr__" = some (some (.builtin "object.__setattr__")) := c.is 58 rfl
  have mk_CP : PySem.W.makesIn K (He.ga K "Plan") = true := c.is 59 rfl
  have kc_CP : PySem.W.keepIn K (.ref (He.ga K "Plan")) = true := c.is 60 rfl
  have ncore_count_CP : PySem.W.findIn K (.ref (He.ga K "Plan")) "core_count" = some none := c.is 61 rfl
  have nslice_length_CP : PySem.W.findIn K (.ref (He.ga K "Plan")) "slice_length" = some none := c.is 62 rfl
  have nlock_names_CP : PySem.W.findIn K (.ref (He.ga K "Plan")) "lock_names" = some none := c.is 63 rfl
  have nlent_names_CP : PySem.W.findIn K (.ref (He.ga K "Plan")) "lent_names" = some none := c.is 64 rfl
  have nqueue_rooms_CP : PySem.W.findIn K (.ref (He.ga K "Plan")) "queue_rooms" = some none := c.is 65 rfl
  have ncell_firsts_CP : PySem.W.findIn K (.ref (He.ga K "Plan")) "cell_firsts" = some none := c.is 66 rfl
  have ntask_plans_CP : PySem.W.findIn K (.ref (He.ga K "Plan")) "task_plans" = some none := c.is 67 rfl
  have nstatements_CP : PySem.W.findIn K (.ref (He.ga K "Plan")) "statements" = some none := c.is 68 rfl
  have g_CG : PySem.W.nsIn K mainGlobals "Program" = some (some (.ref (He.ga K "Program"))) := c.is 69 rfl
  have pg_CG : PySem.W.plainGet K (He.ga K "Program") Str.empty = true := c.is 70 rfl
  have hd_CG : PySem.W.hasDictIn K (He.ga K "Program") = true := c.is 71 rfl
  have po_CG : PySem.W.plainOver K (He.ga K "Program") = true := c.is 72 rfl
  have sa_CG : PySem.W.findIn K (.ref (He.ga K "Program")) "__setattr__" = some (some (.builtin "object.__setattr__")) := c.is 73 rfl
  have mk_CG : PySem.W.makesIn K (He.ga K "Program") = true := c.is 74 rfl
  have kc_CG : PySem.W.keepIn K (.ref (He.ga K "Program")) = true := c.is 75 rfl
  have n_text_CG : PySem.W.findIn K (.ref (He.ga K "Program")) "_text" = some none := c.is 76 rfl
  have n_lines_CG : PySem.W.findIn K (.ref (He.ga K "Program")) "_lines" = some none := c.is 77 rfl
  have n_parts_CG : PySem.W.findIn K (.ref (He.ga K "Program")) "_parts" = some none := c.is 78 rfl
  have n_tasks_CG : PySem.W.findIn K (.ref (He.ga K "Program")) "_tasks" = some none := c.is 79 rfl
  have n_plan_CG : PySem.W.findIn K (.ref (He.ga K "Program")) "_plan" = some none := c.is 80 rfl
  have ha_CG : PySem.W.findIn K (.ref (He.ga K "Program")) "__class__" = some (some (.builtin "object.__class__")) := c.is 81 rfl
  have hn_CG : PySem.W.specialIn K (.builtin "object.__class__") "__get__" = some (some (.builtin "getset_descriptor.__get__")) := c.is 82 rfl
  have htk_CG : PySem.W.takesIn K (.builtin "object.__class__") = some true := c.is 83 rfl
  have hm_CG : PySem.W.mroIn K (He.ga K "Program") (.type "object") = some true := c.is 84 rfl
  have sf_CG : PySem.W.selfFirst K (He.ga K "Program") = true := c.is 85 rfl
  have nf_CG : PySem.W.notFirst K (He.ga K "Program") (.ref (He.ga K "Program")) = true := c.is 86 rfl
  have ic_CG : PySem.W.isClsIn K (He.ga K "Program") = true := c.is 87 rfl
  have ty_CG : PySem.W.typeIn K (.ref (He.ga K "Program")) = some (.type "type") := c.is 88 rfl
  have tNoneType_CG : PySem.W.subIn K (.type "NoneType") (.ref (He.ga K "Program")) = some false := c.is 89 rfl
  have tint_CG : PySem.W.subIn K (.type "int") (.ref (He.ga K "Program")) = some false := c.is 90 rfl
  have tstr_CG : PySem.W.subIn K (.type "str") (.ref (He.ga K "Program")) = some false := c.is 91 rfl
  have ttuple_CG : PySem.W.subIn K (.type "tuple") (.ref (He.ga K "Program")) = some false := c.is 92 rfl
  have tlist_CG : PySem.W.subIn K (.type "list") (.ref (He.ga K "Program")) = some false := c.is 93 rfl
  have a_GTx : PySem.W.findIn K (.ref (He.ga K "Program")) "text" = some (some (.ref (He.ma K (He.ga K "Program") "text"))) := c.is 94 rfl
  have g_GTx : PySem.W.specialIn K (.ref (He.ma K (He.ga K "Program") "text")) "__get__" = some (some (.builtin "property.__get__")) := c.is 95 rfl
  have t_GTx : PySem.W.takesIn K (.ref (He.ma K (He.ga K "Program") "text")) = some true := c.is 96 rfl
  obtain ⟨_, r_GTx⟩ := prB_ok (c.fact 97 rfl)
  obtain ⟨_, DGTx⟩ := c.def_ 0 rfl
  have k_GTx := DGTx.kp
  have FGTx : L2.Fun K "text" "Program.text" sGTx (prG K (He.ga K "Program") "text") _ := fun_of_funD DGTx
  have a_GLn : PySem.W.findIn K (.ref (He.ga K "Program")) "lines" = some (some (.ref (He.ma K (He.ga K "Program") "lines"))) := c.is 98 rfl
  have g_GLn : PySem.W.specialIn K (.ref (He.ma K (He.ga K "Program") "lines")) "__get__" = some (some (.builtin "property.__get__")) := c.is 99 rfl
  have t_GLn : PySem.W.takesIn K (.ref (He.ma K (He.ga K "Program") "lines")) = some true := c.is 100 rfl
  obtain ⟨_, r_GLn⟩ := prB_ok (c.fact 101 rfl)
  obtain ⟨_, DGLn⟩ := c.def_ 1 rfl
  have k_GLn := DGLn.kp
  have FGLn : L2.Fun K "lines" "Program.lines" sGLn (prG K (He.ga K "Program") "lines") _ := fun_of_funD DGLn
  have a_GPa : PySem.W.findIn K (.ref (He.ga K "Program")) "parts" = some (some (.ref (He.ma K (He.ga K "Program") "parts"))) := c.is 102 rfl
  have g_GPa : PySem.W.specialIn K (.ref (He.ma K (He.ga K "Program") "parts")) "__get__" = some (some (.builtin "property.__get__")) := c.is 103 rfl
  have t_GPa : PySem.W.takesIn K (.ref (He.ma K (He.ga K "Program") "parts")) = some true := c.is 104 rfl
  obtain ⟨_, r_GPa⟩ := prB_ok (c.fact 105 rfl)
  obtain ⟨_, DGPa⟩ := c.def_ 2 rfl
  have k_GPa := DGPa.kp
  have FGPa : L2.Fun K "parts" "Program.parts" sGPa (prG K (He.ga K "Program") "parts") _ := fun_of_funD DGPa
  have a_GTk : PySem.W.findIn K (.ref (He.ga K "Program")) "tasks" = some (some (.ref (He.ma K (He.ga K "Program") "tasks"))) := c.is 106 rfl
  have g_GTk : PySem.W.specialIn K (.ref (He.ma K (He.ga K "Program") "tasks")) "__get__" = some (some (.builtin "property.__get__")) := c.is 107 rfl
  have t_GTk : PySem.W.takesIn K (.ref (He.ma K (He.ga K "Program") "tasks")) = some true := c.is 108 rfl
  obtain ⟨_, r_GTk⟩ := prB_ok (c.fact 109 rfl)
  obtain ⟨_, DGTk⟩ := c.def_ 3 rfl
  have k_GTk := DGTk.kp
  have FGTk : L2.Fun K "tasks" "Program.tasks" sGTk (prG K (He.ga K "Program") "tasks") _ := fun_of_funD DGTk
  have g_Ce : PySem.W.nsIn K mainGlobals "SpeedError" = some (some (.ref (He.ga K "SpeedError"))) := c.is 110 rfl
  have ex_Ce : PySem.W.subIn K (.ref (He.ga K "SpeedError")) (.type "BaseException") = some true := c.is 111 rfl
  have ty_Ce : PySem.W.typeIn K (.ref (He.ga K "SpeedError")) = some (.type "type") := c.is 112 rfl
  have hd_Ce : PySem.W.hasDictIn K (He.ga K "SpeedError") = true := c.is 113 rfl
  have g_Cb : PySem.W.nsIn K mainGlobals "BadProgram" = some (some (.ref (He.ga K "BadProgram"))) := c.is 114 rfl
  have xB_Cb := exB_ok (c.fact 115 rfl)
  have sa_Cb : PySem.W.findIn K (.ref (He.ga K "BadProgram")) "__setattr__" = some (some (.builtin "object.__setattr__")) := c.is 116 rfl
  have ex_Cb : PySem.W.subIn K (.ref (He.ga K "BadProgram")) (.type "BaseException") = some true := c.is 117 rfl
  have ty_Cb : PySem.W.typeIn K (.ref (He.ga K "BadProgram")) = some (.type "type") := c.is 118 rfl
  have kc_Cb : PySem.W.keepIn K (.ref (He.ga K "BadProgram")) = true := c.is 119 rfl
  have ga_Cb : PySem.W.findIn K (.ref (He.ga K "BadProgram")) "__getattribute__" = some (some (.builtin "BaseException.__getattribute__")) := c.is 120 rfl
  have gg_Cb : PySem.W.findIn K (.ref (He.ga K "BadProgram")) "__getattr__" = some none := c.is 121 rfl
  have hd_Cb : PySem.W.hasDictIn K (He.ga K "BadProgram") = true := c.is 122 rfl
  have ca_Cb : PySem.W.findIn K (.ref (He.ga K "BadProgram")) "__class__" = some (some (.builtin "object.__class__")) := c.is 123 rfl
  have hm_Cb : PySem.W.mroIn K (He.ga K "BadProgram") (.type "object") = some true := c.is 124 rfl
  have ic_Cb : PySem.W.isClsIn K (He.ga K "BadProgram") = true := c.is 125 rfl
  have ss_Cb : PySem.W.subIn K (.ref (He.ga K "BadProgram")) (.ref (He.ga K "BadProgram")) = some true := c.is 126 rfl
  have nline_Cb : PySem.W.findIn K (.ref (He.ga K "BadProgram")) "line" = some none := c.is 127 rfl
  have a_EBad : PySem.W.findIn K (.ref (He.ga K "BadProgram")) "__init__" = some (some (.ref (He.ma K (He.ga K "BadProgram") "__init__"))) := c.is 128 rfl
  have i_EBad : PySem.W.isFn K (.ref (He.ma K (He.ga K "BadProgram") "__init__")) = true := c.is 129 rfl
  obtain ⟨_, DEBad⟩ := c.def_ 4 rfl
  have k_EBad := DEBad.kp
  have FEBad : L2.Fun K "__init__" "BadProgram.__init__" sEBad (He.ma K (He.ga K "BadProgram") "__init__") _ := fun_of_funD DEBad
  have g_Cd : PySem.W.nsIn K mainGlobals "Doubled" = some (some (.ref (He.ga K "Doubled"))) := c.is 130 rfl
  have xB_Cd := exB_ok (c.fact 131 rfl)
  have sa_Cd : PySem.W.findIn K (.ref (He.ga K "Doubled")) "__setattr__" = some (some (.builtin "object.__setattr__")) := c.is 132 rfl
  have ex_Cd : PySem.W.subIn K (.ref (He.ga K "Doubled")) (.type "BaseException") = some true := c.is 133 rfl
  have ty_Cd : PySem.W.typeIn K (.ref (He.ga K "Doubled")) = some (.type "type") := c.is 134 rfl
  have kc_Cd : PySem.W.keepIn K (.ref (He.ga K "Doubled")) = true := c.is 135 rfl
  have ga_Cd : PySem.W.findIn K (.ref (He.ga K "Doubled")) "__getattribute__" = some (some (.builtin "BaseException.__getattribute__")) := c.is 136 rfl
  have gg_Cd : PySem.W.findIn K (.ref (He.ga K "Doubled")) "__getattr__" = some none := c.is 137 rfl
  have hd_Cd : PySem.W.hasDictIn K (He.ga K "Doubled") = true := c.is 138 rfl
  have ca_Cd : PySem.W.findIn K (.ref (He.ga K "Doubled")) "__class__" = some (some (.builtin "object.__class__")) := c.is 139 rfl
  have hm_Cd : PySem.W.mroIn K (He.ga K "Doubled") (.type "object") = some true := c.is 140 rfl
  have ic_Cd : PySem.W.isClsIn K (He.ga K "Doubled") = true := c.is 141 rfl
  have ss_Cd : PySem.W.subIn K (.ref (He.ga K "Doubled")) (.ref (He.ga K "Doubled")) = some true := c.is 142 rfl
  have nline_Cd : PySem.W.findIn K (.ref (He.ga K "Doubled")) "line" = some none := c.is 143 rfl
  have a_EDbl : PySem.W.findIn K (.ref (He.ga K "Doubled")) "__init__" = some (some (.ref (He.ma K (He.ga K "Doubled") "__init__"))) := c.is 144 rfl
  have i_EDbl : PySem.W.isFn K (.ref (He.ma K (He.ga K "Doubled") "__init__")) = true := c.is 145 rfl
  obtain ⟨_, DEDbl⟩ := c.def_ 5 rfl
  have k_EDbl := DEDbl.kp
  have FEDbl : L2.Fun K "__init__" "Doubled.__init__" sEDbl (He.ma K (He.ga K "Doubled") "__init__") _ := fun_of_funD DEDbl
  have g_Cu : PySem.W.nsIn K mainGlobals "Unnamed" = some (some (.ref (He.ga K "Unnamed"))) := c.is 146 rfl
  have xB_Cu := exB_ok (c.fact 147 rfl)
  have sa_Cu : PySem.W.findIn K (.ref (He.ga K "Unnamed")) "__setattr__" = some (some (.builtin "object.__setattr__")) := c.is 148 rfl
  have ex_Cu : PySem.W.subIn K (.ref (He.ga K "Unnamed")) (.type "BaseException") = some true := c.is 149 rfl
  have ty_Cu : PySem.W.typeIn K (.ref (He.ga K "Unnamed")) = some (.type "type") := c.is 150 rfl
  have kc_Cu : PySem.W.keepIn K (.ref (He.ga K "Unnamed")) = true := c.is 151 rfl
  have ga_Cu : PySem.W.findIn K (.ref (He.ga K "Unnamed")) "__getattribute__" = some (some (.builtin "BaseException.__getattribute__")) := c.is 152 rfl
  have gg_Cu : PySem.W.findIn K (.ref (He.ga K "Unnamed")) "__getattr__" = some none := c.is 153 rfl
  have hd_Cu : PySem.W.hasDictIn K (He.ga K "Unnamed") = true := c.is 154 rfl
  have ca_Cu : PySem.W.findIn K (.ref (He.ga K "Unnamed")) "__class__" = some (some (.builtin "object.__class__")) := c.is 155 rfl
  have hm_Cu : PySem.W.mroIn K (He.ga K "Unnamed") (.type "object") = some true := c.is 156 rfl
  have ic_Cu : PySem.W.isClsIn K (He.ga K "Unnamed") = true := c.is 157 rfl
  have ss_Cu : PySem.W.subIn K (.ref (He.ga K "Unnamed")) (.ref (He.ga K "Unnamed")) = some true := c.is 158 rfl
  have nline_Cu : PySem.W.findIn K (.ref (He.ga K "Unnamed")) "line" = some none := c.is 159 rfl
  have a_EUnn : PySem.W.findIn K (.ref (He.ga K "Unnamed")) "__init__" = some (some (.ref (He.ma K (He.ga K "Unnamed") "__init__"))) := c.is 160 rfl
  have i_EUnn : PySem.W.isFn K (.ref (He.ma K (He.ga K "Unnamed") "__init__")) = true := c.is 161 rfl
  obtain ⟨_, DEUnn⟩ := c.def_ 6 rfl
  have k_EUnn := DEUnn.kp
  have FEUnn : L2.Fun K "__init__" "Unnamed.__init__" sEUnn (He.ma K (He.ga K "Unnamed") "__init__") _ := fun_of_funD DEUnn
  have oc_n : PySem.W.specialIn K (.builtin "object.__class__") "__get__" = some (some (.builtin "getset_descriptor.__get__")) := c.is 162 rfl
  have oc_t : PySem.W.takesIn K (.builtin "object.__class__") = some true := c.is 163 rfl
  have s_Cb_Cd : PySem.W.subIn K (.ref (He.ga K "BadProgram")) (.ref (He.ga K "Doubled")) = some false := c.is 164 rfl
  have s_Cb_Cu : PySem.W.subIn K (.ref (He.ga K "BadProgram")) (.ref (He.ga K "Unnamed")) = some false := c.is 165 rfl
  have s_Cb_Ce : PySem.W.subIn K (.ref (He.ga K "BadProgram")) (.ref (He.ga K "SpeedError")) = some true := c.is 166 rfl
  have s_Cb_V : PySem.W.subIn K (.ref (He.ga K "BadProgram")) (.type "ValueError") = some true := c.is 167 rfl
  have s_Cd_Cb : PySem.W.subIn K (.ref (He.ga K "Doubled")) (.ref (He.ga K "BadProgram")) = some false := c.is 168 rfl
  have s_Cd_Cu : PySem.W.subIn K (.ref (He.ga K "Doubled")) (.ref (He.ga K "Unnamed")) = some false := c.is 169 rfl
  have s_Cd_Ce : PySem.W.subIn K (.ref (He.ga K "Doubled")) (.ref (He.ga K "SpeedError")) = some true := c.is 170 rfl
  have s_Cd_V : PySem.W.subIn K (.ref (He.ga K "Doubled")) (.type "ValueError") = some true := c.is 171 rfl
  have s_Cu_Cb : PySem.W.subIn K (.ref (He.ga K "Unnamed")) (.ref (He.ga K "BadProgram")) = some false := c.is 172 rfl
  have s_Cu_Cd : PySem.W.subIn K (.ref (He.ga K "Unnamed")) (.ref (He.ga K "Doubled")) = some false := c.is 173 rfl
  have s_Cu_Ce : PySem.W.subIn K (.ref (He.ga K "Unnamed")) (.ref (He.ga K "SpeedError")) = some true := c.is 174 rfl
  have s_Cu_V : PySem.W.subIn K (.ref (He.ga K "Unnamed")) (.type "ValueError") = some true := c.is 175 rfl
  have g_fMade : PySem.W.nsIn K mainGlobals "_made_of" = some (some (.ref (He.ga K "_made_of"))) := c.is 176 rfl
  obtain ⟨_, DMade⟩ := c.def_ 7 rfl
  have k_Made := DMade.kp
  have FMade : L2.Fun K "_made_of" "_made_of" sMade (He.ga K "_made_of") _ := fun_of_funD DMade
  have g_fIsName : PySem.W.nsIn K mainGlobals "is_name" = some (some (.ref (He.ga K "is_name"))) := c.is 177 rfl
  obtain ⟨_, DIsName⟩ := c.def_ 8 rfl
  have k_IsName := DIsName.kp
  have FIsName : L2.Fun K "is_name" "is_name" sIsName (He.ga K "is_name") _ := fun_of_funD DIsName
  have g_fRWhole : PySem.W.nsIn K mainGlobals "read_whole" = some (some (.ref (He.ga K "read_whole"))) := c.is 178 rfl
  obtain ⟨_, DRWhole⟩ := c.def_ 9 rfl
  have k_RWhole := DRWhole.kp
  have FRWhole : L2.Fun K "read_whole" "read_whole" sRWhole (He.ga K "read_whole") _ := fun_of_funD DRWhole
  have g_fMostO : PySem.W.nsIn K mainGlobals "_most_opened" = some (some (.ref (He.ga K "_most_opened"))) := c.is 179 rfl
  obtain ⟨_, DMostO⟩ := c.def_ 10 rfl
  have k_MostO := DMostO.kp
  have FMostO : L2.Fun K "_most_opened" "_most_opened" sMostO (He.ga K "_most_opened") _ := fun_of_funD DMostO
  have g_fLastO : PySem.W.nsIn K mainGlobals "_last_outside" = some (some (.ref (He.ga K "_last_outside"))) := c.is 180 rfl
  obtain ⟨_, DLastO⟩ := c.def_ 11 rfl
  have k_LastO := DLastO.kp
  have FLastO : L2.Fun K "_last_outside" "_last_outside" sLastO (He.ga K "_last_outside") _ := fun_of_funD DLastO
  have g_fJoinedT : PySem.W.nsIn K mainGlobals "_joined" = some (some (.ref (He.ga K "_joined"))) := c.is 181 rfl
  obtain ⟨_, DJoinedT⟩ := c.def_ 12 rfl
  have k_JoinedT := DJoinedT.kp
  have FJoinedT : L2.Fun K "_joined" "_joined" sJoinedT (He.ga K "_joined") _ := fun_of_funD DJoinedT
  have g_fRdV : PySem.W.nsIn K mainGlobals "_read_value" = some (some (.ref (He.ga K "_read_value"))) := c.is 182 rfl
  obtain ⟨_, DRdV⟩ := c.def_ 13 rfl
  have k_RdV := DRdV.kp
  have FRdV : L2.Fun K "_read_value" "_read_value" sRdV (He.ga K "_read_value") _ := fun_of_funD DRdV
  have g_fRdS : PySem.W.nsIn K mainGlobals "_read_sum" = some (some (.ref (He.ga K "_read_sum"))) := c.is 183 rfl
  obtain ⟨_, DRdS⟩ := c.def_ 14 rfl
  have k_RdS := DRdS.kp
  have FRdS : L2.Fun K "_read_sum" "_read_sum" sRdS (He.ga K "_read_sum") _ := fun_of_funD DRdS
  have g_fRdP : PySem.W.nsIn K mainGlobals "_read_product" = some (some (.ref (He.ga K "_read_product"))) := c.is 184 rfl
  obtain ⟨_, DRdP⟩ := c.def_ 15 rfl
  have k_RdP := DRdP.kp
  have FRdP : L2.Fun K "_read_product" "_read_product" sRdP (He.ga K "_read_product") _ := fun_of_funD DRdP
  have g_fRdF : PySem.W.nsIn K mainGlobals "_read_factor" = some (some (.ref (He.ga K "_read_factor"))) := c.is 185 rfl
  obtain ⟨_, DRdF⟩ := c.def_ 16 rfl
  have k_RdF := DRdF.kp
  have FRdF : L2.Fun K "_read_factor" "_read_factor" sRdF (He.ga K "_read_factor") _ := fun_of_funD DRdF
  have g_fRdX : PySem.W.nsIn K mainGlobals "read_expression" = some (some (.ref (He.ga K "read_expression"))) := c.is 186 rfl
  obtain ⟨_, DRdX⟩ := c.def_ 17 rfl
  have k_RdX := DRdX.kp
  have FRdX : L2.Fun K "read_expression" "read_expression" sRdX (He.ga K "read_expression") _ := fun_of_funD DRdX
  have g_fVarsO : PySem.W.nsIn K mainGlobals "variables_of" = some (some (.ref (He.ga K "variables_of"))) := c.is 187 rfl
  obtain ⟨_, DVarsO⟩ := c.def_ 18 rfl
  have k_VarsO := DVarsO.kp
  have FVarsO : L2.Fun K "variables_of" "variables_of" sVarsO (He.ga K "variables_of") _ := fun_of_funD DVarsO
  have g_fHasL : PySem.W.nsIn K mainGlobals "_has_length" = some (some (.ref (He.ga K "_has_length"))) := c.is 188 rfl
  obtain ⟨_, DHasL⟩ := c.def_ 19 rfl
  have k_HasL := DHasL.kp
  have FHasL : L2.Fun K "_has_length" "_has_length" sHasL (He.ga K "_has_length") _ := fun_of_funD DHasL
  have g_fRdW : PySem.W.nsIn K mainGlobals "_read_word" = some (some (.ref (He.ga K "_read_word"))) := c.is 189 rfl
  obtain ⟨_, DRdW⟩ := c.def_ 20 rfl
  have k_RdW := DRdW.kp
  have FRdW : L2.Fun K "_read_word" "_read_word" sRdW (He.ga K "_read_word") _ := fun_of_funD DRdW
  have g_fRdSl : PySem.W.nsIn K mainGlobals "_read_slots" = some (some (.ref (He.ga K "_read_slots"))) := c.is 190 rfl
  obtain ⟨_, DRdSl⟩ := c.def_ 21 rfl
  have k_RdSl := DRdSl.kp
  have FRdSl : L2.Fun K "_read_slots" "_read_slots" sRdSl (He.ga K "_read_slots") _ := fun_of_funD DRdSl
  have g_fRdFm : PySem.W.nsIn K mainGlobals "read_form" = some (some (.ref (He.ga K "read_form"))) := c.is 191 rfl
  obtain ⟨_, DRdFm⟩ := c.def_ 22 rfl
  have k_RdFm := DRdFm.kp
  have FRdFm : L2.Fun K "read_form" "read_form" sRdFm (He.ga K "read_form") _ := fun_of_funD DRdFm
  have g_fDeclN : PySem.W.nsIn K mainGlobals "declared_names" = some (some (.ref (He.ga K "declared_names"))) := c.is 192 rfl
  obtain ⟨_, DDeclN⟩ := c.def_ 23 rfl
  have k_DeclN := DDeclN.kp
  have FDeclN : L2.Fun K "declared_names" "declared_names" sDeclN (He.ga K "declared_names") _ := fun_of_funD DDeclN
  have g_fRFms : PySem.W.nsIn K mainGlobals "read_forms" = some (some (.ref (He.ga K "read_forms"))) := c.is 193 rfl
  obtain ⟨_, DRFms⟩ := c.def_ 24 rfl
  have k_RFms := DRFms.kp
  have FRFms : L2.Fun K "read_forms" "read_forms" sRFms (He.ga K "read_forms") _ := fun_of_funD DRFms
  have g_fCDbl : PySem.W.nsIn K mainGlobals "check_doubled" = some (some (.ref (He.ga K "check_doubled"))) := c.is 194 rfl
  obtain ⟨_, DCDbl⟩ := c.def_ 25 rfl
  have k_CDbl := DCDbl.kp
  have FCDbl : L2.Fun K "check_doubled" "check_doubled" sCDbl (He.ga K "check_doubled") _ := fun_of_funD DCDbl
  have g_fCNam : PySem.W.nsIn K mainGlobals "check_named" = some (some (.ref (He.ga K "check_named"))) := c.is 195 rfl
  obtain ⟨_, DCNam⟩ := c.def_ 26 rfl
  have k_CNam := DCNam.kp
  have FCNam : L2.Fun K "check_named" "check_named" sCNam (He.ga K "check_named") _ := fun_of_funD DCNam
  have g_fDMad : PySem.W.nsIn K mainGlobals "_law_made" = some (some (.ref (He.ga K "_law_made"))) := c.is 196 rfl
  obtain ⟨_, DDMad⟩ := c.def_ 27 rfl
  have k_DMad := DDMad.kp
  have FDMad : L2.Fun K "_law_made" "_law_made" sDMad (He.ga K "_law_made") _ := fun_of_funD DDMad
  have g_fPot : PySem.W.nsIn K mainGlobals "_law_pot" = some (some (.ref (He.ga K "_law_pot"))) := c.is 197 rfl
  obtain ⟨_, DPot⟩ := c.def_ 28 rfl
  have k_Pot := DPot.kp
  have FPot : L2.Fun K "_law_pot" "_law_pot" sPot (He.ga K "_law_pot") _ := fun_of_funD DPot
  have g_fTake : PySem.W.nsIn K mainGlobals "_law_take" = some (some (.ref (He.ga K "_law_take"))) := c.is 198 rfl
  obtain ⟨_, DTake⟩ := c.def_ 29 rfl
  have k_Take := DTake.kp
  have FTake : L2.Fun K "_law_take" "_law_take" sTake (He.ga K "_law_take") _ := fun_of_funD DTake
  have g_fOf : PySem.W.nsIn K mainGlobals "_law_of" = some (some (.ref (He.ga K "_law_of"))) := c.is 199 rfl
  obtain ⟨_, DOf⟩ := c.def_ 30 rfl
  have k_Of := DOf.kp
  have FOf : L2.Fun K "_law_of" "_law_of" sOf (He.ga K "_law_of") _ := fun_of_funD DOf
  have g_fDFac : PySem.W.nsIn K mainGlobals "_law_factor" = some (some (.ref (He.ga K "_law_factor"))) := c.is 200 rfl
  obtain ⟨_, DDFac⟩ := c.def_ 31 rfl
  have k_DFac := DDFac.kp
  have FDFac : L2.Fun K "_law_factor" "_law_factor" sDFac (He.ga K "_law_factor") _ := fun_of_funD DDFac
  have g_fDSum : PySem.W.nsIn K mainGlobals "_law_sum" = some (some (.ref (He.ga K "_law_sum"))) := c.is 201 rfl
  obtain ⟨_, DDSum⟩ := c.def_ 32 rfl
  have k_DSum := DDSum.kp
  have FDSum : L2.Fun K "_law_sum" "_law_sum" sDSum (He.ga K "_law_sum") _ := fun_of_funD DDSum
  have g_fDVal : PySem.W.nsIn K mainGlobals "_law_value" = some (some (.ref (He.ga K "_law_value"))) := c.is 202 rfl
  obtain ⟨_, DDVal⟩ := c.def_ 33 rfl
  have k_DVal := DDVal.kp
  have FDVal : L2.Fun K "_law_value" "_law_value" sDVal (He.ga K "_law_value") _ := fun_of_funD DDVal
  have g_fDSaid : PySem.W.nsIn K mainGlobals "_law_said" = some (some (.ref (He.ga K "_law_said"))) := c.is 203 rfl
  obtain ⟨_, DDSaid⟩ := c.def_ 34 rfl
  have k_DSaid := DDSaid.kp
  have FDSaid : L2.Fun K "_law_said" "_law_said" sDSaid (He.ga K "_law_said") _ := fun_of_funD DDSaid
  have g_fDPlain : PySem.W.nsIn K mainGlobals "_law_plain" = some (some (.ref (He.ga K "_law_plain"))) := c.is 204 rfl
  obtain ⟨_, DDPlain⟩ := c.def_ 35 rfl
  have k_DPlain := DDPlain.kp
  have FDPlain : L2.Fun K "_law_plain" "_law_plain" sDPlain (He.ga K "_law_plain") _ := fun_of_funD DDPlain
  have g_fDBlock : PySem.W.nsIn K mainGlobals "_law_block" = some (some (.ref (He.ga K "_law_block"))) := c.is 205 rfl
  obtain ⟨_, DDBlock⟩ := c.def_ 36 rfl
  have k_DBlock := DDBlock.kp
  have FDBlock : L2.Fun K "_law_block" "_law_block" sDBlock (He.ga K "_law_block") _ := fun_of_funD DDBlock
  have g_fDRows : PySem.W.nsIn K mainGlobals "_law_rows" = some (some (.ref (He.ga K "_law_rows"))) := c.is 206 rfl
  obtain ⟨_, DDRows⟩ := c.def_ 37 rfl
  have k_DRows := DDRows.kp
  have FDRows : L2.Fun K "_law_rows" "_law_rows" sDRows (He.ga K "_law_rows") _ := fun_of_funD DDRows
  have g_fRight : PySem.W.nsIn K mainGlobals "_law_right" = some (some (.ref (He.ga K "_law_right"))) := c.is 207 rfl
  obtain ⟨_, DRight⟩ := c.def_ 38 rfl
  have k_Right := DRight.kp
  have FRight : L2.Fun K "_law_right" "_law_right" sRight (He.ga K "_law_right") _ := fun_of_funD DRight
  have g_fLaw : PySem.W.nsIn K mainGlobals "law" = some (some (.ref (He.ga K "law"))) := c.is 208 rfl
  obtain ⟨_, DLaw⟩ := c.def_ 39 rfl
  have k_Law := DLaw.kp
  have FLaw : L2.Fun K "law" "law" sLaw (He.ga K "law") _ := fun_of_funD DLaw
  have a_FInit : PySem.W.findIn K (.ref (He.ga K "Form")) "__init__" = some (some (.ref (He.ma K (He.ga K "Form") "__init__"))) := c.is 209 rfl
  have i_FInit : PySem.W.isFn K (.ref (He.ma K (He.ga K "Form") "__init__")) = true := c.is 210 rfl
  obtain ⟨_, DFInit⟩ := c.def_ 40 rfl
  have k_FInit := DFInit.kp
  have FFInit : L2.Fun K "__init__" "Form.__init__" sFInit (He.ma K (He.ga K "Form") "__init__") _ := fun_of_funD DFInit
  have a_Uses : PySem.W.findIn K (.ref (He.ga K "Form")) "uses" = some (some (.ref (He.ma K (He.ga K "Form") "uses"))) := c.is 211 rfl
  have i_Uses : PySem.W.isFn K (.ref (He.ma K (He.ga K "Form") "uses")) = true := c.is 212 rfl
  obtain ⟨_, DUses⟩ := c.def_ 41 rfl
  have k_Uses := DUses.kp
  have FUses : L2.Fun K "uses" "Form.uses" sUses (He.ma K (He.ga K "Form") "uses") _ := fun_of_funD DUses
  have a_RInit : PySem.W.findIn K (.ref (He.ga K "Reading")) "__init__" = some (some (.ref (He.ma K (He.ga K "Reading") "__init__"))) := c.is 213 rfl
  have i_RInit : PySem.W.isFn K (.ref (He.ma K (He.ga K "Reading") "__init__")) = true := c.is 214 rfl
  obtain ⟨_, DRInit⟩ := c.def_ 42 rfl
  have k_RInit := DRInit.kp
  have FRInit : L2.Fun K "__init__" "Reading.__init__" sRInit (He.ma K (He.ga K "Reading") "__init__") _ := fun_of_funD DRInit
  have a_RForms : PySem.W.findIn K (.ref (He.ga K "Reading")) "forms" = some (some (.ref (He.ma K (He.ga K "Reading") "forms"))) := c.is 215 rfl
  have i_RForms : PySem.W.isFn K (.ref (He.ma K (He.ga K "Reading") "forms")) = true := c.is 216 rfl
  obtain ⟨_, DRForms⟩ := c.def_ 43 rfl
  have k_RForms := DRForms.kp
  have FRForms : L2.Fun K "forms" "Reading.forms" sRForms (He.ma K (He.ga K "Reading") "forms") _ := fun_of_funD DRForms
  have a_RTab : PySem.W.findIn K (.ref (He.ga K "Reading")) "_table" = some (some (.ref (He.ma K (He.ga K "Reading") "_table"))) := c.is 217 rfl
  have i_RTab : PySem.W.isFn K (.ref (He.ma K (He.ga K "Reading") "_table")) = true := c.is 218 rfl
  obtain ⟨_, DRTab⟩ := c.def_ 44 rfl
  have k_RTab := DRTab.kp
  have FRTab : L2.Fun K "_table" "Reading._table" sRTab (He.ma K (He.ga K "Reading") "_table") _ := fun_of_funD DRTab
  have a_RLast : PySem.W.findIn K (.ref (He.ga K "Reading")) "_check_last_task" = some (some (.ref (He.ma K (He.ga K "Reading") "_check_last_task"))) := c.is 219 rfl
  have i_RLast : PySem.W.isFn K (.ref (He.ma K (He.ga K "Reading") "_check_last_task")) = true := c.is 220 rfl
  obtain ⟨_, DRLast⟩ := c.def_ 45 rfl
  have k_RLast := DRLast.kp
  have FRLast : L2.Fun K "_check_last_task" "Reading._check_last_task" sRLast (He.ma K (He.ga K "Reading") "_check_last_task") _ := fun_of_funD DRLast
  have a_RCan : PySem.W.findIn K (.ref (He.ga K "Reading")) "_can_stand" = some (some (.ref (He.ma K (He.ga K "Reading") "_can_stand"))) := c.is 221 rfl
  have i_RCan : PySem.W.isFn K (.ref (He.ma K (He.ga K "Reading") "_can_stand")) = true := c.is 222 rfl
  obtain ⟨_, DRCan⟩ := c.def_ 46 rfl
  have k_RCan := DRCan.kp
  have FRCan : L2.Fun K "_can_stand" "Reading._can_stand" sRCan (He.ma K (He.ga K "Reading") "_can_stand") _ := fun_of_funD DRCan
  have a_RChg : PySem.W.findIn K (.ref (He.ga K "Reading")) "_change_blocks" = some (some (.ref (He.ma K (He.ga K "Reading") "_change_blocks"))) := c.is 223 rfl
  have i_RChg : PySem.W.isFn K (.ref (He.ma K (He.ga K "Reading") "_change_blocks")) = true := c.is 224 rfl
  obtain ⟨_, DRChg⟩ := c.def_ 47 rfl
  have k_RChg := DRChg.kp
  have FRChg : L2.Fun K "_change_blocks" "Reading._change_blocks" sRChg (He.ma K (He.ga K "Reading") "_change_blocks") _ := fun_of_funD DRChg
  have a_REnd : PySem.W.findIn K (.ref (He.ga K "Reading")) "end" = some (some (.ref (He.ma K (He.ga K "Reading") "end"))) := c.is 225 rfl
  have i_REnd : PySem.W.isFn K (.ref (He.ma K (He.ga K "Reading") "end")) = true := c.is 226 rfl
  obtain ⟨_, DREnd⟩ := c.def_ 48 rfl
  have k_REnd := DREnd.kp
  have FREnd : L2.Fun K "end" "Reading.end" sREnd (He.ma K (He.ga K "Reading") "end") _ := fun_of_funD DREnd
  have a_RAdd : PySem.W.findIn K (.ref (He.ga K "Reading")) "add_line" = some (some (.ref (He.ma K (He.ga K "Reading") "add_line"))) := c.is 227 rfl
  have i_RAdd : PySem.W.isFn K (.ref (He.ma K (He.ga K "Reading") "add_line")) = true := c.is 228 rfl
  obtain ⟨_, DRAdd⟩ := c.def_ 49 rfl
  have k_RAdd := DRAdd.kp
  have FRAdd : L2.Fun K "add_line" "Reading.add_line" sRAdd (He.ma K (He.ga K "Reading") "add_line") _ := fun_of_funD DRAdd
  have a_SInit : PySem.W.findIn K (.ref (He.ga K "Statement")) "__init__" = some (some (.ref (He.ma K (He.ga K "Statement") "__init__"))) := c.is 229 rfl
  have i_SInit : PySem.W.isFn K (.ref (He.ma K (He.ga K "Statement") "__init__")) = true := c.is 230 rfl
  obtain ⟨_, DSInit⟩ := c.def_ 50 rfl
  have k_SInit := DSInit.kp
  have FSInit : L2.Fun K "__init__" "Statement.__init__" sSInit (He.ma K (He.ga K "Statement") "__init__") _ := fun_of_funD DSInit
  have a_TInit : PySem.W.findIn K (.ref (He.ga K "Task")) "__init__" = some (some (.ref (He.ma K (He.ga K "Task") "__init__"))) := c.is 231 rfl
  have i_TInit : PySem.W.isFn K (.ref (He.ma K (He.ga K "Task") "__init__")) = true := c.is 232 rfl
  obtain ⟨_, DTInit⟩ := c.def_ 51 rfl
  have k_TInit := DTInit.kp
  have FTInit : L2.Fun K "__init__" "Task.__init__" sTInit (He.ma K (He.ga K "Task") "__init__") _ := fun_of_funD DTInit
  have a_LLd : PySem.W.findIn K (.ref (He.ga K "Layout")) "_landing" = some (some (.ref (He.ma K (He.ga K "Layout") "_landing"))) := c.is 233 rfl
  have i_LLd : PySem.W.isFn K (.ref (He.ma K (He.ga K "Layout") "_landing")) = true := c.is 234 rfl
  obtain ⟨_, DLLd⟩ := c.def_ 52 rfl
  have k_LLd := DLLd.kp
  have FLLd : L2.Fun K "_landing" "Layout._landing" sLLd (He.ma K (He.ga K "Layout") "_landing") _ := fun_of_funD DLLd
  have a_LAs : PySem.W.findIn K (.ref (He.ga K "Layout")) "_aside" = some (some (.ref (He.ma K (He.ga K "Layout") "_aside"))) := c.is 235 rfl
  have i_LAs : PySem.W.isFn K (.ref (He.ma K (He.ga K "Layout") "_aside")) = true := c.is 236 rfl
  obtain ⟨_, DLAs⟩ := c.def_ 53 rfl
  have k_LAs := DLAs.kp
  have FLAs : L2.Fun K "_aside" "Layout._aside" sLAs (He.ma K (He.ga K "Layout") "_aside") _ := fun_of_funD DLAs
  have a_LFt : PySem.W.findIn K (.ref (He.ga K "Layout")) "find_tasks" = some (some (.ref (He.ma K (He.ga K "Layout") "find_tasks"))) := c.is 237 rfl
  have i_LFt : PySem.W.isFn K (.ref (He.ma K (He.ga K "Layout") "find_tasks")) = true := c.is 238 rfl
  obtain ⟨_, DLFt⟩ := c.def_ 54 rfl
  have k_LFt := DLFt.kp
  have FLFt : L2.Fun K "find_tasks" "Layout.find_tasks" sLFt (He.ma K (He.ga K "Layout") "find_tasks") _ := fun_of_funD DLFt
  have a_LFs : PySem.W.findIn K (.ref (He.ga K "Layout")) "find_statements" = some (some (.ref (He.ma K (He.ga K "Layout") "find_statements"))) := c.is 239 rfl
  have i_LFs : PySem.W.isFn K (.ref (He.ma K (He.ga K "Layout") "find_statements")) = true := c.is 240 rfl
  obtain ⟨_, DLFs⟩ := c.def_ 55 rfl
  have k_LFs := DLFs.kp
  have FLFs : L2.Fun K "find_statements" "Layout.find_statements" sLFs (He.ma K (He.ga K "Layout") "find_statements") _ := fun_of_funD DLFs
  have a_LFb : PySem.W.findIn K (.ref (He.ga K "Layout")) "_find_blocks" = some (some (.ref (He.ma K (He.ga K "Layout") "_find_blocks"))) := c.is 241 rfl
  have i_LFb : PySem.W.isFn K (.ref (He.ma K (He.ga K "Layout") "_find_blocks")) = true := c.is 242 rfl
  obtain ⟨_, DLFb⟩ := c.def_ 56 rfl
  have k_LFb := DLFb.kp
  have FLFb : L2.Fun K "_find_blocks" "Layout._find_blocks" sLFb (He.ma K (He.ga K "Layout") "_find_blocks") _ := fun_of_funD DLFb
  have a_LInit : PySem.W.findIn K (.ref (He.ga K "Layout")) "__init__" = some (some (.ref (He.ma K (He.ga K "Layout") "__init__"))) := c.is 243 rfl
  have i_LInit : PySem.W.isFn K (.ref (He.ma K (He.ga K "Layout") "__init__")) = true := c.is 244 rfl
  obtain ⟨_, DLInit⟩ := c.def_ 57 rfl
  have k_LInit := DLInit.kp
  have FLInit : L2.Fun K "__init__" "Layout.__init__" sLInit (He.ma K (He.ga K "Layout") "__init__") _ := fun_of_funD DLInit
  have a_PInit : PySem.W.findIn K (.ref (He.ga K "Plan")) "__init__" = some (some (.ref (He.ma K (He.ga K "Plan") "__init__"))) := c.is 245 rfl
  have i_PInit : PySem.W.isFn K (.ref (He.ma K (He.ga K "Plan") "__init__")) = true := c.is 246 rfl
  obtain ⟨_, DPInit⟩ := c.def_ 58 rfl
  have k_PInit := DPInit.kp
  have FPInit : L2.Fun K "__init__" "Plan.__init__" sPInit (He.ma K (He.ga K "Plan") "__init__") _ := fun_of_funD DPInit
  have a_GInit : PySem.W.findIn K (.ref (He.ga K "Program")) "__init__" = some (some (.ref (He.ma K (He.ga K "Program") "__init__"))) := c.is 247 rfl
  have i_GInit : PySem.W.isFn K (.ref (He.ma K (He.ga K "Program") "__init__")) = true := c.is 248 rfl
  obtain ⟨_, DGInit⟩ := c.def_ 59 rfl
  have k_GInit := DGInit.kp
  have FGInit : L2.Fun K "__init__" "Program.__init__" sGInit (He.ma K (He.ga K "Program") "__init__") _ := fun_of_funD DGInit
  have a_GEq : PySem.W.findIn K (.ref (He.ga K "Program")) "__eq__" = some (some (.ref (He.ma K (He.ga K "Program") "__eq__"))) := c.is 249 rfl
  have i_GEq : PySem.W.isFn K (.ref (He.ma K (He.ga K "Program") "__eq__")) = true := c.is 250 rfl
  obtain ⟨_, DGEq⟩ := c.def_ 60 rfl
  have k_GEq := DGEq.kp
  have FGEq : L2.Fun K "__eq__" "Program.__eq__" sGEq (He.ma K (He.ga K "Program") "__eq__") _ := fun_of_funD DGEq
  have g_aC : PySem.W.nsIn K mainGlobals "CORES" = some (some (.ref (He.ga K "CORES"))) := c.is 251 rfl
  have t_aC : rdTab K (.ref (He.ga K "CORES")) = some Mi.CORES := c.is 252 rfl
  have g_aS : PySem.W.nsIn K mainGlobals "SLICE" = some (some (.ref (He.ga K "SLICE"))) := c.is 253 rfl
  have t_aS : rdTab K (.ref (He.ga K "SLICE")) = some Mi.SLICE := c.is 254 rfl
  have g_aSt : PySem.W.nsIn K mainGlobals "STATEMENTS" = some (some (.ref (He.ga K "STATEMENTS"))) := c.is 255 rfl
  have t_aSt : rdTab K (.ref (He.ga K "STATEMENTS")) = some Mi.STATEMENTS := c.is 256 rfl
  have g_aDe : PySem.W.nsIn K mainGlobals "DECLARATIONS" = some (some (.ref (He.ga K "DECLARATIONS"))) := c.is 257 rfl
  have t_aDe : rdTab K (.ref (He.ga K "DECLARATIONS")) = some Mi.DECLARATIONS := c.is 258 rfl
  have g_aT : PySem.W.nsIn K mainGlobals "TASKS" = some (some (.ref (He.ga K "TASKS"))) := c.is 259 rfl
  have t_aT : rdTab K (.ref (He.ga K "TASKS")) = some Mi.TASKS := c.is 260 rfl
  have g_aK : PySem.W.nsIn K mainGlobals "KEPT" = some (some (.ref (He.ga K "KEPT"))) := c.is 261 rfl
  have t_aK : rdTxts K (.ref (He.ga K "KEPT")) = some Mi.KEPT := c.is 262 rfl
  have g_aB : PySem.W.nsIn K mainGlobals "BLOCKS" = some (some (.ref (He.ga K "BLOCKS"))) := c.is 263 rfl
  have t_aB : rdTxts K (.ref (He.ga K "BLOCKS")) = some [("if" : Str), "while", "repeat"] := c.is 264 rfl
  have g_aD : PySem.W.nsIn K mainGlobals "DECLARES" = some (some (.ref (He.ga K "DECLARES"))) := c.is 265 rfl
  have t_aD : rdDict K (He.ga K "DECLARES") = some declList := c.is 266 rfl
  have d_aD : He.dicW K (He.ga K "DECLARES") = some (He.keysIn w.params ["lock", "lent", "queue", "cell", "part", "task", "later"]) := c.tab 0 rfl
  have g_aM : PySem.W.nsIn K mainGlobals "MOST" = some (some (.ref (He.ga K "MOST"))) := c.is 267 rfl
  have t_aM : rdDict K (He.ga K "MOST") = some mostList := c.is 268 rfl
  have d_aM : He.dicW K (He.ga K "MOST") = some (He.keysIn w.params ["lock", "queue", "cell", "part", "task"]) := c.tab 1 rfl
  have g_aW : PySem.W.nsIn K mainGlobals "WANTED" = some (some (.ref (He.ga K "WANTED"))) := c.is 269 rfl
  have t_aW : rdDict K (He.ga K "WANTED") = some wantList := c.is 270 rfl
  have d_aW : He.dicW K (He.ga K "WANTED") = some (He.keysIn w.params ["LOCK", "QUEUE", "PART", "TASK", "LATER", "VARIABLE"]) := c.tab 2 rfl
  obtain ⟨tkLETTERS, u_LETTERS⟩ := conS_ok (c.fact 271 rfl)
  obtain ⟨tkDIGITS, u_DIGITS⟩ := conS_ok (c.fact 272 rfl)
  obtain ⟨tkLONGEST_NAME, u_LONGEST_NAME⟩ := conI_ok (c.fact 273 rfl)
  obtain ⟨tkGREATEST, u_GREATEST⟩ := conI_ok (c.fact 274 rfl)
  obtain ⟨tkMOST_WORDS, u_MOST_WORDS⟩ := conI_ok (c.fact 275 rfl)
  obtain ⟨tkMOST_OPENED, u_MOST_OPENED⟩ := conI_ok (c.fact 276 rfl)
  obtain ⟨tkMOST_LINES, u_MOST_LINES⟩ := conI_ok (c.fact 277 rfl)
  obtain ⟨tkDEEPEST, u_DEEPEST⟩ := conI_ok (c.fact 278 rfl)
  have z_len : PySem.W.nsIn K mainGlobals "len" = some none := c.is 279 rfl
  have z_abs : PySem.W.nsIn K mainGlobals "abs" = some none := c.is 280 rfl
  have z_int : PySem.W.nsIn K mainGlobals "int" = some none := c.is 281 rfl
  have z_bool : PySem.W.nsIn K mainGlobals "bool" = some none := c.is 282 rfl
  have z_max : PySem.W.nsIn K mainGlobals "max" = some none := c.is 283 rfl
  have z_min : PySem.W.nsIn K mainGlobals "min" = some none := c.is 284 rfl
  have z_range : PySem.W.nsIn K mainGlobals "range" = some none := c.is 285 rfl
  have z_all : PySem.W.nsIn K mainGlobals "all" = some none := c.is 286 rfl
  have z_any : PySem.W.nsIn K mainGlobals "any" = some none := c.is 287 rfl
  have z_isinstance : PySem.W.nsIn K mainGlobals "isinstance" = some none := c.is 288 rfl
  have z_repr : PySem.W.nsIn K mainGlobals "repr" = some none := c.is 289 rfl
  have z_ValueError : PySem.W.nsIn K mainGlobals "ValueError" = some none := c.is 290 rfl
  have z_str : PySem.W.nsIn K mainGlobals "str" = some none := c.is 291 rfl
  have z_tuple : PySem.W.nsIn K mainGlobals "tuple" = some none := c.is 292 rfl
  have z_enumerate : PySem.W.nsIn K mainGlobals "enumerate" = some none := c.is 293 rfl
  have z_zip : PySem.W.nsIn K mainGlobals "zip" = some none := c.is 294 rfl
  have z_reversed : PySem.W.nsIn K mainGlobals "reversed" = some none := c.is 295 rfl
  have z_set : PySem.W.nsIn K mainGlobals "set" = some none := c.is 296 rfl
  have e := hfa.symm.trans (PySem.W.mg_of X G g_fLaw)
  cases e
  have mgo : ∀ {x : Str} {v : Value}, PySem.W.nsIn K mainGlobals x = some (some v) → mg x = some v := fun e => PySem.W.mg_of X G e
  have B : Bi mg := ⟨PySem.W.mg_none_of X G z_len, PySem.W.mg_none_of X G z_abs, PySem.W.mg_none_of X G z_int, PySem.W.mg_none_of X G z_bool, PySem.W.mg_none_of X G z_max, PySem.W.mg_none_of X G z_min, PySem.W.mg_none_of X G z_range, PySem.W.mg_none_of X G z_all, PySem.W.mg_none_of X G z_any, PySem.W.mg_none_of X G z_isinstance⟩
  have zrepr : mg "repr" = none := PySem.W.mg_none_of X G z_repr
  have zValueError : mg "ValueError" = none := PySem.W.mg_none_of X G z_ValueError
  have zstr : mg "str" = none := PySem.W.mg_none_of X G z_str
  have ztuple : mg "tuple" = none := PySem.W.mg_none_of X G z_tuple
  have zenumerate : mg "enumerate" = none := PySem.W.mg_none_of X G z_enumerate
  have zzip : mg "zip" = none := PySem.W.mg_none_of X G z_zip
  have zreversed : mg "reversed" = none := PySem.W.mg_none_of X G z_reversed
  have zset : mg "set" = none := PySem.W.mg_none_of X G z_set
  have clCF : Cls K (He.ga K "Form") := ⟨pg_CF, hd_CF, po_CF, sa_CF⟩
  have clCR : Cls K (He.ga K "Reading") := ⟨pg_CR, hd_CR, po_CR, sa_CR⟩
  have clCS : Cls K (He.ga K "Statement") := ⟨pg_CS, hd_CS, po_CS, sa_CS⟩
  have clCT : Cls K (He.ga K "Task") := ⟨pg_CT, hd_CT, po_CT, sa_CT⟩
  have clCL : Cls K (He.ga K "Layout") := ⟨pg_CL, hd_CL, po_CL, sa_CL⟩
  have clCP : Cls K (He.ga K "Plan") := ⟨pg_CP, hd_CP, po_CP, sa_CP⟩
  have clCG : Cls K (He.ga K "Program") := ⟨pg_CG, hd_CG, po_CG, sa_CG⟩
  have FormC0 : FormC K (He.ga K "Form") := ⟨clCF, nkind_CF, nslots_CF, nfound_CF⟩
  have RdC0 : RdC K (He.ga K "Reading") := ⟨clCR, n_forms_CR, n_blocks_CR⟩
  have StaC0 : StaC K (He.ga K "Statement") := ⟨clCS, nline_CS, nkind_CS, nfound_CS, nonward_CS, naside_CS⟩
  have TskC0 : TskC K (He.ga K "Task") := ⟨clCT, nline_CT, nname_CT, nrank_CT, nis_later_CT, nentry_CT⟩
  have LayC0 : LayC K (He.ga K "Layout") := ⟨clCL, n_forms_CL, n_openers_CL, n_elses_CL, n_ends_CL⟩
  have PlanC0 : PlanC K (He.ga K "Plan") := ⟨clCP, ncore_count_CP, nslice_length_CP, nlock_names_CP, nlent_names_CP, nqueue_rooms_CP, ncell_firsts_CP, ntask_plans_CP, nstatements_CP⟩
  have ProgC0 : ProgC K (He.ga K "Program") := ⟨clCG, n_text_CG, n_lines_CG, n_parts_CG, n_tasks_CG, n_plan_CG⟩
  have TECb : OexC K (He.ga K "BadProgram") := ⟨xB_Cb, sa_Cb, ex_Cb, ty_Cb, kc_Cb⟩
  have TXCb : ErrC K (He.ga K "BadProgram") := ⟨ga_Cb, gg_Cb, ex_Cb, hd_Cb, ca_Cb, oc_n, oc_t, hm_Cb⟩
  have TECd : OexC K (He.ga K "Doubled") := ⟨xB_Cd, sa_Cd, ex_Cd, ty_Cd, kc_Cd⟩
  have TXCd : ErrC K (He.ga K "Doubled") := ⟨ga_Cd, gg_Cd, ex_Cd, hd_Cd, ca_Cd, oc_n, oc_t, hm_Cd⟩
  have TECu : OexC K (He.ga K "Unnamed") := ⟨xB_Cu, sa_Cu, ex_Cu, ty_Cu, kc_Cu⟩
  have TXCu : ErrC K (He.ga K "Unnamed") := ⟨ga_Cu, gg_Cu, ex_Cu, hd_Cu, ca_Cu, oc_n, oc_t, hm_Cu⟩
  have k_Cb_Cd : PySem.W.kitOne K (.ref (He.ga K "BadProgram")) (.ref (He.ga K "Doubled")) = some false := kit_no ic_Cd ty_Cd s_Cb_Cd (fun z => by injection z with z; rw [z, ss_Cd] at s_Cb_Cd; cases s_Cb_Cd)
  have k_Cb_Cu : PySem.W.kitOne K (.ref (He.ga K "BadProgram")) (.ref (He.ga K "Unnamed")) = some false := kit_no ic_Cu ty_Cu s_Cb_Cu (fun z => by injection z with z; rw [z, ss_Cu] at s_Cb_Cu; cases s_Cb_Cu)
  have xECb : PySem.W.exmOne K (.ref (He.ga K "BadProgram")) (.ref (He.ga K "SpeedError")) = some true := PySem.W.exm_ref ex_Ce hd_Ce ty_Ce s_Cb_Ce
  have kVCb : PySem.W.kitOne K (.ref (He.ga K "BadProgram")) (.type "ValueError") = some true := by
    show (if (Value.ref (He.ga K "BadProgram") == Value.type "ValueError") = true then some true else (if PySem.W.kitMeta "ValueError" = true then PySem.W.subIn K (.ref (He.ga K "BadProgram")) (.type "ValueError") else none)) = _
    rw [if_neg (by simp), if_pos (by decide +kernel)]
    exact s_Cb_V
  have k_Cd_Cb : PySem.W.kitOne K (.ref (He.ga K "Doubled")) (.ref (He.ga K "BadProgram")) = some false := kit_no ic_Cb ty_Cb s_Cd_Cb (fun z => by injection z with z; rw [z, ss_Cb] at s_Cd_Cb; cases s_Cd_Cb)
  have k_Cd_Cu : PySem.W.kitOne K (.ref (He.ga K "Doubled")) (.ref (He.ga K "Unnamed")) = some false := kit_no ic_Cu ty_Cu s_Cd_Cu (fun z => by injection z with z; rw [z, ss_Cu] at s_Cd_Cu; cases s_Cd_Cu)
  have xECd : PySem.W.exmOne K (.ref (He.ga K "Doubled")) (.ref (He.ga K "SpeedError")) = some true := PySem.W.exm_ref ex_Ce hd_Ce ty_Ce s_Cd_Ce
  have kVCd : PySem.W.kitOne K (.ref (He.ga K "Doubled")) (.type "ValueError") = some true := by
    show (if (Value.ref (He.ga K "Doubled") == Value.type "ValueError") = true then some true else (if PySem.W.kitMeta "ValueError" = true then PySem.W.subIn K (.ref (He.ga K "Doubled")) (.type "ValueError") else none)) = _
    rw [if_neg (by simp), if_pos (by decide +kernel)]
    exact s_Cd_V
  have k_Cu_Cb : PySem.W.kitOne K (.ref (He.ga K "Unnamed")) (.ref (He.ga K "BadProgram")) = some false := kit_no ic_Cb ty_Cb s_Cu_Cb (fun z => by injection z with z; rw [z, ss_Cb] at s_Cu_Cb; cases s_Cu_Cb)
  have k_Cu_Cd : PySem.W.kitOne K (.ref (He.ga K "Unnamed")) (.ref (He.ga K "Doubled")) = some false := kit_no ic_Cd ty_Cd s_Cu_Cd (fun z => by injection z with z; rw [z, ss_Cd] at s_Cu_Cd; cases s_Cu_Cd)
  have xECu : PySem.W.exmOne K (.ref (He.ga K "Unnamed")) (.ref (He.ga K "SpeedError")) = some true := PySem.W.exm_ref ex_Ce hd_Ce ty_Ce s_Cu_Ce
  have kVCu : PySem.W.kitOne K (.ref (He.ga K "Unnamed")) (.type "ValueError") = some true := by
    show (if (Value.ref (He.ga K "Unnamed") == Value.type "ValueError") = true then some true else (if PySem.W.kitMeta "ValueError" = true then PySem.W.subIn K (.ref (He.ga K "Unnamed")) (.type "ValueError") else none)) = _
    rw [if_neg (by simp), if_pos (by decide +kernel)]
    exact s_Cu_V
  have bGTx := FGTx.binds (ps := PGTx) fun _ _ _ _ _ _ us hl => match us, hl with | [_], _ => rfl
  have bGLn := FGLn.binds (ps := PGLn) fun _ _ _ _ _ _ us hl => match us, hl with | [_], _ => rfl
  have bGPa := FGPa.binds (ps := PGPa) fun _ _ _ _ _ _ us hl => match us, hl with | [_], _ => rfl
  have bGTk := FGTk.binds (ps := PGTk) fun _ _ _ _ _ _ us hl => match us, hl with | [_], _ => rfl
  have bMade := FMade.binds (ps := PMade) fun _ _ _ _ _ _ us hl => match us, hl with | [_, _], _ => rfl
  have bIsName := FIsName.binds (ps := PIsName) fun _ _ _ _ _ _ us hl => match us, hl with | [_], _ => rfl
  have bRWhole := FRWhole.binds (ps := PRWhole) fun _ _ _ _ _ _ us hl => match us, hl with | [_, _, _], _ => rfl
  have bMostO := FMostO.binds (ps := PMostO) fun _ _ _ _ _ _ us hl => match us, hl with | [_], _ => rfl
  have bLastO := FLastO.binds (ps := PLastO) fun _ _ _ _ _ _ us hl => match us, hl with | [_, _], _ => rfl
  have bJoinedT := FJoinedT.binds (ps := PJoinedT) fun _ _ _ _ _ _ us hl => match us, hl with | [_, _, _], _ => rfl
  have bRdV := FRdV.binds (ps := PRdV) fun _ _ _ _ _ _ us hl => match us, hl with | [_], _ => rfl
  have bRdS := FRdS.binds (ps := PRdS) fun _ _ _ _ _ _ us hl => match us, hl with | [_], _ => rfl
  have bRdP := FRdP.binds (ps := PRdP) fun _ _ _ _ _ _ us hl => match us, hl with | [_], _ => rfl
  have bRdF := FRdF.binds (ps := PRdF) fun _ _ _ _ _ _ us hl => match us, hl with | [_], _ => rfl
  have bRdX := FRdX.binds (ps := PRdX) fun _ _ _ _ _ _ us hl => match us, hl with | [_], _ => rfl
  have bVarsO := FVarsO.binds (ps := PVarsO) fun _ _ _ _ _ _ us hl => match us, hl with | [_], _ => rfl
  have bHasL := FHasL.binds (ps := PHasL) fun _ _ _ _ _ _ us hl => match us, hl with | [_, _], _ => rfl
  have bRdW := FRdW.binds (ps := PRdW) fun _ _ _ _ _ _ us hl => match us, hl with | [_, _], _ => rfl
  have bRdSl := FRdSl.binds (ps := PRdSl) fun _ _ _ _ _ _ us hl => match us, hl with | [_, _], _ => rfl
  have bRdFm := FRdFm.binds (ps := PRdFm) fun _ _ _ _ _ _ us hl => match us, hl with | [_, _], _ => rfl
  have bDeclN := FDeclN.binds (ps := PDeclN) fun _ _ _ _ _ _ us hl => match us, hl with | [_, _], _ => rfl
  have bRFms := FRFms.binds (ps := PRFms) fun _ _ _ _ _ _ us hl => match us, hl with | [_], _ => rfl
  have bCDbl := FCDbl.binds (ps := PCDbl) fun _ _ _ _ _ _ us hl => match us, hl with | [_], _ => rfl
  have bCNam := FCNam.binds (ps := PCNam) fun _ _ _ _ _ _ us hl => match us, hl with | [_], _ => rfl
  have bDMad := FDMad.binds (ps := PDMad) fun _ _ _ _ _ _ us hl => match us, hl with | [_], _ => rfl
  have bPot := FPot.binds (ps := PPot) fun _ _ _ _ _ _ us hl => match us, hl with | [_, _], _ => rfl
  have bTake := FTake.binds (ps := PTake) fun _ _ _ _ _ _ us hl => match us, hl with | [_, _], _ => rfl
  have bOf := FOf.binds (ps := POf) fun _ _ _ _ _ _ us hl => match us, hl with | [_, _], _ => rfl
  have bDFac := FDFac.binds (ps := PDFac) fun _ _ _ _ _ _ us hl => match us, hl with | [_, _, _], _ => rfl
  have bDSum := FDSum.binds (ps := PDSum) fun _ _ _ _ _ _ us hl => match us, hl with | [_, _, _], _ => rfl
  have bDVal := FDVal.binds (ps := PDVal) fun _ _ _ _ _ _ us hl => match us, hl with | [_, _, _], _ => rfl
  have bDSaid := FDSaid.binds (ps := PDSaid) fun _ _ _ _ _ _ us hl => match us, hl with | [_, _], _ => rfl
  have bDPlain := FDPlain.binds (ps := PDPlain) fun _ _ _ _ _ _ us hl => match us, hl with | [_, _], _ => rfl
  have bDBlock := FDBlock.binds (ps := PDBlock) fun _ _ _ _ _ _ us hl => match us, hl with | [_, _, _], _ => rfl
  have bDRows := FDRows.binds (ps := PDRows) fun _ _ _ _ _ _ us hl => match us, hl with | [_, _], _ => rfl
  have bRight := FRight.binds (ps := PRight) fun _ _ _ _ _ _ us hl => match us, hl with | [_], _ => rfl
  have bLaw := FLaw.binds (ps := PLaw) fun _ _ _ _ _ _ us hl => match us, hl with | [_], _ => rfl
  have bFInit := FFInit.binds (ps := PFInit) fun _ _ _ _ _ _ us hl => match us, hl with | [_, _, _, _], _ => rfl
  have bUses := FUses.binds (ps := PUses) fun _ _ _ _ _ _ us hl => match us, hl with | [_], _ => rfl
  have bRInit := FRInit.binds (ps := PRInit) fun _ _ _ _ _ _ us hl => match us, hl with | [_], _ => rfl
  have bRForms := FRForms.binds (ps := PRForms) fun _ _ _ _ _ _ us hl => match us, hl with | [_], _ => rfl
  have bRTab := FRTab.binds (ps := PRTab) fun _ _ _ _ _ _ us hl => match us, hl with | [_], _ => rfl
  have bRLast := FRLast.binds (ps := PRLast) fun _ _ _ _ _ _ us hl => match us, hl with | [_], _ => rfl
  have bRCan := FRCan.binds (ps := PRCan) fun _ _ _ _ _ _ us hl => match us, hl with | [_, _], _ => rfl
  have bRChg := FRChg.binds (ps := PRChg) fun _ _ _ _ _ _ us hl => match us, hl with | [_, _], _ => rfl
  have bREnd := FREnd.binds (ps := PREnd) fun _ _ _ _ _ _ us hl => match us, hl with | [_], _ => rfl
  have bRAdd := FRAdd.binds (ps := PRAdd) fun _ _ _ _ _ _ us hl => match us, hl with | [_, _], _ => rfl
  have bSInit := FSInit.binds (ps := PSInit) fun _ _ _ _ _ _ us hl => match us, hl with | [_, _, _, _, _], _ => rfl
  have bTInit := FTInit.binds (ps := PTInit) fun _ _ _ _ _ _ us hl => match us, hl with | [_, _, _, _], _ => rfl
  have bLLd := FLLd.binds (ps := PLLd) fun _ _ _ _ _ _ us hl => match us, hl with | [_, _], _ => rfl
  have bLAs := FLAs.binds (ps := PLAs) fun _ _ _ _ _ _ us hl => match us, hl with | [_, _], _ => rfl
  have bLFt := FLFt.binds (ps := PLFt) fun _ _ _ _ _ _ us hl => match us, hl with | [_], _ => rfl
  have bLFs := FLFs.binds (ps := PLFs) fun _ _ _ _ _ _ us hl => match us, hl with | [_], _ => rfl
  have bLFb := FLFb.binds (ps := PLFb) fun _ _ _ _ _ _ us hl => match us, hl with | [_], _ => rfl
  have bLInit := FLInit.binds (ps := PLInit) fun _ _ _ _ _ _ us hl => match us, hl with | [_, _], _ => rfl
  have bPInit := FPInit.binds (ps := PPInit) fun _ _ _ _ _ _ us hl => match us, hl with | [_, _], _ => rfl
  have bGInit := FGInit.binds (ps := PGInit) fun _ _ _ _ _ _ us hl => match us, hl with | [_, _], _ => rfl
  have bGEq := FGEq.binds (ps := PGEq) fun _ _ _ _ _ _ us hl => match us, hl with | [_, _], _ => rfl
  have bEBad := FEBad.binds (ps := PEBad) fun _ _ _ _ _ _ us hl => match us, hl with | [_, _], _ => rfl
  have bEDbl := FEDbl.binds (ps := PEDbl) fun _ _ _ _ _ _ us hl => match us, hl with | [_, _], _ => rfl
  have bEUnn := FEUnn.binds (ps := PEUnn) fun _ _ _ _ _ _ us hl => match us, hl with | [_, _], _ => rfl
  have TaC := rdTab_at t_aC
  have TaS := rdTab_at t_aS
  have TaSt := rdTab_at t_aSt
  have TaDe := rdTab_at t_aDe
  have TaT := rdTab_at t_aT
  have hKept := rdTxts_at t_aK
  have hBl := rdTxts_at t_aB
  have hDe := declK_of t_aD d_aD
  have hMo := mostK_of t_aM d_aM
  have hWa := wantK_of t_aW d_aW
  have vLETTERS := mgo u_LETTERS
  have vDIGITS := mgo u_DIGITS
  have vLONGEST_NAME := mgo u_LONGEST_NAME
  have vGREATEST := mgo u_GREATEST
  have vMOST_WORDS := mgo u_MOST_WORDS
  have vMOST_OPENED := mgo u_MOST_OPENED
  have vMOST_LINES := mgo u_MOST_LINES
  have vDEEPEST := mgo u_DEEPEST
  intro base _ _
  have eCb : ErrOk l.prog w K mg base "BadProgram" (He.ga K "BadProgram") := ⟨TECb, mgo g_Cb, _, _, a_EBad, beq_iff_eq.mp i_EBad, ok_ebad FEBad TECb nline_Cb, bEBad⟩
  have eCd : ErrOk l.prog w K mg base "Doubled" (He.ga K "Doubled") := ⟨TECd, mgo g_Cd, _, _, a_EDbl, beq_iff_eq.mp i_EDbl, ok_edbl FEDbl TECd nline_Cd, bEDbl⟩
  have eCu : ErrOk l.prog w K mg base "Unnamed" (He.ga K "Unnamed") := ⟨TECu, mgo g_Cu, _, _, a_EUnn, beq_iff_eq.mp i_EUnn, ok_eunn FEUnn TECu nline_Cu, bEUnn⟩
  have cM : CalF l.prog w K mg base 1 "_made_of" spMade := ⟨_, ok_made FMade bMade B, mgo g_fMade, k_Made⟩
  have cN : CalF l.prog w K mg base 2 "is_name" spIsName := ⟨_, ok_isName FIsName bIsName B (mgo g_aK) hKept ⟨_, vLETTERS⟩ ⟨_, vLONGEST_NAME⟩ cM, mgo g_fIsName, k_IsName⟩
  have cW : CalF l.prog w K mg base 2 "read_whole" spRWhole := ⟨_, ok_rwhole FRWhole bRWhole B zstr ⟨_, vDIGITS⟩ cM, mgo g_fRWhole, k_RWhole⟩
  have cMo : CalF l.prog w K mg base 1 "_most_opened" (spMostO K) := ⟨_, ok_mostO FMostO bMostO B, mgo g_fMostO, k_MostO⟩
  have cO : CalF l.prog w K mg base 1 "_last_outside" (spLastO K) := ⟨_, ok_lastO FLastO bLastO B zreversed, mgo g_fLastO, k_LastO⟩
  have cJ : CalF l.prog w K mg base 1 "_joined" spJoined := ⟨_, ok_joined FJoinedT bJoinedT, mgo g_fJoinedT, k_JoinedT⟩
  have rds := ok_readers (P := l.prog) (w := w) (base := base) FRdV bRdV (mgo g_fRdV) k_RdV FRdS bRdS (mgo g_fRdS) k_RdS FRdP bRdP (mgo g_fRdP) k_RdP FRdF bRdF (mgo g_fRdF) k_RdF B ⟨_, vGREATEST⟩ cO cJ cN cW
  have cX : CalF l.prog w K mg base 168 "read_expression" (spRdX K) := ⟨_, ok_rdX FRdX bRdX B ⟨_, vMOST_WORDS⟩ ⟨_, vMOST_OPENED⟩ cMo fun n => (rds n).1, mgo g_fRdX, k_RdX⟩
  have cVo := ok_vars (P := l.prog) (w := w) (base := base) FVarsO bVarsO B zstr (mgo g_fVarsO) k_VarsO 165
  have cRw : CalF l.prog w K mg base 3 "_read_word" (spRdW K) := ⟨_, ok_rdw FRdW bRdW B ztuple (mgo g_aW) hWa cN cW, mgo g_fRdW, k_RdW⟩
  have cRs : CalF l.prog w K mg base 169 "_read_slots" (spRdS K) := ⟨_, ok_rdsl FRdSl bRdSl B ztuple zenumerate cX cRw, mgo g_fRdSl, k_RdSl⟩
  have cHl : CalF l.prog w K mg base 1 "_has_length" (spHasL K) := ⟨_, ok_hasl FHasL bHasL B, mgo g_fHasL, k_HasL⟩
  have mF : MakF l.prog w K mg base 1 "Form" (He.ga K "Form") (spFInit (He.ga K "Form")) := ⟨_, ⟨mk_CF, a_FInit, i_FInit, kc_CF⟩, ok_finit FFInit bFInit FormC0, mgo g_CF⟩
  have cRf : CalF l.prog w K mg base 170 "read_form" (spRdF K (He.ga K "Form")) := ⟨_, ok_rdf FRdFm bRdFm B cHl cRs mF, mgo g_fRdFm, k_RdFm⟩
  have mU : MetF l.prog w K mg base 167 (He.ga K "Form") "uses" (spUses K (He.ga K "Form")) := ⟨_, clCF, ⟨a_Uses, i_Uses, k_Uses⟩, ok_uses FUses bUses B FormC0 zzip (mgo g_aW) hWa cVo⟩
  have cDn : CalF l.prog w K mg base 1 "declared_names" (spDeclN K (He.ga K "Form")) := ⟨_, ok_decln FDeclN bDeclN B FormC0 ztuple (mgo g_aD) hDe, mgo g_fDeclN, k_DeclN⟩
  have mR : MakF l.prog w K mg base 1 "Reading" (He.ga K "Reading") (spRInit (He.ga K "Reading")) := ⟨_, ⟨mk_CR, a_RInit, i_RInit, kc_CR⟩, ok_rinit FRInit bRInit RdC0, mgo g_CR⟩
  have mFo : MetF l.prog w K mg base 1 (He.ga K "Reading") "forms" (spRForms K (He.ga K "Form") (He.ga K "Reading")) := ⟨_, clCR, ⟨a_RForms, i_RForms, k_RForms⟩, ok_rforms FRForms bRForms RdC0 ztuple⟩
  have mT : MetF l.prog w K mg base 2 (He.ga K "Reading") "_table" (spRTab K (He.ga K "Form") (He.ga K "Reading")) := ⟨_, clCR, ⟨a_RTab, i_RTab, k_RTab⟩, ok_rtab FRTab bRTab B RdC0 cDn (mgo g_aC) (mgo g_aS) (mgo g_aSt) (mgo g_aDe) (mgo g_aT) TaC TaS TaSt TaDe TaT⟩
  have mL : MetE l.prog w K mg base (L2.CX l.prog w) 3 (He.ga K "Reading") "_check_last_task" (spRLast K (He.ga K "Form") (He.ga K "Reading") (He.ga K "BadProgram")) := ⟨_, clCR, ⟨a_RLast, i_RLast, k_RLast⟩, ok_rlast FRLast bRLast B FormC0 RdC0 eCb⟩
  have mCn : MetF l.prog w K mg base 2 (He.ga K "Reading") "_can_stand" (spRCan K (He.ga K "Form") (He.ga K "Reading")) := ⟨_, clCR, ⟨a_RCan, i_RCan, k_RCan⟩, ok_rcan FRCan bRCan B RdC0 cDn (mgo g_aD) hDe (mgo g_aM) hMo (mgo g_aB) hBl ⟨_, vDEEPEST⟩⟩
  have mCh : MetF l.prog w K mg base 1 (He.ga K "Reading") "_change_blocks" (spRChg K (He.ga K "Form") (He.ga K "Reading")) := ⟨_, clCR, ⟨a_RChg, i_RChg, k_RChg⟩, ok_rchg FRChg bRChg RdC0 (mgo g_aB) hBl⟩
  have mE : MetE l.prog w K mg base (L2.CX l.prog w) 4 (He.ga K "Reading") "end" (spREnd K (He.ga K "Form") (He.ga K "Reading") (He.ga K "BadProgram")) := ⟨_, clCR, ⟨a_REnd, i_REnd, k_REnd⟩, ok_rend FREnd bREnd B RdC0 eCb mL cDn⟩
  have mA : MetE l.prog w K mg base (L2.CX l.prog w) 171 (He.ga K "Reading") "add_line" (spRAdd K (He.ga K "Form") (He.ga K "Reading") (He.ga K "BadProgram")) := ⟨_, clCR, ⟨a_RAdd, i_RAdd, k_RAdd⟩, ok_radd FRAdd bRAdd B FormC0 RdC0 eCb ⟨_, vMOST_LINES⟩ cRf mT mL mCn mCh⟩
  have cRfm : CalE l.prog w K mg base (L2.CX l.prog w) 172 "read_forms" (spRFms K (He.ga K "Form") (He.ga K "BadProgram")) := ⟨_, ok_rfms FRFms bRFms mR mA mE mFo, mgo g_fRFms, k_RFms⟩
  have cDb : CalE l.prog w K mg base (L2.CX l.prog w) 3 "check_doubled" (spCDbl K (He.ga K "Form") (He.ga K "Doubled")) := ⟨_, ok_cdbl FCDbl bCDbl B FormC0 eCd zenumerate zset (mgo g_aD) hDe, mgo g_fCDbl, k_CDbl⟩
  have cNm : CalE l.prog w K mg base (L2.CX l.prog w) 168 "check_named" (spCNam K (He.ga K "Form") (He.ga K "Unnamed")) := ⟨_, ok_cnam FCNam bCNam B FormC0 eCu zenumerate (mgo g_aD) hDe (mgo g_aW) hWa mU, mgo g_fCNam, k_CNam⟩
  have mSt : MakF l.prog w K mg base 1 "Statement" (He.ga K "Statement") (spSInit (He.ga K "Statement") (He.ga K "Form")) := ⟨_, ⟨mk_CS, a_SInit, i_SInit, kc_CS⟩, ok_sinit FSInit bSInit FormC0 StaC0, mgo g_CS⟩
  have mTs : MakF l.prog w K mg base 1 "Task" (He.ga K "Task") (spTInit K (He.ga K "Task") (He.ga K "Form")) := ⟨_, ⟨mk_CT, a_TInit, i_TInit, kc_CT⟩, ok_tinit FTInit bTInit FormC0 TskC0, mgo g_CT⟩
  have mLd : MetF l.prog w K mg base 1 (He.ga K "Layout") "_landing" (spLLd K (He.ga K "Form") (He.ga K "Layout")) := ⟨_, clCL, ⟨a_LLd, i_LLd, k_LLd⟩, ok_lld FLLd bLLd B FormC0 LayC0 (mgo g_aD) hDe⟩
  have mLa : MetF l.prog w K mg base 2 (He.ga K "Layout") "_aside" (spLLd K (He.ga K "Form") (He.ga K "Layout")) := ⟨_, clCL, ⟨a_LAs, i_LAs, k_LAs⟩, ok_las FLAs bLAs LayC0 mLd⟩
  have mFt : MetF l.prog w K mg base 3 (He.ga K "Layout") "find_tasks" (spLNo K (He.ga K "Form") (He.ga K "Layout")) := ⟨_, clCL, ⟨a_LFt, i_LFt, k_LFt⟩, ok_lft FLFt bLFt FormC0 LayC0 ztuple zenumerate (mgo g_aD) hDe mLd mTs⟩
  have mFs : MetF l.prog w K mg base 3 (He.ga K "Layout") "find_statements" (spLNo K (He.ga K "Form") (He.ga K "Layout")) := ⟨_, clCL, ⟨a_LFs, i_LFs, k_LFs⟩, ok_lfs FLFs bLFs FormC0 LayC0 ztuple zenumerate mLd mLa mSt⟩
  have mFb : MetF l.prog w K mg base 1 (He.ga K "Layout") "_find_blocks" (spLFb K (He.ga K "Form") (He.ga K "Layout")) := ⟨_, clCL, ⟨a_LFb, i_LFb, k_LFb⟩, ok_lfb FLFb bLFb FormC0 LayC0 zenumerate (mgo g_aB) hBl⟩
  have mLy : MakF l.prog w K mg base 2 "Layout" (He.ga K "Layout") (spLInit K (He.ga K "Form") (He.ga K "Layout")) := ⟨_, ⟨mk_CL, a_LInit, i_LInit, kc_CL⟩, ok_linit FLInit bLInit LayC0 mFb, mgo g_CL⟩
  have mPl : MakF l.prog w K mg base 4 "Plan" (He.ga K "Plan") (spPInit K (He.ga K "Form") (He.ga K "Plan")) := ⟨_, ⟨mk_CP, a_PInit, i_PInit, kc_CP⟩, ok_pinit FPInit bPInit FormC0 LayC0 PlanC0 ztuple cDn mLy mFt mFs, mgo g_CP⟩
  have GT : ProgT K (He.ga K "Program") := ⟨ha_CG, hn_CG, htk_CG, hm_CG⟩
  have oNoneType : NoG K (He.ga K "Program") "NoneType" := ⟨kit_no ic_CG ty_CG tNoneType_CG (fun z => nomatch z), notFirst17 tNoneType_CG⟩
  have oint : NoG K (He.ga K "Program") "int" := ⟨kit_no ic_CG ty_CG tint_CG (fun z => nomatch z), notFirst17 tint_CG⟩
  have ostr : NoG K (He.ga K "Program") "str" := ⟨kit_no ic_CG ty_CG tstr_CG (fun z => nomatch z), notFirst17 tstr_CG⟩
  have otuple : NoG K (He.ga K "Program") "tuple" := ⟨kit_no ic_CG ty_CG ttuple_CG (fun z => nomatch z), notFirst17 ttuple_CG⟩
  have olist : NoG K (He.ga K "Program") "list" := ⟨kit_no ic_CG ty_CG tlist_CG (fun z => nomatch z), notFirst17 tlist_CG⟩
  have gi := ok_ginit (P := l.prog) (w := w) (base := base) FGInit bGInit B ProgC0 zstr ztuple eCb cRfm cDb cNm cDn mPl
  have giF := ok_ginitF (P := l.prog) (w := w) (base := base) FGInit bGInit B ProgC0 zstr ztuple eCb cRfm cDb cNm cDn mPl
  have mG : MakE l.prog w K mg base (L2.CX l.prog w) 173 "Program" (He.ga K "Program") (spGInitA K (He.ga K "Program") (He.ga K "BadProgram") (He.ga K "Doubled") (He.ga K "Unnamed")) := ⟨_, ⟨mk_CG, a_GInit, i_GInit, kc_CG⟩, fnR_or gi giF (fun vs H Q E h => ginit_split h), mgo g_CG⟩
  have mG2 : MakF l.prog w K mg base 173 "Program" (He.ga K "Program") (spGInitF K (He.ga K "Program")) := ⟨_, ⟨mk_CG, a_GInit, i_GInit, kc_CG⟩, fnR_calm giF (fun vs H Q E h => h), mgo g_CG⟩
  have cMd : CalF l.prog w K mg base 175 "_law_made" (spMad (He.ga K "Program")) := ⟨_, ok_mad FDMad bDMad B (mgo g_Ce) xECb xECd xECu mG, mgo g_fDMad, k_DMad⟩
  have oE : OpnF l.prog w K mg base 1 (He.ga K "Program") "__eq__" (spGEq K (He.ga K "Program")) := ⟨_, a_GEq, i_GEq, ok_geq FGEq bGEq B ProgC0 GT (mgo g_CG)⟩
  have qGTx : PrpF l.prog w K mg base 1 (He.ga K "Program") "text" (spGTx K (He.ga K "Program")) := ⟨_, _, clCG, ⟨a_GTx, g_GTx, t_GTx, _, r_GTx⟩, ok_GTx FGTx bGTx ProgC0⟩
  have qGLn : PrpF l.prog w K mg base 1 (He.ga K "Program") "lines" (spGLn K (He.ga K "Program")) := ⟨_, _, clCG, ⟨a_GLn, g_GLn, t_GLn, _, r_GLn⟩, ok_GLn FGLn bGLn ProgC0⟩
  have qGPa : PrpF l.prog w K mg base 1 (He.ga K "Program") "parts" (spGPa K (He.ga K "Program")) := ⟨_, _, clCG, ⟨a_GPa, g_GPa, t_GPa, _, r_GPa⟩, ok_GPa FGPa bGPa ProgC0⟩
  have qGTk : PrpF l.prog w K mg base 1 (He.ga K "Program") "tasks" (spGTk K (He.ga K "Program")) := ⟨_, _, clCG, ⟨a_GTk, g_GTk, t_GTk, _, r_GTk⟩, ok_GTk FGTk bGTk ProgC0⟩
  have cP : CalF l.prog w K mg base 1 "_law_pot" (spPot K) := ⟨_, ok_pot FPot bPot B, mgo g_fPot, k_Pot⟩
  have cT : CalF l.prog w K mg base 1 "_law_take" spTake := ⟨_, ok_take FTake bTake B, mgo g_fTake, k_Take⟩
  have cO : CalF l.prog w K mg base 2 "_law_of" spOf := ⟨_, ok_of FOf bOf B cT, mgo g_fOf, k_Of⟩
  have cVal := ok_drawn (P := l.prog) (w := w) (base := base) FDFac bDFac (mgo g_fDFac) k_DFac FDSum bDSum (mgo g_fDSum) k_DSum FDVal bDVal (mgo g_fDVal) k_DVal B cT cO
  have cSd : CalF l.prog w K mg base 12 "_law_said" spSaid := ⟨_, ok_said FDSaid bDSaid B (cVal 2 (by decide)), mgo g_fDSaid, k_DSaid⟩
  have cPl : CalF l.prog w K mg base 13 "_law_plain" spPlain := ⟨_, ok_plain FDPlain bDPlain B zstr cO cSd, mgo g_fDPlain, k_DPlain⟩
  have cBl := ok_blocks (P := l.prog) (w := w) (base := base) FDBlock bDBlock (mgo g_fDBlock) k_DBlock B cT cO cSd cPl
  have cRows : CalF l.prog w K mg base 17 "_law_rows" (spRows 2) := ⟨_, ok_rows FDRows bDRows B zstr zenumerate cT cO 2 (by decide) (cBl 2 (by decide)), mgo g_fDRows, k_DRows⟩
  have cR2 : CalG l.prog w K mg base CX0 176 "_law_right" spRight17 := ⟨_, ok_right FRight bRight B ProgC0 GT nf_CG oNoneType ostr otuple olist oint zrepr zstr ztuple cT cO cRows cMd mG2 oE qGTx qGLn qGPa qGTk, mgo g_fRight, k_Right⟩
  exact ok_law FLaw bLaw B cP cR2

end Ws

open PySem PySem.W PySem.Calls PyProof.Rows
theorem PySem.Challenge.cw_whatspeed_k17_what_a_program_tells_holds : PySem.Challenge.rw_whatspeed_k17_what_a_program_tells.Holds := by
  w_on; o_law
  refine HandSHeadRun.head_any (r := OpenLaw.row PySem.Challenge.rw_whatspeed_k17_what_a_program_tells) (q := Ws.hkQ) (H := Ws.hkH) (ob := Ws.obW 11 1000 Ws.hkFa Ws.hkFn Ws.hkTs) (M := 30000) (loose := Ws.hkN) (d := HandSHeadRun.topDef (OpenLaw.row PySem.Challenge.rw_whatspeed_k17_what_a_program_tells).prog 70) (kwd := []) Ws.obW_eq
    (by kernel_rfl) (fun s => by kernel_rfl) Ws.hkRun (by kernel_rfl) (by kernel_rfl) (by kernel_rfl) (by rfl) (by first | assumption | decide +kernel) (by decide +kernel) ⟨rfl, rfl, rfl, rfl, rfl, by decide +kernel⟩ ?hw ?hc
  case hw => w_witness2
  case hc =>
    refine Ws.walk_W (l := PySem.Challenge.rw_whatspeed_k17_what_a_program_tells) (n := 63) (k := 177) (sp := Ws.spLaw) rfl (by decide) (by kernel_rfl) ⟨rfl, by decide, by decide⟩ ?F (fun _ _ a ns hl _ hS => ⟨a, ns, rfl, hS, hl, fun _ => rfl⟩)
    intro w mg fa h K KX c G hmg
    have e : (HandSHeadRun.topDef (OpenLaw.row PySem.Challenge.rw_whatspeed_k17_what_a_program_tells).prog 70).name = ("law" : PySem.Str) := by kernel_rfl
    rw [e] at hmg
    exact Ws.all_mk KX G hmg c
#print axioms PySem.Challenge.cw_whatspeed_k17_what_a_program_tells_holds

