import PyProof.Rows.All
import Wide.All
import OpenK.AllK
import Wide.FinOn
import HandS.ForMost
import HandS.Star
import HandS.OwnEq
import HandS.Property
import HandS.Gcd
import HandS.Wide
import HandS.IsInst
import HandS.Defaults
import KE.KOpsOwn
import PyProof.InstNe
import HandS.Ends
import PyProof.Rows.ReprR
import HandS.List
import PyProof.ReprBulk
import PyProof.FitsInt
import PyProof.ReprRoads
import PyProof.Conv_bool
import PyProof.Rows.Range3
import HandS.Exc
import HandS.ExcOwn
import HandS.ExcInit
import HandS.WordsExc
import HandS.ExcIs
import KE.KExcIs
import HandS.MakeKwOnly
import HandS.More
import HandS.DeepEq
import HandS.Dict
import PyProof.CallFns
import HandS.Lambda
import HandS.EndBits
import KE.KNestM
import HandS.Style
import HandS.MakeKw
import PySem.Challenge.RW_whatspeed_k01_numbers_of_any_value
set_option Elab.async false
set_option linter.all false
set_option maxRecDepth 100000
set_option maxHeartbeats 4000000
namespace Ws
open PySem PySem.Spec PyProof.Rows L2
/-! ### promises of defs, methods, makers, operators: by show (0 : Int) < _; decide +kernelitional values -/
abbrev Fr1 := FnR
section
variable (P : Program) (w : World) (K : PySem.W.Frag) (mg : Str → Option Value) (base : Heap)
/-- a def of the module, called by its name -/
def CalF (k : Nat) (x : Str) (sp : Sp) : Prop := ∃ f : Addr, FnR P w K mg base CX0 k f sp ∧ mg x = some (.ref f) ∧ PySem.W.keepIn K (.ref f) = true
/-- a class that makes instances, called by its name -/
def MakF (k : Nat) (x : Str) (C : Addr) (sp : Sp) : Prop := ∃ f : Addr, Mk K C f ∧ FnR P w K mg base CX0 k f sp ∧ mg x = some (.ref C)
/-- a method -/
def MetF (k : Nat) (C : Addr) (m : Str) (sp : Sp) : Prop := ∃ f : Addr, Cls K C ∧ Meth K C m f ∧ FnR P w K mg base CX0 k f sp
/-- a special method that an operator calls -/
def OpnF (k : Nat) (C : Addr) (m : Str) (sp : Sp) : Prop := ∃ f : Addr, PySem.W.findIn K (.ref C) m = some (some (.ref f)) ∧ PySem.W.isFn K (.ref f) = true ∧ FnR P w K mg base CX0 k f sp
/-- a property -/
def PrpF (k : Nat) (C : Addr) (m : Str) (sp : Sp) : Prop := ∃ p g : Addr, Cls K C ∧ PropOf K C m p g ∧ FnR P w K mg base CX0 k g sp
/-- instances are called -/
def CloF (k : Nat) (C : Addr) (sp : Sp) : Prop := ∃ g : Addr, StX.CallO K C g ∧ FnR P w K mg base CX0 k g sp
end
section
variable {X : Cx} {k j : Nat} {C f : Addr} {sp : Sp} {x m : Str} {p pos apos : Pos} {e o : Expr} {es : List Expr} {ta : TE} {t : TA}
abbrev CalX (X : Cx) := CalF X.prog X.w X.K X.mg X.base
theorem run_R {pins : List (Addr × Obj)} {σ : L2.St} {H : Hp} {s : Shared} {Q : VK} {us : List Value} {vs : List V} {E : XK} {CX : CXT} (F : FnR X.prog X.w X.K X.mg X.base CX k f sp) (hr : Room k X.A) (hx : Passes CX X E)
    (I : Inv X pins σ H s) (r : Vals vs us) (h : sp vs H Q E) : wpAny (model X.prog X.w) X.A (call (.ref f) us) (EP X pins σ Q) X.xe s := by
  refine wpAny_call (codeAny_mono (run_fnR F hr hx I r h) fun r s' q => ?_)
  cases r with
  | error e => exact q
  | ok fl => cases fl with
    | ret u => exact q
    | next => exact q.elim
    | brk => exact q.elim
    | cont => exact q.elim
/-- f(e, ..) -/
def tF (sp : Sp) (t : TA) : TE := fun σ H Q => t σ H fun vs H1 => sp vs H1 Q E0
theorem pe_f (c : CalF X.prog X.w X.K X.mg X.base k x sp) (hr : Room j X.A) (hk : k ≤ j) (hg : Gl X x) (ha : PA X (e :: es) t) (hdb : (x == ("__debug__" : Str)) = false := by decide)
    (he : starEach (e :: es) X.env = (false, eval e X.env) :: starEach es X.env := by rfl) (hpl : (backTo pos (starEach es X.env)).any (·.1) = false := by rfl) : PE X (.Call (.Name x p) (e :: es) [] pos) (tF sp t) := by
  obtain ⟨f, F, hm, hkp⟩ := c
  refine ⟨fun pins s σ H Q I h => ?_⟩
  refine wpAny_Call_Name_kw (ld_glob I hg hm ?_ hdb)
  refine PySem.W.callWith_K (h₀ := X.base) I.ok.mod.kin hkp (thn (ha.run pos pins s σ H _ I h) fun us s1 ⟨vs, H1, I1, r, q⟩ => ⟨I1.kIn, ?_⟩) he hpl
  exact run_R F (hr.mono hk) pass0 I1 r q
/-- C(e, ..) -/
def tMk (C : Addr) (sp : Sp) (t : TA) : TE := fun σ H Q => t σ H fun vs H1 => ∀ x dx, H1 x = Option.none → H1 dx = Option.none → dx ≠ x → sp (V.ref x :: vs) (upd (upd H1 dx (.own x)) x (.ins C dx [])) (fun v H2 => v = .non ∧ Q (.ref x) H2) E0
theorem pe_mk (c : MakF X.prog X.w X.K X.mg X.base k x C sp) (hr : Room j X.A) (hk : k + 1 ≤ j) (hg : Gl X x) (ha : PA X (e :: es) t) (hdb : (x == ("__debug__" : Str)) = false := by decide)
    (he : starEach (e :: es) X.env = (false, eval e X.env) :: starEach es X.env := by rfl) (hpl : (backTo pos (starEach es X.env)).any (·.1) = false := by rfl) : PE X (.Call (.Name x p) (e :: es) [] pos) (tMk C sp t) := by
  obtain ⟨f, M, F, hm⟩ := c
  exact StX.pe_makeR M F (hr.mono hk) hg hm pass0 ha hdb he hpl
/-- o.m(e, ..) -/
def tMt (C : Addr) (m : Str) (sp : Sp) (ta : TE) (t : TA) : TE := fun σ H Q => ta σ H fun x H1 => ∃ a dx fs, x = .ref a ∧ H1 a = some (.ins C dx fs) ∧ fs.lookup m = none ∧ t σ H1 fun vs H2 => sp (x :: vs) H2 Q E0
theorem pe_mt {pl : Sem Bool} (c : MetF X.prog X.w X.K X.mg X.base k C m sp) (hr : Room j X.A) (hk : k ≤ j) (he : PE X o ta) (ha : PA X (e :: es) t)
    (hst : starEach (e :: es) X.env = (false, eval e X.env) :: starEach es X.env := by rfl) (hpl : (backTo pos (starEach es X.env)).any (·.1) = false := by rfl)
    (ht : eval (.Call (.Attribute o m apos) (e :: es) [] pos) X.env = (do
      let ov ← eval o X.env
      standAt apos.atName
      let (f, first) ← holding [ov] (getMethod ov m pl)
      callWith pos f first (backTo pos (starEach (e :: es) X.env)) (backToKw pos (keywordEach [] X.env))) := by rfl) :
    PE X (.Call (.Attribute o m apos) (e :: es) [] pos) (tMt C m sp ta t) := by
  obtain ⟨f, hc, hm, F⟩ := c
  refine ⟨fun pins s σ H Q I h => ?_⟩
  refine PySem.W.methodCall_KW (pl := pl) (thn (he.run pins s σ H _ I h) fun u s1 ⟨x, H1, I1, rx, a, dx, fs, ex, ea, l, q⟩ => ?_) ht
  subst ex
  obtain rfl : u = Value.ref a := rx
  refine getmeth_ok I1 ea hc hm l ?_
  refine PySem.W.callWith_K (first := [.ref a]) (h₀ := X.base) I.ok.mod.kin hm.kp (thn (ha.run pos pins s1 σ H1 _ I1 q) fun us s2 ⟨vs, H2, I2, r, q2⟩ => ⟨I2.kIn, ?_⟩) hst hpl
  exact run_R (us := .ref a :: us) (vs := .ref a :: vs) F (hr.mono hk) pass0 I2 (.cons rfl r) q2
/-- e.f, a property -/
def tPr (C : Addr) (sp : Sp) (ta : TE) : TE := fun σ H Q => ta σ H fun x H1 => ∃ a dx fs, x = .ref a ∧ H1 a = some (.ins C dx fs) ∧ sp [.ref a] H1 Q E0
theorem pe_pr (c : PrpF X.prog X.w X.K X.mg X.base k C m sp) (hr : Room j X.A) (hk : k + 1 ≤ j) (he : PE X e ta) (hab : attributeBase e m X.env (eval e X.env) = eval e X.env := by rfl) : PE X (.Attribute e m pos) (tPr C sp ta) := by
  obtain ⟨p, g, hc, hp, F⟩ := c
  refine ⟨fun pins s σ H Q I h => ?_⟩
  refine attr_of hab (thn (he.run pins s σ H _ I h) fun u s1 ⟨x, H1, I1, rx, a, dx, fs, ex, ea, q⟩ => ?_)
  subst ex
  obtain rfl : u = Value.ref a := rx
  obtain ⟨mA, O, _, _, _, _⟩ := ins_get I1.hok ea
  obtain ⟨od, J, _⟩ := O.look
  obtain ⟨rest, hrec⟩ := hp.rec_
  have hcs : (PySem.W.clsIn X.K C).isSome = true := by
    obtain ⟨cd, hcd, _⟩ := PySem.W.any_some hc.hd
    rw [hcd]
    rfl
  have I2 := I1.tok (s1.toks + 1)
  have hr1 : Room (k + 1) X.A := hr.mono hk
  refine PySem.W.get_bind I1.kIn J (PySem.W.plainGet_of (hc.get m)).1 (PySem.W.findObj_data hcs hp.at_ hp.get hp.tak) (PySem.W.plainGet_of (hc.get m)).2 (wpAny_call (PySem.W.prop_get (s := { s1 with toks := s1.toks + 1 }) I1.kIn hrec ?_))
  refine codeAny_mono (F X.A.in1 X.stack { s1 with toks := s1.toks + 1 } H1 [.ref a] [.ref a] Q E0 hr1.in1 I2.env0.in1 (.cons rfl .nil) q) fun r s' hq => ?_
  cases r with
  | error er => exact hq.elim
  | ok fl =>
    cases fl with
    | ret u =>
      obtain ⟨v, H', I3, rv, q3⟩ := I2.after hq
      show wpAny _ _ (handedOut u) _ _ _
      rw [PySem.W.handedOut_of (handed_of rv)]
      exact wpAny_pure ⟨v, H', I3, rv, q3⟩
    | next => exact False.elim hq
    | brk => exact False.elim hq
    | cont => exact False.elim hq
/-- an instance called -/
def tClo (C : Addr) (sp : Sp) (tf : TE) (t : TA) : TE := fun σ H Q => tf σ H fun y H1 => ∃ a, y = V.ref a ∧ t σ H1 fun vs H2 => (∃ dx fs, H2 a = some (.ins C dx fs)) ∧ sp (V.ref a :: vs) H2 Q E0
theorem pe_clo {tf : TE} {fe : Expr} (c : CloF X.prog X.w X.K X.mg X.base k C sp) (hr : Room j X.A) (hk : k ≤ j) (hf : PE X fe tf) (ha : PA X (e :: es) t)
    (ht : eval (.Call fe (e :: es) [] pos) X.env = (do callWith pos (← eval fe X.env) [] (backTo pos (starEach (e :: es) X.env)) (backToKw pos (keywordEach [] X.env))) := by rfl)
    (he : starEach (e :: es) X.env = (false, eval e X.env) :: starEach es X.env := by rfl) (hpl : (backTo pos (starEach es X.env)).any (·.1) = false := by rfl) : PE X (.Call fe (e :: es) [] pos) (tClo C sp tf t) := by
  obtain ⟨g, c, F⟩ := c
  refine ⟨fun pins s σ H Q I h => ?_⟩
  refine Call_ (thn (hf.run pins s σ H _ I h) fun u s1 ⟨y, H1, I1, ry, a, ey, q⟩ => ?_) ht
  subst ey
  obtain rfl : u = Value.ref a := ry
  refine StX.callO_with (thn (ha.run pos pins s1 σ H1 _ I1 q) fun us s2 ⟨vs, H2, I2, r, ⟨dx, fs, hi⟩, q2⟩ => ?_) he hpl
  have hi' : StX.InsC X H2 a C := .inr ⟨dx, fs, hi⟩
  obtain ⟨ox, od, J, hd⟩ := StX.insC_at I2 hi'
  exact ⟨⟨C, ox, od, J, hd⟩, StX.run_callO c F (hr.mono hk) pass0 I2 hi' r q2⟩
/-! ### operators -/
/-- the value handed back by an operator's method is never NotImplemented -/
theorem cmpBack {pins : List (Addr × Obj)} {σ : L2.St} {Q : VK} {v : Value} {s : Shared} (h : EP X pins σ Q v s) : PySem.W.CmpBack (EP X pins σ Q) v s := by
  obtain ⟨y, H, I, r, q⟩ := h
  have fin : EP X pins σ Q v s := ⟨y, H, I, r, q⟩
  cases y with
  | non => cases (show v = Value.none from r); exact fin
  | bl b => cases (show v = Value.bool b from r); exact fin
  | int i => obtain ⟨t, e⟩ := (show ∃ t, v = Value.int i t from r); subst e; exact fin
  | str i => obtain ⟨t, e⟩ := (show ∃ t, v = Value.str i t from r); subst e; exact fin
  | byt i => obtain ⟨t, e⟩ := (show ∃ t, v = Value.bytes i t from r); subst e; exact fin
  | flt i => obtain ⟨t, e⟩ := (show ∃ t, v = Value.float i t from r); subst e; exact fin
  | ref a => cases (show v = Value.ref a from r); exact fin
  | ty n => cases (show v = Value.type n from r); exact fin
theorem inst_of {pins : List (Addr × Obj)} {σ : L2.St} {H : Hp} {s : Shared} {a dx : Addr} {fs : List (Str × V)} (I : Inv X pins σ H s) (h : H a = some (.ins C dx fs)) : ∃ ox od, PySem.W.InstAt s.heap a ox C od := by
  obtain ⟨mA, O, _⟩ := ins_get I.hok h
  obtain ⟨od, J, _⟩ := O.look
  exact ⟨_, _, J⟩
/-- a op b, both of the class at C, by its own method -/
def rOwn (C : Addr) (sp : Sp) : R2 := fun x y H Q => ∃ a dx fs b dy gs, x = .ref a ∧ H a = some (.ins C dx fs) ∧ y = .ref b ∧ H b = some (.ins C dy gs) ∧ sp [.ref a, .ref b] H Q E0
theorem op_own {op : Operator} (c : OpnF X.prog X.w X.K X.mg X.base k C (PySem.dunder op.info.2) sp) (hs : PySem.W.selfFirst X.K C = true) (hr : Room j X.A) (hk : k ≤ j) : OpR X (binaryOp op) (rOwn C sp) := by
  obtain ⟨f, h1, h2, F⟩ := c
  intro pins s σ H x y v u Q I rx ry h
  obtain ⟨a, dx, fs, b, dy, gs, rfl, ea, rfl, eb, q⟩ := h
  cases (show v = Value.ref a from rx)
  cases (show u = Value.ref b from ry)
  obtain ⟨ox, od, J⟩ := inst_of I ea
  obtain ⟨oy, oe, J2⟩ := inst_of I eb
  obtain ⟨m, hF⟩ := I.fr
  refine PySem.W.binop_K hF I.ok.mod.kin J J2.type hs h1 h2 ?_
  exact wpAny_mono (run_R (us := [.ref a, .ref b]) (vs := [.ref a, .ref b]) F (hr.mono hk) pass0 I (.cons rfl (.cons rfl .nil)) q) (fun v s' hv => cmpBack hv) fun _ _ z => z
/-- what a value's type is to ==: its typeOf -/
inductive TyL (H : Hp) : V → Value → Prop where
  | non : TyL H .non (.type "NoneType")
  | bl (b : Bool) : TyL H (.bl b) (.type "bool")
  | int (i : Int) : TyL H (.int i) (.type "int")
  | str (x : Str) : TyL H (.str x) (.type "str")
  | lst {a : Addr} {xs : List V} (e : H a = some (.lst xs)) : TyL H (.ref a) (.type "list")
  | tup {a : Addr} {xs : List V} (e : H a = some (.tup xs)) : TyL H (.ref a) (.type "tuple")
  | dK {a : Addr} {xs : List (Key × V)} (e : H a = some (.dK xs)) : TyL H (.ref a) (.type "dict")
  | ins {a C dx : Addr} {fs : List (Str × V)} (e : H a = some (.ins C dx fs)) : TyL H (.ref a) (.ref C)
theorem looks_ref {M : Model} {h : Heap} {a : Addr} {o : Obj} {t : Value} (e : h.get? a = some o) (c : o.cls = t) : PySem.W.Looks M h (typeOf (.ref a)) t := by
  intro A Q E s k q
  subst c
  exact wpAny_typeOf_ref (k _ _ e) q
theorem TyL.looks {pins : List (Addr × Obj)} {σ : L2.St} {H : Hp} {s : Shared} {M : Model} {x : V} {u t : Value} (I : Inv X pins σ H s) (rx : RelV x u) (ty : TyL H x t) : PySem.W.Looks M s.heap (typeOf u) t := by
  cases ty with
  | non => cases (show u = Value.none from rx); exact .of_pure rfl
  | bl b => cases (show u = Value.bool b from rx); exact .of_pure rfl
  | int i => obtain ⟨t, q⟩ := (show ∃ t, u = Value.int i t from rx); subst q; exact .of_pure rfl
  | str i => obtain ⟨t, q⟩ := (show ∃ t, u = Value.str i t from rx); subst q; exact .of_pure rfl
  | @lst a xs e =>
    cases (show u = Value.ref a from rx)
    obtain ⟨_, its, n, _, h1⟩ := (show ObjOk X.prog X.w H s.heap a (.lst xs) from I.hok a _ e)
    exact looks_ref h1 rfl
  | @tup a xs e =>
    cases (show u = Value.ref a from rx)
    obtain ⟨_, its, _, ob, h1, c, _⟩ := (show ObjOk X.prog X.w H s.heap a (.tup xs) from I.hok a _ e)
    exact looks_ref h1 c
  | @dK a xs e =>
    cases (show u = Value.ref a from rx)
    obtain ⟨_, _, vs, _, o, es, ep, h1, h2, _⟩ := (show ObjOk X.prog X.w H s.heap a (.dK xs) from I.hok a _ e)
    exact looks_ref h1 h2.1
  | @ins a C dx fs e =>
    cases (show u = Value.ref a from rx)
    obtain ⟨ox, od, J⟩ := inst_of I e
    exact J.type
/-- a == b by a's own __eq__ -/
def rEqO (K : PySem.W.Frag) (C : Addr) (sp : Sp) : R2 := fun x y H Q => ∃ a dx fs t, x = .ref a ∧ H a = some (.ins C dx fs) ∧ TyL H y t ∧ PySem.W.notFirst K C t = true ∧ sp [.ref a, y] H Q E0
theorem op_eqO (c : OpnF X.prog X.w X.K X.mg X.base k C "__eq__" sp) (hr : Room j X.A) (hk : k ≤ j) : OpR X (compareOp .Eq) (rEqO X.K C sp) := by
  obtain ⟨f, h1, h2, F⟩ := c
  intro pins s σ H x y v u Q I rx ry h
  obtain ⟨a, dx, fs, t, rfl, ea, ty, nf, q⟩ := h
  cases (show v = Value.ref a from rx)
  obtain ⟨ox, od, J⟩ := inst_of I ea
  obtain ⟨m, hF⟩ := I.fr
  refine PySem.W.cmp_ofEq (PySem.W.cmp_K (op := .Eq) hr.units0 hF I.ok.mod.kin J (ty.looks I ry) nf h1 h2 ?_)
  exact wpAny_mono (run_R (us := [.ref a, u]) (vs := [.ref a, y]) F (hr.mono hk) pass0 I (.cons rfl (.cons ry .nil)) q) (fun v s' hv => cmpBack hv) fun _ _ z => z
/-- -a by its own __neg__ -/
def rUnO (C : Addr) (sp : Sp) : V → Hp → VK → Prop := fun x H Q => ∃ a dx fs, x = .ref a ∧ H a = some (.ins C dx fs) ∧ sp [.ref a] H Q E0
theorem un_negO (c : OpnF X.prog X.w X.K X.mg X.base k C "__neg__" sp) (hr : Room j X.A) (hk : k ≤ j) : UnR X (unaryOp .USub) (rUnO C sp) := by
  obtain ⟨f, h1, h2, F⟩ := c
  intro pins s σ H x v Q I rx h
  obtain ⟨a, dx, fs, rfl, ea, q⟩ := h
  cases (show v = Value.ref a from rx)
  obtain ⟨ox, od, J⟩ := inst_of I ea
  obtain ⟨m, hF⟩ := I.fr
  exact PySem.W.ksp_neg hF I.ok.mod.kin J h1 h2 (run_R (us := [.ref a]) (vs := [.ref a]) F (hr.mono hk) pass0 I (.cons rfl .nil) q)
/-- a's truth by its own __bool__ -/
def rTruO (C : Addr) (sp : Sp) : V → Hp → (Bool → Hp → Prop) → Prop := fun x H Q => ∃ a dx fs, x = .ref a ∧ H a = some (.ins C dx fs) ∧ sp [.ref a] H (fun v H' => ∃ b, v = .bl b ∧ Q b H') E0
theorem tru_own (c : OpnF X.prog X.w X.K X.mg X.base k C "__bool__" sp) (hr : Room j X.A) (hk : k ≤ j) : TruR X (rTruO C sp) := by
  obtain ⟨f, h1, h2, F⟩ := c
  intro pins s σ H x v Q I rx h
  obtain ⟨a, dx, fs, rfl, ea, q⟩ := h
  cases (show v = Value.ref a from rx)
  obtain ⟨ox, od, J⟩ := inst_of I ea
  obtain ⟨m, hF⟩ := I.fr
  refine PySem.W.truthy_K hF I.ok.mod.kin J h1 h2 (wpAny_mono (run_R (us := [.ref a]) (vs := [.ref a]) F (hr.mono hk) pass0 I (.cons rfl .nil) q) (fun r s' hv => ?_) fun _ _ z => z)
  obtain ⟨y, H', I', ry, b, rfl, qb⟩ := hv
  cases (show r = Value.bool b from ry)
  exact ⟨H', I', qb⟩
/-- a test by a value's truth -/
def tTru (r : V → Hp → (Bool → Hp → Prop) → Prop) (ta : TE) : TT := fun σ H Q => ta σ H fun x H1 => r x H1 Q
theorem pt_tru {r : V → Hp → (Bool → Hp → Prop) → Prop} {a : Expr} (hT : TruR X r) (ha : PE X a ta) (he : ∀ whole, isTrue a X.env whole = (do let v ← whole; standAt a.pos; holding [v] (truthy v)) := by intro _; rfl) : PT X a (tTru r ta) := by
  refine ⟨fun pins s σ H Q I h => ?_⟩
  exact isTrue_plain (thn (ha.run pins s σ H _ I h) fun v s1 ⟨x, H1, I1, r1, q1⟩ => hT pins s1 σ H1 x v Q I1 r1 q1) (he _)
/-! ### great ints -/
theorem op_powW : OpR X (binaryOp .Pow) (rI (fun i j => 0 ≤ j ∧ (Builtin.Int.intBits i : Int) * j ≤ 2 ^ 27) fun i j => .int (i ^ j.toNat)) := opI fun _ _ _ _ _ _ _ hc q => pow_int hc.1 hc.2 q
theorem op_fdivZ : OpR X (binaryOp .FloorDiv) (rI (fun _ j => j ≠ 0 ∧ j.natAbs.log2 < 9000) fun i j => .int (i.fdiv j)) := opI fun _ _ _ _ _ _ _ hc q => floordiv_int hc.1 q (.inl (PyProof.noPylong_of_log2 hc.2))
end
end Ws
namespace Ws
open PySem PySem.Spec PyProof.Rows L2
/-! ### from a def of the text to its promise -/
section
variable {P : Program} {w : World} {K : PySem.W.Frag} {mg : Str → Option Value} {base : Heap}
theorem fnR_of {x qual : Str} {st : Stmt} {f : Addr} {fd : FuncData} {N ps : List Str} {k : Nat} {sp : Sp} (F : L2.Fun K x qual st f fd) (b : Binds K fd ps []) (S : FnScope N ps (defScope st)) (len : ∀ vs H Q E, sp vs H Q E → vs.length = ps.length)
    (hbody : ∀ (cdv : Value) (A : Around) (outer : List Env) (s : Shared) (H : Hp) (vs : List V) (Q : VK) (E : XK), Room k (A.deeper (envOfC qual (defScope st) s.heap.objs.size f cdv)) → sp vs H Q E →
      ∃ t, PSs (cxOf CX0 P w K mg base N qual (defScope st) f cdv A outer s H E).nox (defBody st) t ∧ t { nx := fun _ H' => Q .non H', rt := Q } (start N vs) H) : FnR P w K mg base CX0 (k + 1) f sp :=
  ((F.ok S len hbody).raw b .nil).imp fun vs H Q E h => by rw [List.append_nil]; exact h
/-- a def with defaults: all of them are handed in, or the last ones are filled up -/
theorem fnD_of {x qual : Str} {st : Stmt} {f : Addr} {fd : FuncData} {N ps : List Str} {k : Nat} {sp sp' : Sp} {dvs dvs' : List V} {ds : List Value} (F : FunD K x qual (defArgs st) (defBody st) (defScope st) dvs [] f fd) (b : Binds K fd ps ds) (d : Vals dvs' ds) (S : FnScope N ps (defScope st)) (len : ∀ vs H Q E, sp vs H Q E → vs.length = ps.length)
    (imp : ∀ vs H Q E, sp' vs H Q E → sp (vs ++ dvs') H Q E)
    (hbody : ∀ (cdv : Value) (A : Around) (outer : List Env) (s : Shared) (H : Hp) (vs : List V) (Q : VK) (E : XK), Room k (A.deeper (envOfC qual (defScope st) s.heap.objs.size f cdv)) → sp vs H Q E →
      ∃ t, PSs (cxOf CX0 P w K mg base N qual (defScope st) f cdv A outer s H E).nox (defBody st) t ∧ t { nx := fun _ H' => Q .non H', rt := Q } (start N vs) H) : FnR P w K mg base CX0 (k + 1) f sp' :=
  ((F.ok (CX := CX0) S len fun cdv A outer s H vs Q E hr h => let ⟨t, h1, h2⟩ := hbody cdv A outer s H vs Q E hr h; ⟨t, h1.nox, h2⟩).raw b d).imp imp
end
/-- names of built-ins that the module doesn't bind -/
structure Bi (mg : Str → Option Value) : Prop where
  len : mg "len" = none
  abs : mg "abs" = none
  int : mg "int" = none
  bool : mg "bool" = none
  max : mg "max" = none
  min : mg "min" = none
  range : mg "range" = none
  all : mg "all" = none
  any : mg "any" = none
  isinstance : mg "isinstance" = none
/-! ### heaps -/
/-- all but what stands at p is as it was -/
def Ch (p : Addr) (H H' : Hp) : Prop := ∀ b o, b ≠ p → H b = some o → H' b = some o
theorem Ch.refl {p : Addr} {H : Hp} : Ch p H H := fun _ _ _ h => h
theorem Ch.trans {p : Addr} {H H1 H2 : Hp} (a : Ch p H H1) (b : Ch p H1 H2) : Ch p H H2 := fun c o n h => b c o n (a c o n h)
theorem Ch.of {p : Addr} {H H' : Hp} (h : Same H H') : Ch p H H' := fun b o _ e => h b o e
theorem Ch.upd {p : Addr} {H : Hp} {o : HO} : Ch p H (L2.upd H p o) := fun b u n e => by rw [upd_ne n]; exact e
theorem Same.new {H : Hp} {p : Addr} {o : HO} (h : H p = none) : Same H (upd H p o) := fun b u e => by rw [upd_ne (ne_of_none e h)]; exact e
theorem Ch.new {q p : Addr} {H : Hp} {o : HO} (h : H p = none) : Ch q H (L2.upd H p o) := Ch.of (Same.new h)
theorem Ch.free {p q : Addr} {H H' : Hp} (c : Ch p H H') (n : q ≠ p) (h : H' q = none) : H q = none := by
  cases e : H q with
  | none => rfl
  | some o => rw [c q o n e] at h; cases h
/-- a fresh instance is laid, then filled by its __init__ -/
theorem Same.mk {H H1 : Hp} {x dx C : Addr} (nx : H x = none) (nd : H dx = none) (k : ∀ b o, (upd (upd H dx (.own x)) x (.ins C dx [])) b = some o → b ≠ x → H1 b = some o) : Same H H1 := fun b o e =>
  k b o (by rw [upd_ne (ne_of_none e nx), upd_ne (ne_of_none e nd)]; exact e) (ne_of_none e nx)
/-! ### fields -/
theorem lk_here {k : Str} {v : V} {r : List (Str × V)} : List.lookup k ((k, v) :: r) = some v := by
  have e : (k == k) = true := beq_self_eq_true k
  simp only [List.lookup, e]
theorem lk_past {k g : Str} {v : V} {r : List (Str × V)} (h : (k == g) = false) : List.lookup k ((g, v) :: r) = List.lookup k r := by
  simp only [List.lookup, h]
theorem put_here {f : Str} {v x : V} {r : List (Str × V)} : putF f v ((f, x) :: r) = (f, v) :: r := if_pos rfl
theorem put_past {f g : Str} {v x : V} {r : List (Str × V)} (h : ¬ g = f) : putF f v ((g, x) :: r) = (g, x) :: putF f v r := if_neg h
end Ws
namespace Ws
theorem ifT {c : Bool} {A B : Prop} (hc : c = true) (h : A) : if c = true then A else B := by rw [if_pos hc]; exact h
theorem ifF {c : Bool} {A B : Prop} (hc : c = false) (h : B) : if c = true then A else B := by rw [hc, if_neg Bool.false_ne_true]; exact h
theorem if2 {c : Bool} {A B : Prop} (h1 : c = true → A) (h2 : c = false → B) : if c = true then A else B := by
  cases c with
  | true => exact ifT rfl (h1 rfl)
  | false => exact ifF rfl (h2 rfl)
end Ws
namespace Ws
open PySem PySem.Spec PyProof.Rows L2
section
variable {X : Cx} {CX : CXT} {k n : Nat} {f C : Addr} {fd : FuncData} {ps ks : List Str} {sp : Sp} {E : XK} {m : Str} {pos apos : Pos} {e o : Expr} {kws : List Keyword} {ta : TE} {tk : TA} {g : List Value → List Value → List Value} {gV : List V → List V → List V}
/-- o.m(k = v, ..) -/
def tMtK (C : Addr) (m : Str) (n : Nat) (sp : Sp) (gV : List V → List V → List V) (E : XK) (ta : TE) (tk : TA) : TE := fun σ H Q => ta σ H fun x H1 => ∃ a dx fs, x = .ref a ∧ H1 a = some (.ins C dx fs) ∧ fs.lookup m = none ∧ tk σ H1 fun zs H2 => zs.length = n ∧ sp (gV [x] zs) H2 Q E
theorem pe_mtK0 {pl : Sem Bool} (c : Cls X.K C) (hm : Meth X.K C m f) (F : FnOk X.prog X.w X.K X.mg X.base CX k f fd ps sp) (hr : Room k X.A) (hb : KBn X.K fd ps 1 ks g gV) (hx : Passes CX X E) (he : PE X o ta) (hkw : PK X kws tk)
    (hall : (backToKw pos (keywordEach kws X.env)).all (·.1.isSome) = true := by rfl) (hks : (backToKw pos (keywordEach kws X.env)).filterMap (·.1) = ks := by rfl)
    (hpl : ((backTo pos (starEach [] X.env)).any (·.1) || (backToKw pos (keywordEach kws X.env)).any (·.1.isNone)) = false := by rfl)
    (ht : eval (.Call (.Attribute o m apos) [] kws pos) X.env = (do
      let ov ← eval o X.env
      standAt apos.atName
      let (f, first) ← holding [ov] (getMethod ov m pl)
      callWith pos f first (backTo pos (starEach [] X.env)) (backToKw pos (keywordEach kws X.env))) := by rfl) :
    PE X (.Call (.Attribute o m apos) [] kws pos) (tMtK C m ks.length sp gV E ta tk) := by
  refine ⟨fun pins s σ H Q I h => ?_⟩
  refine PySem.W.methodCall_KW (pl := pl) (thn (he.run pins s σ H _ I h) fun u s1 ⟨x, H1, I1, rx, a, dx, fs, ex, ea, l, q⟩ => ?_) ht
  subst ex
  obtain rfl : u = Value.ref a := rx
  refine getmeth_ok I1 ea c hm l ?_
  refine PySem.W.callWith_KW0 (first := [.ref a]) (h₀ := X.base) I.ok.mod.kin hm.kp hall ?_ hpl
  refine thn (hkw.run pos pins s1 σ H1 _ I1 q) fun ws s2 ⟨zs, H2, I2, rz, l2, q2⟩ => ⟨I2.kIn, ?_⟩
  rw [hks]
  exact run_fnN (us := [.ref a]) (vs := [.ref a]) F hr hb hx I2 (.cons rfl .nil) rz rfl l2 q2
end
end Ws
namespace Ws
theorem bit_lo (c : Bool) : -(2 ^ 64) < (if c = true then (1 : Int) else 0) ∧ (if c = true then (1 : Int) else 0) < 2 ^ 64 := by cases c <;> decide
theorem bit_nn (c : Bool) : 0 ≤ (if c = true then (1 : Int) else 0) := by cases c <;> decide
end Ws
namespace Ws
open PySem
theorem kit_self {K : PySem.W.Frag} (t : Value) : PySem.W.kitOne K t t = some true := by
  unfold PySem.W.kitOne
  rw [if_pos (by simp)]
end Ws

namespace Ws
/-! ### fractions in lowest terms -/
def gI (t b : Int) : Int := ((Nat.gcd t.natAbs b.natAbs : Nat) : Int)
def gS (t b : Int) : Int := if b < 0 then -(gI t b) else gI t b
def nT (t b : Int) : Int := t.fdiv (gS t b)
def nB (t b : Int) : Int := b.fdiv (gS t b)
theorem gI_pos {t b : Int} (hb : b ≠ 0) : 0 < gI t b := by
  have : 0 < Nat.gcd t.natAbs b.natAbs := Nat.gcd_pos_of_pos_right _ (by omega)
  unfold gI; omega
theorem gS_ne {t b : Int} (hb : b ≠ 0) : gS t b ≠ 0 := by
  have := gI_pos (t := t) hb
  unfold gS; split <;> omega
/-- the reduced pair -/
structure Low (t b p q : Int) : Prop where
  pos : 0 < q
  cross : p * b = t * q
  cop : Nat.gcd p.natAbs q.natAbs = 1
theorem nf_parts {t b : Int} (hb : b ≠ 0) : ∃ t' b' : Int, t = gI t b * t' ∧ b = gI t b * b' ∧ Nat.gcd t'.natAbs b'.natAbs = 1 ∧ b' ≠ 0 := by
  have hg := gI_pos (t := t) hb
  have h1 : gI t b ∣ t := by
    have : Nat.gcd t.natAbs b.natAbs ∣ t.natAbs := Nat.gcd_dvd_left _ _
    have := Int.ofNat_dvd.mpr this
    exact Int.dvd_natAbs.mp this
  have h2 : gI t b ∣ b := by
    have : Nat.gcd t.natAbs b.natAbs ∣ b.natAbs := Nat.gcd_dvd_right _ _
    have := Int.ofNat_dvd.mpr this
    exact Int.dvd_natAbs.mp this
  obtain ⟨t', e1⟩ := h1
  obtain ⟨b', e2⟩ := h2
  refine ⟨t', b', e1, e2, ?_, ?_⟩
  · have e3 : t.natAbs = (gI t b).natAbs * t'.natAbs := by rw [← Int.natAbs_mul, ← e1]
    have e4 : b.natAbs = (gI t b).natAbs * b'.natAbs := by rw [← Int.natAbs_mul, ← e2]
    have e5 : Nat.gcd t.natAbs b.natAbs = (gI t b).natAbs := by unfold gI; simp
    rw [e3, e4, Nat.gcd_mul_left] at e5
    have h0 : 0 < (gI t b).natAbs := by omega
    exact Nat.eq_of_mul_eq_mul_left h0 (by rw [e5, Nat.mul_one])
  · intro z
    rw [z, Int.mul_zero] at e2
    exact hb e2
theorem nf_vals {t b : Int} (hb : b ≠ 0) : ∃ t' b' : Int, t = gI t b * t' ∧ b = gI t b * b' ∧ Nat.gcd t'.natAbs b'.natAbs = 1 ∧ b' ≠ 0 ∧ nT t b = (if b < 0 then -t' else t') ∧ nB t b = (if b < 0 then -b' else b') ∧ (b < 0 ↔ b' < 0) := by
  obtain ⟨t', b', e1, e2, hc, h0⟩ := nf_parts (t := t) hb
  have hg := gI_pos (t := t) hb
  have hs : b < 0 ↔ b' < 0 := by
    constructor
    · intro h
      apply Int.lt_of_not_ge
      intro h2
      have : 0 ≤ gI t b * b' := Int.mul_nonneg (by omega) h2
      omega
    · intro h
      have : gI t b * b' < gI t b * 0 := Int.mul_lt_mul_of_pos_left h hg
      omega
  refine ⟨t', b', e1, e2, hc, h0, ?_, ?_, hs⟩
  · unfold nT gS
    split
    · generalize gI t b = g at *
      subst e1
      rw [show g * t' = -g * -t' by grind, Int.mul_fdiv_cancel_left _ (by omega)]
    · generalize gI t b = g at *
      subst e1
      rw [Int.mul_fdiv_cancel_left _ (by omega)]
  · unfold nB gS
    split
    · generalize gI t b = g at *
      rw [e2, show g * b' = -g * -b' by grind, Int.mul_fdiv_cancel_left _ (by omega)]
    · generalize gI t b = g at *
      rw [e2, Int.mul_fdiv_cancel_left _ (by omega)]
theorem nf_low {t b : Int} (hb : b ≠ 0) : Low t b (nT t b) (nB t b) := by
  obtain ⟨t', b', e1, e2, hc, h0, eT, eB, hs⟩ := nf_vals (t := t) hb
  generalize gI t b = g at *
  rw [eT, eB]
  split
  · rename_i h
    have := hs.mp h
    refine ⟨by omega, by grind, by simpa using hc⟩
  · rename_i h
    have : ¬ b' < 0 := fun z => h (hs.mpr z)
    exact ⟨by omega, by grind, hc⟩
theorem nf_le {t b : Int} (hb : b ≠ 0) : (nT t b).natAbs ≤ t.natAbs ∧ (nB t b).natAbs ≤ b.natAbs := by
  obtain ⟨t', b', e1, e2, hc, h0, eT, eB, hs⟩ := nf_vals (t := t) hb
  have hg := gI_pos (t := t) hb
  have e3 : t.natAbs = (gI t b).natAbs * t'.natAbs := by rw [← Int.natAbs_mul, ← e1]
  have e4 : b.natAbs = (gI t b).natAbs * b'.natAbs := by rw [← Int.natAbs_mul, ← e2]
  have h0 : 1 ≤ (gI t b).natAbs := by omega
  have k1 : t'.natAbs ≤ t.natAbs := by rw [e3]; exact Nat.le_mul_of_pos_left _ h0
  have k2 : b'.natAbs ≤ b.natAbs := by rw [e4]; exact Nat.le_mul_of_pos_left _ h0
  rw [eT, eB]
  by_cases h : b < 0
  · rw [if_pos h, if_pos h]
    constructor <;> omega
  · rw [if_neg h, if_neg h]
    exact ⟨k1, k2⟩
theorem low_uniq {p q r s : Int} (h : p * s = r * q) (hq : 0 < q) (hs : 0 < s) (h1 : Nat.gcd p.natAbs q.natAbs = 1) (h2 : Nat.gcd r.natAbs s.natAbs = 1) : p = r ∧ q = s := by
  have e : p.natAbs * s.natAbs = r.natAbs * q.natAbs := by rw [← Int.natAbs_mul, ← Int.natAbs_mul, h]
  have d1 : q.natAbs ∣ s.natAbs := by
    have c : Nat.Coprime q.natAbs p.natAbs := by rw [Nat.coprime_comm]; exact h1
    exact c.dvd_of_dvd_mul_left ⟨r.natAbs, by rw [e, Nat.mul_comm]⟩
  have d2 : s.natAbs ∣ q.natAbs := by
    have c : Nat.Coprime s.natAbs r.natAbs := by rw [Nat.coprime_comm]; exact h2
    exact c.dvd_of_dvd_mul_left ⟨p.natAbs, by rw [← e, Nat.mul_comm]⟩
  have e2 : q.natAbs = s.natAbs := Nat.dvd_antisymm d1 d2
  have e3 : q = s := by omega
  subst e3
  exact ⟨Int.eq_of_mul_eq_mul_right (by omega) h, rfl⟩
/-- a reduced pair is the reduced pair of anything that it crosses with -/
theorem Low.eq {t b p q c d r s : Int} (h : Low t b p q) (h' : Low c d r s) (hb : b ≠ 0) (hd : d ≠ 0) (e : t * d = c * b) : p = r ∧ q = s := by
  refine low_uniq ?_ h.pos h'.pos h.cop h'.cop
  have e1 := h.cross
  have e2 := h'.cross
  have : (p * s) * (b * d) = (r * q) * (b * d) := by grind
  exact Int.eq_of_mul_eq_mul_right (Int.mul_ne_zero hb hd) this
theorem Low.ne {t b p q c d r s : Int} (h : Low t b p q) (h' : Low c d r s) (hb : b ≠ 0) (hd : d ≠ 0) (e : t * d ≠ c * b) : ¬ (p = r ∧ q = s) := by
  rintro ⟨rfl, rfl⟩
  refine e ?_
  have e1 := h.cross
  have e2 := h'.cross
  have : (t * d) * q = (c * b) * q := by grind
  exact Int.eq_of_mul_eq_mul_right (by have := h.pos; omega) this
theorem nf_eq {t b c d : Int} (hb : b ≠ 0) (hd : d ≠ 0) (e : t * d = c * b) : nT t b = nT c d ∧ nB t b = nB c d := (nf_low hb).eq (nf_low hd) hb hd e
theorem nf_ne {t b c d : Int} (hb : b ≠ 0) (hd : d ≠ 0) (e : t * d ≠ c * b) : ¬ (nT t b = nT c d ∧ nB t b = nB c d) := (nf_low hb).ne (nf_low hd) hb hd e
/-- the law's own reckoning -/
theorem nf_least {t b : Int} (hb : b ≠ 0) : ((if b < 0 then -1 else 1) * t) / gI t b = nT t b ∧ (if b < 0 then -b else b) / gI t b = nB t b := by
  obtain ⟨t', b', e1, e2, hc, h0, eT, eB, hs⟩ := nf_vals (t := t) hb
  have hg := gI_pos (t := t) hb
  rw [eT, eB]
  generalize gI t b = g at *
  subst e1
  split
  · refine ⟨?_, ?_⟩
    · rw [show -1 * (g * t') = g * -t' by grind, Int.mul_ediv_cancel_left _ (by omega)]
    · rw [e2, show -(g * b') = g * -b' by grind, Int.mul_ediv_cancel_left _ (by omega)]
  · refine ⟨?_, ?_⟩
    · rw [Int.one_mul, Int.mul_ediv_cancel_left _ (by omega)]
    · rw [e2, Int.mul_ediv_cancel_left _ (by omega)]
/-- one turn of Euclid's loop -/
theorem gcd_turn {a b : Int} (ha : 0 ≤ a) (hb : 0 < b) : Nat.gcd b.natAbs (a % b).natAbs = Nat.gcd a.natAbs b.natAbs := by
  rw [Int.natAbs_emod_of_nonneg ha, Nat.gcd_comm a.natAbs, Nat.gcd_rec b.natAbs a.natAbs, Nat.gcd_comm]
/-! ### sizes -/
/-- less than n bits -/
def Sz (n : Nat) (i : Int) : Prop := i.natAbs < 2 ^ n
theorem Sz.mono {n m : Nat} {i : Int} (h : Sz n i) (hm : n ≤ m) : Sz m i := Nat.lt_of_lt_of_le h (Nat.pow_le_pow_right (by decide) hm)
theorem Sz.mul {n m : Nat} {i j : Int} (h : Sz n i) (h' : Sz m j) : Sz (n + m) (i * j) := by
  unfold Sz at *
  rw [Int.natAbs_mul, Nat.pow_add]
  exact Nat.mul_lt_mul'' h h'
theorem Sz.add {n : Nat} {i j : Int} (h : Sz n i) (h' : Sz n j) : Sz (n + 1) (i + j) := by
  unfold Sz at *
  rw [Nat.pow_succ]
  omega
theorem Sz.sub {n : Nat} {i j : Int} (h : Sz n i) (h' : Sz n j) : Sz (n + 1) (i - j) := by
  unfold Sz at *
  rw [Nat.pow_succ]
  omega
theorem Sz.neg {n : Nat} {i : Int} (h : Sz n i) : Sz n (-i) := by
  unfold Sz at *
  omega
theorem Sz.nT {n : Nat} {t b : Int} (hb : b ≠ 0) (h : Sz n t) : Sz n (nT t b) := Nat.lt_of_le_of_lt (nf_le hb).1 h
theorem Sz.nB {n : Nat} {t b : Int} (hb : b ≠ 0) (h : Sz n b) : Sz n (nB t b) := Nat.lt_of_le_of_lt (nf_le hb).2 h
theorem Sz.gI {n : Nat} {t b : Int} (hb : b ≠ 0) (h : Sz n b) : Sz n (gI t b) := by
  refine Nat.lt_of_le_of_lt ?_ h
  unfold Ws.gI
  exact Nat.le_of_dvd (by omega) (Nat.gcd_dvd_right _ _)
theorem Sz.of_abs {n : Nat} {i : Int} (h : i.natAbs < 2 ^ n) : Sz n i := h
end Ws
namespace Ws
/-- a reduced pair is that of any other pair that crosses with the first one -/
theorem Low.base {t b p q c d : Int} (h : Low t b p q) (hb : b ≠ 0) (e : t * d = c * b) : Low c d p q := by
  refine ⟨h.pos, ?_, h.cop⟩
  have e1 := h.cross
  have : (p * d) * b = (c * q) * b := by grind
  exact Int.eq_of_mul_eq_mul_right hb this
theorem Low.nf {t b p q : Int} (h : Low t b p q) (hb : b ≠ 0) : p = nT t b ∧ q = nB t b := h.eq (nf_low hb) hb hb rfl
theorem Low.szT {t b p q : Int} {n : Nat} (h : Low t b p q) (hb : b ≠ 0) (z : Sz n t) : Sz n p := by rw [(h.nf hb).1]; exact z.nT hb
theorem Low.szB {t b p q : Int} {n : Nat} (h : Low t b p q) (hb : b ≠ 0) (z : Sz n b) : Sz n q := by rw [(h.nf hb).2]; exact z.nB hb
theorem Low.zero {t b p q : Int} (h : Low t b p q) (hb : b ≠ 0) : p = 0 ↔ t = 0 := by
  have e := h.cross
  have hq := h.pos
  constructor
  · intro z
    rw [z, Int.zero_mul] at e
    rcases Int.mul_eq_zero.mp e.symm with z | z
    · exact z
    · omega
  · intro z
    rw [z, Int.zero_mul] at e
    rcases Int.mul_eq_zero.mp e with z | z
    · exact z
    · exact absurd z hb
theorem Low.self {t b p q : Int} (h : Low t b p q) (hb : b ≠ 0) : Low p q p q := ⟨h.pos, rfl, h.cop⟩
end Ws

namespace Ws
open PySem PySem.W PySem.Calls PyProof.Rows
/-- what a class with an own __eq__ and no __ne__ must be -/
structure NeC (K : Frag) (C : Addr) : Prop where
  ne : findIn K (.ref C) "__ne__" = some (some (.builtin "object.__ne__"))
  obj : ∃ (nm q : Str) (N : Addr) (bs bm : List Value) (hd : Bool) (sn : List Str) (sub : List Value) (ab : Bool) (col : Option Bool) (dd : Option Addr) (k0 k1 k2 k3 k5 : Option Value) (nid : String),
    K.lookup C = some (excClassObj nm q C N bs bm hd sn sub ab col dd k0 k1 k2 k3 k5 nid) ∧ bm.contains (.type "object") = true
section
variable {prog : Program} {w : World} {A : Around} {E : Value → Shared → Prop} {s : Shared} {K : Frag} {x C L f : Addr} {h₀ : Heap} {m : Str → Option Value} {ox : Obj} {od : Option Obj} {b tb : Value}
theorem ifBound_B {M : Model} {args : List Value} {Q : Option Value → Shared → Prop} (X : K.In s.heap) (I : InstAt s.heap x ox C od) (hs : findIn K (.ref C) "__ne__" = some (some (.builtin "object.__ne__")))
    (h : wpAny M A (call (.builtin "object.__ne__") (.ref x :: args)) (fun v => Q (some v)) E s) : wpAny M A (callSpecialIfBound? (.ref x) "__ne__" args) Q E s := by
  simp only [callSpecialIfBound?, bindSpecialIfBound?]
  refine wpAny_holding (wpAny_bind (wpAny_bind (wpAny_bind (I.type.here ((looks_findIn X hs).here ?_)))))
  dsimp only
  simp only [PySem.F.cmp_object.ne.bind]
  have fin : wpAny M A (call (.builtin "object.__ne__") ([.ref x] ++ args) >>= fun v => pure (some v)) Q E s := wpAny_bind (wpAny_mono h (fun v s' h' => wpAny_pure h') fun _ _ h' => h')
  refine wpAny_bind (wpAny_askSetting (wpAny_ite ?_))
  split
  · exact wpAny_bind (wpAny_pure (wpAny_pure (by exact fin)))
  · exact wpAny_tryCatch (wpAny_bind (wpAny_pure (wpAny_pure (by exact fin))))
theorem objNe_K (hu : A.units < cLine) (X : K.In s.heap) (I : InstAt s.heap x ox C od) (hs : findIn K (.ref C) "__eq__" = some (some (.ref f))) (hf : isFn K (.ref f) = true) {Q : Fin → Shared → Prop}
    (hcall : wpAny (model prog w) A (call (.ref f) [.ref x, b]) (fun v s' => ∃ r, v = .bool r ∧ Q (.done (.ret (.bool (!r)))) s') E s) : wpAny (model prog w) A (Builtin.«object.__ne__» ⟨[.ref x, b], []⟩) Q E s := by
  obtain ⟨h, g, d, t, os⟩ := s
  unfold Builtin.«object.__ne__»
  repeat (first
    | with_reducible refine wpAny_cRoomFor hu ?_
    | (refine wpAny_bind (m := callSpecialIfBound? (.ref x) (Str.ofString "__eq__") [b])
        (ifBound_K X I hs hf (wpAny_mono hcall (fun r s' hr => by
          obtain ⟨r, rfl, hq⟩ := hr
          repeat (first | exact hq | exact wpAny_pure hq | exact wpAny_truthy_bool hq | (refine wpAny_bind (m := truthy (.bool _)) (wpAny_truthy_bool ?_)) | wp_step)) fun _ _ e => e)))
    | wp_step)
theorem ne_K (N : NeC K C) (hu : A.units + 1 < cLine) (F : Fr h₀ L s.heap m) (X₀ : K.In h₀) (I : InstAt s.heap x ox C od) (hb : Looks (model prog w) s.heap (typeOf b) tb) (hn : notFirst K C tb = true)
    (hs : findIn K (.ref C) "__eq__" = some (some (.ref f))) (hf : isFn K (.ref f) = true) {Q : Value → Shared → Prop}
    (h : wpAny (model prog w) A.in1 (call (.ref f) [.ref x, b]) (fun v s' => ∃ r, v = .bool r ∧ Q (.bool (!r)) s') E s) : wpAny (model prog w) A (compareOp .NotEq (.ref x) b) Q E s := by
  have X := X₀.keeps F.keep
  obtain ⟨hne, nm, q, N, bs, bm, hd, sn, sub, ab, col, dd, k0, k1, k2, k3, k5, nid, hC, hbm⟩ := N
  have one : wpAny (model prog w) A (tryCompare (.ref x) "__ne__" b) (fun r s' => ∃ v, r = some v ∧ Q v s') E s := by
    unfold tryCompare
    refine wpAny_bind (ifBound_B X I hne (wpAny_call (codeAny_call_builtin PySem.F.cmp_object.ne.plain PySem.F.cmpEntry_ne ?_)))
    obtain ⟨hh, g, d, t, os⟩ := s
    refine wpAny_check_slot_inst PySem.F.cmpKind_ne PySem.F.cmpSplit_ne (PySem.F.cmpArgs_ne _ _) hbm I.at_ I.cls (X _ _ hC) ?_
    refine objNe_K (A := A.in1) (Nat.lt_of_succ_lt_succ (Nat.succ_lt_succ hu)) X I hs hf (wpAny_mono h (fun v s' hv => ?_) fun _ _ e => e)
    obtain ⟨r, rfl, hq⟩ := hv
    first
      | exact ⟨r, rfl, wpAny_pure ⟨_, rfl, hq⟩⟩
      | exact ⟨r, rfl, wpAny_pure (wpAny_pure ⟨_, rfl, hq⟩)⟩
  show wpAny (model prog w) A (richCompare .NotEq (.ref x) b) Q E s
  unfold richCompare
  simp only [oneThing_ref]
  refine wpAny_holding (wpAny_bind (wpAny_cRoomFor (Nat.lt_of_succ_lt hu) ?_))
  rw [cmpInfo_NotEq]
  dsimp only
  refine wpAny_bind (I.type.here (wpAny_bind (hb.here ?_)))
  split
  · rename_i q
    have e : subIn K tb (.ref C) = some false := by
      rcases Bool.or_eq_true_iff.mp hn with e | e
      · rw [beq_iff_eq.mp e] at q; simp at q
      · exact beq_iff_eq.mp e
    refine wpAny_bind ((looks_subIn X e).here ?_)
    simp only [Bool.false_eq_true, if_false]
    refine wpAny_bind (wpAny_mono one (fun r s' z => ?_) fun _ _ e => e)
    obtain ⟨v, rfl, hq⟩ := z
    exact wpAny_pure hq
  · refine wpAny_bind (wpAny_pure ?_)
    simp only [Bool.false_eq_true, if_false]
    refine wpAny_bind (wpAny_mono one (fun r s' z => ?_) fun _ _ e => e)
    obtain ⟨v, rfl, hq⟩ := z
    exact wpAny_pure hq
end
end Ws
namespace Ws
open PySem PySem.Spec PyProof.Rows L2
section
variable {X : Cx} {k j : Nat} {C : Addr} {sp : Sp}
/-- the callee runs one call further in -/
theorem run_in1 {f : Addr} {pins : List (Addr × Obj)} {σ : L2.St} {H : Hp} {s : Shared} {Q : VK} {us : List Value} {vs : List V} {Ex : Value → Shared → Prop} (F : FnR X.prog X.w X.K X.mg X.base CX0 k f sp) (hr : Room (k + 1) X.A) (I : Inv X pins σ H s) (r : Vals vs us) (h : sp vs H Q E0) :
    wpAny (model X.prog X.w) X.A.in1 (call (.ref f) us) (EP X pins σ Q) Ex s := by
  refine wpAny_call (codeAny_mono (F X.A.in1 X.stack s H us vs Q E0 hr.in1 I.env0.in1 r h) fun r s' hq => ?_)
  cases r with
  | error er => exact hq.elim
  | ok fl =>
    cases fl with
    | ret u => exact I.after hq
    | next => exact False.elim hq
    | brk => exact False.elim hq
    | cont => exact False.elim hq
/-- a != b by a's own __eq__ -/
def rNeO (K : PySem.W.Frag) (C : Addr) (sp : Sp) : R2 := fun x y H Q => ∃ a dx fs t, x = .ref a ∧ H a = some (.ins C dx fs) ∧ TyL H y t ∧ PySem.W.notFirst K C t = true ∧ sp [.ref a, y] H (fun v H' => ∃ r, v = .bl r ∧ Q (.bl (!r)) H') E0
theorem op_neO (N : NeC X.K C) (c : OpnF X.prog X.w X.K X.mg X.base k C "__eq__" sp) (hr : Room j X.A) (hk : k + 1 ≤ j) : OpR X (compareOp .NotEq) (rNeO X.K C sp) := by
  obtain ⟨f, h1, h2, F⟩ := c
  intro pins s σ H x y v u Q I rx ry h
  obtain ⟨a, dx, fs, t, rfl, ea, ty, nf, q⟩ := h
  cases (show v = Value.ref a from rx)
  obtain ⟨ox, od, J⟩ := inst_of I ea
  obtain ⟨m, hF⟩ := I.fr
  refine ne_K N (hu_of hr) hF I.ok.mod.kin J (ty.looks I ry) nf h1 h2 ?_
  refine wpAny_mono (run_in1 (us := [.ref a, u]) (vs := [.ref a, y]) F (hr.mono hk) I (.cons rfl (.cons ry .nil)) q) (fun v s' hv => ?_) fun _ _ z => z
  obtain ⟨z, H', I', rz, r, rfl, q'⟩ := hv
  cases (show v = Value.bool r from rz)
  exact ⟨r, rfl, .bl _, H', I', rfl, q'⟩
end
/-- isinstance with a class of one's own, answered no -/
theorem kit_no {K : PySem.W.Frag} {t : Value} {D : Addr} (h1 : PySem.W.isClsIn K D = true) (h2 : PySem.W.typeIn K (.ref D) = some (.type "type")) (h3 : PySem.W.subIn K t (.ref D) = some false) (h4 : t ≠ .ref D) : PySem.W.kitOne K t (.ref D) = some false := by
  have e : (t == Value.ref D) = false := by
    cases h : (t == Value.ref D) with
    | false => rfl
    | true => exact absurd (eq_of_beq h) h4
  have e2 : ((PySem.W.clsIn K D).isSome && PySem.W.typeIn K (.ref D) == some (.type "type")) = true := by
    have h1' : (PySem.W.clsIn K D).isSome = true := h1
    rw [h1', h2] <;> rfl
  unfold PySem.W.kitOne
  rw [e, if_neg Bool.false_ne_true]
  show (if ((PySem.W.clsIn K D).isSome && PySem.W.typeIn K (.ref D) == some (.type "type")) = true then PySem.W.subIn K t (.ref D) else none) = some false
  rw [if_pos e2, h3]
end Ws

namespace Ws
open PySem PySem.Spec PyProof.Rows L2
section
variable {K : PySem.W.Frag} {a : Addr} {xs : List V} {g : TG} {te : TE} {vs : List Nat} {σ : L2.St} {H1 : Hp} {D : Addr} {Qd : Hp → Prop}
/-- a comprehension without a test: what is made so far stands at D, J tells of it -/
def PvJ (D : Addr) (J : Nat → List V → Hp → Prop) : Nat → Hp → Prop := fun i H => ∃ acc, acc.length = i ∧ H D = some (.lst acc) ∧ J i acc H
theorem step_J {J : Nat → List V → Hp → Prop} {i : Nat} {x : V} {H : Hp} (hz : i < sizeLine) (h : PvJ D J i H)
    (hs : ∀ acc, J i acc H → H D = some (.lst acc) → acc.length = i → ∀ Qn : VK, (∀ y H4, H4 D = some (.lst acc) → J (i + 1) (acc ++ [y]) (upd H4 D (.lst (acc ++ [y]))) → Qn y H4) → g x (wipe σ vs) H fun σ2 H2 => wipe σ2 vs = wipe σ vs ∧ te σ2 H2 Qn) :
    g x (wipe σ vs) H fun σ2 H2 => wipe σ2 vs = wipe σ vs ∧ tYes σ2 H2 fun b H3 => if b = true then te σ2 H3 fun y H4 => ∃ acc, H4 D = some (.lst acc) ∧ acc.length < sizeLine ∧ PvJ D J (i + 1) (upd H4 D (.lst (acc ++ [y]))) else PvJ D J (i + 1) H3 := by
  obtain ⟨acc, hl, hD, j⟩ := h
  have := hs acc j hD hl (fun y H4 => ∃ acc, H4 D = some (.lst acc) ∧ acc.length < sizeLine ∧ PvJ D J (i + 1) (upd H4 D (.lst (acc ++ [y])))) fun y H4 e jj => ⟨acc, e, by rw [hl]; exact hz, acc ++ [y], by rw [List.length_append, hl] <;> rfl, upd_same, jj⟩
  have e : (fun (σ2 : L2.St) (H2 : Hp) => wipe σ2 vs = wipe σ vs ∧ tYes σ2 H2 fun b H3 => if b = true then te σ2 H3 fun y H4 => ∃ acc, H4 D = some (.lst acc) ∧ acc.length < sizeLine ∧ PvJ D J (i + 1) (upd H4 D (.lst (acc ++ [y]))) else PvJ D J (i + 1) H3)
      = fun σ2 H2 => wipe σ2 vs = wipe σ vs ∧ te σ2 H2 fun y H4 => ∃ acc, H4 D = some (.lst acc) ∧ acc.length < sizeLine ∧ PvJ D J (i + 1) (upd H4 D (.lst (acc ++ [y]))) := by
    funext σ2 H2
    show (wipe σ2 vs = wipe σ vs ∧ (if true = true then (te σ2 H2 fun y H4 => ∃ acc, H4 D = some (.lst acc) ∧ acc.length < sizeLine ∧ PvJ D J (i + 1) (upd H4 D (.lst (acc ++ [y])))) else PvJ D J (i + 1) H2)) = _
    rw [if_pos rfl]
  rw [e]
  exact this
theorem lcT (J : Nat → List V → Hp → Prop) (h0 : J 0 [] (upd H1 D (.lst []))) (hl : ∀ i acc H, J i acc H → SqT K H a xs) (hz : xs.length < sizeLine)
    (hs : ∀ i x H acc, xs[i]? = some x → J i acc H → H D = some (.lst acc) → acc.length = i → ∀ Qn : VK, (∀ y H4, H4 D = some (.lst acc) → J (i + 1) (acc ++ [y]) (upd H4 D (.lst (acc ++ [y]))) → Qn y H4) → g x (wipe σ vs) H fun σ2 H2 => wipe σ2 vs = wipe σ vs ∧ te σ2 H2 Qn)
    (hd : ∀ ys H, J xs.length ys H → H D = some (.lst ys) → ys.length = xs.length → Qd H) :
    ∃ W : Nat → Nat → Hp → Prop, (∃ m, W 0 m (upd H1 D (.lst []))) ∧ ∀ i m H, W i m H →
      ((Itt K a).stop i H ∧ Qd H) ∨ ((Itt K a).go i H ∧ ∃ Nx : Hp → Prop, (∀ H', Nx H' → ∃ m', m' < m ∧ W (i + 1) m' H') ∧ ∀ x H', (Itt K a).yld i H x H' → g x (wipe σ vs) H' fun σ2 H2 => wipe σ2 vs = wipe σ vs ∧ tYes σ2 H2 fun b H3 =>
        if b = true then te σ2 H3 fun y H4 => ∃ acc, H4 D = some (.lst acc) ∧ acc.length < sizeLine ∧ Nx (upd H4 D (.lst (acc ++ [y]))) else Nx H3) :=
  lc_tup (K := K) (a := a) (xs := xs) (PvJ D J) ⟨[], rfl, upd_same, h0⟩ (fun i H _ h => let ⟨acc, _, _, j⟩ := h; hl i acc H j)
    (fun i x H hx h => step_J (Nat.lt_trans (List.getElem?_eq_some_iff.mp hx).1 hz) h fun acc j e l => hs i x H acc hx j e l) fun H h => let ⟨ys, l, e, j⟩ := h; hd ys H j e l
theorem lcL (J : Nat → List V → Hp → Prop) (h0 : J 0 [] (upd H1 D (.lst []))) (hl : ∀ i acc H, J i acc H → SqL K H a xs) (hz : xs.length < sizeLine)
    (hs : ∀ i x H acc, xs[i]? = some x → J i acc H → H D = some (.lst acc) → acc.length = i → ∀ Qn : VK, (∀ y H4, H4 D = some (.lst acc) → J (i + 1) (acc ++ [y]) (upd H4 D (.lst (acc ++ [y]))) → Qn y H4) → g x (wipe σ vs) H fun σ2 H2 => wipe σ2 vs = wipe σ vs ∧ te σ2 H2 Qn)
    (hd : ∀ ys H, J xs.length ys H → H D = some (.lst ys) → ys.length = xs.length → Qd H) :
    ∃ W : Nat → Nat → Hp → Prop, (∃ m, W 0 m (upd H1 D (.lst []))) ∧ ∀ i m H, W i m H →
      ((Itl K a).stop i H ∧ Qd H) ∨ ((Itl K a).go i H ∧ ∃ Nx : Hp → Prop, (∀ H', Nx H' → ∃ m', m' < m ∧ W (i + 1) m' H') ∧ ∀ x H', (Itl K a).yld i H x H' → g x (wipe σ vs) H' fun σ2 H2 => wipe σ2 vs = wipe σ vs ∧ tYes σ2 H2 fun b H3 =>
        if b = true then te σ2 H3 fun y H4 => ∃ acc, H4 D = some (.lst acc) ∧ acc.length < sizeLine ∧ Nx (upd H4 D (.lst (acc ++ [y]))) else Nx H3) :=
  lc_list (K := K) (a := a) (xs := xs) (PvJ D J) ⟨[], rfl, upd_same, h0⟩ (fun i H _ h => let ⟨acc, _, _, j⟩ := h; hl i acc H j)
    (fun i x H hx h => step_J (Nat.lt_trans (List.getElem?_eq_some_iff.mp hx).1 hz) h fun acc j e l => hs i x H acc hx j e l) fun H h => let ⟨ys, l, e, j⟩ := h; hd ys H j e l
theorem lcR {lo : Int} {n : Nat} (J : Nat → List V → Hp → Prop) (h0 : J 0 [] (upd H1 D (.lst []))) (hz : n < sizeLine)
    (hs : ∀ i H acc, i < n → J i acc H → H D = some (.lst acc) → acc.length = i → ∀ Qn : VK, (∀ y H4, H4 D = some (.lst acc) → J (i + 1) (acc ++ [y]) (upd H4 D (.lst (acc ++ [y]))) → Qn y H4) → g (.int (lo + i)) (wipe σ vs) H fun σ2 H2 => wipe σ2 vs = wipe σ vs ∧ te σ2 H2 Qn)
    (hd : ∀ ys H, J n ys H → H D = some (.lst ys) → ys.length = n → Qd H) :
    ∃ W : Nat → Nat → Hp → Prop, (∃ m, W 0 m (upd H1 D (.lst []))) ∧ ∀ i m H, W i m H →
      ((Itr lo n).stop i H ∧ Qd H) ∨ ((Itr lo n).go i H ∧ ∃ Nx : Hp → Prop, (∀ H', Nx H' → ∃ m', m' < m ∧ W (i + 1) m' H') ∧ ∀ x H', (Itr lo n).yld i H x H' → g x (wipe σ vs) H' fun σ2 H2 => wipe σ2 vs = wipe σ vs ∧ tYes σ2 H2 fun b H3 =>
        if b = true then te σ2 H3 fun y H4 => ∃ acc, H4 D = some (.lst acc) ∧ acc.length < sizeLine ∧ Nx (upd H4 D (.lst (acc ++ [y]))) else Nx H3) :=
  lc_range (PvJ D J) ⟨[], rfl, upd_same, h0⟩ (fun i H hi h => step_J (Nat.lt_trans hi hz) h fun acc j e l => hs i H acc hi j e l) fun H h => let ⟨ys, l, e, j⟩ := h; hd ys H j e l
end
end Ws

namespace Ws
open PySem PySem.Spec PyProof.Rows L2
/-! ### defs that are called where nothing is being shown: repr may be asked within them -/
/-- FnR for such calls alone -/
def FnG (P : Program) (w : World) (K : PySem.W.Frag) (mg : Str → Option Value) (base : Heap) (CX : CXT) (k : Nat) (f : Addr) (sp : Sp) : Prop :=
  ∀ (A : Around) (outer : List Env) (s : Shared) (H : Hp) (us : List Value) (vs : List V) (Q : VK) (E : XK), A.guards = some [] → Room k A → Env0 P w K mg base A outer s H → Vals vs us → sp vs H Q E →
    codeAny (model P w) A (.call (.ref f) ⟨us, []⟩) (CR CX outer P w H s Q E) s
theorem FnG.of {P : Program} {w : World} {K : PySem.W.Frag} {mg : Str → Option Value} {base : Heap} {CX : CXT} {k : Nat} {f : Addr} {sp : Sp} (F : FnR P w K mg base CX k f sp) : FnG P w K mg base CX k f sp :=
  fun A outer s H us vs Q E _ hr e0 r h => F A outer s H us vs Q E hr e0 r h
/-- such a def of the module, by its name -/
def CalG (P : Program) (w : World) (K : PySem.W.Frag) (mg : Str → Option Value) (base : Heap) (CX : CXT) (k : Nat) (x : Str) (sp : Sp) : Prop := ∃ f : Addr, FnG P w K mg base CX k f sp ∧ mg x = some (.ref f) ∧ PySem.W.keepIn K (.ref f) = true
section
variable {X : Cx} {k j : Nat} {f : Addr} {sp : Sp} {x : Str} {p pos : Pos} {e : Expr} {es : List Expr} {t : TA} {CX : CXT} {E : XK}
theorem run_G {pins : List (Addr × Obj)} {σ : L2.St} {H : Hp} {s : Shared} {Q : VK} {us : List Value} {vs : List V} (F : FnG X.prog X.w X.K X.mg X.base CX k f sp) (cl : X.A.guards = some []) (hr : Room k X.A) (hx : Passes CX X E)
    (I : Inv X pins σ H s) (r : Vals vs us) (h : sp vs H Q E) : wpAny (model X.prog X.w) X.A (call (.ref f) us) (EP X pins σ Q) X.xe s := by
  refine wpAny_call (codeAny_mono (F X.A X.stack s H us vs Q E cl hr I.env0 r h) fun out s' q => ?_)
  cases out with
  | error e => exact hx pins σ H s e s' I q
  | ok fl => cases fl with
    | ret u => exact I.after q
    | next => exact q.elim
    | brk => exact q.elim
    | cont => exact q.elim
def tFE (sp : Sp) (E : XK) (t : TA) : TE := fun σ H Q => t σ H fun vs H1 => sp vs H1 Q E
/-- f(e, ..) -/
theorem pe_gE (c : CalG X.prog X.w X.K X.mg X.base CX k x sp) (cl : X.A.guards = some []) (hr : Room j X.A) (hk : k ≤ j) (hx : Passes CX X E) (hg : Gl X x) (ha : PA X (e :: es) t) (hdb : (x == ("__debug__" : Str)) = false := by decide)
    (he : starEach (e :: es) X.env = (false, eval e X.env) :: starEach es X.env := by rfl) (hpl : (backTo pos (starEach es X.env)).any (·.1) = false := by rfl) : PE X (.Call (.Name x p) (e :: es) [] pos) (tFE sp E t) := by
  obtain ⟨f, F, hm, hkp⟩ := c
  refine ⟨fun pins s σ H Q I h => ?_⟩
  refine wpAny_Call_Name_kw (ld_glob I hg hm ?_ hdb)
  refine PySem.W.callWith_K (h₀ := X.base) I.ok.mod.kin hkp (thn (ha.run pos pins s σ H _ I h) fun us s1 ⟨vs, H1, I1, r, q⟩ => ⟨I1.kIn, ?_⟩) he hpl
  exact run_G F cl (hr.mono hk) hx I1 r q
theorem pe_g (c : CalG X.prog X.w X.K X.mg X.base CX0 k x sp) (cl : X.A.guards = some []) (hr : Room j X.A) (hk : k ≤ j) (hg : Gl X x) (ha : PA X (e :: es) t) (hdb : (x == ("__debug__" : Str)) = false := by decide)
    (he : starEach (e :: es) X.env = (false, eval e X.env) :: starEach es X.env := by rfl) (hpl : (backTo pos (starEach es X.env)).any (·.1) = false := by rfl) : PE X (.Call (.Name x p) (e :: es) [] pos) (tF sp t) :=
  pe_gE c cl hr hk pass0 hg ha hdb he hpl
end
section
variable {P : Program} {w : World} {K : PySem.W.Frag} {mg : Str → Option Value} {base : Heap}
/-- a def of the text: its body is read where nothing is being shown -/
theorem fnG_ofX {CX : CXT} {x qual : Str} {st : Stmt} {f : Addr} {fd : FuncData} {N ps : List Str} {k : Nat} {sp : Sp} (F : L2.Fun K x qual st f fd) (b : Binds K fd ps []) (S : FnScope N ps (defScope st)) (len : ∀ vs H Q E, sp vs H Q E → vs.length = ps.length)
    (hbody : ∀ (cdv : Value) (A : Around) (outer : List Env) (s : Shared) (H : Hp) (vs : List V) (Q : VK) (E : XK), A.guards = some [] → Room k (A.deeper (envOfC qual (defScope st) s.heap.objs.size f cdv)) → sp vs H Q E →
      ∃ t, PSs (cxOf CX P w K mg base N qual (defScope st) f cdv A outer s H E) (defBody st) t ∧ t { nx := fun _ H' => Q .non H', rt := Q } (start N vs) H) : FnG P w K mg base CX (k + 1) f sp := by
  obtain ⟨oc, od, kV, doc, pm, an, cdv, ct, osl, rfl, lk, hcd⟩ := F.ex
  intro A outer s H us vs Q E cl hr e0 r hsp
  have hn := len _ _ _ _ hsp
  have inS : K.In s.heap := e0.mod.kin.keeps fun b o e => (e0.bs b o e).1
  have free : s.heap.NoLimit := e0.mod.nolimit.keeps fun b o e => (e0.bs b o e).1
  have hl : us.length = ps.length := r.length ▸ hn
  have bd := b s us inS (by rw [List.append_nil]; exact hl)
  rw [List.append_nil] at bd
  have kinds : ∀ y ∈ ps.zip us, (defScope st).names.lookup y.1 = some .local ∨ ((defScope st).names.lookup y.1 = some .cell ∧ ((cellsFrom (s.heap.objs.size + 1) (defScope st).names []).lookup y.1).isSome = true) := by
    rintro ⟨n, v⟩ hy
    exact (S.par n (List.of_mem_zip hy).1).imp id fun q => ⟨q, PySem.W.cellsFrom_some _ _ _ (.inl q)⟩
  refine codeAny_call_function hr.depth (inS _ _ lk) rfl S.co S.gen rfl (PySem.W.codeRec_of inS hcd) (bd _ _ _ _ ?_)
  refine wpAny_newFunctionEnv_cells S.kind kinds fun env hE s1 z => ?_
  cases hE
  refine ⟨free.keeps z.toInCall.keep, codeAny_func ?_⟩
  obtain ⟨t, ht, q⟩ := hbody cdv A outer s H vs Q E cl (hr.deeper _) hsp
  have I : Inv (cxOf CX P w K mg base N qual (defScope st) f cdv A outer s H E) [] (start N vs) H s1 := inv_start S hr.hd e0 hn r z
  refine wpAny_mono (ht.run [] s1 (start N vs) H _ I q) (fun fl s2 out => ?_) fun _ _ out => out
  cases fl with
  | ret u => obtain ⟨v, _, H2, J, rv, q2⟩ := out; exact ⟨v, H2, J.os, J.bare, J.base, J.hok, rv, q2⟩
  | next => obtain ⟨_, H2, J, q2⟩ := out; exact ⟨.non, H2, J.os, J.bare, J.base, J.hok, rfl, q2⟩
  | brk => exact out.elim fun _ z => z.elim fun _ z => z.2.elim
  | cont => exact out.elim fun _ z => z.elim fun _ z => z.2.elim
theorem fnG_of {x qual : Str} {st : Stmt} {f : Addr} {fd : FuncData} {N ps : List Str} {k : Nat} {sp : Sp} (F : L2.Fun K x qual st f fd) (b : Binds K fd ps []) (S : FnScope N ps (defScope st)) (len : ∀ vs H Q E, sp vs H Q E → vs.length = ps.length)
    (hbody : ∀ (cdv : Value) (A : Around) (outer : List Env) (s : Shared) (H : Hp) (vs : List V) (Q : VK) (E : XK), A.guards = some [] → Room k (A.deeper (envOfC qual (defScope st) s.heap.objs.size f cdv)) → sp vs H Q E →
      ∃ t, PSs (cxOf CX0 P w K mg base N qual (defScope st) f cdv A outer s H E).nox (defBody st) t ∧ t { nx := fun _ H' => Q .non H', rt := Q } (start N vs) H) : FnG P w K mg base CX0 (k + 1) f sp :=
  fnG_ofX F b S len fun cdv A outer s H vs Q E cl hr h => let ⟨t, h1, h2⟩ := hbody cdv A outer s H vs Q E cl hr h; ⟨t, h1.nox, h2⟩
end
/-! ### the law's own call -/
/-- what is tracked when the law begins: its script, if the module doesn't have it -/
def only1 (K : PySem.W.Frag) (a : Addr) (o : Obj) (xs : List V) : Hp := fun b => if b = a then (match K.lookup a with | some _ => none | none => some (.frz o (.lst xs))) else none
theorem law_G {P : Program} {w : World} {K : PySem.W.Frag} {mg mb : Str → Option Value} {k : Nat} {fa a : Addr} {sp : Sp} {s : Shared} {vs : List Value} {ns : List Int}
    (inS : K.In s.heap) (hm : s.heap.Ns mainGlobals mg) (hb : s.heap.Ns builtinsNs mb) (bb : ∀ x : Str, x ≠ "__name__" → mb x = bootBuiltins x) (free : s.heap.NoLimit) (hg : s.gens = #[])
    (ha : s.heap.get? a = some { cls := .type "list", data := .seq vs.toArray }) (hi : IntsAre vs ns) (hl : ns.length ≤ sizeLine) (hr : Room k callerA)
    (F : ∀ base : Heap, K.In base → base.Ns mainGlobals mg → FnG P w K mg base CX0 k fa sp)
    (hsp : ∀ H : Hp, Only H → SqL K H a (ns.map V.int) → sp [.ref a] H (fun v _ => v = .bl true) fun _ _ _ => False) :
    codeAny (model P w) callerA (.call (.ref fa) ⟨[.ref a], []⟩) (fun r s' => r = .ok (.ret (.bool true)) ∧ OldK s.heap s'.heap ∧ s'.os = s.os ∧ AllBare s'.gens) s := by
  let ob : Obj := { cls := .type "list", data := .seq vs.toArray }
  let H : Hp := only1 K a ob (ns.map V.int)
  have hH : ∀ b u, H b = some u → b = a ∧ K.lookup a = none ∧ u = .frz ob (.lst (ns.map V.int)) := by
    intro b u e
    have e1 : (if b = a then (match K.lookup a with | some _ => none | none => some (HO.frz ob (.lst (ns.map V.int)))) else none) = some u := e
    by_cases hba : b = a
    · rw [if_pos hba] at e1
      cases hk : K.lookup a with
      | some _ => rw [hk] at e1; cases e1
      | none => rw [hk] at e1; exact ⟨hba, rfl, (Option.some.inj e1).symm⟩
    · rw [if_neg hba] at e1; cases e1
  have only : Only H := fun b => by
    cases e : H b with
    | none => exact .inl rfl
    | some u => obtain ⟨_, _, rfl⟩ := hH b u e; exact .inr ⟨_, _, rfl⟩
  have rv := vals_ints hi
  have here : SqL K H a (ns.map V.int) := by
    cases hk : K.lookup a with
    | none =>
      refine .inl (.inr ⟨ob, ?_⟩)
      show (if a = a then (match K.lookup a with | some _ => none | none => some (HO.frz ob (.lst (ns.map V.int)))) else none) = _
      rw [if_pos rfl, hk]
    | some o =>
      have e := inS a o hk
      rw [ha] at e
      cases e
      exact .inr ⟨_, vs.toArray, _, hk, rfl, rfl, rfl, by rw [List.size_toArray, hi.length]; exact hl, by simpa using rv⟩
  have ok : HOk P w H s.heap := fun b u e => by
    obtain ⟨rfl, _, rfl⟩ := hH b u e
    exact ⟨ha, by rw [List.length_map]; exact hl, vs, _, rv, ha⟩
  have low : ∀ {b : Addr} {o : Obj}, s.heap.get? b = some o → H b = none → (hidT s.heap H).get? b = some o := fun e n => hidT_get e n
  have lowD : ∀ {b : Addr} {m : Str → Option Value}, s.heap.Ns b m → (hidT s.heap H).Ns b m := fun {b m} ⟨o, es, ep, e, d, r⟩ => ⟨o, es, ep, low e (by
    cases q : H b with
    | none => rfl
    | some u =>
      obtain ⟨rfl, _, _⟩ := hH b u q
      rw [ha] at e
      cases e
      cases (show Data.seq vs.toArray _ = Data.dict es ep from d)), d, r⟩
  have inB : K.In (hidT s.heap H) := fun b o e => low (inS b o e) (by
    cases q : H b with
    | none => rfl
    | some u =>
      obtain ⟨rfl, n, _⟩ := hH b u q
      rw [n] at e
      cases e)
  have M : Mod K mg (hidT s.heap H) := ⟨inB, lowD hm, ⟨mb, lowD hb, bb⟩, let ⟨mc, h1, h2⟩ := free; ⟨mc, lowD h1, h2⟩⟩
  have e0 : Env0 P w K mg (hidT s.heap H) callerA [] s H := ⟨rfl, M, fun b o e => of_hidT e, Nat.le_of_eq (hidT_size _ _), trivial, fun b z => absurd (show b ∈ ([] : List Addr) from z) (by simp), ok, .of_eq hg⟩
  refine codeAny_mono (F _ inB (lowD hm) callerA [] s H [.ref a] [.ref a] _ _ rfl hr e0 (.cons rfl .nil) (hsp H only here)) fun r s' h => ?_
  cases r with
  | error e => exact h.elim
  | ok fl =>
    cases fl with
    | ret u =>
      obtain ⟨v, H', os, bare, un, ok', r', q⟩ := h
      cases (show v = V.bl true from q)
      cases (show u = Value.bool true from r')
      refine ⟨rfl, OldK.of_keep fun b o e => ?_, os, bare⟩
      cases z : H b with
      | none => exact un.keep b o e z (fun y => absurd (show b ∈ ([] : List Addr) from y) (by simp)) (by simp)
      | some u =>
        obtain ⟨rfl, _, rfl⟩ := hH b u z
        rw [ha] at e
        cases e
        exact (ok' b _ (un.frzs b _ _ z)).1
    | next => exact h.elim
    | brk => exact h.elim
    | cont => exact h.elim
/-- the goal behind the top, from the law's promise -/
theorem walk_G {l : PySem.W.OpenLaw} {n k : Nat} {q : Program} {loose : List Str} {XP : (Str → Option Value) → Heap → Prop} {YP : World → Heap → Prop} {d : DefRec} {K : Params → PySem.W.Frag} {sp : World → Sp}
    (hn : l.most = some n) (hn2 : n ≤ sizeLine) (hdf : d.params.defaults = []) (hr : Room k callerA) (hY : ∀ (w : World) (h : Heap), YP w h → (K w.params).In h)
    (F : ∀ (w : World) (mg : Str → Option Value) (fa : Addr) (h : Heap), (K w.params).In h → h.Ns mainGlobals mg → mg d.name = some (.ref fa) → ∀ base : Heap, (K w.params).In base → base.Ns mainGlobals mg → FnG l.prog w (K w.params) mg base CX0 k fa (sp w))
    (hsp : ∀ (w : World) (H : Hp) (a : Addr) (ns : List Int), ns.length ≤ n → Only H → SqL (K w.params) H a (ns.map V.int) → sp w [.ref a] H (fun v _ => v = .bl true) fun _ _ _ => False) :
    PySem.W.WalkO q loose XP YP l.row.toRowW d [] (fun f vs => PySem.call f vs) :=
  Att.attach_call hn hdf fun w s₀ s mg mb fa o pm cd doc a vs ns G Y ho hd hcd hmg hobj hints hlen hg =>
    law_G (hY w _ Y) G.T.g G.T.b G.T.builtins G.T.nolimit hg hobj hints (Nat.le_trans hlen hn2) hr (F w mg fa _ (hY w _ Y) G.T.g hmg) fun H hO hS => hsp w H a ns hlen hO hS
end Ws

namespace Ws
open PySem PySem.Spec PyProof.Rows L2
/-! ### repr of plain data -/
mutual
/-- data of short numbers and texts of real signs -/
def Tdy : PyData → Prop
  | .none => True
  | .bool _ => True
  | .int i => i.natAbs.log2 < 1900
  | .str x => ∀ c ∈ x.cps.toList, c < 16 ^ 8
  | .list xs => TdyA xs
  | .tuple xs => TdyA xs
  | .dict _ => False
def TdyA : List PyData → Prop
  | [] => True
  | x :: xs => Tdy x ∧ TdyA xs
end
mutual
theorem Tdy.get : ∀ {d : PyData}, Tdy d → d.showable = true ∧ d.hasDict = false ∧ d.leavesShort 1901 = true
  | .none, _ => ⟨rfl, rfl, rfl⟩
  | .bool _, _ => ⟨rfl, rfl, rfl⟩
  | .int i, h => by
    have h' : i.natAbs.log2 < 1900 := h
    refine ⟨?_, rfl, ?_⟩
    · simp only [PyData.showable, decide_eq_true_eq]; omega
    · show decide ((Str.ofString (toString i)).length ≤ 1901) = true
      rw [decide_eq_true_eq, PySem.ofString_length]
      exact int_text_length_le (by decide) h'
  | .str x, h => ⟨rfl, rfl, by simp only [PyData.leavesShort, List.all_eq_true, decide_eq_true_eq]; exact h⟩
  | .list xs, h => by
    obtain ⟨a, b, c⟩ := TdyA.get (xs := xs) h
    exact ⟨by simpa only [PyData.showable] using a, by simpa only [PyData.hasDict] using b, by simpa only [PyData.leavesShort] using c⟩
  | .tuple xs, h => by
    obtain ⟨a, b, c⟩ := TdyA.get (xs := xs) h
    exact ⟨by simpa only [PyData.showable] using a, by simpa only [PyData.hasDict] using b, by simpa only [PyData.leavesShort] using c⟩
  | .dict _, h => False.elim h
theorem TdyA.get : ∀ {xs : List PyData}, TdyA xs → PyData.showableAll xs = true ∧ PyData.hasDictAll xs = false ∧ PyData.leavesShortAll 1901 xs = true
  | [], _ => ⟨rfl, rfl, rfl⟩
  | x :: xs, h => by
    obtain ⟨h1, h2⟩ := (show Tdy x ∧ TdyA xs from h)
    obtain ⟨a, b, c⟩ := Tdy.get h1
    obtain ⟨d, e, f⟩ := TdyA.get h2
    exact ⟨by simp only [PyData.showableAll, a, d, Bool.and_self], by simp only [PyData.hasDictAll, b, e, Bool.or_self], by simp only [PyData.leavesShortAll, c, f, Bool.and_self]⟩
end
/-- a value that is shown -/
def Shw (K : PySem.W.Frag) (H : Hp) (x : V) (d : PyData) : Prop := Dp K H x d ∧ Tdy d ∧ d.bulk ≤ 8000 ∧ d.depth ≤ 60
section
variable {X : Cx}
def rRep (K : PySem.W.Frag) : List V → Hp → VK → Prop := fun xs H Q => ∃ a d, xs = [V.ref a] ∧ Shw K H (.ref a) d ∧ Q (.str d.shown) H
theorem call_rep {j : Nat} (cl : X.A.guards = some []) (hr : Room j X.A) : CallR X (.builtin "repr") (rRep X.K) := by
  intro pins s σ H xs us Q I r h
  obtain ⟨a, d, rfl, ⟨dp, ty, bk, de⟩, q⟩ := h
  obtain ⟨u, rfl, ru⟩ := vals1 r
  cases (show u = Value.ref a from ru)
  obtain ⟨as, rd⟩ := Dp.reads I d _ _ dp rfl
  obtain ⟨sh, nd, sl⟩ := ty.get
  have sz := PyData.shown_le_bulk 1901 (by decide) d sl
  have sz2 : d.shown.length ≤ sizeLine := by
    have : sizeLine = 16777216 := by decide
    have : (1901 + 2) * d.bulk ≤ 1903 * 8000 := Nat.mul_le_mul (by decide) bk
    omega
  refine repr_of_reads' rd sh (PyData.noDict_hsm nd) cl ?_ (fun _ _ e => e) (fun h' u tk hk => ⟨.str d.shown, H, I.kept hk, ⟨u, rfl⟩, q⟩) sz2
  have := hr.un
  omega
end
end Ws
namespace Ws
open PySem PySem.Spec PyProof.Rows L2
section
variable {X : Cx} {j k : Nat} {C : Addr} {sp : Sp}
/-- abs(a) by a's own __abs__ -/
theorem call_absO (c : OpnF X.prog X.w X.K X.mg X.base k C "__abs__" sp) (hr : Room j X.A) (hk : k + 1 ≤ j) : CallR X (.builtin "abs") (fun xs H Q => ∃ a dx fs, xs = [V.ref a] ∧ H a = some (.ins C dx fs) ∧ sp [.ref a] H Q E0) := by
  obtain ⟨f, h1, h2, F⟩ := c
  intro pins s σ H xs us Q I r h
  obtain ⟨a, dx, fs, rfl, ea, q⟩ := h
  obtain ⟨u, rfl, ru⟩ := vals1 r
  cases (show u = Value.ref a from ru)
  obtain ⟨ox, od, J⟩ := inst_of I ea
  refine Calls.call_function_entry kind_abs plain_abs entry_abs (args_abs _) ?_
  unfold Builtin.«abs»
  refine wpAny_bind (m := oneArg "abs" _) (wpAny_pure ?_)
  refine wpAny_bind (PySem.W.special_fn I.kIn J h1 (beq_iff_eq.mp h2) (wpAny_mono (run_in1 (us := [.ref a]) (vs := [.ref a]) F (hr.mono hk) I (.cons rfl .nil) q) (fun v s' hv => ?_) fun _ _ z => z))
  exact wpAny_pure ⟨_, rfl, hv⟩
end
end Ws
namespace Ws
open PySem PySem.Spec PyProof.Rows L2
section
variable {prog : Program} {w : World}
theorem bool_new_own {x : Addr} : MeetsIn prog w (Builtin.«bool.__new__» ⟨[.type "bool", .ref x], []⟩) (fun A R s => wpAny (model prog w) A.in1 (truthy (.ref x)) (fun b s' => R (.ok (.ret (.bool b))) s') (fun e s' => R (.error e) s') s) :=
  .of_wp fun A R s h => by
    have f1 := F.conv_sub_bool
    unfold Builtin.«bool.__new__»
    repeat (first
      | assumption
      | (refine wpAny_bind (m := truthy (.ref x)) (wpAny_mono h (fun b s' q => ?_) fun _ _ z => z))
      | wp_step)
    all_goals first | exact q | exact ⟨_, rfl, q⟩ | skip
theorem run_in2 {X : Cx} {k : Nat} {sp : Sp} {f : Addr} {pins : List (Addr × Obj)} {σ : L2.St} {H : Hp} {s : Shared} {Q : VK} {us : List Value} {vs : List V} {Ex : Value → Shared → Prop} (F : FnR X.prog X.w X.K X.mg X.base CX0 k f sp) (hr : Room (k + 2) X.A) (I : Inv X pins σ H s) (r : Vals vs us) (h : sp vs H Q E0) :
    wpAny (model X.prog X.w) X.A.in1.in1 (call (.ref f) us) (EP X pins σ Q) Ex s := by
  refine wpAny_call (codeAny_mono (F X.A.in1.in1 X.stack s H us vs Q E0 (Room.in1 (Room.in1 hr)) I.env0.in1.in1 r h) fun r s' hq => ?_)
  cases r with
  | error er => exact hq.elim
  | ok fl =>
    cases fl with
    | ret u => exact I.after hq
    | next => exact False.elim hq
    | brk => exact False.elim hq
    | cont => exact False.elim hq
section
variable {X : Cx} {j k : Nat} {C : Addr} {sp : Sp}
/-- bool(a) by a's own __bool__ -/
theorem call_boolO (c : OpnF X.prog X.w X.K X.mg X.base k C "__bool__" sp) (hr : Room j X.A) (hk : k + 2 ≤ j) : CallR X (.type "bool") (fun xs H Q => ∃ a dx fs, xs = [V.ref a] ∧ H a = some (.ins C dx fs) ∧ sp [.ref a] H (fun v H' => ∃ b, v = .bl b ∧ Q (.bl b) H') E0) := by
  obtain ⟨f, h1, h2, G⟩ := c
  intro pins s σ H xs us Q I r h
  obtain ⟨a, dx, fs, rfl, ea, q⟩ := h
  obtain ⟨u, rfl, ru⟩ := vals1 r
  cases (show u = Value.ref a from ru)
  obtain ⟨ox, od, J⟩ := inst_of I ea
  obtain ⟨m, hF⟩ := I.fr
  refine callType_newIn PySem.F.called_bool PySem.F.newNe_bool (PySem.F.typeCall_bool_1 _) (PySem.F.newCall_bool_1 _) (fun obj => PySem.F.args_object_init_2 obj _) PySem.F.entry_bool_new bool_new_own ?_
  refine PySem.W.truthy_K hF I.ok.mod.kin J h1 h2 (wpAny_mono (run_in2 (us := [.ref a]) (vs := [.ref a]) G (hr.mono hk) I (.cons rfl .nil) q) (fun r s' hv => ?_) fun _ _ z => z)
  obtain ⟨y, H', I', ry, b, rfl, qb⟩ := hv
  cases (show r = Value.bool b from ry)
  exact ⟨rfl, .bl b, H', I', rfl, qb⟩
end
end
end Ws

namespace Ws
open PySem PySem.Spec PyProof.Rows L2
/-! ### an own error, caught and kept in a variable behind the suite -/
/-- at a: an error of the class cls, its dict at d -/
def Kx (cls : Value) (d : Option Addr) (a : Addr) : HO := .ext fun h => ∃ (oe : Obj) (vs : Array Value), h.get? a = some oe ∧ Zc cls d oe ∧ oe.data = .fields vs
theorem kx_ok {P : Program} {w : World} {H : Hp} {h : Heap} {a : Addr} {cls : Value} {d : Option Addr} {oe : Obj} {vs : Array Value} (e : h.get? a = some oe) (z : Zc cls d oe) (hd : oe.data = .fields vs) : ObjOk P w H h a (Kx cls d a) :=
  ⟨⟨oe, vs, e, z, hd⟩, ⟨oe, e⟩, fun _ _ ⟨o, v, q, r⟩ k => ⟨o, v, k o q, r⟩⟩
theorem kx_at {P : Program} {w : World} {H : Hp} {h : Heap} {a : Addr} {cls : Value} {d : Option Addr} (ok : HOk P w H h) (e : H a = some (Kx cls d a)) : ∃ (oe : Obj) (vs : Array Value), h.get? a = some oe ∧ Zc cls d oe ∧ oe.data = .fields vs := by
  have x : ObjOk P w H h a (.ext fun h => ∃ (oe : Obj) (vs : Array Value), h.get? a = some oe ∧ Zc cls d oe ∧ oe.data = .fields vs) := ok a _ e
  exact x.1
section
variable {X : Cx} {pins : List (Addr × Obj)} {σ : L2.St} {H : Hp} {s : Shared}
/-- an object that is pinned, and new since the entry, is tracked from here on -/
theorem track {a : Addr} {oe : Obj} {vs : Array Value} {o : HO} (I : Inv X ((a, oe) :: pins) σ H s) (new : X.s_0.heap.get? a = none) (off : ∀ p ∈ X.pn ++ pins, p.1 ≠ a) (hd : oe.data = .fields vs) (ob : ObjOk X.prog X.w (upd H a o) s.heap a o) : Inv X pins σ (upd H a o) s := by
  obtain ⟨ha, na, nL, nF, _⟩ := I.pin (a, oe) (List.mem_append_right _ List.mem_cons_self)
  have was : ∀ {b : Addr} {u : HO}, H b = some u → b ≠ a := fun {b u} e z => by rw [z, na] at e; cases e
  have old : ∀ {b : Addr} {u : Obj}, X.s_0.heap.get? b = some u → b ≠ a := fun {b u} e z => by rw [z, new] at e; cases e
  refine ⟨I.ok, I.os, I.bare, ⟨I.base.keep, I.base.slot, fun b u e n x => (upd_ne (old e)).trans (I.base.free b u e n x), I.base.there, fun b xs e => ?_, fun b u v e => ?_, fun b ps e => ?_⟩, I.loc, I.cell, (upd_ne (Ne.symm nL)).trans I.free, fun x c e => ?_, fun p hp => ?_, fun b u e => ?_, I.len⟩
  · have q := I.base.tups b xs e
    exact (upd_ne (was q)).trans q
  · have q := I.base.frzs b u v e
    exact (upd_ne (was q)).trans q
  · obtain ⟨m, q⟩ := I.base.tbls b ps e
    exact ⟨m, (upd_ne (was q)).trans q⟩
  · refine (upd_ne fun z => ?_).trans (I.freeC x c e)
    obtain ⟨v, oc, e1, e2⟩ := I.cell x c e
    rw [z, ha] at e1
    cases e1
    rw [hd] at e2
    cases e2
  · have hp' : p ∈ X.pn ++ ((a, oe) :: pins) := by
      rcases List.mem_append.mp hp with h | h
      · exact List.mem_append_left _ h
      · exact List.mem_append_right _ (List.mem_cons_of_mem _ h)
    obtain ⟨q1, q2, q3⟩ := I.pin p hp'
    exact ⟨q1, (upd_ne (off p hp)).trans q2, q3⟩
  · by_cases hb : b = a
    · subst hb
      rw [upd_same] at e
      cases e
      exact ob
    · rw [upd_ne hb] at e
      exact (I.hok b u e).stay (fun c v _ q => q) (fun c q => (upd_ne (was q)).trans q) fun c xs q => (upd_ne (was q)).trans q
end
/-- the wish of a try whose clause keeps what it catches: slot i is the clause's name -/
def wKeep (K : PySem.W.Frag) (c : Value) (i : Nat) (ts : Addr → Value → Option Addr → TS) (D : Ends) : WX := fun cls d σ H =>
  PySem.W.exmOne K cls c = some true ∧ ∀ a, H a = none → ts a cls d { nx := fun σ' H' => D.nx (σ'.set i none) (upd H' a (Kx cls d a)), rt := fun _ _ => False } (σ.set i (some (.ref a))) H
section
variable {X : Cx} {x n : Str} {c : Value} {i : Nat} {body suite : List Stmt} {b0 : Stmt} {np pos pos' : Pos} {tb : WX → TS} {ts : Addr → Value → Option Addr → TS}
theorem ps_keep (hs : X.stack = X.env :: X.outer) (hf : X.env.frame = some X.env.locals) (hex : X.ex = []) (hN : X.N.Nodup) (hi : X.N[i]? = some n) (hln : X.env.kindOf n = some .local) (hc : Names X x c)
    (hb : ∀ (W : WX) (pn : List (Addr × Obj)) (xe : Value → Shared → Prop), Takes (X.tr pn xe) W → PassesOwn (model X.prog X.w) X.A X.env xe → PSs (X.tr pn xe) body (tb W))
    (hsu : ∀ (a : Addr) (oe : Obj) (cls : Value) (d : Option Addr) (pn : List (Addr × Obj)), Zc cls d oe → (∃ vs, oe.data = .fields vs) → PSs (X.suite a ((a, oe) :: pn)) (b0 :: suite) (ts a cls d)) :
    PS X (.Try body [.ExceptHandler (some (.Name x np)) (some n) (b0 :: suite) pos'] [] [] pos) (fun D σ H => tb (wKeep X.K c i ts D) D σ H) := by
  refine ⟨fun pins s σ H D I h => wpAny_Try_except ?_⟩
  have ok := I.ok
  have frames : X.A.frames = some (X.env :: X.outer) := ok.frames.trans (congrArg some hs)
  let Ex : Value → Shared → Prop := fun e s₁ => wpAny (model X.prog X.w) X.A (noteFrame e X.env) (fun _ s₂ => wpAny (model X.prog X.w) X.A (setFlight e none) (fun _ s₃ =>
    wpAny (model X.prog X.w) X.A (handleBy e X.env [.ExceptHandler (some (.Name x np)) (some n) (b0 :: suite) pos']) (SP X pins D) X.xe s₃) X.xe s₂) X.xe s₁
  have takes : Takes (X.tr (X.pn ++ pins) Ex) (wKeep X.K c i ts D) := by
    rintro u s' ⟨a, B, sI, pins1, σ1, H1, cls, d, rfl, J0, nb, up, sky, na, os, ag, hex1, suiteOk⟩
    have J : Inv X pins σ1 H1 sI := J0.ofTry ok
    have sky1 : Sky B (X.env :: X.outer) a (Zc cls d) X.env.locals s'.heap := hs ▸ sky
    show wpAny (model X.prog X.w) X.A (noteFrame (.ref a) X.env) _ _ _
    refine Sky.land Zc.steady frames hf sky1 fun hA flA upA => ?_
    have JA : Inv X pins σ1 H1 { s' with heap := hA } := J.landed nb flA.1 (up.trans upA) os ag
    obtain ⟨oA, vA, eA, zA, dA⟩ := flA.there
    have notFrame : a ∉ frs (X.env :: X.outer) := fun hm => by
      obtain ⟨_, o2, e2, hn⟩ := flA.2.2.1.mem hm
      rw [eA] at e2
      cases e2
      exact hn _ dA
    have nL : a ≠ X.env.locals := fun z => notFrame (List.mem_filterMap.mpr ⟨X.env, List.mem_cons_self, by rw [hf, z]⟩)
    have nF : a ∉ X.fs := fun hm => by
      obtain ⟨e, he, q⟩ := List.mem_filterMap.mp hm
      exact notFrame (List.mem_filterMap.mpr ⟨e, List.mem_cons_of_mem _ he, q⟩)
    have freshB : B.get? a = none := flA.2.1
    have freshI : sI.heap.get? a = none := by
      cases q : sI.heap.get? a with
      | none => rfl
      | some o =>
        have z := nb a o q (by rw [hs]; exact notFrame)
        rw [freshB] at z
        cases z
    have fresh0 : X.s_0.heap.get? a = none := by
      cases q : X.s_0.heap.get? a with
      | none => rfl
      | some o =>
        obtain ⟨o2, z⟩ := J.base.there a o q (by rw [hex]; exact fun y => nomatch y)
        rw [freshI] at z
        cases z
    have off : ∀ p ∈ X.pn ++ pins, p.1 ≠ a := fun p hp z => by
      have q := (J.pin p hp).1
      rw [z, freshI] at q
      cases q
    have SA := JA.suite eA dA na nL nF
    refine wpAny_handleBy_cons (codeAny_handlers_test ?_) (by intro q; cases q)
    have LT : PySem.W.Looks (model X.prog X.w) hA (typeOf (.ref a)) cls := fun A Q E s k q => wpAny_typeOf_ref (k _ _ eA) (by rw [zA.1]; exact q)
    have LM := PySem.W.exm_one (M := model X.prog X.w) JA.kIn LT hex1
    have named : ∀ {Q : Value → Shared → Prop} {E : Value → Shared → Prop}, Q c { s' with heap := hA } → wpAny (model X.prog X.w) (X.A.mark (some (.ref a))) (eval (.Name x np) X.env) Q E { s' with heap := hA } := fun {Q E} q => by
      obtain ⟨g1, g2, g3 | ⟨g3, g4, g5⟩⟩ := hc
      · exact ld_glob (X := X.suite a ((a, oA) :: (X.pn ++ pins))) SA g1 g3 q g2
      · exact ld_blt (X := X.suite a ((a, oA) :: (X.pn ++ pins))) SA g1 g3 g4 q g5 g2
    refine named (LM.here (codeAny_handlers_suite_as ?_))
    refine HandSPX.lands_againZ flA fun hB flB upB => ?_
    have JB : Inv X pins σ1 H1 { s' with heap := hB } := J.landed nb flB.1 ((up.trans upA).trans upB) os ag
    obtain ⟨oB, vB, eB, zB, dB⟩ := flB.there
    refine store_ok (X := X.suite a ((a, oB) :: (X.pn ++ pins))) (v := .ref a) (JB.suite eB dB na nL nF) hN hi (.inl hln) rfl (fun s5 S5 => ?_) (.inr hln)
    refine wpAny_mono ((hsu a oB cls d (X.pn ++ pins) zB ⟨_, dB⟩).run [] s5 _ H1 _ S5 (suiteOk a na)) (fun f s6 out => ?_) (fun _ _ z => z.elim)
    cases f with
    | next =>
      obtain ⟨σ6, H6, S6, q6⟩ := out
      have T6 : Inv X ((a, oB) :: pins) σ6 H6 s6 := ⟨ok, S6.os, S6.bare, S6.base, S6.loc, S6.cell, S6.free, S6.freeC, fun p hp => S6.pin p (by
        rw [List.append_nil]
        rcases List.mem_append.mp hp with z | z
        · exact List.mem_cons_of_mem _ (List.mem_append_left _ z)
        · rcases List.mem_cons.mp z with z | z
          · rw [z]; exact List.mem_cons_self
          · exact List.mem_cons_of_mem _ (List.mem_append_right _ z)), S6.hok, S6.len⟩
      refine gone_ok T6 hN hi hln fun s7 J7 => ?_
      have e7 := (J7.pin (a, oB) (List.mem_append_right _ List.mem_cons_self)).1
      exact ⟨_, _, track J7 fresh0 off dB (kx_ok e7 zB dB), q6⟩
    | ret u => obtain ⟨_, _, _, _, _, q6⟩ := out; exact q6.elim
    | brk => obtain ⟨_, _, _, q6⟩ := out; exact False.elim q6
    | cont => obtain ⟨_, _, _, q6⟩ := out; exact False.elim q6
  refine wpAny_mono ((hb (wKeep X.K c i ts D) (X.pn ++ pins) Ex takes PassesOwn.looking).run [] s σ H D (I.toTry _) h) (fun f s1 out => ?_) fun e s1 z => z
  cases f with
  | next => obtain ⟨σ1, H1, J1, q⟩ := out; exact wpAny_execs_nil ⟨σ1, H1, J1.ofTry ok, q⟩
  | ret u => obtain ⟨v, σ1, H1, J1, r, q⟩ := out; exact ⟨v, σ1, H1, J1.ofTry ok, r, q⟩
  | brk => obtain ⟨σ1, H1, J1, q⟩ := out; exact ⟨σ1, H1, J1.ofTry ok, q⟩
  | cont => obtain ⟨σ1, H1, J1, q⟩ := out; exact ⟨σ1, H1, J1.ofTry ok, q⟩
end
end Ws
namespace Ws
open PySem PySem.Spec PyProof.Rows L2
/-! ### calls that may raise, within a try or in a def that lets it out -/
/-- a method whose error is told -/
def MetE (P : Program) (w : World) (K : PySem.W.Frag) (mg : Str → Option Value) (base : Heap) (CX : CXT) (k : Nat) (C : Addr) (m : Str) (sp : Sp) : Prop := ∃ f : Addr, Cls K C ∧ Meth K C m f ∧ FnR P w K mg base CX k f sp
/-- a def whose error is told -/
def CalE (P : Program) (w : World) (K : PySem.W.Frag) (mg : Str → Option Value) (base : Heap) (CX : CXT) (k : Nat) (x : Str) (sp : Sp) : Prop := ∃ f : Addr, FnR P w K mg base CX k f sp ∧ mg x = some (.ref f) ∧ PySem.W.keepIn K (.ref f) = true
section
variable {X : Cx} {CX : CXT} {k j : Nat} {C f : Addr} {sp : Sp} {E : L2.St → XK} {x m : Str} {p pos apos : Pos} {e o : Expr} {es : List Expr} {ta : TE} {t : TA}
theorem run_S {pins : List (Addr × Obj)} {σ : L2.St} {H : Hp} {s : Shared} {Q : VK} {us : List Value} {vs : List V} (F : FnR X.prog X.w X.K X.mg X.base CX k f sp) (hr : Room k X.A) (hx : PassesAt CX X σ (E σ))
    (I : Inv X pins σ H s) (r : Vals vs us) (h : sp vs H Q (E σ)) : wpAny (model X.prog X.w) X.A (call (.ref f) us) (EP X pins σ Q) X.xe s := by
  refine wpAny_call (codeAny_mono (F X.A X.stack s H us vs Q (E σ) hr I.env0 r h) fun out s' q => ?_)
  cases out with
  | error e => exact hx pins H s e s' I q
  | ok fl => cases fl with
    | ret u => exact I.after q
    | next => exact q.elim
    | brk => exact q.elim
    | cont => exact q.elim
/-- f(e, ..) -/
def tFS (sp : Sp) (E : L2.St → XK) (t : TA) : TE := fun σ H Q => t σ H fun vs H1 => sp vs H1 Q (E σ)
theorem pe_fS (c : CalE X.prog X.w X.K X.mg X.base CX k x sp) (hr : Room j X.A) (hk : k ≤ j) (hx : ∀ σ, PassesAt CX X σ (E σ)) (hg : Gl X x) (ha : PA X (e :: es) t) (hdb : (x == ("__debug__" : Str)) = false := by decide)
    (he : starEach (e :: es) X.env = (false, eval e X.env) :: starEach es X.env := by rfl) (hpl : (backTo pos (starEach es X.env)).any (·.1) = false := by rfl) : PE X (.Call (.Name x p) (e :: es) [] pos) (tFS sp E t) := by
  obtain ⟨f, F, hm, hkp⟩ := c
  refine ⟨fun pins s σ H Q I h => ?_⟩
  refine wpAny_Call_Name_kw (ld_glob I hg hm ?_ hdb)
  refine PySem.W.callWith_K (h₀ := X.base) I.ok.mod.kin hkp (thn (ha.run pos pins s σ H _ I h) fun us s1 ⟨vs, H1, I1, r, q⟩ => ⟨I1.kIn, ?_⟩) he hpl
  exact run_S F (hr.mono hk) (hx σ) I1 r q
/-- o.m(e, ..) -/
def tMtS (C : Addr) (m : Str) (sp : Sp) (E : L2.St → XK) (ta : TE) (t : TA) : TE := fun σ H Q => ta σ H fun x H1 => ∃ a dx fs, x = .ref a ∧ H1 a = some (.ins C dx fs) ∧ fs.lookup m = none ∧ t σ H1 fun vs H2 => sp (x :: vs) H2 Q (E σ)
theorem pe_mtS {pl : Sem Bool} (c : MetE X.prog X.w X.K X.mg X.base CX k C m sp) (hr : Room j X.A) (hk : k ≤ j) (hx : ∀ σ, PassesAt CX X σ (E σ)) (he : PE X o ta) (ha : PA X (e :: es) t)
    (hst : starEach (e :: es) X.env = (false, eval e X.env) :: starEach es X.env := by rfl) (hpl : (backTo pos (starEach es X.env)).any (·.1) = false := by rfl)
    (ht : eval (.Call (.Attribute o m apos) (e :: es) [] pos) X.env = (do
      let ov ← eval o X.env
      standAt apos.atName
      let (f, first) ← holding [ov] (getMethod ov m pl)
      callWith pos f first (backTo pos (starEach (e :: es) X.env)) (backToKw pos (keywordEach [] X.env))) := by rfl) :
    PE X (.Call (.Attribute o m apos) (e :: es) [] pos) (tMtS C m sp E ta t) := by
  obtain ⟨f, hc, hm, F⟩ := c
  refine ⟨fun pins s σ H Q I h => ?_⟩
  refine PySem.W.methodCall_KW (pl := pl) (thn (he.run pins s σ H _ I h) fun u s1 ⟨x, H1, I1, rx, a, dx, fs, ex, ea, l, q⟩ => ?_) ht
  subst ex
  obtain rfl : u = Value.ref a := rx
  refine getmeth_ok I1 ea hc hm l ?_
  refine PySem.W.callWith_K (first := [.ref a]) (h₀ := X.base) I.ok.mod.kin hm.kp (thn (ha.run pos pins s1 σ H1 _ I1 q) fun us s2 ⟨vs, H2, I2, r, q2⟩ => ⟨I2.kIn, ?_⟩) hst hpl
  exact run_S (us := .ref a :: us) (vs := .ref a :: vs) F (hr.mono hk) (hx σ) I2 (.cons rfl r) q2
/-- C(e, ..), its __init__ may raise -/
def tMkS (C : Addr) (sp : Sp) (E : L2.St → XK) (t : TA) : TE := fun σ H Q => t σ H fun vs H1 => ∀ x dx, H1 x = Option.none → H1 dx = Option.none → dx ≠ x → sp (V.ref x :: vs) (upd (upd H1 dx (.own x)) x (.ins C dx [])) (fun v H2 => v = .non ∧ Q (.ref x) H2) (E σ)
end
/-! ### what a kept error is asked -/
/-- an own error class with its own __init__ -/
structure ErrC (K : PySem.W.Frag) (C : Addr) : Prop where
  ga : PySem.W.findIn K (.ref C) "__getattribute__" = some (some (.builtin "BaseException.__getattribute__"))
  gg : PySem.W.findIn K (.ref C) "__getattr__" = some none
  exC : PySem.W.subIn K (.ref C) (.type "BaseException") = some true
  hdC : PySem.W.hasDictIn K C = true
  ca : PySem.W.findIn K (.ref C) "__class__" = some (some (.builtin "object.__class__"))
  hn : PySem.W.specialIn K (.builtin "object.__class__") "__get__" = some (some (.builtin "getset_descriptor.__get__"))
  ht : PySem.W.takesIn K (.builtin "object.__class__") = some true
  hm : PySem.W.mroIn K C (.type "object") = some true
theorem ErrC.isc {K : PySem.W.Frag} {C : Addr} (T : ErrC K C) : (PySem.W.clsIn K C).isSome = true := by
  obtain ⟨cd, hc, _⟩ := PySem.W.any_some T.hdC
  rw [hc]
  rfl
section
variable {X : Cx} {C D : Addr}
theorem kx_inst {pins : List (Addr × Obj)} {σ : L2.St} {H : Hp} {s : Shared} {a d : Addr} {fs : List (Str × V)} (I : Inv X pins σ H s) (e : H a = some (Kx (.ref C) (some d) a)) (ed : H d = some (.xd fs)) :
    ∃ ox od, PySem.W.InstAt s.heap a ox C (some od) ∧ ∀ (f : Str) (v : V), fs.lookup f = some v → ∃ u, PySem.W.lookIn f od = some (some u) ∧ L2.RelV v u := by
  obtain ⟨oe, vs, e1, z, hd⟩ := kx_at I.hok e
  have hx : ObjOk X.prog X.w H s.heap d (.xd fs) := I.hok d _ ed
  obtain ⟨mA, hns, hr⟩ := hx
  obtain ⟨od, ho, hl⟩ := lookIn_ns hns
  refine ⟨oe, od, ⟨e1, z.1, by unfold PySem.W.notCls; rw [hd] <;> rfl, by rw [z.2]; exact ho⟩, fun f v l => ?_⟩
  obtain ⟨u, hu, ru⟩ := RelO.some_of (v := v) (o := mA f) (by rw [← l]; exact hr f)
  exact ⟨u, (hl f).trans (congrArg some hu), ru⟩
/-- caught.f -/
def tKx (C : Addr) (f : Str) (te : TE) : TE := fun σ H Q => te σ H fun x H1 => ∃ (a d : Addr) (fs : List (Str × V)) (v : V), x = .ref a ∧ H1 a = some (Kx (.ref C) (some d) a) ∧ H1 d = some (.xd fs) ∧ fs.lookup f = some v ∧ Q v H1
theorem pe_kx {e : Expr} {te : TE} {pos : Pos} {n : Str} (T : ErrC X.K C) (hno : PySem.W.findIn X.K (.ref C) n = some none) (he : PE X e te) (hb : attributeBase e n X.env (eval e X.env) = eval e X.env := by rfl) : PE X (.Attribute e n pos) (tKx C n te) := by
  refine ⟨fun pins s σ H Q I h => attr_of hb (thn (he.run pins s σ H _ I h) fun u s1 out => ?_)⟩
  obtain ⟨y, H1, I1, ry, a, d, fs, v, rfl, ea, ed, l, q⟩ := out
  obtain rfl : u = Value.ref a := ry
  obtain ⟨ox, od, J, look⟩ := kx_inst I1 ea ed
  obtain ⟨v', hv, rv⟩ := look n v l
  exact HandSPX.exc_get I1.kIn J T.ga T.gg T.exC (PySem.W.findObj_own T.hdC hno rfl hv) (handed_of rv) ⟨v, H1, I1.tok _, rv, q⟩
/-- isinstance(caught, D) -/
def rKis (K : PySem.W.Frag) : List V → Hp → VK → Prop := fun xs H Q => ∃ (a d C D : Addr) (fs : List (Str × V)) (b : Bool), xs = [.ref a, .ref D] ∧ H a = some (Kx (.ref C) (some d) a) ∧ H d = some (.xd fs) ∧ ErrC K C ∧ PySem.W.kitOne K (.ref C) (.ref D) = some b ∧ Q (.bl b) H
theorem call_kis : CallR X (.builtin "isinstance") (rKis X.K) := by
  intro pins s σ H xs us Q I r h
  obtain ⟨a, d, C, D, fs, b, rfl, ea, ed, T, kk, q⟩ := h
  cases r with
  | cons r1 r2 =>
    cases r2 with
    | cons r2 r3 =>
      cases r3
      cases r1
      cases r2
      obtain ⟨ox, od, J, _⟩ := kx_inst I ea ed
      exact PySem.W.kia_one (PySem.W.kitx_exc T.isc T.ga T.gg T.exC T.ca T.hn T.ht T.hm) I.kIn J kk (fun z => nomatch z) fun tk => ⟨.bl b, H, I.kept (t' := tk) fun _ _ z => z, rfl, q⟩
end
end Ws
namespace Ws
open PySem PySem.Spec PyProof.Rows L2
section
variable {X : Cx} {CX : CXT} {k j : Nat} {C f : Addr} {sp : Sp} {E : L2.St → XK} {x : Str} {p pos : Pos} {e : Expr} {es : List Expr} {t : TA} {fd : FuncData} {ps ks : List Str} {g : List Value → List Value → List Value} {gV : List V → List V → List V}
theorem run_mkS {pins : List (Addr × Obj)} {σ : L2.St} {H : Hp} {s : Shared} {Q : VK} {us : List Value} {vs : List V} (M : Mk X.K C f) (F : FnR X.prog X.w X.K X.mg X.base CX k f sp) (hr : Room (k + 1) X.A) (hx : PassesAt CX X σ (E σ)) (I : Inv X pins σ H s) (r : Vals vs us)
    (h : ∀ x dx, H x = Option.none → H dx = Option.none → dx ≠ x → sp (V.ref x :: vs) (upd (upd H dx (.own x)) x (.ins C dx [])) (fun v H2 => v = .non ∧ Q (.ref x) H2) (E σ)) : wpAny (model X.prog X.w) X.A (call (.ref C) us) (EP X pins σ Q) X.xe s := by
  have now := h (s.heap.objs.size + 1) s.heap.objs.size (I.hok.fresh (Nat.le_succ _)) (I.hok.fresh (Nat.le_refl _)) (Nat.ne_of_lt (Nat.lt_succ_self _))
  have I2 := Inv.made (C := C) I
  refine wpAny_call (make_map (f := f) I.kIn M.makes M.init (beq_iff_eq.mp M.fn) (codeAny_mono (F _ X.stack _ _ (Value.ref (s.heap.objs.size + 1) :: us) (V.ref (s.heap.objs.size + 1) :: vs) _ (E σ) (hr.make C us []) (I2.env0.make C us []) (.cons rfl r) now) fun out s' q => ?_))
  cases out with
  | error e => exact hx pins _ _ e s' I2 q
  | ok fl => cases fl with
    | ret u =>
      obtain ⟨v, H3, I3, rv, ev, q3⟩ := I2.after q
      cases ev
      exact ⟨rv, V.ref (s.heap.objs.size + 1), H3, I3, rfl, q3⟩
    | next => exact q.elim
    | brk => exact q.elim
    | cont => exact q.elim
/-- a class whose __init__ may raise -/
def MakE (P : Program) (w : World) (K : PySem.W.Frag) (mg : Str → Option Value) (base : Heap) (CX : CXT) (k : Nat) (x : Str) (C : Addr) (sp : Sp) : Prop := ∃ f : Addr, Mk K C f ∧ FnR P w K mg base CX k f sp ∧ mg x = some (.ref C)
theorem pe_mkS (c : MakE X.prog X.w X.K X.mg X.base CX k x C sp) (hr : Room j X.A) (hk : k + 1 ≤ j) (hx : ∀ σ, PassesAt CX X σ (E σ)) (hg : Gl X x) (ha : PA X (e :: es) t) (hdb : (x == ("__debug__" : Str)) = false := by decide)
    (he : starEach (e :: es) X.env = (false, eval e X.env) :: starEach es X.env := by rfl) (hpl : (backTo pos (starEach es X.env)).any (·.1) = false := by rfl) : PE X (.Call (.Name x p) (e :: es) [] pos) (tMkS C sp E t) := by
  obtain ⟨f, M, F, hm⟩ := c
  refine ⟨fun pins s σ H Q I h => wpAny_Call_Name_kw (ld_glob I hg hm ?_ hdb)⟩
  refine PySem.W.callWith_K (h₀ := X.base) I.ok.mod.kin M.kp (thn (ha.run pos pins s σ H _ I h) fun us s1 ⟨vs, H1, I1, r, q⟩ => ⟨I1.kIn, ?_⟩) he hpl
  exact run_mkS M F (hr.mono hk) (hx σ) I1 r q
/-- no error at all is let out -/
theorem passN {X : Cx} {E : XK} (h : ∀ c d H, ¬ E c d H) : Passes (L2.CX X.prog X.w) X E := fun _ _ _ _ _ _ _ c => by
  obtain ⟨_, _, _, _, _, _, _, _, _, _, _, _, z⟩ := c
  exact (h _ _ _ z).elim
theorem passNS {X : Cx} : ∀ σ, PassesAt (L2.CX X.prog X.w) X σ E0 := fun σ _ _ _ _ _ _ c => by
  obtain ⟨_, _, _, _, _, _, _, _, _, _, _, _, z⟩ := c
  exact z.elim
end
end Ws
namespace Ws
open PySem PySem.Spec PyProof.Rows L2
section
variable {X : Cx} {CX : CXT} {k n : Nat} {C f : Addr} {sp : Sp} {E : L2.St → XK} {x : Str} {p pos : Pos} {e : Expr} {es : List Expr} {kws : List Keyword} {t tk : TA} {fd : FuncData} {ps ks : List Str} {g : List Value → List Value → List Value} {gV : List V → List V → List V}
theorem run_mkKS {pins : List (Addr × Obj)} {σ : L2.St} {H : Hp} {s : Shared} {Q : VK} {us ws : List Value} {vs zs : List V} (M : Mk X.K C f) (F : FnOk X.prog X.w X.K X.mg X.base CX k f fd ps sp) (hr : Room (k + 1) X.A) (hb : KBn X.K fd ps (n + 1) ks g gV) (hx : PassesAt CX X σ (E σ))
    (I : Inv X pins σ H s) (r : Vals vs us) (rz : Vals zs ws) (l1 : vs.length = n) (l2 : zs.length = ks.length)
    (h : ∀ x dx, H x = Option.none → H dx = Option.none → dx ≠ x → sp (gV (.ref x :: vs) zs) (upd (upd H dx (.own x)) x (.ins C dx [])) (fun v H2 => v = .non ∧ Q (.ref x) H2) (E σ)) :
    wpAny (model X.prog X.w) X.A (call (.ref C) us (ks.zip ws)) (EP X pins σ Q) X.xe s := by
  have now := h (s.heap.objs.size + 1) s.heap.objs.size (I.hok.fresh (Nat.le_succ _)) (I.hok.fresh (Nat.le_refl _)) (Nat.ne_of_lt (Nat.lt_succ_self _))
  have I2 := Inv.made (C := C) I
  have all := hb.rel (Paired.cons (show L2.RelV (V.ref (s.heap.objs.size + 1)) (Value.ref (s.heap.objs.size + 1)) from rfl) r) rz
  have len : (Value.ref (s.heap.objs.size + 1) :: us).length = n + 1 := congrArg (· + 1) (r.length.symm.trans l1)
  refine wpAny_call (make_map (f := f) I.kIn M.makes M.init (beq_iff_eq.mp M.fn) (codeAny_mono (F.run _ X.stack _ _ ⟨Value.ref (s.heap.objs.size + 1) :: us, ks.zip ws⟩ (g (Value.ref (s.heap.objs.size + 1) :: us) ws) _ _ (E σ) (hr.make C us (ks.zip ws))
    (I2.env0.make C us (ks.zip ws)) (hb.to _ _ ws I2.kIn len (rz.length.symm.trans l2)) all now) fun out s' q => ?_))
  cases out with
  | error e => exact hx pins _ _ e s' I2 q
  | ok fl => cases fl with
    | ret u =>
      obtain ⟨v, H3, I3, rv, ev, q3⟩ := I2.after q
      cases ev
      exact ⟨rv, V.ref (s.heap.objs.size + 1), H3, I3, rfl, q3⟩
    | next => exact q.elim
    | brk => exact q.elim
    | cont => exact q.elim
/-- C(e, .., k = v, ..), its __init__ may raise -/
def tMkKS (C : Addr) (n m : Nat) (sp : Sp) (gV : List V → List V → List V) (E : L2.St → XK) (t tk : TA) : TE := fun σ H Q => t σ H fun vs H1 => tk σ H1 fun zs H2 => vs.length = n ∧ zs.length = m ∧ ∀ x dx, H2 x = Option.none → H2 dx = Option.none → dx ≠ x →
  sp (gV (.ref x :: vs) zs) (upd (upd H2 dx (.own x)) x (.ins C dx [])) (fun v H3 => v = .non ∧ Q (.ref x) H3) (E σ)
theorem pe_mkKS (M : Mk X.K C f) (F : FnOk X.prog X.w X.K X.mg X.base CX k f fd ps sp) (hr : Room (k + 1) X.A) (hg : Gl X x) (hm : X.mg x = some (.ref C)) (hb : KBn X.K fd ps (n + 1) ks g gV) (hx : ∀ σ, PassesAt CX X σ (E σ)) (ha : PA X (e :: es) t) (hkw : PK X kws tk)
    (hall : (backToKw pos (keywordEach kws X.env)).all (·.1.isSome) = true := by rfl) (hks : (backToKw pos (keywordEach kws X.env)).filterMap (·.1) = ks := by rfl) (hdb : (x == ("__debug__" : Str)) = false := by decide)
    (he : starEach (e :: es) X.env = (false, eval e X.env) :: starEach es X.env := by rfl) (hpl : ((backTo pos (starEach (e :: es) X.env)).any (·.1) || (backToKw pos (keywordEach kws X.env)).any (·.1.isNone)) = false := by rfl) :
    PE X (.Call (.Name x p) (e :: es) kws pos) (tMkKS C n ks.length sp gV E t tk) := by
  refine ⟨fun pins s σ H Q I h => wpAny_Call_Name_kw (ld_glob I hg hm ?_ hdb)⟩
  refine PySem.W.callWith_KW (h₀ := X.base) I.ok.mod.kin M.kp hall (thn (ha.run pos pins s σ H _ I h) fun us s1 ⟨vs, H1, I1, r, q⟩ => ?_) hpl he
  refine thn (hkw.run pos pins s1 σ H1 _ I1 q) fun ws s2 ⟨zs, H2, I2, rz, l1, l2, q2⟩ => ⟨I2.kIn, ?_⟩
  rw [hks]
  exact run_mkKS M F hr hb (hx σ) I2 r rz l1 l2 q2
end
/-! ### == of two tuples of the very same items -/
section
variable {X : Cx}
def rEqTI (K : PySem.W.Frag) : R2 := fun x y H Q => ∃ (a b : Addr) (xs : List V), x = .ref a ∧ y = .ref b ∧ SqT K H a xs ∧ SqT K H b xs ∧ (∀ v ∈ xs, flatB v = true ∨ ∃ c, v = .ref c) ∧ Q (.bl true) H
theorem eq_item {A : Around} {s : Shared} {v : V} {u u' : Value} (r : L2.RelV v u) (r' : L2.RelV v u') (f : flatB v = true ∨ ∃ c, v = .ref c) : SeqAt.EqAt A s u u' true := by
  rcases f with f | ⟨c, rfl⟩
  · exact eqAt_same r r' f
  · cases (show u = Value.ref c from r)
    cases (show u' = Value.ref c from r')
    exact SeqAt.EqAt.same _
theorem op_eqTI {j : Nat} (hr : Room j X.A) : OpR X (compareOp .Eq) (rEqTI X.K) := by
  intro pins s σ H x y v u Q I rx ry h
  obtain ⟨a, b, xs, rfl, rfl, ha, hb, hf, q⟩ := h
  cases (show v = Value.ref a from rx)
  cases (show u = Value.ref b from ry)
  obtain ⟨us, r1, ⟨o1, e1, c1, n1, d1⟩, _⟩ := I.tuple ha
  obtain ⟨ws, r2, ⟨o2, e2, c2, n2, d2⟩, _⟩ := I.tuple hb
  refine SeqAt.eq_tupleAt (items := us.toArray) (items2 := ws.toArray) (e := fun _ => true) ⟨o1, e1, c1, n1, d1⟩ ⟨o2, e2, c2, n2, d2⟩ hr.units0 (fun j h1 h2 => ?_) ?_
  · have g1 : j < us.length := by simpa using h1
    have g2 : j < ws.length := by simpa using h2
    have g0 : j < xs.length := by rw [r1.length]; exact g1
    obtain ⟨z1, y1, w1⟩ := r1.get (List.getElem?_eq_getElem g0)
    obtain ⟨z2, y2, w2⟩ := r2.get (List.getElem?_eq_getElem g0)
    rw [List.getElem?_eq_getElem g1] at y1
    rw [List.getElem?_eq_getElem g2] at y2
    have k : SeqAt.EqAt X.A.in1 s us[j] ws[j] true := by
      cases y1
      cases y2
      exact eq_item w1 w2 (hf _ (List.getElem_mem g0))
    simpa using k
  · have l : us.toArray.size = ws.toArray.size := by
      rw [List.size_toArray, List.size_toArray, ← r1.length, ← r2.length]
    have e : ((List.range (min us.toArray.size ws.toArray.size)).all (fun _ => true) && us.toArray.size == ws.toArray.size) = true := by
      rw [l, List.all_eq_true.mpr (fun _ _ => rfl)]
      simp
    rw [e]
    exact ⟨.bl true, H, I, rfl, q⟩
/-- isinstance with a built-in class, of an instance of one's own -/
theorem kit_tyb {K : PySem.W.Frag} {t : Value} {T : String} {b : Bool} (h0 : (t == Value.type T) = false) (h1 : PySem.W.kitMeta T = true) (h2 : PySem.W.subIn K t (.type T) = some b) : PySem.W.kitOne K t (.type T) = some b := by
  unfold PySem.W.kitOne
  rw [h0, if_neg Bool.false_ne_true]
  show (if PySem.W.kitMeta T = true then PySem.W.subIn K t (.type T) else none) = some b
  rw [if_pos h1, h2]
end
end Ws
namespace Ws
open PySem PySem.Spec PyProof.Rows L2
section
variable {X : Cx} {k j : Nat} {sp : Sp} {x : Str} {p pos : Pos}
/-- f() -/
theorem pe_f0 (c : CalF X.prog X.w X.K X.mg X.base k x sp) (hr : Room j X.A) (hk : k ≤ j) (hg : Gl X x) (hdb : (x == ("__debug__" : Str)) = false := by decide) : PE X (.Call (.Name x p) [] [] pos) (tF sp tNil) := by
  obtain ⟨f, F, hm, hkp⟩ := c
  refine ⟨fun pins s σ H Q I h => wpAny_Call_Name_kw (ld_glob I hg hm ?_ hdb)⟩
  exact PySem.W.callWith_K0 I.kIn hkp (run_R (us := []) F (hr.mono hk) pass0 I .nil h)
end
end Ws

namespace Ws
open PySem PySem.Spec PyProof.Rows L2
/-! ### data of any nesting, dicts among it, apart from the object at p -/
def kD : Key → PyData
  | .inl i => .int i
  | .inr x => .str x
mutual
inductive Da (p : Addr) (H : Hp) : V → PyData → Prop
  | non : Da p H .non .none
  | bl (b : Bool) : Da p H (.bl b) (.bool b)
  | int (i : Int) : Da p H (.int i) (.int i)
  | str (x : Str) : Da p H (.str x) (.str x)
  | lst {a : Addr} {xs : List V} {ds : List PyData} : H a = some (.lst xs) → a ≠ p → a ≠ sysModules → DaAll p H xs ds → Da p H (.ref a) (.list ds)
  | tup {a : Addr} {xs : List V} {ds : List PyData} : H a = some (.tup xs) → a ≠ p → DaAll p H xs ds → Da p H (.ref a) (.tuple ds)
  | dct {a : Addr} {kvs : List (Key × V)} {ds : List PyData} : H a = some (.dK kvs) → a ≠ p → DaAll p H (kvs.map (·.2)) ds → Da p H (.ref a) (.dict ((kvs.map fun e => kD e.1).zip ds))
inductive DaAll (p : Addr) (H : Hp) : List V → List PyData → Prop
  | nil : DaAll p H [] []
  | cons {v : V} {vs : List V} {d : PyData} {ds : List PyData} : Da p H v d → DaAll p H vs ds → DaAll p H (v :: vs) (d :: ds)
end
theorem DaAll.len {p : Addr} {H : Hp} : ∀ {vs : List V} {ds : List PyData}, DaAll p H vs ds → vs.length = ds.length
  | _, _, .nil => rfl
  | _, _, .cons _ t => congrArg (· + 1) t.len
mutual
theorem Da.ch {p : Addr} {H H' : Hp} (c : Ch p H H') : ∀ {v : V} {d : PyData}, Da p H v d → Da p H' v d
  | _, _, .non => .non
  | _, _, .bl b => .bl b
  | _, _, .int i => .int i
  | _, _, .str x => .str x
  | _, _, .lst e n s t => .lst (c _ _ n e) n s (DaAll.ch c t)
  | _, _, .tup e n t => .tup (c _ _ n e) n (DaAll.ch c t)
  | _, _, .dct e n t => .dct (c _ _ n e) n (DaAll.ch c t)
theorem DaAll.ch {p : Addr} {H H' : Hp} (c : Ch p H H') : ∀ {vs : List V} {ds : List PyData}, DaAll p H vs ds → DaAll p H' vs ds
  | _, _, .nil => .nil
  | _, _, .cons h t => .cons (Da.ch c h) (DaAll.ch c t)
end
theorem Da.same {p : Addr} {H H' : Hp} (s : Same H H') {v : V} {d : PyData} (h : Da p H v d) : Da p H' v d := h.ch (Ch.of s)
section
variable {X : Cx} {pins : List (Addr × Obj)} {σ : L2.St} {H : Hp} {s : Shared} {p : Addr}
theorem pairs_reads {P : Program} {w : World} {h : Heap} : ∀ {es : List DictEntry} {kvs : List (Key × V)} {vs : List (Key × Value)}, PySem.Pairs (mixKind P w) es vs → KV kvs vs → ReadsAll h (es.map (·.key)) (kvs.map fun e => kD e.1) [] ∧ Vals (kvs.map (·.2)) (es.map (·.val))
  | [], _, _, .nil, .nil => ⟨.nil, .nil⟩
  | e :: es, _, _, .cons hk hv t, .cons r q => by
    obtain ⟨h1, h2⟩ := pairs_reads (h := h) t q
    refine ⟨?_, .cons (by show L2.RelV _ e.val; rw [hv]; exact r.2) h2⟩
    have hk' := hk
    rw [← r.1] at hk'
    rcases keyIs_shape (show keyIs _ e.key = true from hk') with ⟨i, tk, e1, e2⟩ | ⟨x, tk, e1, e2⟩
    · show ReadsAll h (e.key :: _) (kD _ :: _) []
      rw [e1, e2]
      exact ReadsAll.cons (as := []) (bs := []) (Reads.int i tk) h1
    · show ReadsAll h (e.key :: _) (kD _ :: _) []
      rw [e1, e2]
      exact ReadsAll.cons (as := []) (bs := []) (Reads.str x tk) h1
mutual
theorem Da.reads (I : Inv X pins σ H s) : ∀ {v : V} {d : PyData}, Da p H v d → ∀ u, RelV v u → ∃ as, Reads s.heap u d as ∧ sysModules ∉ as
  | _, _, .non, u, r => by
    cases (show u = Value.none from r)
    exact ⟨[], .none, by simp⟩
  | _, _, .bl b, u, r => by
    cases (show u = Value.bool b from r)
    exact ⟨[], .bool b, by simp⟩
  | _, _, .int i, u, r => by
    obtain ⟨t, e⟩ := (show ∃ t, u = Value.int i t from r)
    subst e
    exact ⟨[], .int i t, by simp⟩
  | _, _, .str x, u, r => by
    obtain ⟨t, e⟩ := (show ∃ t, u = Value.str x t from r)
    subst e
    exact ⟨[], .str x t, by simp⟩
  | _, _, .lst (a := a) e n z t, u, r => by
    cases (show u = Value.ref a from r)
    obtain ⟨_, its, k, rv, ho⟩ := (show ObjOk X.prog X.w H s.heap a (.lst _) from I.hok a _ e)
    obtain ⟨as, R, ns⟩ := DaAll.reads I t its rv
    exact ⟨_, .list ho rfl rfl (by simpa using R), by simp only [List.mem_cons, not_or]; exact ⟨fun q => z q.symm, ns⟩⟩
  | _, _, .tup (a := a) e n t, u, r => by
    cases (show u = Value.ref a from r)
    obtain ⟨_, its, rv, ob, ho, hc, k, hd⟩ := (show ObjOk X.prog X.w H s.heap a (.tup _) from I.hok a _ e)
    obtain ⟨as, R, ns⟩ := DaAll.reads I t its rv
    exact ⟨_, .tuple ho hc hd (by simpa using R), ns⟩
  | _, _, .dct (a := a) (kvs := kvs) (ds := ds) e n t, u, r => by
    cases (show u = Value.ref a from r)
    obtain ⟨_, hs, vs, rel, ob, es, ep, ho, hx, hd, _, hp, _⟩ := (show ObjOk X.prog X.w H s.heap a (.dK _) from I.hok a _ e)
    obtain ⟨h1, h2⟩ := pairs_reads (h := s.heap) hp rel
    obtain ⟨as, R, ns⟩ := DaAll.reads I t _ h2
    have hl : (kvs.map fun e => kD e.1).length = ds.length := by have := t.len; rw [List.length_map] at this ⊢; exact this
    refine ⟨[a] ++ [] ++ as, .dict (as := []) (bs := as) ho hx.1 hd ?_ ?_, ?_⟩
    · rw [List.map_fst_zip (Nat.le_of_eq hl)]
      exact h1
    · rw [List.map_snd_zip (Nat.le_of_eq hl.symm)]
      exact R
    · simp only [List.append_nil, List.cons_append, List.nil_append, List.mem_cons, not_or]
      exact ⟨fun q => by rw [q] at hs; simp at hs, ns⟩
theorem DaAll.reads (I : Inv X pins σ H s) : ∀ {vs : List V} {ds : List PyData}, DaAll p H vs ds → ∀ us, Vals vs us → ∃ as, ReadsAll s.heap us ds as ∧ sysModules ∉ as
  | _, _, .nil, _, .nil => ⟨[], .nil, by simp⟩
  | _, _, .cons h t, _, .cons r q => by
    obtain ⟨as, R, n1⟩ := Da.reads I h _ r
    obtain ⟨bs, T, n2⟩ := DaAll.reads I t _ q
    exact ⟨_, .cons R T, by simp only [List.mem_append, not_or]; exact ⟨n1, n2⟩⟩
end
end
/-- data that may be shown, at most n deep -/
structure Ok (n : Nat) (d : PyData) : Prop where
  sh : d.showable = true
  ls : d.leavesShort 1901 = true
  dp : d.depth ≤ n
  bk : d.bulk ≤ 40 * (n + 1)
structure OkA (n : Nat) (ds : List PyData) : Prop where
  sh : PyData.showableAll ds = true
  ls : PyData.leavesShortAll 1901 ds = true
  dp : PyData.depthAll ds ≤ n
theorem Ok.mono {n m : Nat} {d : PyData} (h : Ok n d) (l : n ≤ m) : Ok m d := ⟨h.sh, h.ls, Nat.le_trans h.dp l, Nat.le_trans h.bk (Nat.mul_le_mul_left _ (by omega))⟩
theorem ok_int {i : Int} (h : i.natAbs < 2 ^ 1800) : Ok 0 (.int i) := by
  have h' : i.natAbs.log2 < 1900 := Nat.lt_of_lt_of_le (PySem.Flt.log2_lt_of (by decide) h) (by decide)
  refine ⟨by simp only [PyData.showable, decide_eq_true_eq]; omega, ?_, Nat.le_refl _, Nat.zero_le _⟩
  show decide ((Str.ofString (toString i)).length ≤ 1901) = true
  rw [decide_eq_true_eq, PySem.ofString_length]
  exact int_text_length_le (by decide) h'
theorem ok_none : Ok 0 .none := ⟨rfl, rfl, Nat.le_refl _, Nat.zero_le _⟩
theorem ok_bool (b : Bool) : Ok 0 (.bool b) := ⟨rfl, rfl, Nat.le_refl _, Nat.zero_le _⟩
theorem ok_tup1 {n : Nat} {d : PyData} (h : Ok n d) : Ok (n + 1) (.tuple [d]) := by
  obtain ⟨h1, h2, h3, h4⟩ := h
  refine ⟨by simp only [PyData.showable, PyData.showableAll, h1, Bool.and_self], by simp only [PyData.leavesShort, PyData.leavesShortAll, h2, Bool.and_self], ?_, ?_⟩
  · simp only [PyData.depth, PyData.depthAll]; omega
  · simp only [PyData.bulk, PyData.bulkAll]; omega
theorem ok_lst1 {n : Nat} {d : PyData} (h : Ok n d) : Ok (n + 1) (.list [d]) := by
  obtain ⟨h1, h2, h3, h4⟩ := h
  refine ⟨by simp only [PyData.showable, PyData.showableAll, h1, Bool.and_self], by simp only [PyData.leavesShort, PyData.leavesShortAll, h2, Bool.and_self], ?_, ?_⟩
  · simp only [PyData.depth, PyData.depthAll]; omega
  · simp only [PyData.bulk, PyData.bulkAll]; omega
theorem ok_dct1 {n : Nat} {x : Str} {d : PyData} (hx : x.cps.toList.all (fun c => decide (c < 16 ^ 8)) = true) (hz : x.cps.size ≤ 20) (h : Ok n d) : Ok (n + 1) (.dict [(.str x, d)]) := by
  obtain ⟨h1, h2, h3, h4⟩ := h
  refine ⟨by simp only [PyData.showable, PyData.showableKv, h1, Bool.and_self], by simp only [PyData.leavesShort, PyData.leavesShortKv, h2, hx, Bool.and_self], ?_, ?_⟩
  · simp only [PyData.depth, PyData.depthKv]; omega
  · simp only [PyData.bulk, PyData.bulkKv]; omega
section
variable {X : Cx}
/-- repr(x) of data -/
def rRepD : List V → Hp → VK → Prop := fun xs H Q => ∃ (a p : Addr) (d : PyData), xs = [V.ref a] ∧ Da p H (.ref a) d ∧ d.showable = true ∧ d.leavesShort 1901 = true ∧ d.bulk ≤ 8000 ∧ d.depth ≤ 60 ∧ Q (.str d.shown) H
theorem call_repD {j : Nat} (cl : X.A.guards = some []) (hr : Room j X.A) : CallR X (.builtin "repr") rRepD := by
  intro pins s σ H xs us Q I r h
  obtain ⟨a, p, d, rfl, da, sh, sl, bk, de, q⟩ := h
  obtain ⟨u, rfl, ru⟩ := vals1 r
  cases (show u = Value.ref a from ru)
  obtain ⟨as, rd, ns⟩ := Da.reads I da _ rfl
  have sz := PyData.shown_le_bulk 1901 (by decide) d sl
  have sz2 : d.shown.length ≤ sizeLine := by
    have : sizeLine = 16777216 := by decide
    have : (1901 + 2) * d.bulk ≤ 1903 * 8000 := Nat.mul_le_mul (by decide) bk
    omega
  refine repr_of_reads' rd sh (fun _ => ns) cl ?_ (fun _ _ e => e) (fun h' u tk hk => ⟨.str d.shown, H, I.kept hk, ⟨u, rfl⟩, q⟩) sz2
  have := hr.un
  omega
/-- a list display, its place told not to be that of sys.modules -/
def tLstS (ta : TA) : TE := fun σ H Q => ta σ H fun xs H1 => xs.length ≤ sizeLine ∧ ∀ p, H1 p = none → p ≠ sysModules → Q (.ref p) (upd H1 p (.lst xs))
theorem pe_lstS {es : List Expr} {t : TA} {pos : Pos} (h : PA X es t) : PE X (.List es pos) (tLstS t) := ⟨fun pins s σ H Q I hq =>
  wpAny_List_spliced (thn (h.run pos pins s σ H _ I hq) fun us s1 ⟨xs, G, J, r, z, q⟩ => ⟨r.length ▸ z, ⟨.ref s1.heap.objs.size, upd G s1.heap.objs.size (.lst xs),
    J.laid (t' := s1.toks) (fun b u e => Heap.get?_push_of_some _ e) (Nat.le_refl _) ⟨z, us, 0, r, Heap.get?_push_size _ rfl⟩, rfl, q _ (J.hok.fresh (Nat.le_refl _)) (Nat.ne_of_gt J.big)⟩⟩)⟩
end
end Ws

namespace Ws
open PySem PySem.Spec PyProof.Rows L2
/-! ### the law's own call, where defs of the text make lambdas: their tables are tracked from the beginning -/
def onlyT (K : PySem.W.Frag) (a : Addr) (o : Obj) (xs : List V) (ts : List Addr) : Hp := fun b => if b ∈ ts then some (.tbl #[]) else only1 K a o xs b
/-- what is known of the code object at c and its table at T -/
structure TabF (K : PySem.W.Frag) (h : Heap) (p : Addr × Addr) : Prop where
  at_ : h.get? p.2 = some (PySem.W.tabObj #[])
  out : K.lookup p.2 = none
  code : PySem.W.CodeHd h p.1 p.2
theorem law_GT {P : Program} {w : World} {K : PySem.W.Frag} {mg mb : Str → Option Value} {k : Nat} {fa a : Addr} {sp : Sp} {s : Shared} {vs : List Value} {ns : List Int} {tb : List (Addr × Addr)}
    (inS : K.In s.heap) (hm : s.heap.Ns mainGlobals mg) (hb : s.heap.Ns builtinsNs mb) (bb : ∀ x : Str, x ≠ "__name__" → mb x = bootBuiltins x) (free : s.heap.NoLimit) (hg : s.gens = #[])
    (tf : ∀ p ∈ tb, TabF K s.heap p) (own : ∃ (m : Addr) (o : Obj), mg "__builtins__" = some (.ref m) ∧ m ≠ builtinsNs ∧ s.heap.get? m = some o ∧ o.cls = .type "module" ∧ o.dict = some builtinsNs ∧ o.data = .plain)
    (ha : s.heap.get? a = some { cls := .type "list", data := .seq vs.toArray }) (hi : IntsAre vs ns) (hl : ns.length ≤ sizeLine) (hr : Room k callerA)
    (F : ∀ base : Heap, K.In base → base.Ns mainGlobals mg → (∀ p ∈ tb, LamX.TabB base mg p.1 p.2) → FnG P w K mg base CX0 k fa sp)
    (hsp : ∀ H : Hp, (∀ p ∈ tb, H p.2 = some (.tbl #[])) → SqL K H a (ns.map V.int) → sp [.ref a] H (fun v _ => v = .bl true) fun _ _ _ => False) :
    codeAny (model P w) callerA (.call (.ref fa) ⟨[.ref a], []⟩) (fun r s' => r = .ok (.ret (.bool true)) ∧ OldK s.heap s'.heap ∧ s'.os = s.os ∧ AllBare s'.gens) s := by
  let ob : Obj := { cls := .type "list", data := .seq vs.toArray }
  let ts : List Addr := tb.map Prod.snd
  let H : Hp := onlyT K a ob (ns.map V.int) ts
  have isT : ∀ t, t ∈ ts → s.heap.get? t = some (PySem.W.tabObj #[]) := fun t ht => let ⟨p, hp, e⟩ := List.mem_map.mp ht; e ▸ (tf p hp).at_
  have na : a ∉ ts := fun z => by
    have q := (isT a z).symm.trans ha
    cases (show Data.fields #[] = Data.seq vs.toArray _ from congrArg Obj.data (Option.some.inj q))
  have inT : ∀ p ∈ tb, p.2 ∈ ts := fun p hp => List.mem_map.mpr ⟨p, hp, rfl⟩
  have hH : ∀ b u, H b = some u → (b ∈ ts ∧ u = .tbl #[]) ∨ (b ∉ ts ∧ b = a ∧ K.lookup a = none ∧ u = .frz ob (.lst (ns.map V.int))) := by
    intro b u e
    by_cases ht : b ∈ ts
    · have e1 : some (HO.tbl #[]) = some u := (if_pos ht).symm.trans e
      exact .inl ⟨ht, (Option.some.inj e1).symm⟩
    · have e1 : only1 K a ob (ns.map V.int) b = some u := (if_neg ht).symm.trans e
      unfold only1 at e1
      by_cases hba : b = a
      · rw [if_pos hba] at e1
        cases hk : K.lookup a with
        | some _ => rw [hk] at e1; cases e1
        | none => rw [hk] at e1; exact .inr ⟨ht, hba, rfl, (Option.some.inj e1).symm⟩
      · rw [if_neg hba] at e1; cases e1
  have rv := vals_ints hi
  have here : SqL K H a (ns.map V.int) := by
    cases hk : K.lookup a with
    | none =>
      refine .inl (.inr ⟨ob, ?_⟩)
      show (if a ∈ ts then _ else only1 K a ob (ns.map V.int) a) = _
      rw [if_neg na]
      unfold only1
      rw [if_pos rfl, hk]
    | some o =>
      have e := inS a o hk
      rw [ha] at e
      cases e
      exact .inr ⟨_, vs.toArray, _, hk, rfl, rfl, rfl, by rw [List.size_toArray, hi.length]; exact hl, by simpa using rv⟩
  have ok : HOk P w H s.heap := fun b u e => by
    rcases hH b u e with ⟨ht, rfl⟩ | ⟨_, rfl, _, rfl⟩
    · exact isT b ht
    · exact ⟨ha, by rw [List.length_map]; exact hl, vs, _, rv, ha⟩
  -- what is no list and no table is not tracked
  have off : ∀ {b : Addr} {o : Obj}, s.heap.get? b = some o → (∀ x n, o.data = .seq x n → False) → (o.data = .fields #[] → False) → H b = none := fun {b o} e h1 h2 => by
    cases q : H b with
    | none => rfl
    | some u =>
      rcases hH b u q with ⟨ht, _⟩ | ⟨_, rfl, _, _⟩
      · exact (h2 (congrArg Obj.data (Option.some.inj (e.symm.trans (isT b ht))))).elim
      · exact (h1 _ _ (congrArg Obj.data (Option.some.inj (e.symm.trans ha)))).elim
  have low : ∀ {b : Addr} {o : Obj}, s.heap.get? b = some o → H b = none → (hidT s.heap H).get? b = some o := fun e n => hidT_get e n
  have lowD : ∀ {b : Addr} {m : Str → Option Value}, s.heap.Ns b m → (hidT s.heap H).Ns b m := fun {b m} ⟨o, es, ep, e, d, r⟩ =>
    ⟨o, es, ep, low e (off e (fun x n z => nomatch d.symm.trans z) fun z => nomatch d.symm.trans z), d, r⟩
  have inB : K.In (hidT s.heap H) := fun b o e => low (inS b o e) (by
    cases q : H b with
    | none => rfl
    | some u =>
      rcases hH b u q with ⟨ht, _⟩ | ⟨_, rfl, n, _⟩
      · obtain ⟨p, hp, ep⟩ := List.mem_map.mp ht
        have n := (tf p hp).out
        rw [show p.2 = b from ep, e] at n
        cases n
      · rw [n] at e
        cases e)
  have TB : ∀ p ∈ tb, LamX.TabB (hidT s.heap H) mg p.1 p.2 := fun p hp => by
    have tp := (tf p hp).at_
    refine ⟨?_, ?_, fun z => ?_⟩
    · obtain ⟨o, us, f1, f2, f3, f4, f5, f6, f7, e, c, d, c11, rest⟩ := (tf p hp).code
      exact ⟨o, us, f1, f2, f3, f4, f5, f6, f7, low e (off e (fun x n z => nomatch d.symm.trans z) fun z => by
        cases d.symm.trans z
        simp at c11), c, d, c11, rest⟩
    · obtain ⟨m, o, b1, b2, b3, b4, b5, b6⟩ := own
      refine ⟨m, o, b1, b2, fun q => ?_, fun q => ?_, low b3 (off b3 (fun x n z => nomatch b6.symm.trans z) fun z => nomatch b6.symm.trans z), b4, b5, b6⟩
      · obtain ⟨o', es, ep, e, d, _⟩ := hm
        rw [← q, b3] at e
        cases e
        exact nomatch b6.symm.trans d
      · rw [q, tp] at b3
        cases b3
        cases b6
    · obtain ⟨o', es, ep, e, d, _⟩ := hm
      rw [z, tp] at e
      cases e
      cases d
  have M : Mod K mg (hidT s.heap H) := ⟨inB, lowD hm, ⟨mb, lowD hb, bb⟩, let ⟨mc, h1, h2⟩ := free; ⟨mc, lowD h1, h2⟩⟩
  have e0 : Env0 P w K mg (hidT s.heap H) callerA [] s H := ⟨rfl, M, fun b o e => of_hidT e, Nat.le_of_eq (hidT_size _ _), trivial, fun b z => absurd (show b ∈ ([] : List Addr) from z) (by simp), ok, .of_eq hg⟩
  refine codeAny_mono (F _ inB (lowD hm) TB callerA [] s H [.ref a] [.ref a] _ _ rfl hr e0 (.cons rfl .nil) (hsp H (fun p hp => if_pos (inT p hp)) here)) fun r s' h => ?_
  cases r with
  | error e => exact h.elim
  | ok fl =>
    cases fl with
    | next => exact h.elim
    | brk => exact h.elim
    | cont => exact h.elim
    | ret u =>
      obtain ⟨v, H', os, bare, un, ok', r', q⟩ := h
      cases (show v = V.bl true from q)
      cases (show u = Value.bool true from r')
      have grown : ∀ t, t ∈ ts → ∃ more : Array Value, s'.heap.get? t = some (PySem.W.tabObj more) := fun t ht => by
        obtain ⟨more, z⟩ := un.tbls t #[] (if_pos ht)
        exact ⟨_, ok' t _ z⟩
      have same : ∀ b o, b ∉ ts → s.heap.get? b = some o → s'.heap.get? b = some o := fun b o nt e => by
        cases z : H b with
        | none => exact un.keep b o e z (fun y => absurd (show b ∈ ([] : List Addr) from y) (by simp)) (by simp)
        | some u =>
          rcases hH b u z with ⟨ht, _⟩ | ⟨_, rfl, _, rfl⟩
          · exact (nt ht).elim
          · exact e ▸ (show s'.heap.get? b = s.heap.get? b from ((ok' b _ (un.frzs b _ _ z)).1).trans ha.symm)
      refine ⟨rfl, ⟨fun b o e => ?_, fun b o e => ?_⟩, os, bare⟩
      · by_cases ht : b ∈ ts
        · obtain ⟨p, hp, ep⟩ := List.mem_map.mp ht
          obtain ⟨more, z⟩ := grown b ht
          cases (show p.2 = b from ep)
          have q := (tf p hp).at_
          cases e.symm.trans q
          exact .inr (.inl ⟨((tf p hp).code.tab q).isCodeTable, rfl, #[], more, rfl, by rw [Array.empty_append]; exact z⟩)
        · exact .inl (same b o ht e)
      · by_cases ht : b ∈ ts
        · obtain ⟨more, z⟩ := grown b ht
          exact ⟨_, z⟩
        · exact ⟨o, same b o ht e⟩
/-- the goal behind the top, from the law's promise, with tables -/
theorem walk_GT {l : PySem.W.OpenLaw} {n k : Nat} {q : Program} {loose : List Str} {XP : (Str → Option Value) → Heap → Prop} {YP : World → Heap → Prop} {d : DefRec} {K : Params → PySem.W.Frag} {sp : World → Sp} {tb : List (Addr × Addr)}
    (hn : l.most = some n) (hn2 : n ≤ sizeLine) (hdf : d.params.defaults = []) (hr : Room k callerA) (hY : ∀ (w : World) (h : Heap), YP w h → (K w.params).In h) (hT : ∀ (w : World) (h : Heap), YP w h → ∀ p ∈ tb, TabF (K w.params) h p)
    (F : ∀ (w : World) (mg : Str → Option Value) (fa : Addr) (h : Heap), (K w.params).In h → h.Ns mainGlobals mg → mg d.name = some (.ref fa) → ∀ base : Heap, (K w.params).In base → base.Ns mainGlobals mg → (∀ p ∈ tb, LamX.TabB base mg p.1 p.2) → FnG l.prog w (K w.params) mg base CX0 k fa (sp w))
    (hsp : ∀ (w : World) (H : Hp) (a : Addr) (ns : List Int), ns.length ≤ n → (∀ p ∈ tb, H p.2 = some (.tbl #[])) → SqL (K w.params) H a (ns.map V.int) → sp w [.ref a] H (fun v _ => v = .bl true) fun _ _ _ => False) :
    PySem.W.WalkO q loose XP YP l.row.toRowW d [] (fun f vs => PySem.call f vs) :=
  Att.attach_call hn hdf fun w s₀ s mg mb fa o pm cd doc a vs ns G Y ho hd hcd hmg hobj hints hlen hg =>
    law_GT (hY w _ Y) G.T.g G.T.b G.T.builtins G.T.nolimit hg (hT w _ Y) G.T.bmain hobj hints (Nat.le_trans hlen hn2) hr (F w mg fa _ (hY w _ Y) G.T.g hmg) fun H hO hS => hsp w H a ns hlen hO hS
end Ws

namespace Ws
open PySem PySem.Spec PyProof.Rows L2
section
variable {X : Cx} {pins : List (Addr × Obj)} {σ : L2.St} {H : Hp} {s : Shared}
/-- the def that got the lambda calls it: what is raised is wished for at that def's slots -/
theorem pe_ask {Nd : List Str} {qd : Str} {sd : Scope} {g f cc : Addr} {cdd pm ctv : Value} {ps : Arguments} {el : Expr} {sl : Scope} {k i : Nat} {a : Str} {pn : List (Addr × Obj)} {xe : Value → Shared → Prop} {W : WX} {tb : XK → TE} {p1 p2 : Pos}
    (I : Inv X pins σ H s) (L : LamX.LamS X.env.scope sl) (hf : s.heap.get? f = some (PySem.W.kla_obj "<lambda>" (X.env.qual ++ "<lambda>") ps el sl (cloFrom X.env.cells sl.names []) pm cc ctv)) (nf : H f = none) (ff : f ∉ frs X.stack)
    (bd : bindArgs (PySem.W.kla_fn "<lambda>" (X.env.qual ++ "<lambda>") ps el sl (cloFrom X.env.cells sl.names []) pm (.ref cc) ctv) ⟨[], []⟩ = pure [])
    (tk : Takes ((cxOf CX0 X.prog X.w X.K X.mg X.base Nd qd sd g cdd X.A X.stack s H E0).tr pn xe) W) (hr : Room (k + 1) (X.A.deeper (envOfC qd sd s.heap.objs.size g cdd)))
    (hb : ∀ (A : Around) (outer : List Env) (s : Shared) (H : Hp) (E : XK), Room k (A.deeper (LamX.lamEnv X sl s.heap.objs.size f cc)) → PE (LamX.lamCx X A outer s H E sl f cc) el (tb E))
    (hN : Nd[i]? = some a) (hv : Vis sd a) (hd : (a == ("__debug__" : Str)) = false := by decide) (hcd : (a == ("__classdict__" : Str)) = false := by decide) :
    PE ((cxOf CX0 X.prog X.w X.K X.mg X.base Nd qd sd g cdd X.A X.stack s H E0).tr pn xe) (.Call (.Name a p1) [] [] p2)
      (fun σ1 H1 Q => σ1[i]? = some (some (.ref f)) ∧ H1 cc = some (LamX.CodeO cc (X.env.qual ++ "<lambda>")) ∧ tb (fun cls d H' => W cls d σ1 H') σ H1 Q) := ⟨fun pins1 sZ σ1 H1 Q J ⟨h1, h2, h3⟩ => by
  refine wpAny_Call_Name_kw (thn ((pe_var (pos := p1) (i := i) hN hv hd hcd).run pins1 sZ σ1 H1 (fun v G => v = .ref f ∧ G = H1) J ⟨.ref f, h1, rfl, rfl⟩) fun u s1 ⟨v, G, I1, r1, ev, eG⟩ => ?_)
  subst ev
  subst eG
  cases (show u = Value.ref f from r1)
  have hf1 := I1.base.keep f _ hf nf ff (fun z => nomatch (show f ∈ ([] : List Addr) from z))
  refine PySem.W.callWith_F0 ⟨_, _, _, _, hf1⟩ ?_
  obtain ⟨⟨oc, fs, t, e1, e2, e3⟩, _, _⟩ := I1.hok cc _ h2
  have px : PassesAt (L2.CX X.prog X.w) ((cxOf CX0 X.prog X.w X.K X.mg X.base Nd qd sd g cdd X.A X.stack s H E0).tr pn xe) σ1 (fun cls d H' => W cls d σ1 H') := passAt tk σ1
  have go : codeAny (model X.prog X.w) (X.A.deeper (envOfC qd sd s.heap.objs.size g cdd)) (.call (.ref f) ⟨[], []⟩) (CR (L2.CX X.prog X.w) (envOfC qd sd s.heap.objs.size g cdd :: X.stack) X.prog X.w G s1 Q fun cls d H' => W cls d σ1 H') s1 := by
    refine PySem.W.kla_callFunE hr.depth hf1 rfl L.co L.gen rfl ⟨cc, oc, fs, t, rfl, e1, e2, e3⟩ ?_
    rw [bd]
    refine wpAny_pure (wpAny_newFunctionEnv (fun y hy => (L.own y hy).2) (fun y hy => absurd hy (by simp)) (fun h₁ hns hsb => ⟨I1.nolimit.fresh _ hsb, ?_⟩) L.kind)
    have J2 := LamX.lam_start2 (E := fun cls d H' => W cls d σ1 H') (f := f) (c' := cc) (tk := s1.toks + ([] : List (Str × Value)).length) I L I1.env0 hr.hd I1.base hns fun b o e => hsb.extBut b o (Nat.ne_of_lt (Heap.lt_size e)) (Heap.get?_push_of_some _ e)
    refine PySem.W.kla_codeExpr (wpAny_mono ((hb _ _ s1 G (fun cls d H' => W cls d σ1 H') (hr.deeper _)).run [] _ _ G Q J2 h3) (fun v s' ⟨y, H2, K2, rv, q⟩ => ⟨y, H2, K2.os, K2.bare, K2.base, K2.hok, rv, q⟩) fun e s' q => q)
  refine wpAny_call (codeAny_mono go fun out s' hq => ?_)
  cases out with
  | error e => exact px pins1 G s1 e s' I1 hq
  | ok fl =>
    cases fl with
    | ret u => exact I1.after hq
    | next => exact False.elim hq
    | brk => exact False.elim hq
    | cont => exact False.elim hq⟩
end
/-- the def at g calls what it got, by its name a; TT: what it makes of the lambda's reading -/
def GivesS (X : Cx) (k : Nat) (Nd : List Str) (x : Str) (sd : Scope) (g : Addr) (cdd : Value) (bg : List Stmt) (a q : Str) (TT : (XK → Hp → VK → Prop) → Hp → VK → Prop) : Prop :=
  ∀ (f cc : Addr) (s : Shared) (H : Hp) (Q : VK) (tl : XK → Hp → VK → Prop), Room k (X.A.deeper (envOfC x sd s.heap.objs.size g cdd)) →
    (∀ (W : WX) (pn : List (Addr × Obj)) (xe : Value → Shared → Prop) (p1 p2 : Pos), Takes ((cxOf CX0 X.prog X.w X.K X.mg X.base Nd x sd g cdd X.A X.stack s H E0).tr pn xe) W →
      PE ((cxOf CX0 X.prog X.w X.K X.mg X.base Nd x sd g cdd X.A X.stack s H E0).tr pn xe) (.Call (.Name a p1) [] [] p2) (fun σ1 H1 Q => σ1[0]? = some (some (.ref f)) ∧ H1 cc = some (LamX.CodeO cc q) ∧ tl (fun cls d H' => W cls d σ1 H') H1 Q)) →
    H cc = some (LamX.CodeO cc q) → TT tl H Q →
    ∃ t, PSs (cxOf CX0 X.prog X.w X.K X.mg X.base Nd x sd g cdd X.A X.stack s H E0).nox bg t ∧ t { nx := fun _ H' => Q .non H', rt := Q } (L2.start Nd [.ref f]) H
section
variable {X : Cx}
/-- x(lambda: el) -/
theorem pe_lamS {T : List (Addr × Str)} {TT : (XK → Hp → VK → Prop) → Hp → VK → Prop} {x a : Str} {g c P : Addr} {k : Nat} {pg : Arguments} {bg : List Stmt} {sd : Scope} {dV kV doc pm cdv ct oc : Value} {an od : Option Addr} {osl : Array (Option Value)} {Nd : List Str}
    {ps : Arguments} {el : Expr} {sl : Scope} {t : XK → TE} {p lp pos : Pos} (hg : Gl X x) (hm : X.mg x = some (.ref g)) (hk : PySem.W.keepIn X.K (.ref g) = true)
    (lk : X.K.lookup g = some ⟨oc, od, .func (PySem.W.fnOf x x pg bg sd dV kV doc pm an cdv ct), osl⟩) (cd : PySem.W.codeIn X.K cdv x = true) (hb : L2.Binds X.K (PySem.W.fnOf x x pg bg sd dV kV doc pm an cdv ct) [a] []) (S : FnScope Nd [a] sd) (hN : Nd[0]? = some a) (hv : Vis sd a)
    (hG : GivesS X (k + 1) Nd x sd g cdv bg a (X.env.qual ++ "<lambda>") TT)
    (TB : LamX.TabB X.base X.mg c P) (hc : X.env.code = .ref c) (hT : (P, X.env.qual ++ "<lambda>") ∈ T) (one : ∀ q ∈ T, q.1 = P → q.2 = X.env.qual ++ "<lambda>") (hr : Room (k + 2) X.A) (L : LamX.LamS X.env.scope sl) (df : defaultsOf ps X.env = ([], []))
    (bd : ∀ (q : Str) (cl : List (Str × Addr)) (pm cv ctv : Value), bindArgs (PySem.W.kla_fn "<lambda>" q ps el sl cl pm cv ctv) ⟨[], []⟩ = pure [])
    (hl : ∀ (A : Around) (outer : List Env) (s : Shared) (H : Hp) (E : XK) (f cc : Addr), Room k (A.deeper (LamX.lamEnv X sl s.heap.objs.size f cc)) → PE (LamX.lamCx X A outer s H E sl f cc) el (t E))
    (hdb : (x == ("__debug__" : Str)) = false := by decide) (hd : (a == ("__debug__" : Str)) = false := by decide) (hcd : (a == ("__classdict__" : Str)) = false := by decide) :
    PE X (.Call (.Name x p) [.Lambda ps el sl lp] [] pos) (LamX.tLam T TT t) := ⟨fun pins s σ H Q I ⟨tabs, h⟩ => by
  refine wpAny_Call_Name_kw (ld_glob I hg hm ?_ hdb)
  refine PySem.W.callWith_K (h₀ := X.base) I.ok.mod.kin hk ?_ (by rfl) (by rfl)
  show wpAny _ _ (spliced ((false, eval (.Lambda ps el sl lp) X.env) :: backTo pos (starEach [] X.env))) _ _ s
  refine Calls.spliced_cons (LamX.lam_make2 I TB hc hT one tabs df (L.has I.ok) fun f cc pm' ctv H1 s' J eN T1 hf nf ff hco => Calls.spliced_nil ⟨J.kIn, ?_⟩)
  have go : codeAny (model X.prog X.w) X.A (.call (.ref g) ⟨[.ref f], []⟩) (CR CX0 X.stack X.prog X.w H1 s' Q E0) s' := by
    refine LamX.run_ofS (N := Nd) (ps := [a]) (us := [.ref f]) (vs := [.ref f]) lk cd S hr J.env0 (hb s' [.ref f] J.kIn rfl) (.cons rfl .nil) rfl fun hr' => ?_
    obtain ⟨t', ht, hq⟩ := hG f cc s' H1 Q (fun E H' Q' => t E σ H' Q') hr' (fun W pn xe p1 p2 tk => pe_ask (i := 0) J L hf nf ff (bd _ _ _ _ _) tk hr' (fun A outer s H E hr2 => hl A outer s H E f cc hr2) hN hv hd hcd) hco (h H1 eN T1)
    exact ⟨t', ht.nox, hq⟩
  refine wpAny_call (codeAny_mono go fun out s2 hq => ?_)
  cases out with
  | error e => exact (show False from hq).elim
  | ok fl =>
    cases fl with
    | ret u => exact J.after hq
    | next => exact False.elim hq
    | brk => exact False.elim hq
    | cont => exact False.elim hq⟩
/-- isinstance(caught, c), c an own class or a built-in one -/
def rKisV (K : PySem.W.Frag) : List V → Hp → VK → Prop := fun xs H Q => ∃ (a d C : Addr) (c : V) (u : Value) (fs : List (Str × V)) (b : Bool), xs = [.ref a, c] ∧ ClsV c u ∧ H a = some (Kx (.ref C) (some d) a) ∧ H d = some (.xd fs) ∧ ErrC K C ∧ PySem.W.kitOne K (.ref C) u = some b ∧ Q (.bl b) H
theorem call_kisV : CallR X (.builtin "isinstance") (rKisV X.K) := by
  intro pins s σ H xs us Q I r h
  obtain ⟨a, d, C, c, u, fs, b, rfl, cv, ea, ed, T, kk, q⟩ := h
  obtain ⟨u1, u2, rfl, r1, r2⟩ := vals2 r
  cases (show u1 = Value.ref a from r1)
  cases cv.eq r2
  obtain ⟨ox, od, J, _⟩ := kx_inst I ea ed
  exact PySem.W.kia_one (PySem.W.kitx_exc T.isc T.ga T.gg T.exC T.ca T.hn T.ht T.hm) I.kIn J kk (fun z => nomatch z) fun tk => ⟨.bl b, H, I.kept (t' := tk) fun _ _ z => z, rfl, q⟩
/-- isinstance(caught, (C, D, ..)) -/
def rKisT (K : PySem.W.Frag) : List V → Hp → VK → Prop := fun xs H Q => ∃ (a d C tp : Addr) (cs : List V) (us : List Value) (fs : List (Str × V)) (b : Bool), xs = [.ref a, .ref tp] ∧ H tp = some (.tup cs) ∧ Paired ClsV cs us ∧ H a = some (Kx (.ref C) (some d) a) ∧ H d = some (.xd fs) ∧ ErrC K C ∧ PySem.W.kitAny K (.ref C) us = some b ∧ Q (.bl b) H
theorem call_kisT : CallR X (.builtin "isinstance") (rKisT X.K) := by
  intro pins s σ H xs us Q I r h
  obtain ⟨a, d, C, tp, cs, ws, fs, b, rfl, ht, cv, ea, ed, T, kk, q⟩ := h
  obtain ⟨u1, u2, rfl, r1, r2⟩ := vals2 r
  cases (show u1 = Value.ref a from r1)
  cases (show u2 = Value.ref tp from r2)
  obtain ⟨_, its, rv, ob, ho, hc, n, hd⟩ := (show ObjOk X.prog X.w H s.heap tp (.tup cs) from I.hok tp _ ht)
  cases ClsV.all cv rv
  obtain ⟨ox, od, J, _⟩ := kx_inst I ea ed
  obtain ⟨ocls, odict, odata, oslots⟩ := ob
  dsimp only at hc hd
  subst hc hd
  exact PySem.W.kia_tup (PySem.W.kitx_exc T.isc T.ga T.gg T.exC T.ca T.hn T.ht T.hm) I.kIn J ho kk (fun z => nomatch z) fun tk => ⟨.bl b, H, I.kept (t' := tk) fun _ _ z => z, rfl, q⟩
end
section
variable {P : Program} {w : World} {K : PySem.W.Frag} {mg : Str → Option Value} {base : Heap}
/-- fnG_ofX, the code object told -/
theorem fnG_ofC {CX : CXT} {x qual : Str} {st : Stmt} {f : Addr} {fd : FuncData} {N ps : List Str} {k : Nat} {sp : Sp} (F : L2.Fun K x qual st f fd) (b : Binds K fd ps []) (S : FnScope N ps (defScope st)) (len : ∀ vs H Q E, sp vs H Q E → vs.length = ps.length)
    (hbody : ∀ (cdv : Value) (A : Around) (outer : List Env) (s : Shared) (H : Hp) (vs : List V) (Q : VK) (E : XK), A.guards = some [] → fd.code = cdv → Room k (A.deeper (envOfC qual (defScope st) s.heap.objs.size f cdv)) → sp vs H Q E →
      ∃ t, PSs (cxOf CX P w K mg base N qual (defScope st) f cdv A outer s H E) (defBody st) t ∧ t { nx := fun _ H' => Q .non H', rt := Q } (start N vs) H) : FnG P w K mg base CX (k + 1) f sp := by
  obtain ⟨oc, od, kV, doc, pm, an, cdv, ct, osl, rfl, lk, hcd⟩ := F.ex
  intro A outer s H us vs Q E cl hr e0 r hsp
  have hn := len _ _ _ _ hsp
  have inS : K.In s.heap := e0.mod.kin.keeps fun b o e => (e0.bs b o e).1
  have free : s.heap.NoLimit := e0.mod.nolimit.keeps fun b o e => (e0.bs b o e).1
  have hl : us.length = ps.length := r.length ▸ hn
  have bd := b s us inS (by rw [List.append_nil]; exact hl)
  rw [List.append_nil] at bd
  have kinds : ∀ y ∈ ps.zip us, (defScope st).names.lookup y.1 = some .local ∨ ((defScope st).names.lookup y.1 = some .cell ∧ ((cellsFrom (s.heap.objs.size + 1) (defScope st).names []).lookup y.1).isSome = true) := by
    rintro ⟨n, v⟩ hy
    exact (S.par n (List.of_mem_zip hy).1).imp id fun q => ⟨q, PySem.W.cellsFrom_some _ _ _ (.inl q)⟩
  refine codeAny_call_function hr.depth (inS _ _ lk) rfl S.co S.gen rfl (PySem.W.codeRec_of inS hcd) (bd _ _ _ _ ?_)
  refine wpAny_newFunctionEnv_cells S.kind kinds fun env hE s1 z => ?_
  cases hE
  refine ⟨free.keeps z.toInCall.keep, codeAny_func ?_⟩
  obtain ⟨t, ht, q⟩ := hbody cdv A outer s H vs Q E cl rfl (hr.deeper _) hsp
  have I : Inv (cxOf CX P w K mg base N qual (defScope st) f cdv A outer s H E) [] (start N vs) H s1 := inv_start S hr.hd e0 hn r z
  refine wpAny_mono (ht.run [] s1 (start N vs) H _ I q) (fun fl s2 out => ?_) fun _ _ out => out
  cases fl with
  | ret u => obtain ⟨v, _, H2, J, rv, q2⟩ := out; exact ⟨v, H2, J.os, J.bare, J.base, J.hok, rv, q2⟩
  | next => obtain ⟨_, H2, J, q2⟩ := out; exact ⟨.non, H2, J.os, J.bare, J.base, J.hok, rfl, q2⟩
  | brk => exact out.elim fun _ z => z.elim fun _ z => z.2.elim
  | cont => exact out.elim fun _ z => z.elim fun _ z => z.2.elim
end
end Ws

namespace Ws
open PySem PySem.Spec PyProof.Rows L2
abbrev sWhole : Stmt := (PySem.Challenge.pw_whatspeed_k01_numbers_of_any_value.main.body.getD 8 (.Pass ⟨0, 0, 0, 0⟩))
abbrev NWhole : List Str := ["value"]
abbrev PWhole : List Str := ["value"]
theorem scWhole : FnScope NWhole PWhole (defScope sWhole) := ⟨rfl, rfl, rfl, by decide +kernel, rfl, by decide +kernel, by decide +kernel⟩
abbrev sNTop : Stmt := (inClass (PySem.Challenge.pw_whatspeed_k01_numbers_of_any_value.main.body.getD 9 (.Pass ⟨0, 0, 0, 0⟩)) 1)
abbrev NNTop : List Str := ["self"]
abbrev PNTop : List Str := ["self"]
theorem scNTop : FnScope NNTop PNTop (defScope sNTop) := ⟨rfl, rfl, rfl, by decide +kernel, rfl, by decide +kernel, by decide +kernel⟩
abbrev sNBot : Stmt := (inClass (PySem.Challenge.pw_whatspeed_k01_numbers_of_any_value.main.body.getD 9 (.Pass ⟨0, 0, 0, 0⟩)) 2)
abbrev NNBot : List Str := ["self"]
abbrev PNBot : List Str := ["self"]
theorem scNBot : FnScope NNBot PNBot (defScope sNBot) := ⟨rfl, rfl, rfl, by decide +kernel, rfl, by decide +kernel, by decide +kernel⟩
/-! ### a Number in the heap -/
def nF (t b : Int) : List (Str × V) := [("_top", .int t), ("_bottom", .int b)]
def NumAt (C : Addr) (H : Hp) (a : Addr) (t b : Int) : Prop := ∃ dx, H a = some (.ins C dx (nF t b))
theorem nF_top (t b : Int) : (nF t b).lookup ("_top" : Str) = some (.int t) := lk_here
theorem nF_bot (t b : Int) : (nF t b).lookup ("_bottom" : Str) = some (.int b) := (lk_past (by decide +kernel)).trans lk_here
theorem NumAt.same {C : Addr} {H H' : Hp} {a : Addr} {t b : Int} (h : NumAt C H a t b) (s : Same H H') : NumAt C H' a t b := let ⟨dx, e⟩ := h; ⟨dx, s _ _ e⟩
structure NumC (K : PySem.W.Frag) (C : Addr) : Prop where
  cl : Cls K C
  nT : NoAttr K C "_top"
  nB : NoAttr K C "_bottom"
/-! ### data: its type, whether it is an integer -/
def tyN : PyData → String
  | .none => "NoneType"
  | .bool _ => "bool"
  | .int _ => "int"
  | .str _ => "str"
  | .list _ => "list"
  | .tuple _ => "tuple"
  | .dict _ => "dict"
def isI : PyData → Bool
  | .int _ => true
  | _ => false
theorem Da.ty {K : PySem.W.Frag} {p : Addr} {H : Hp} {v : V} {d : PyData} (h : Da p H v d) : TyX K H v (.type (tyN d)) := by
  cases h with
  | non => exact .base .non
  | bl b => exact .base (.bl b)
  | int i => exact .base (.int i)
  | str x => exact .base (.str x)
  | lst e _ _ _ => exact .base (.lst e)
  | tup e _ _ => exact .base (.tup e)
  | dct e _ _ => exact .base (.dK e)
theorem kit_int {K : PySem.W.Frag} (d : PyData) : PySem.W.kitOne K (.type (tyN d)) (.type "int") = some (isI d || (match d with | .bool _ => true | _ => false)) := by
  cases d with
  | none => exact (show PySem.W.kitOne K (.type "NoneType") (.type "int") = some false from kit_ty (by decide +kernel))
  | bool x => exact (show PySem.W.kitOne K (.type "bool") (.type "int") = some true from kit_ty (by decide +kernel))
  | int i => exact (show PySem.W.kitOne K (.type "int") (.type "int") = some true from kit_ty (by decide +kernel))
  | str x => exact (show PySem.W.kitOne K (.type "str") (.type "int") = some false from kit_ty (by decide +kernel))
  | list x => exact (show PySem.W.kitOne K (.type "list") (.type "int") = some false from kit_ty (by decide +kernel))
  | tuple x => exact (show PySem.W.kitOne K (.type "tuple") (.type "int") = some false from kit_ty (by decide +kernel))
  | dict x => exact (show PySem.W.kitOne K (.type "dict") (.type "int") = some false from kit_ty (by decide +kernel))
theorem kit_bool {K : PySem.W.Frag} (d : PyData) : PySem.W.kitOne K (.type (tyN d)) (.type "bool") = some (match d with | .bool _ => true | _ => false) := by
  cases d with
  | none => exact (show PySem.W.kitOne K (.type "NoneType") (.type "bool") = some false from kit_ty (by decide +kernel))
  | bool x => exact (show PySem.W.kitOne K (.type "bool") (.type "bool") = some true from kit_ty (by decide +kernel))
  | int i => exact (show PySem.W.kitOne K (.type "int") (.type "bool") = some false from kit_ty (by decide +kernel))
  | str x => exact (show PySem.W.kitOne K (.type "str") (.type "bool") = some false from kit_ty (by decide +kernel))
  | list x => exact (show PySem.W.kitOne K (.type "list") (.type "bool") = some false from kit_ty (by decide +kernel))
  | tuple x => exact (show PySem.W.kitOne K (.type "tuple") (.type "bool") = some false from kit_ty (by decide +kernel))
  | dict x => exact (show PySem.W.kitOne K (.type "dict") (.type "bool") = some false from kit_ty (by decide +kernel))
def spWholeD : Sp := fun vs H Q _ => ∃ (p : Addr) (v : V) (d : PyData), vs = [v] ∧ Da p H v d ∧ Q (.bl (isI d)) H
def spTop (C : Addr) : Sp := fun vs H Q _ => ∃ (a : Addr) (t b : Int), vs = [.ref a] ∧ NumAt C H a t b ∧ Q (.int t) H
def spBot (C : Addr) : Sp := fun vs H Q _ => ∃ (a : Addr) (t b : Int), vs = [.ref a] ∧ NumAt C H a t b ∧ Q (.int b) H
section
variable {P : Program} {w : World} {K : PySem.W.Frag} {mg : Str → Option Value} {base : Heap} {C f : Addr} {fd : FuncData}
theorem ok_whole (F : L2.Fun K "is_whole" "is_whole" sWhole f fd) (b : Binds K fd PWhole []) (B : Bi mg) : FnR P w K mg base CX0 1 f spWholeD := by
  refine fnR_of F b scWhole (fun vs H Q E h => ?_) (fun cdv A outer s H vs Q E hr h => ?_)
  · obtain ⟨p, v, d, rfl, _⟩ := h
    rfl
  · have sc := scWhole
    obtain ⟨p, v, d, rfl, da, k⟩ := h
    have ty : TyX K H v (.type (tyN d)) := da.ty
    refine ⟨_, (pss_one (ps_ret (pe_and (pe_callB (show CallR _ (.builtin "isinstance") (rIsi K) from call_isi) (by rfl) B.isinstance (by decide +kernel) (pa_cons (pv 0) (pa_cons (pe_bltn (v := .ty "int") (by rfl) B.int (by decide +kernel) rfl) pa_nil))) (pe_one (pe_not (pe_callB (show CallR _ (.builtin "isinstance") (rIsi K) from call_isi) (by rfl) B.isinstance (by decide +kernel) (pa_cons (pv 0) (pa_cons (pe_bltn (v := .ty "bool") (by rfl) B.bool (by decide +kernel) rfl) pa_nil)))))))), ?_⟩
    refine ⟨_, rfl, _, _, _, _, _, rfl, .ty _, ty, kit_int d, _, rfl, ?_⟩
    cases d with
    | bool x => exact iteT ⟨_, rfl, _, _, _, _, _, rfl, .ty _, ty, kit_bool (.bool x), _, rfl, k⟩
    | int i => exact iteT ⟨_, rfl, _, _, _, _, _, rfl, .ty _, ty, kit_bool (.int i), _, rfl, k⟩
    | none => exact iteF k
    | str x => exact iteF k
    | list x => exact iteF k
    | tuple x => exact iteF k
    | dict x => exact iteF k
theorem ok_top (F : L2.Fun K "top" "Number.top" sNTop f fd) (b : Binds K fd PNTop []) (NC : NumC K C) : FnR P w K mg base CX0 1 f (spTop C) := by
  refine fnR_of F b scNTop (fun vs H Q E h => ?_) (fun cdv A outer s H vs Q E hr h => ?_)
  · obtain ⟨a, t, b, rfl, _⟩ := h
    rfl
  · have sc := scNTop
    obtain ⟨a, t, b, rfl, ⟨dx, e⟩, k⟩ := h
    refine ⟨_, (pss_one (ps_ret (pe_fld (pv 0) rfl))), ?_⟩
    exact ⟨_, rfl, a, C, dx, _, _, rfl, e, NC.cl, NC.nT, nF_top _ _, k⟩
theorem ok_bot (F : L2.Fun K "bottom" "Number.bottom" sNBot f fd) (b : Binds K fd PNBot []) (NC : NumC K C) : FnR P w K mg base CX0 1 f (spBot C) := by
  refine fnR_of F b scNBot (fun vs H Q E h => ?_) (fun cdv A outer s H vs Q E hr h => ?_)
  · obtain ⟨a, t, b, rfl, _⟩ := h
    rfl
  · have sc := scNBot
    obtain ⟨a, t, b, rfl, ⟨dx, e⟩, k⟩ := h
    refine ⟨_, (pss_one (ps_ret (pe_fld (pv 0) rfl))), ?_⟩
    exact ⟨_, rfl, a, C, dx, _, _, rfl, e, NC.cl, NC.nB, nF_bot _ _, k⟩
end
end Ws

namespace Ws
open PySem PySem.Spec PyProof.Rows L2
abbrev sPot : Stmt := (PySem.Challenge.pw_whatspeed_k01_numbers_of_any_value.main.body.getD 11 (.Pass ⟨0, 0, 0, 0⟩))
abbrev NPot : List Str := ["script", "k", "cell", "own"]
abbrev PPot : List Str := ["script", "k"]
theorem scPot : FnScope NPot PPot (defScope sPot) := ⟨rfl, rfl, rfl, by decide +kernel, rfl, by decide +kernel, by decide +kernel⟩
abbrev sTake : Stmt := (PySem.Challenge.pw_whatspeed_k01_numbers_of_any_value.main.body.getD 12 (.Pass ⟨0, 0, 0, 0⟩))
abbrev NTake : List Str := ["pot", "upto", "digit", "prime", "mixed"]
abbrev PTake : List Str := ["pot", "upto"]
theorem scTake : FnScope NTake PTake (defScope sTake) := ⟨rfl, rfl, rfl, by decide +kernel, rfl, by decide +kernel, by decide +kernel⟩
abbrev sOf : Stmt := (PySem.Challenge.pw_whatspeed_k01_numbers_of_any_value.main.body.getD 13 (.Pass ⟨0, 0, 0, 0⟩))
abbrev NOf : List Str := ["pot", "some"]
abbrev POf : List Str := ["pot", "some"]
theorem scOf : FnScope NOf POf (defScope sOf) := ⟨rfl, rfl, rfl, by decide +kernel, rfl, by decide +kernel, by decide +kernel⟩
abbrev sLeast : Stmt := (PySem.Challenge.pw_whatspeed_k01_numbers_of_any_value.main.body.getD 14 (.Pass ⟨0, 0, 0, 0⟩))
abbrev NLeast : List Str := ["above", "below", "one", "other", "sign"]
abbrev PLeast : List Str := ["above", "below"]
theorem scLeast : FnScope NLeast PLeast (defScope sLeast) := ⟨rfl, rfl, rfl, by decide +kernel, rfl, by decide +kernel, by decide +kernel⟩
/-! ### the pot of drawn numbers -/
def PotAt (H : Hp) (p : Addr) (m : Int) : Prop := ∃ own seed n : Int, H p = some (.lst [.int own, .int seed, .int n]) ∧ 0 ≤ own ∧ 0 ≤ seed ∧ seed < 2305843009213693921 ∧ 0 ≤ n ∧ n ≤ m
theorem PotAt.mono {H : Hp} {p : Addr} {m m' : Int} (h : PotAt H p m) (l : m ≤ m') : PotAt H p m' := let ⟨a, b, c, e, h1, h2, h3, h4, h5⟩ := h; ⟨a, b, c, e, h1, h2, h3, h4, Int.le_trans h5 l⟩
theorem PotAt.same {H H' : Hp} {p : Addr} {m : Int} (h : PotAt H p m) (s : Same H H') : PotAt H' p m := let ⟨a, b, c, e, r⟩ := h; ⟨a, b, c, s _ _ e, r⟩
def spPot (K : PySem.W.Frag) : Sp := fun vs H Q _ => ∃ (s : Addr) (ns : List Int) (k : Nat), vs = [.ref s, .int k] ∧ SqL K H s (ns.map V.int) ∧ k < 100 ∧ ∀ p H', H p = none → PotAt H' p 0 → Same H H' → Q (.ref p) H'
def spTake : Sp := fun vs H Q _ => ∃ (p : Addr) (u m : Int), vs = [.ref p, .int u] ∧ PotAt H p m ∧ m ≤ 1000000 ∧ 1 ≤ u ∧ u < 1073741824 ∧ ∀ d H', 0 ≤ d → d < u → PotAt H' p (m + 1) → Ch p H H' → Q (.int d) H'
def spOf : Sp := fun vs H Q _ => ∃ (p l : Addr) (xs : List V) (m : Int), vs = [.ref p, .ref l] ∧ PotAt H p m ∧ m ≤ 1000000 ∧ H l = some (.lst xs) ∧ l ≠ p ∧ 1 ≤ xs.length ∧ xs.length ≤ 1000 ∧ ∀ v H', v ∈ xs → PotAt H' p (m + 1) → Ch p H H' → Q v H'
def spLeast : Sp := fun vs H Q _ => ∃ t b : Int, vs = [.int t, .int b] ∧ b ≠ 0 ∧ Sz 8000 b ∧ Sz 8000 t ∧ ∀ p H', H p = none → H' p = some (.tup [.int (nT t b), .int (nB t b)]) → Same H H' → Q (.ref p) H'
section
variable {P : Program} {w : World} {K : PySem.W.Frag} {mg : Str → Option Value} {base : Heap} {f : Addr} {fd : FuncData}
theorem at_map {ns : List Int} {k : Nat} (h : k < ns.length) : atI (ns.map V.int) (k : Int) = some (.int ns[k]) := atI_nat (by rw [List.getElem?_map, List.getElem?_eq_getElem h]; rfl)
theorem emod_lt {a b : Int} (h : 0 < b) : a % b < b := Int.emod_lt_of_pos a h
theorem emod_nn {a b : Int} (h : 0 < b) : 0 ≤ a % b := Int.emod_nonneg a (by omega)
theorem ok_pot (F : L2.Fun K "_law_pot" "_law_pot" sPot f fd) (b : Binds K fd PPot []) (B : Bi mg) : FnR P w K mg base CX0 1 f (spPot K) := by
  refine fnR_of F b scPot (fun vs H Q E h => ?_) (fun cdv A outer s H vs Q E hr h => ?_)
  · obtain ⟨s, ns, k, rfl, _⟩ := h
    rfl
  · have sc := scPot
    obtain ⟨s, ns, k, rfl, hS, hk, q⟩ := h
    refine ⟨_, (pss_cons (ps_set (i := 2) sc.nd rfl (Or.inl rfl) (pe_ifExp (pt_cmpR op_lt (pv 1) (pe_callB call_len_seq (by rfl) B.len PySem.boot_len (pa_cons (pv 0) pa_nil)) (nomark _)) (pe_callTy call_int1 (by rfl) B.int (by decide +kernel) (pa_cons (pe_ix ix_list (pv 0) (pv 1) (fun _ _ => rfl)) pa_nil)) (pe_op op_add (pe_op op_mul pe_int (pv 1)) pe_int))) (pss_cons (ps_set (i := 3) sc.nd rfl (Or.inl rfl) (pe_op op_mul (pe_op op_mod (pe_callTy call_int1 (by rfl) B.int (by decide +kernel) (pa_cons (pe_callB call_abs (by rfl) B.abs (by decide +kernel) (pa_cons (pv 2) pa_nil)) pa_nil)) (pe_op op_powW (pe_op op_pow pe_int pe_int) pe_int)) (pe_callTy call_int1 (by rfl) B.int (by decide +kernel) (pa_cons (pe_cmpR op_ge (pe_callB call_abs (by rfl) B.abs (by decide +kernel) (pa_cons (pv 2) pa_nil)) (pe_op op_pow pe_int pe_int) (nomark _)) pa_nil)))) (pss_one (ps_ret (pe_lst (pa_cons (pv 3) (pa_cons (pe_op op_mod (pe_callTy call_int1 (by rfl) B.int (by decide +kernel) (pa_cons (pe_op op_add (pe_op op_add (pe_op op_mul (pe_op op_mod (pe_callTy call_int1 (by rfl) B.int (by decide +kernel) (pa_cons (pv 2) pa_nil)) pe_int) pe_int) (pe_op op_mul (pe_op op_mul pe_int (pv 1)) (pv 1))) pe_int) pa_nil)) pe_int) (pa_cons pe_int pa_nil)))))))), ?_⟩
    refine ⟨_, rfl, _, rfl, s, _, rfl, .inl hS, _, _, rfl, rfl, _, rfl, ?_⟩
    have hA : ∀ z : Int, (if z < 0 then -z else z) = (if z < 0 then -z else z) := fun _ => rfl
    refine if2 (fun hc => ?_) (fun hc => ?_)
    · have hlt : k < ns.length := by
        have := of_decide_eq_true hc
        rw [List.length_map] at this
        omega
      refine ⟨_, rfl, _, rfl, s, _, _, _, rfl, rfl, hS, at_map hlt, .inl ⟨_, rfl, ?_⟩⟩
      generalize ns[k] = z
      refine ⟨_, rfl, _, rfl, .inl ⟨_, rfl, _, _, rfl, rfl, ⟨by decide, by decide, by decide⟩, _, _, rfl, rfl, ⟨by decide, by decide +kernel⟩, _, _, rfl, rfl, by show (0 : Int) < _; decide +kernel, ?_⟩⟩
      refine ⟨_, rfl, _, rfl, _, _, rfl, rfl, ⟨by decide, by decide, by decide⟩, _, _, rfl, rfl, .inr ⟨_, rfl, _, _, rfl, rfl, .inr (bit_lo _), ?_⟩⟩
      refine ⟨_, rfl, _, rfl, .inl ⟨_, rfl, _, _, rfl, rfl, by show (0 : Int) < _; decide +kernel, _, _, rfl, rfl, .inr ⟨by decide, by decide⟩, _, rfl, _, _, rfl, rfl, .inl ⟨by decide, by decide⟩, _, rfl, _, _, rfl, rfl, .inr ⟨by omega, by omega⟩, _, _, rfl, rfl, _, _, rfl, rfl, .inl ⟨_, rfl, _, _, rfl, rfl, by show (0 : Int) < _; decide +kernel, ?_⟩⟩⟩
      refine ⟨by show 3 ≤ sizeLine; decide, fun p hp => q p _ hp ⟨_, _, _, upd_same, ?_, emod_nn (by decide), emod_lt (by decide), by decide, by decide⟩ (Same.new hp)⟩
      exact Int.mul_nonneg (emod_nn (by decide +kernel)) (bit_nn _)
    · refine ⟨_, rfl, _, _, rfl, rfl, .inl ⟨by decide, by decide⟩, _, _, rfl, rfl, ?_⟩
      generalize (41 * (k : Int) + 19) = z
      refine ⟨_, rfl, _, rfl, .inl ⟨_, rfl, _, _, rfl, rfl, ⟨by decide, by decide, by decide⟩, _, _, rfl, rfl, ⟨by decide, by decide +kernel⟩, _, _, rfl, rfl, by show (0 : Int) < _; decide +kernel, ?_⟩⟩
      refine ⟨_, rfl, _, rfl, _, _, rfl, rfl, ⟨by decide, by decide, by decide⟩, _, _, rfl, rfl, .inr ⟨_, rfl, _, _, rfl, rfl, .inr (bit_lo _), ?_⟩⟩
      refine ⟨_, rfl, _, rfl, .inl ⟨_, rfl, _, _, rfl, rfl, by show (0 : Int) < _; decide +kernel, _, _, rfl, rfl, .inr ⟨by decide, by decide⟩, _, rfl, _, _, rfl, rfl, .inl ⟨by decide, by decide⟩, _, rfl, _, _, rfl, rfl, .inr ⟨by omega, by omega⟩, _, _, rfl, rfl, _, _, rfl, rfl, .inl ⟨_, rfl, _, _, rfl, rfl, by show (0 : Int) < _; decide +kernel, ?_⟩⟩⟩
      refine ⟨by show 3 ≤ sizeLine; decide, fun p hp => q p _ hp ⟨_, _, _, upd_same, ?_, emod_nn (by decide), emod_lt (by decide), by decide, by decide⟩ (Same.new hp)⟩
      exact Int.mul_nonneg (emod_nn (by decide +kernel)) (bit_nn _)
theorem ok_take (F : L2.Fun K "_law_take" "_law_take" sTake f fd) (b : Binds K fd PTake []) (B : Bi mg) : FnR P w K mg base CX0 1 f spTake := by
  refine fnR_of F b scTake (fun vs H Q E h => ?_) (fun cdv A outer s H vs Q E hr h => ?_)
  · obtain ⟨p, u, m, rfl, _⟩ := h
    rfl
  · have sc := scTake
    obtain ⟨p, u, m, rfl, ⟨own, seed, n, hp, h1, h2, h3, h4, h5⟩, hm, hu, hu2, q⟩ := h
    refine ⟨_, (pss_cons (ps_if (pt_cmpR op_gt (pe_ix ix_list (pv 0) pe_int (fun _ _ => rfl)) pe_int (nomark _)) (pss_cons (ps_set (i := 2) sc.nd rfl (Or.inl rfl) (pe_op op_mod (pe_callTy call_int1 (by rfl) B.int (by decide +kernel) (pa_cons (pe_ix ix_list (pv 0) pe_int (fun _ _ => rfl)) pa_nil)) (pv 1))) (pss_cons (ps_asg (pe_op op_fdiv (pe_ix ix_list (pv 0) pe_int (fun _ _ => rfl)) (pv 1)) (pg_sub (pv 0) pe_int set_list)) (pss_one (ps_ret (pv 2))))) pss_nil) (pss_cons (ps_asg (pe_op op_add (pe_ix ix_list (pv 0) pe_int (fun _ _ => rfl)) pe_int) (pg_sub (pv 0) pe_int set_list)) (pss_cons (ps_set (i := 3) sc.nd rfl (Or.inl rfl) (pe_ix ix_list (pe_lst (pa_cons pe_int (pa_cons pe_int (pa_cons pe_int (pa_cons pe_int (pa_cons pe_int pa_nil)))))) (pe_op op_mod (pe_callTy call_int1 (by rfl) B.int (by decide +kernel) (pa_cons (pe_ix ix_list (pv 0) pe_int (fun _ _ => rfl)) pa_nil)) pe_int) (fun _ _ => rfl))) (pss_cons (ps_set (i := 4) sc.nd rfl (Or.inl rfl) (pe_op op_mod (pe_callTy call_int1 (by rfl) B.int (by decide +kernel) (pa_cons (pe_op op_pow (pe_op op_add (pe_op op_add (pe_ix ix_list (pv 0) pe_int (fun _ _ => rfl)) (pe_op op_mul (pe_op op_mul pe_int (pe_ix ix_list (pv 0) pe_int (fun _ _ => rfl))) (pe_ix ix_list (pv 0) pe_int (fun _ _ => rfl)))) pe_int) pe_int) pa_nil)) (pv 3))) (pss_one (ps_ret (pe_op op_mod (pe_callTy call_int1 (by rfl) B.int (by decide +kernel) (pa_cons (pe_op op_fdiv (pe_op op_mul (pv 4) (pe_op op_add (pe_op op_mod (pe_callTy call_int1 (by rfl) B.int (by decide +kernel) (pa_cons (pv 4) pa_nil)) pe_int) (pe_op op_mul pe_int (pe_ix ix_list (pv 0) pe_int (fun _ _ => rfl))))) pe_int) pa_nil)) (pv 1)))))))), ?_⟩
    refine ⟨_, rfl, p, _, _, _, rfl, rfl, SqL.of hp, rfl, _, _, rfl, rfl, _, rfl, ?_⟩
    refine if2 (fun hc => ?_) (fun hc => ?_)
    · refine ⟨_, rfl, p, _, _, _, rfl, rfl, SqL.of hp, rfl, .inl ⟨_, rfl, _, rfl, _, _, rfl, rfl, by omega, ?_⟩⟩
      refine ⟨_, rfl, p, _, _, _, rfl, rfl, SqL.of hp, rfl, _, rfl, _, _, rfl, rfl, ⟨by omega, by omega⟩, ?_⟩
      refine ⟨_, rfl, p, _, _, _, rfl, rfl, hp, rfl, ?_⟩
      refine ⟨_, rfl, ?_⟩
      refine q _ _ (emod_nn (by omega)) (emod_lt (by omega)) ⟨_, _, _, upd_same, Int.ediv_nonneg h1 (by omega), h2, h3, h4, by omega⟩ Ch.upd
    · refine ⟨_, rfl, p, _, _, _, rfl, rfl, SqL.of hp, rfl, _, _, rfl, rfl, ?_⟩
      refine ⟨_, rfl, p, _, _, _, rfl, rfl, hp, rfl, ?_⟩
      refine ⟨by show 5 ≤ sizeLine; decide, fun l hl => ?_⟩
      have npl : p ≠ l := ne_of_none upd_same hl
      refine ⟨_, rfl, p, _, _, _, rfl, rfl, SqL.of ((upd_ne npl).trans upd_same), rfl, .inl ⟨_, rfl, _, _, rfl, rfl, by show (0 : Int) < _; decide +kernel, ?_⟩⟩
      have hi : ∃ (j : Nat) (pr : Int), (n + 1) % 5 = (j : Int) ∧ [V.int 2147483647, V.int 2147483629, V.int 2147483587, V.int 2147483579, V.int 2147483563][j]? = some (.int pr) ∧ 0 < pr ∧ pr ≤ 2147483647 := by
        have e1 : 0 ≤ (n + 1) % 5 := emod_nn (by decide)
        have e2 : (n + 1) % 5 < 5 := emod_lt (by decide)
        have : (n + 1) % 5 = 0 ∨ (n + 1) % 5 = 1 ∨ (n + 1) % 5 = 2 ∨ (n + 1) % 5 = 3 ∨ (n + 1) % 5 = 4 := by omega
        rcases this with e | e | e | e | e
        · exact ⟨0, _, e, rfl, by decide, by decide⟩
        · exact ⟨1, _, e, rfl, by decide, by decide⟩
        · exact ⟨2, _, e, rfl, by decide, by decide⟩
        · exact ⟨3, _, e, rfl, by decide, by decide⟩
        · exact ⟨4, _, e, rfl, by decide, by decide⟩
      obtain ⟨j, pr, ej, hj, hpr, hpr2⟩ := hi
      refine ⟨l, _, _, _, rfl, rfl, SqL.of upd_same, at_of ej hj, ?_⟩
      refine ⟨_, rfl, p, _, _, _, rfl, rfl, SqL.of ((upd_ne npl).trans upd_same), rfl, ?_⟩
      refine ⟨_, rfl, p, _, _, _, rfl, rfl, SqL.of ((upd_ne npl).trans upd_same), rfl, _, _, rfl, rfl, .inl ⟨by decide, by decide⟩, ?_⟩
      refine ⟨_, rfl, p, _, _, _, rfl, rfl, SqL.of ((upd_ne npl).trans upd_same), rfl, _, _, rfl, rfl, .inr ⟨by omega, by omega⟩, _, _, rfl, rfl, _, _, rfl, rfl, ?_⟩
      have hsq : 0 ≤ (n + 1) * (n + 1) ∧ (n + 1) * (n + 1) ≤ 1000001 * 1000001 := ⟨Int.mul_nonneg (by omega) (by omega), Int.mul_le_mul (by omega) (by omega) (by omega) (by decide)⟩
      have hb0 : 99961 * (n + 1) * (n + 1) = 99961 * ((n + 1) * (n + 1)) := Int.mul_assoc _ _ _
      refine ⟨_, _, rfl, rfl, ⟨by decide, by decide, ?_⟩, .inl ⟨_, rfl, _, rfl, _, _, rfl, rfl, hpr, ?_⟩⟩
      · rw [hb0]
        omega
      · generalize hmx : ((seed + 99961 * (n + 1) * (n + 1) + 47) ^ (3 : Int).toNat) % pr = mx
        have m1 : 0 ≤ mx := by rw [← hmx]; exact emod_nn hpr
        have m2 : mx < pr := by rw [← hmx]; exact emod_lt hpr
        refine ⟨_, rfl, _, rfl, .inl ⟨_, rfl, _, _, rfl, rfl, by show (0 : Int) < _; decide +kernel, ?_⟩⟩
        refine ⟨_, rfl, p, _, _, _, rfl, rfl, SqL.of ((upd_ne npl).trans upd_same), rfl, _, _, rfl, rfl, .inl ⟨by decide, by decide⟩, _, _, rfl, rfl, _, _, rfl, rfl, .inl ⟨by omega, by omega⟩, _, _, rfl, rfl, ⟨by decide, by decide⟩, .inl ⟨_, rfl, _, rfl, _, _, rfl, rfl, by omega, ?_⟩⟩
        exact q _ _ (emod_nn (by omega)) (emod_lt (by omega)) ⟨_, _, _, (upd_ne npl).trans upd_same, h1, h2, h3, by omega, by omega⟩ (Ch.upd.trans (Ch.new hl))
theorem ok_of (F : L2.Fun K "_law_of" "_law_of" sOf f fd) (b : Binds K fd POf []) (B : Bi mg) (cT : CalF P w K mg base 1 "_law_take" spTake) : FnR P w K mg base CX0 2 f spOf := by
  refine fnR_of F b scOf (fun vs H Q E h => ?_) (fun cdv A outer s H vs Q E hr h => ?_)
  · obtain ⟨p, l, xs, m, rfl, _⟩ := h
    rfl
  · have sc := scOf
    obtain ⟨p, l, xs, m, rfl, hp, hm, hl, n, h1, h2, q⟩ := h
    refine ⟨_, (pss_one (ps_ret (pe_ix ix_list (pv 1) (pe_f cT hr (by decide) rfl (pa_cons (pv 0) (pa_cons (pe_callB call_len_seq (by rfl) B.len PySem.boot_len (pa_cons (pv 1) pa_nil)) pa_nil))) (fun _ _ => rfl)))), ?_⟩
    refine ⟨_, rfl, _, rfl, _, rfl, l, xs, rfl, .inl (SqL.of hl), p, _, m, rfl, hp, hm, by omega, by omega, fun d H1 d0 d1 hp1 c1 => ?_⟩
    have hj : d.toNat < xs.length := by omega
    exact ⟨l, xs, _, _, rfl, rfl, SqL.of (c1 _ _ n hl), at_of (j := d.toNat) (by omega) (List.getElem?_eq_getElem hj), q _ _ (List.getElem_mem hj) hp1 c1⟩
theorem ok_least (F : L2.Fun K "_law_least" "_law_least" sLeast f fd) (b : Binds K fd PLeast []) (B : Bi mg) : FnR P w K mg base CX0 1 f spLeast := by
  refine fnR_of F b scLeast (fun vs H Q E h => ?_) (fun cdv A outer s H vs Q E hr h => ?_)
  · obtain ⟨t, b, rfl, _⟩ := h
    rfl
  · have sc := scLeast
    obtain ⟨t, b, rfl, hb, zb, zt, q⟩ := h
    refine ⟨_, (pss_cons (ps_par (i := 2) (j := 3) (by rfl) sc.nd rfl rfl (by decide) rfl rfl (pa_cons (pe_callB call_abs (by rfl) B.abs (by decide +kernel) (pa_cons (pv 0) pa_nil)) (pa_cons (pe_callB call_abs (by rfl) B.abs (by decide +kernel) (pa_cons (pv 1) pa_nil)) pa_nil)) (by rfl)) (pss_cons (ps_while PassesOwn.never (pt_cmpR op_ne (pv 3) pe_int (nomark _)) (pss_one (ps_par (i := 2) (j := 3) (by rfl) sc.nd rfl rfl (by decide) rfl rfl (pa_cons (pv 3) (pa_cons (pe_op op_mod (pe_callTy call_int1 (by rfl) B.int (by decide +kernel) (pa_cons (pv 2) pa_nil)) (pv 3)) pa_nil)) (by rfl)))) (pss_cons (ps_set (i := 4) sc.nd rfl (Or.inl rfl) (pe_ifExp (pt_cmpR op_lt (pv 1) pe_int (nomark _)) (pe_un un_neg pe_int) pe_int)) (pss_one (ps_ret (pe_tup (pa_cons (pe_op op_fdivW (pe_op op_mul (pv 4) (pv 0)) (pv 2)) (pa_cons (pe_op op_fdivW (pe_callB call_abs (by rfl) B.abs (by decide +kernel) (pa_cons (pv 1) pa_nil)) (pv 2)) pa_nil)))))))), ?_⟩
    refine ⟨_, rfl, _, rfl, _, rfl, _, rfl, _, _, rfl, ?_⟩
    refine while_by (fun σ H' => H' = H ∧ ∃ x y : Int, σ = [some (.int t), some (.int b), some (.int x), some (.int y), none] ∧ 0 ≤ x ∧ 0 ≤ y ∧ Nat.gcd x.natAbs y.natAbs = Nat.gcd t.natAbs b.natAbs) (fun σ _ => match σ with | [_, _, _, some (.int y), _] => y.toNat | _ => 0) ?_ ?_ ?_
    · refine ⟨rfl, _, _, rfl, by split <;> omega, by split <;> omega, ?_⟩
      have e : ∀ z : Int, (if z < 0 then -z else z).natAbs = z.natAbs := fun z => by split <;> omega
      rw [e, e]
    · rintro σ H' ⟨rfl, x, y, rfl, hx, hy, hg⟩
      refine ⟨_, rfl, rfl, _, rfl, ?_⟩
      by_cases h0 : y = 0
      · subst h0
        refine ifF rfl ?_
        have hxg : x = gI t b := by
          unfold gI
          rw [← hg]
          simp
          omega
        subst hxg
        have zg : Sz 8000 (gI t b) := Sz.gI hb zb
        have l9 : (gI t b).natAbs < 2 ^ 8000 := zg
        have nl := nf_least (t := t) hb
        refine ⟨_, rfl, _, _, rfl, rfl, _, rfl, ?_⟩
        refine if2 (fun hc => ?_) (fun hc => ?_)
        · have hn : b < 0 := of_decide_eq_true hc
          rw [if_pos hn, if_pos hn] at nl
          refine ⟨_, rfl, ?_⟩
          refine ⟨_, rfl, _, rfl, _, _, rfl, rfl, .inl ⟨by decide, by decide⟩, _, rfl, _, _, rfl, rfl, wide_div (gI_pos hb) l9 (by decide) (by decide), ?_⟩
          refine ⟨_, rfl, _, rfl, _, rfl, _, _, rfl, rfl, wide_div (gI_pos hb) l9 (by decide) (by decide), by show 2 ≤ sizeLine; decide, fun p hp => ?_⟩
          refine q p _ hp (upd_same.trans ?_) (Same.new hp)
          show some (HO.tup [V.int (-1 * t / gI t b), V.int ((if b < 0 then -b else b) / gI t b)]) = _
          rw [if_pos hn, nl.1, nl.2]
        · have hn : ¬ b < 0 := of_decide_eq_false hc
          rw [if_neg hn, if_neg hn] at nl
          refine ⟨_, rfl, _, rfl, _, _, rfl, rfl, .inl ⟨by decide, by decide⟩, _, rfl, _, _, rfl, rfl, wide_div (gI_pos hb) l9 (by decide) (by decide), ?_⟩
          refine ⟨_, rfl, _, rfl, _, rfl, _, _, rfl, rfl, wide_div (gI_pos hb) l9 (by decide) (by decide), by show 2 ≤ sizeLine; decide, fun p hp => ?_⟩
          refine q p _ hp (upd_same.trans ?_) (Same.new hp)
          show some (HO.tup [V.int (1 * t / gI t b), V.int ((if b < 0 then -b else b) / gI t b)]) = _
          rw [if_neg hn, nl.1, nl.2]
      · refine ifT (by simpa using h0) ?_
        refine ⟨_, rfl, _, rfl, .inl ⟨_, rfl, _, rfl, _, _, rfl, rfl, by omega, _, _, rfl, ?_⟩⟩
        have hy0 : 0 < y := by omega
        have := emod_lt (a := x) hy0
        have := emod_nn (a := x) hy0
        refine ⟨⟨rfl, y, x % y, rfl, hy, by omega, by rw [gcd_turn hx hy0, hg]⟩, ?_⟩
        show (x % y).toNat < y.toNat
        omega
    · rintro σ H Q Q' i ⟨v, e, h1, k, e2, h2⟩
      exact ⟨v, e, h1, k, e2, i _ _ h2⟩
end
end Ws

namespace Ws
open PySem PySem.Spec PyProof.Rows L2
abbrev sErrN : Stmt := (inClass (PySem.Challenge.pw_whatspeed_k01_numbers_of_any_value.main.body.getD 4 (.Pass ⟨0, 0, 0, 0⟩)) 0)
abbrev NErrN : List Str := ["self", "value"]
abbrev PErrN : List Str := ["self", "value"]
theorem scErrN : FnScope NErrN PErrN (defScope sErrN) := ⟨rfl, rfl, rfl, by decide +kernel, rfl, by decide +kernel, by decide +kernel⟩
/-! ### an own error's __init__ -/
def spErr (C : Addr) : Sp := fun vs H Q _ => ∃ (a : Addr) (v : V), vs = [.ref a, v] ∧ H a = some (exo a C none) ∧ ∀ d, H d = none → d ≠ a → Q .non (upd (upd H d (exd d [("value", v)])) a (exo a C (some d)))
section
variable {P : Program} {w : World} {K : PySem.W.Frag} {mg : Str → Option Value} {base : Heap} {C f : Addr} {fd : FuncData}
theorem ok_errn (F : L2.Fun K "__init__" "BadNumber.__init__" sErrN f fd) (T : OexC K C) (hno : PySem.W.findIn K (.ref C) "value" = some none) : FnOk P w K mg base CX0 1 f fd PErrN (spErr C) := by
  refine F.ok scErrN (fun vs H Q E h => ?_) (fun cdv A outer s H vs Q E hr h => ?_)
  · obtain ⟨a, v, rfl, _⟩ := h
    rfl
  · have sc := scErrN
    obtain ⟨a, v, rfl, e, k⟩ := h
    refine ⟨_, (pss_one (ps_ost (pv 0) (pv 1))), ?_⟩
    refine ⟨_, rfl, _, rfl, a, C, rfl, T, hno, .inl ⟨e, fun d nd ne => ?_⟩⟩
    exact k d nd ne
end
/-- what raising one leaves -/
theorem err_same {H : Hp} {a d C : Addr} {v : V} (na : H a = none) (nd : H d = none) : Same H (upd (del (upd (upd (upd H a (exo a C none)) d (exd d [("value", v)])) a (exo a C (some d))) a) d (.xd [("value", v)])) := fun b o e => by
  have h1 := ne_of_none e na
  have h2 := ne_of_none e nd
  rw [upd_ne h2, del_ne h1, upd_ne h1, upd_ne h2, upd_ne h1]
  exact e
end Ws

namespace Ws
open PySem PySem.Spec PyProof.Rows L2
abbrev sNum : Stmt := (inClass (PySem.Challenge.pw_whatspeed_k01_numbers_of_any_value.main.body.getD 9 (.Pass ⟨0, 0, 0, 0⟩)) 0)
abbrev NNum : List Str := ["self", "top", "bottom", "shared"]
abbrev PNum : List Str := ["self", "top", "bottom"]
theorem scNum : FnScope NNum PNum (defScope sNum) := ⟨rfl, rfl, rfl, by decide +kernel, rfl, by decide +kernel, by decide +kernel⟩
/-- the fraction, if both are integers and the bottom isn't 0 -/
def numOf : PyData → PyData → Option (Int × Int)
  | .int t, .int b => if b = 0 then none else some (t, b)
  | _, _ => none
def spNumD (C Cb : Addr) : Sp := fun vs H Q E => ∃ (x dx p : Addr) (v1 v2 : V) (d1 d2 : PyData), vs = [.ref x, v1, v2] ∧ H x = some (.ins C dx []) ∧ Da p H v1 d1 ∧ Da p H v2 d2 ∧
  (∀ t b, numOf d1 d2 = some (t, b) → Sz 2000 t ∧ Sz 2000 b) ∧
  (∀ t b, numOf d1 d2 = some (t, b) → ∀ H', NumAt C H' x (nT t b) (nB t b) → (∀ a o, H a = some o → a ≠ x → H' a = some o) → Q .non H') ∧
  (numOf d1 d2 = none → ∀ y d H', H' y = some (.tup [v1, v2]) → (∀ a o, H a = some o → a ≠ y) → H' d = some (.xd [("value", .ref y)]) → Same H H' → E (.ref Cb) (some d) H')
section
variable {P : Program} {w : World} {K : PySem.W.Frag} {mg : Str → Option Value} {base : Heap} {C Cb f fB : Addr} {fd fdB : FuncData}
theorem numOf_no1 {d1 d2 : PyData} (h : isI d1 = false) : numOf d1 d2 = none := by
  cases d1 <;> first | rfl | (exact absurd h (by simp [isI]))
theorem numOf_no2 {d1 d2 : PyData} (h : isI d2 = false) : numOf d1 d2 = none := by
  cases d1 <;> cases d2 <;> first | rfl | (exact absurd h (by simp [isI]))
theorem isI_int {d : PyData} (h : isI d = true) : ∃ i, d = .int i := by
  cases d <;> first | exact ⟨_, rfl⟩ | (exact absurd h (by simp [isI]))
theorem ok_num {dvs : List V} {kvs : List (Str × V)} (F : FunD K "__init__" "Number.__init__" (defArgs sNum) (defBody sNum) (defScope sNum) dvs kvs f fd) (B : Bi mg) (NC : NumC K C) (hgcd : mg "gcd" = some (.builtin "math.gcd")) (cW : CalF P w K mg base 1 "is_whole" spWholeD) (gB : mg "BadNumber" = some (.ref Cb))
    (TE : OexC K Cb) (iB : PySem.W.findIn K (.ref Cb) "__init__" = some (some (.ref fB))) (tB : PySem.W.typeIn K (.ref fB) = some (.type "function")) (GB : FnOk P w K mg base CX0 1 fB fdB PErrN (spErr Cb)) (bB : Binds K fdB PErrN []) :
    FnOk P w K mg base (L2.CX P w) 3 f fd PNum (spNumD C Cb) := by
  refine F.ok scNum (fun vs H Q E h => ?_) (fun cdv A0 outer s H vs Q E hr h => ?_)
  · obtain ⟨x, dx, p, v1, v2, d1, d2, rfl, _⟩ := h
    rfl
  · have sc := scNum
    obtain ⟨x, dx, p, v1, v2, d1, d2, rfl, hx, D1, D2, zz, k1, k2⟩ := h
    refine ⟨_, (pss_cons (ps_if (PW.pt (pw_or (pt_not (pt_val (pe_f cW hr (by decide) rfl (pa_cons (pv 1) pa_nil)))) (pw_or (pt_not (pt_val (pe_f cW hr (by decide) rfl (pa_cons (pv 2) pa_nil)))) (pw_or1 (pt_cmpR op_eq (pv 2) pe_int (nomark _)))))) (pss_one (ps_raise rfl (takes_of rfl rfl rfl rfl) (pmk_oex TE iB tB GB (hr.mono (by decide)) bB .nil pass0 rfl gB (pa_cons (pe_tup (pa_cons (pv 1) (pa_cons (pv 2) pa_nil))) pa_nil)))) pss_nil) (pss_cons (ps_set (i := 3) sc.nd rfl (Or.inl rfl) (pe_callBfun cr_gcd (by rfl) hgcd (pa_cons (pv 1) (pa_cons (pv 2) pa_nil)))) (pss_cons (ps_if (pt_cmpR op_lt (pv 2) pe_int (nomark _)) (pss_one (ps_set (i := 3) sc.nd rfl (Or.inl rfl) (pe_un un_neg (pv 3)))) pss_nil) (pss_cons (ps_fld (pv 0) (pe_op op_fdivZ (pv 1) (pv 3)) rfl) (pss_one (ps_fld (pv 0) (pe_op op_fdivZ (pv 2) (pv 3)) rfl)))))), ?_⟩
    refine ⟨_, rfl, p, v1, d1, rfl, D1, _, rfl, ?_⟩
    cases h1 : isI d1 with
    | false =>
      have no := numOf_no1 (d2 := d2) h1
      refine ifT rfl ?_
      (refine ⟨_, rfl, _, rfl, by show 2 ≤ sizeLine; decide, fun y ny => ⟨by show 1 ≤ 1000; decide, fun e ne => ⟨e, _, rfl, upd_same, fun d nd hde => ?_⟩⟩⟩; have j := Same.new (o := .tup [v1, v2]) ny; have ey := upd_same (H := H) (a := y) (o := .tup [v1, v2]); generalize upd H y (.tup [v1, v2]) = H1 at *; have nd1 : H1 d = none := (by rw [upd_ne hde] at nd; exact nd); have sm := err_same (C := Cb) (v := .ref y) ne nd1; refine ⟨rfl, d, _, upd_same, (upd_ne hde).trans upd_same, nd1, ?_⟩; exact k2 no y d _ (sm _ _ ey) (fun a o e => ne_of_none e ny) upd_same (j.trans sm))
    | true =>
      refine ifF rfl ?_
      refine ⟨_, rfl, p, v2, d2, rfl, D2, _, rfl, ?_⟩
      cases h2 : isI d2 with
      | false =>
        have no := numOf_no2 (d1 := d1) h2
        refine ifT rfl ?_
        (refine ⟨_, rfl, _, rfl, by show 2 ≤ sizeLine; decide, fun y ny => ⟨by show 1 ≤ 1000; decide, fun e ne => ⟨e, _, rfl, upd_same, fun d nd hde => ?_⟩⟩⟩; have j := Same.new (o := .tup [v1, v2]) ny; have ey := upd_same (H := H) (a := y) (o := .tup [v1, v2]); generalize upd H y (.tup [v1, v2]) = H1 at *; have nd1 : H1 d = none := (by rw [upd_ne hde] at nd; exact nd); have sm := err_same (C := Cb) (v := .ref y) ne nd1; refine ⟨rfl, d, _, upd_same, (upd_ne hde).trans upd_same, nd1, ?_⟩; exact k2 no y d _ (sm _ _ ey) (fun a o e => ne_of_none e ny) upd_same (j.trans sm))
      | true =>
        refine ifF rfl ?_
        obtain ⟨t, rfl⟩ := isI_int h1
        obtain ⟨b, rfl⟩ := isI_int h2
        cases D1
        cases D2
        refine ⟨_, rfl, rfl, _, rfl, ?_⟩
        by_cases hb : b = 0
        · have no : numOf (.int t) (.int b) = none := if_pos hb
          refine ifT (by simpa using hb) ?_
          (refine ⟨_, rfl, _, rfl, by show 2 ≤ sizeLine; decide, fun y ny => ⟨by show 1 ≤ 1000; decide, fun e ne => ⟨e, _, rfl, upd_same, fun d nd hde => ?_⟩⟩⟩; have j := Same.new (o := .tup [.int t, .int b]) ny; have ey := upd_same (H := H) (a := y) (o := .tup [.int t, .int b]); generalize upd H y (.tup [.int t, .int b]) = H1 at *; have nd1 : H1 d = none := (by rw [upd_ne hde] at nd; exact nd); have sm := err_same (C := Cb) (v := .ref y) ne nd1; refine ⟨rfl, d, _, upd_same, (upd_ne hde).trans upd_same, nd1, ?_⟩; exact k2 no y d _ (sm _ _ ey) (fun a o e => ne_of_none e ny) upd_same (j.trans sm))
        · have yes : numOf (.int t) (.int b) = some (t, b) := if_neg hb
          refine ifF (by simpa using hb) ?_
          obtain ⟨zt, hz⟩ := zz t b yes
          refine ⟨_, rfl, _, rfl, _, _, rfl, ?_⟩
          refine ⟨_, rfl, _, _, rfl, rfl, _, rfl, ?_⟩
          have hs : Sz 2000 (gS t b) := by
            have := Sz.gI (t := t) hb hz
            unfold gS
            split
            · exact this.neg
            · exact this
          have fin : ∀ {y : Int}, y = gS t b → tSeq (sFld K (tVar 0) (tOp (rI (fun _ j => j ≠ 0 ∧ j.natAbs.log2 < 9000) fun i j => .int (i.fdiv j)) (tVar 1) (tVar 3)) "_top") (sFld K (tVar 0) (tOp (rI (fun _ j => j ≠ 0 ∧ j.natAbs.log2 < 9000) fun i j => .int (i.fdiv j)) (tVar 2) (tVar 3)) "_bottom")
              { nx := fun _ H' => Q .non H', rt := Q } [some (.ref x), some (.int t), some (.int b), some (.int y)] H := by
            rintro y rfl
            have h9 : (gS t b).natAbs.log2 < 9000 := Nat.lt_of_lt_of_le (PySem.Flt.log2_lt_of (by decide) hs) (by decide)
            refine ⟨_, rfl, _, rfl, _, _, rfl, rfl, ⟨gS_ne hb, h9⟩, _, rfl, x, C, dx, [], rfl, hx, NC.cl, NC.nT, (by show 0 < 1000; decide), ?_⟩
            refine ⟨_, rfl, _, rfl, _, _, rfl, rfl, ⟨gS_ne hb, h9⟩, _, rfl, x, C, dx, _, rfl, upd_same, NC.cl, NC.nB, (by show 1 < 1000; decide), ?_⟩
            refine k1 t b yes _ ⟨dx, upd_same.trans (congrArg some (congrArg (HO.ins C dx) ?_))⟩ fun a o e n => ?_
            · exact (put_past (by decide +kernel)).trans rfl
            · rw [upd_ne n, upd_ne n]
              exact e
          by_cases hn : b < 0
          · refine ifT (by simpa using hn) ?_
            refine ⟨_, rfl, _, rfl, ?_⟩
            refine fin ?_
            unfold gS gI
            rw [if_pos hn]
          · refine ifF (by simpa using hn) ?_
            refine fin ?_
            unfold gS gI
            rw [if_neg hn]
end
end Ws

namespace Ws
open PySem PySem.Spec PyProof.Rows L2
abbrev sIsInt : Stmt := (PySem.Challenge.pw_whatspeed_k01_numbers_of_any_value.main.body.getD 16 (.Pass ⟨0, 0, 0, 0⟩))
abbrev NIsInt : List Str := ["value"]
abbrev PIsInt : List Str := ["value"]
theorem scIsInt : FnScope NIsInt PIsInt (defScope sIsInt) := ⟨rfl, rfl, rfl, by decide +kernel, rfl, by decide +kernel, by decide +kernel⟩
abbrev sAny : Stmt := (PySem.Challenge.pw_whatspeed_k01_numbers_of_any_value.main.body.getD 15 (.Pass ⟨0, 0, 0, 0⟩))
abbrev NAny : List Str := ["pot", "found", "turn"]
abbrev PAny : List Str := ["pot"]
theorem scAny : FnScope NAny PAny (defScope sAny) := ⟨rfl, rfl, rfl, by decide +kernel, rfl, by decide +kernel, by decide +kernel⟩
abbrev sHeard : Stmt := (PySem.Challenge.pw_whatspeed_k01_numbers_of_any_value.main.body.getD 17 (.Pass ⟨0, 0, 0, 0⟩))
abbrev NHeard : List Str := ["ask", "caught", "told", "e"]
abbrev PHeard : List Str := ["ask"]
theorem scHeard : FnScope NHeard PHeard (defScope sHeard) := ⟨rfl, rfl, rfl, by decide +kernel, rfl, by decide +kernel, by decide +kernel⟩
/-- all but what stands at p, and the tables, stays -/
def Kp (p : Addr) (H H' : Hp) : Prop := ∀ b o, b ≠ p → (∀ ps, o ≠ HO.tbl ps) → H b = some o → H' b = some o
theorem Kp.trans {p : Addr} {H H1 H2 : Hp} (a : Kp p H H1) (b : Kp p H1 H2) : Kp p H H2 := fun c o n t h => b c o n t (a c o n t h)
theorem Kp.ch {p : Addr} {H H' : Hp} (c : Ch p H H') : Kp p H H' := fun b o n _ e => c b o n e
theorem Kp.same {p : Addr} {H H' : Hp} (c : Same H H') : Kp p H H' := fun b o _ _ e => c b o e
theorem Kp.ext {p : Addr} {H H' : Hp} (c : LamX.ExtN H H') : Kp p H H' := fun b o _ t e => c b o e t
mutual
theorem Da.kp {p : Addr} {H H' : Hp} (c : Kp p H H') : ∀ {v : V} {d : PyData}, Da p H v d → Da p H' v d
  | _, _, .non => .non
  | _, _, .bl b => .bl b
  | _, _, .int i => .int i
  | _, _, .str x => .str x
  | _, _, .lst e n s t => .lst (c _ _ n (fun ps z => by cases z) e) n s (DaAll.kp c t)
  | _, _, .tup e n t => .tup (c _ _ n (fun ps z => by cases z) e) n (DaAll.kp c t)
  | _, _, .dct e n t => .dct (c _ _ n (fun ps z => by cases z) e) n (DaAll.kp c t)
theorem DaAll.kp {p : Addr} {H H' : Hp} (c : Kp p H H') : ∀ {vs : List V} {ds : List PyData}, DaAll p H vs ds → DaAll p H' vs ds
  | _, _, .nil => .nil
  | _, _, .cons h t => .cons (Da.kp c h) (DaAll.kp c t)
end
/-- a value that is drawn -/
def spAny : Sp := fun vs H Q _ => ∃ (p : Addr) (m : Int), vs = [.ref p] ∧ PotAt H p m ∧ m ≤ 100000 ∧ ∀ v H' d, Da p H' v d → Ok 30 d → (∀ i, d = .int i → Sz 100 i) → PotAt H' p (m + 28) → Ch p H H' → Q v H'
theorem ok_str (x : Str) (hx : x.cps.toList.all (fun c => decide (c < 16 ^ 8)) = true) (hz : x.cps.size ≤ 20) : Ok 0 (.str x) := ⟨rfl, hx, Nat.le_refl _, by simp only [PyData.bulk]; omega⟩
section
variable {P : Program} {w : World} {K : PySem.W.Frag} {mg : Str → Option Value} {base : Heap} {C f : Addr} {fd : FuncData}
theorem ok_isint (F : L2.Fun K "_law_is_int" "_law_is_int" sIsInt f fd) (b : Binds K fd PIsInt []) (B : Bi mg) : FnR P w K mg base CX0 1 f spWholeD := by
  refine fnR_of F b scIsInt (fun vs H Q E h => ?_) (fun cdv A outer s H vs Q E hr h => ?_)
  · obtain ⟨p, v, d, rfl, _⟩ := h
    rfl
  · have sc := scIsInt
    obtain ⟨p, v, d, rfl, da, k⟩ := h
    have ty : TyX K H v (.type (tyN d)) := da.ty
    refine ⟨_, (pss_one (ps_ret (pe_and (pe_callB (show CallR _ (.builtin "isinstance") (rIsi K) from call_isi) (by rfl) B.isinstance (by decide +kernel) (pa_cons (pv 0) (pa_cons (pe_bltn (v := .ty "int") (by rfl) B.int (by decide +kernel) rfl) pa_nil))) (pe_one (pe_not (pe_callB (show CallR _ (.builtin "isinstance") (rIsi K) from call_isi) (by rfl) B.isinstance (by decide +kernel) (pa_cons (pv 0) (pa_cons (pe_bltn (v := .ty "bool") (by rfl) B.bool (by decide +kernel) rfl) pa_nil)))))))), ?_⟩
    refine ⟨_, rfl, _, _, _, _, _, rfl, .ty _, ty, kit_int d, _, rfl, ?_⟩
    cases d with
    | bool x => exact iteT ⟨_, rfl, _, _, _, _, _, rfl, .ty _, ty, kit_bool (.bool x), _, rfl, k⟩
    | int i => exact iteT ⟨_, rfl, _, _, _, _, _, rfl, .ty _, ty, kit_bool (.int i), _, rfl, k⟩
    | none => exact iteF k
    | str x => exact iteF k
    | list x => exact iteF k
    | tuple x => exact iteF k
    | dict x => exact iteF k
theorem pot_ne {H : Hp} {p a : Addr} {m : Int} (hp : PotAt H p m) (na : H a = none) : p ≠ a := by obtain ⟨_, _, _, e, _⟩ := hp; exact ne_of_none e na
theorem ok_ground {d : PyData} (h : (d.showable && d.leavesShort 1901 && decide (d.depth ≤ 2) && decide (d.bulk ≤ 120)) = true) : Ok 2 d := by
  simp only [Bool.and_eq_true, decide_eq_true_eq] at h
  exact ⟨h.1.1.1, h.1.1.2, h.1.2, h.2⟩
theorem ok_any (F : L2.Fun K "_law_any" "_law_any" sAny f fd) (b : Binds K fd PAny []) (B : Bi mg) (cT : CalF P w K mg base 1 "_law_take" spTake) (cO : CalF P w K mg base 2 "_law_of" spOf) : FnR P w K mg base CX0 3 f spAny := by
  refine fnR_of F b scAny (fun vs H Q E h => ?_) (fun cdv A outer s H vs Q E hr h => ?_)
  · obtain ⟨p, m, rfl, _⟩ := h
    rfl
  · have sc := scAny
    obtain ⟨p, m, rfl, hp, hm, q⟩ := h
    refine ⟨_, (pss_cons (ps_if (pt_cmpR op_gt (pe_f cT hr (by decide) rfl (pa_cons (pv 0) (pa_cons pe_int pa_nil))) pe_int (nomark _)) (pss_one (ps_ret (pe_f cO hr (by decide) rfl (pa_cons (pv 0) (pa_cons (pe_lst (pa_cons pe_int (pa_cons pe_int (pa_cons (pe_un un_neg pe_int) (pa_cons pe_int (pa_cons (pe_un un_neg pe_int) (pa_cons pe_int (pa_cons pe_int (pa_cons (pe_un un_neg pe_int) (pa_cons (pe_op op_pow pe_int pe_int) (pa_cons (pe_un un_neg (pe_op op_pow pe_int pe_int)) (pa_cons (pe_op op_pow pe_int pe_int) (pa_cons (pe_op op_sub (pe_f cT hr (by decide) rfl (pa_cons (pv 0) (pa_cons pe_int pa_nil))) pe_int) pa_nil))))))))))))) pa_nil))))) pss_nil) (pss_cons (ps_set (i := 1) sc.nd rfl (Or.inl rfl) (pe_f cO hr (by decide) rfl (pa_cons (pv 0) (pa_cons (pe_lst (pa_cons pe_non (pa_cons pe_bl (pa_cons pe_bl (pa_cons pe_str (pa_cons pe_str (pa_cons pe_str (pa_cons (pe_tup pa_nil) (pa_cons (pe_lstS pa_nil) (pa_cons pe_dnewK (pa_cons (pe_tup (pa_cons pe_int pa_nil)) (pa_cons (pe_lstS (pa_cons pe_int pa_nil)) (pa_cons (pe_disp (pps_cons pe_str pe_int pps_nil) rfl rfl (fun z => nomatch z) (by decide)) (pa_cons (pe_tup (pa_cons pe_int (pa_cons pe_int pa_nil))) pa_nil)))))))))))))) pa_nil)))) (pss_cons (ps_for PassesOwn.never rfl (pi_range1 (by rfl) B.range (pa_cons (pe_f cO hr (by decide) rfl (pa_cons (pv 0) (pa_cons (pe_lst (pa_cons pe_int (pa_cons pe_int (pa_cons pe_int (pa_cons pe_int pa_nil))))) pa_nil))) pa_nil)) (pg_name (i := 2) sc.nd rfl (Or.inl rfl)) (pss_one (ps_set (i := 1) sc.nd rfl (Or.inl rfl) (pe_f cO hr (by decide) rfl (pa_cons (pv 0) (pa_cons (pe_lst (pa_cons (pe_tup (pa_cons (pv 1) pa_nil)) (pa_cons (pe_lstS (pa_cons (pv 1) pa_nil)) (pa_cons (pe_disp (pps_cons pe_str (pv 1) pps_nil) rfl rfl (fun z => nomatch z) (by decide)) pa_nil)))) pa_nil)))))) (pss_one (ps_ret (pv 1)))))), ?_⟩
    refine ⟨_, rfl, p, 5, m, rfl, hp, by omega, by decide, by decide, fun d H1 d0 d1 hp1 c1 => ?_⟩
    refine ⟨_, _, rfl, rfl, _, rfl, if2 (fun _ => ?_) (fun _ => ?_)⟩
    · refine ⟨_, rfl, _, rfl, _, rfl, _, rfl, _, _, rfl, rfl, ⟨by decide, by decide, by decide⟩, _, _, rfl, rfl, ⟨by decide, by decide, by decide⟩, _, rfl, _, _, rfl, rfl, ⟨by decide, by decide, by decide⟩, ?_⟩
      refine ⟨_, rfl, p, 1000, m + 1, rfl, hp1, by omega, by decide, by decide, fun r H2 r0 r1 hp2 c2 => ?_⟩
      refine ⟨_, _, rfl, rfl, by show 12 ≤ sizeLine; decide, fun l hl => ?_⟩
      have npl : p ≠ l := pot_ne hp2 hl
      refine ⟨p, l, _, m + 1 + 1, rfl, hp2.same (Same.new hl), by omega, upd_same, fun z => npl z.symm, by show 1 ≤ 12; decide, by show 12 ≤ 1000; decide, fun v H3 hv hp3 c3 => ?_⟩
      have hv' : ∃ t : Int, v = .int t ∧ Sz 100 t := by
        simp only [List.mem_cons, List.not_mem_nil, or_false] at hv
        rcases hv with rfl | rfl | rfl | rfl | rfl | rfl | rfl | rfl | rfl | rfl | rfl | rfl
        all_goals refine ⟨_, rfl, ?_⟩
        all_goals first
          | (show Int.natAbs _ < 2 ^ 100; decide)
          | (show Int.natAbs _ < 2 ^ 100; omega)
      obtain ⟨t, rfl, zt⟩ := hv'
      refine q _ H3 (.int t) (.int t) ((ok_int (Nat.lt_of_lt_of_le zt (Nat.pow_le_pow_right (by decide) (by decide)))).mono (by omega)) (fun i e => by cases e; exact zt) (hp3.mono (by omega)) ((c1.trans c2).trans ((Ch.new hl).trans c3))
    · -- found
      refine ⟨_, rfl, by show 0 ≤ sizeLine; decide, fun t0 nt0 => ?_⟩
      have pt0 := (pot_ne hp1 nt0).symm
      have jt0 := Same.new (o := .tup []) nt0
      have et0 := upd_same (H := H1) (a := t0) (o := .tup [])
      have hp1 := hp1.same jt0
      generalize upd H1 t0 (.tup []) = Gt0 at jt0 et0 hp1
      refine ⟨by show 0 ≤ sizeLine; decide, fun l1 nl1 sl1 => ?_⟩
      have pl1 := (pot_ne hp1 nl1).symm
      have jl1 := Same.new (o := .lst []) nl1
      have el1 := upd_same (H := Gt0) (a := l1) (o := .lst [])
      have hp1 := hp1.same jl1
      generalize upd Gt0 l1 (.lst []) = Gl1 at jl1 el1 hp1
      have et0 := jl1 _ _ et0
      intro g1 ng1
      have pg1 := (pot_ne hp1 ng1).symm
      have jg1 := Same.new (o := .dK []) ng1
      have eg1 := upd_same (H := Gl1) (a := g1) (o := .dK [])
      have hp1 := hp1.same jg1
      generalize upd Gl1 g1 (.dK []) = Gg1 at jg1 eg1 hp1
      have et0 := jg1 _ _ et0
      have el1 := jg1 _ _ el1
      refine ⟨by show 1 ≤ sizeLine; decide, fun t1 nt1 => ?_⟩
      have pt1 := (pot_ne hp1 nt1).symm
      have jt1 := Same.new (o := .tup [.int 1]) nt1
      have et1 := upd_same (H := Gg1) (a := t1) (o := .tup [.int 1])
      have hp1 := hp1.same jt1
      generalize upd Gg1 t1 (.tup [.int 1]) = Gt1 at jt1 et1 hp1
      have et0 := jt1 _ _ et0
      have el1 := jt1 _ _ el1
      have eg1 := jt1 _ _ eg1
      refine ⟨by show 1 ≤ sizeLine; decide, fun l2 nl2 sl2 => ?_⟩
      have pl2 := (pot_ne hp1 nl2).symm
      have jl2 := Same.new (o := .lst [.int 1]) nl2
      have el2 := upd_same (H := Gt1) (a := l2) (o := .lst [.int 1])
      have hp1 := hp1.same jl2
      generalize upd Gt1 l2 (.lst [.int 1]) = Gl2 at jl2 el2 hp1
      have et0 := jl2 _ _ et0
      have el1 := jl2 _ _ el1
      have eg1 := jl2 _ _ eg1
      have et1 := jl2 _ _ et1
      intro g2 ng2
      have pg2 := (pot_ne hp1 ng2).symm
      refine ⟨upd_same, [(.inr "a", .int 1)], rfl, by decide, ?_⟩
      rw [upd_upd]
      change _ at ng2
      have jg2 := Same.new (o := .dK (mergeK [] [(.inr "a", .int 1)])) ng2
      have eg2 : upd Gl2 g2 (.dK (mergeK [] [(.inr "a", .int 1)])) g2 = some (.dK [(.inr "a", .int 1)]) := upd_same
      have hp1 := hp1.same jg2
      generalize upd Gl2 g2 (.dK (mergeK [] [(.inr "a", .int 1)])) = Gg2 at jg2 eg2 hp1
      have et0 := jg2 _ _ et0
      have el1 := jg2 _ _ el1
      have eg1 := jg2 _ _ eg1
      have et1 := jg2 _ _ et1
      have el2 := jg2 _ _ el2
      refine ⟨by show 2 ≤ sizeLine; decide, fun t2 nt2 => ?_⟩
      have pt2 := (pot_ne hp1 nt2).symm
      have jt2 := Same.new (o := .tup [.int 1, .int 2]) nt2
      have et2 := upd_same (H := Gg2) (a := t2) (o := .tup [.int 1, .int 2])
      have hp1 := hp1.same jt2
      generalize upd Gg2 t2 (.tup [.int 1, .int 2]) = Gt2 at jt2 et2 hp1
      have et0 := jt2 _ _ et0
      have el1 := jt2 _ _ el1
      have eg1 := jt2 _ _ eg1
      have et1 := jt2 _ _ et1
      have el2 := jt2 _ _ el2
      have eg2 := jt2 _ _ eg2
      refine ⟨by show 13 ≤ sizeLine; decide, fun l hl => ?_⟩
      have npl : p ≠ l := pot_ne hp1 hl
      refine ⟨p, l, _, m + 1, rfl, hp1.same (Same.new hl), by omega, upd_same, fun z => npl z.symm, by show 1 ≤ 13; decide, by show 13 ≤ 1000; decide, fun v H3 hv hp3 c3 => ?_⟩
      have c03 : Ch p Gt2 H3 := (Ch.new hl).trans c3
      have c13 : Ch p H H3 := ((((((((c1).trans (Ch.of jt0)).trans (Ch.of jl1)).trans (Ch.of jg1)).trans (Ch.of jt1)).trans (Ch.of jl2)).trans (Ch.of jg2)).trans (Ch.of jt2)).trans c03
      have et0 := c03 _ _ pt0 et0
      have el1 := c03 _ _ pl1 el1
      have eg1 := c03 _ _ pg1 eg1
      have et1 := c03 _ _ pt1 et1
      have el2 := c03 _ _ pl2 el2
      have eg2 := c03 _ _ pg2 eg2
      have et2 := c03 _ _ pt2 et2
      have start : ∃ d, Da p H3 v d ∧ Ok 2 d ∧ ∀ i, d ≠ .int i := by
        simp only [List.mem_cons, List.not_mem_nil, or_false] at hv
        rcases hv with rfl | rfl | rfl | rfl | rfl | rfl | rfl | rfl | rfl | rfl | rfl | rfl | rfl
        · exact ⟨_, .non, ok_none.mono (by decide), fun i z => by cases z⟩
        · exact ⟨_, .bl true, (ok_bool _).mono (by decide), fun i z => by cases z⟩
        · exact ⟨_, .bl false, (ok_bool _).mono (by decide), fun i z => by cases z⟩
        · exact ⟨_, .str _, (ok_str _ (by decide +kernel) (by decide +kernel)).mono (by decide), fun i z => by cases z⟩
        · exact ⟨_, .str _, (ok_str _ (by decide +kernel) (by decide +kernel)).mono (by decide), fun i z => by cases z⟩
        · exact ⟨_, .str _, (ok_str _ (by decide +kernel) (by decide +kernel)).mono (by decide), fun i z => by cases z⟩
        · exact ⟨_, .tup et0 pt0 .nil, ok_ground (by decide +kernel), fun i z => by cases z⟩
        · exact ⟨_, .lst el1 pl1 sl1 .nil, ok_ground (by decide +kernel), fun i z => by cases z⟩
        · exact ⟨_, .dct (ds := []) eg1 pg1 .nil, ok_ground (by decide +kernel), fun i z => by cases z⟩
        · exact ⟨_, .tup et1 pt1 (.cons (.int 1) .nil), ok_ground (by decide +kernel), fun i z => by cases z⟩
        · exact ⟨_, .lst el2 pl2 sl2 (.cons (.int 1) .nil), ok_ground (by decide +kernel), fun i z => by cases z⟩
        · exact ⟨_, .dct (ds := [.int 1]) eg2 pg2 (.cons (.int 1) .nil), ok_ground (by decide +kernel), fun i z => by cases z⟩
        · exact ⟨_, .tup et2 pt2 (.cons (.int 1) (.cons (.int 2) .nil)), ok_ground (by decide +kernel), fun i z => by cases z⟩
      obtain ⟨d0, D0, K0, N0⟩ := start
      refine ⟨_, rfl, by show 4 ≤ sizeLine; decide, fun l0 nl0 => ?_⟩
      have npl0 : p ≠ l0 := pot_ne hp3 nl0
      refine ⟨p, l0, _, m + 1 + 1, rfl, hp3.same (Same.new nl0), by omega, upd_same, fun z => npl0.symm z, by show 1 ≤ 4; decide, by show 4 ≤ 1000; decide, fun u H4 hu hp4 c4 => ?_⟩
      have hu' : ∃ n : Int, u = .int n ∧ 0 ≤ n ∧ n ≤ 25 := by
        simp only [List.mem_cons, List.not_mem_nil, or_false] at hu
        rcases hu with rfl | rfl | rfl | rfl
        all_goals exact ⟨_, rfl, by decide, by decide⟩
      obtain ⟨n, rfl, n0, n25⟩ := hu'
      have c14 : Ch p H H4 := c13.trans ((Ch.new nl0).trans c4)
      have D4 : Da p H4 v d0 := (D0.same (Same.new nl0)).ch c4
      refine ⟨n, rfl, by omega, by omega, for_range (n := n.toNat) (fun i σ H' => ∃ v' x d, σ = [some (.ref p), some v', x] ∧ Da p H' v' d ∧ Ok (2 + i) d ∧ (∀ i, d ≠ .int i) ∧ PotAt H' p (m + 1 + 1 + 1 + (i : Int)) ∧ Ch p H H') ⟨v, _, d0, rfl, D4, K0, N0, hp4.mono (by omega), c14⟩ ?_ ?_⟩
      · rintro i σ H5 hi ⟨v', _, d, rfl, D5, K5, N5, hp5, c5⟩
        refine ⟨_, rfl, _, rfl, by show 1 ≤ sizeLine; decide, fun t nt => ?_⟩
        have pt := (pot_ne hp5 nt).symm
        have jt := Same.new (o := .tup [v']) nt
        have et := upd_same (H := H5) (a := t) (o := .tup [v'])
        have hp5 := hp5.same jt
        generalize upd H5 t (.tup [v']) = H6 at jt et hp5
        refine ⟨_, rfl, by show 1 ≤ sizeLine; decide, fun y ny sy => ?_⟩
        have py := (pot_ne hp5 ny).symm
        have jy := Same.new (o := .lst [v']) ny
        have ey := upd_same (H := H6) (a := y) (o := .lst [v'])
        have hp5 := hp5.same jy
        have et := jy _ _ et
        generalize upd H6 y (.lst [v']) = H7 at jy ey hp5 et
        intro g ng
        have pg := (pot_ne hp5 ng).symm
        refine ⟨_, rfl, upd_same, [(.inr "a", v')], rfl, by show 1 ≤ 15; decide, ?_⟩
        rw [upd_upd]
        have jg := Same.new (o := .dK (mergeK [] [(.inr "a", v')])) ng
        have eg : upd H7 g (.dK (mergeK [] [(.inr "a", v')])) g = some (.dK [(.inr "a", v')]) := upd_same
        have hp5 := hp5.same jg
        have et := jg _ _ et
        have ey := jg _ _ ey
        generalize upd H7 g (.dK (mergeK [] [(.inr "a", v')])) = H8 at jg eg hp5 et ey
        refine ⟨by show 3 ≤ sizeLine; decide, fun l nl => ?_⟩
        have npl : p ≠ l := pot_ne hp5 nl
        refine ⟨p, l, _, m + 1 + 1 + 1 + (i : Int), rfl, hp5.same (Same.new nl), by omega, upd_same, fun z => npl z.symm, by show 1 ≤ 3; decide, by show 3 ≤ 1000; decide, fun u H9 hu hp9 c9 => ?_⟩
        have c89 : Ch p H8 H9 := (Ch.new nl).trans c9
        have c59 : Ch p H5 H9 := (((Ch.of jt).trans (Ch.of jy)).trans (Ch.of jg)).trans c89
        have D9 := D5.ch c59
        have et := c89 _ _ pt et
        have ey := c89 _ _ py ey
        have eg := c89 _ _ pg eg
        have next : ∃ d', Da p H9 u d' ∧ Ok (2 + (i + 1)) d' ∧ ∀ i, d' ≠ .int i := by
          simp only [List.mem_cons, List.not_mem_nil, or_false] at hu
          rcases hu with rfl | rfl | rfl
          · exact ⟨_, .tup et pt (.cons D9 .nil), ok_tup1 K5, fun i z => by cases z⟩
          · exact ⟨_, .lst ey py sy (.cons D9 .nil), ok_lst1 K5, fun i z => by cases z⟩
          · exact ⟨_, .dct (ds := [d]) eg pg (.cons D9 .nil), ok_dct1 (by decide +kernel) (by decide +kernel) K5, fun i z => by cases z⟩
        obtain ⟨d', D', K', N'⟩ := next
        exact ⟨u, _, d', rfl, D', K', N', hp9.mono (by omega), c5.trans c59⟩
      · rintro σ H5 ⟨v', _, d, rfl, D5, K5, N5, hp5, c5⟩
        refine ⟨_, rfl, ?_⟩
        exact q v' H5 d D5 (K5.mono (by omega)) (fun i e => absurd e (N5 i)) (hp5.mono (by omega)) c5
end
/-- told = ask() -/
def tbAsk (f cc : Addr) (q : Str) (tl : XK → Hp → VK → Prop) : WX → TS := fun W D σ H => σ[0]? = some (some (.ref f)) ∧ H cc = some (LamX.CodeO cc q) ∧ tl (fun cls d H' => W cls d σ H') H (fun v H' => D.nx (σ.set 2 (some v)) H')
/-- what _law_heard makes of what it asks -/
def THeard (C Cb : Addr) : (XK → Hp → VK → Prop) → Hp → VK → Prop := fun tl H Q => ∀ G, Same H G → ∀ (E : XK) (Q2 : VK),
  (∀ x t b G1, NumAt C G1 x t b → (∀ R r G2, Same G1 G2 → (∀ a o, G1 a = some o → a ≠ R ∧ a ≠ r) → G2 R = some (.tup [.str "told", .ref r]) → G2 r = some (.tup [.int t, .int b]) → Q (.ref R) G2) → Q2 (.ref x) G1) →
  (∀ y d G1, G1 d = some (.xd [("value", .ref y)]) → (∀ R G2, Same G1 G2 → (∀ a o, G1 a = some o → a ≠ R) → G2 R = some (.tup [.str "bad", .ref y]) → Q (.ref R) G2) → E (.ref Cb) (some d) G1) → tl E G Q2
section
variable {P : Program} {w : World} {K : PySem.W.Frag} {mg : Str → Option Value} {base : Heap} {C Cb Cs Ct Ce g : Addr} {cdd : Value} {A : Around} {outer : List Env} {q : Str}
theorem heard_gives (B : Bi mg) (zV : mg "ValueError" = none) (pT : PrpF P w K mg base 1 C "top" (spTop C)) (pB : PrpF P w K mg base 1 C "bottom" (spBot C)) (TX : ErrC K Cb) (hno : PySem.W.findIn K (.ref Cb) "value" = some none) (gE : mg "SpeedError" = some (.ref Ce)) (gB : mg "BadNumber" = some (.ref Cb)) (gS : mg "BadStretch" = some (.ref Cs)) (gT : mg "BadText" = some (.ref Ct))
    (xE : PySem.W.exmOne K (.ref Cb) (.ref Ce) = some true) (kB : PySem.W.kitOne K (.ref Cb) (.ref Cb) = some true) (kST : PySem.W.kitAny K (.ref Cb) [.ref Cs, .ref Ct] = some false) (kV : PySem.W.kitOne K (.ref Cb) (.type "ValueError") = some true)
    (f cc : Addr) (s : Shared) (H : Hp) (Q : VK) (tl : XK → Hp → VK → Prop) (qn : Str) (hr : Room 3 (A.deeper (envOfC "_law_heard" (defScope sHeard) s.heap.objs.size g cdd)))
    (act : ∀ (W : WX) (pn : List (Addr × Obj)) (xe : Value → Shared → Prop) (p1 p2 : Pos), Takes ((cxOf CX0 P w K mg base NHeard "_law_heard" (defScope sHeard) g cdd A outer s H E0).tr pn xe) W →
      PE ((cxOf CX0 P w K mg base NHeard "_law_heard" (defScope sHeard) g cdd A outer s H E0).tr pn xe) (.Call (.Name "ask" p1) [] [] p2) (fun σ1 H1 Q => σ1[0]? = some (some (.ref f)) ∧ H1 cc = some (LamX.CodeO cc qn) ∧ tl (fun cls d H' => W cls d σ1 H') H1 Q))
    (hc : H cc = some (LamX.CodeO cc qn)) (h : THeard C Cb tl H Q) :
    ∃ t, PSs (cxOf CX0 P w K mg base NHeard "_law_heard" (defScope sHeard) g cdd A outer s H E0).nox (defBody sHeard) t ∧ t { nx := fun _ H' => Q .non H', rt := Q } (L2.start NHeard [.ref f]) H := by
  have sc := scHeard
  refine ⟨_, (pss_cons (ps_asg (pe_tup (pa_cons pe_non (pa_cons pe_non pa_nil))) (pg_tup rfl (pgs_cons (pg_name (i := 1) sc.nd rfl (Or.inl rfl)) (pgs_cons (pg_name (i := 2) sc.nd rfl (Or.inl rfl)) pgs_nil)))) (pss_cons (ps_keep (i := 3) rfl rfl rfl sc.nd rfl rfl ⟨rfl, by decide, .inl gE⟩ (tb := tbAsk f cc qn tl) (fun W pn xe tk _ => ⟨fun pi s2 σ H2 D I h2 => (pss_one (ps_set (i := 2) sc.nd rfl (Or.inl rfl) (act W pn xe _ _ tk))).run pi s2 σ H2 D I h2⟩) (fun a oe cls d pn hz hf => by exact (pss_one (ps_set (i := 1) sc.nd rfl (Or.inl rfl) (pv 3))))) (pss_cons (ps_if (pt_cmpR op_isN (pv 1) pe_non (nomark _)) (pss_one (ps_ret (pe_tup (pa_cons pe_str (pa_cons (pe_tup (pa_cons (pe_pr pT hr (by decide) (pv 2)) (pa_cons (pe_pr pB hr (by decide) (pv 2)) pa_nil))) pa_nil))))) pss_nil) (pss_cons (ps_if (PW.pt (pw_or (pt_not (pt_val (pe_callB call_kisV (by rfl) B.isinstance (by decide +kernel) (pa_cons (pv 1) (pa_cons (pe_glob (v := .ref Cb) rfl gB rfl) pa_nil))))) (pw_or1 (pt_val (pe_callB call_kisT (by rfl) B.isinstance (by decide +kernel) (pa_cons (pv 1) (pa_cons (pe_tup (pa_cons (pe_glob (v := .ref Cs) rfl gS rfl) (pa_cons (pe_glob (v := .ref Ct) rfl gT rfl) pa_nil))) pa_nil))))))) (pss_one (ps_ret (pe_tup (pa_cons pe_str (pa_cons pe_non pa_nil))))) pss_nil) (pss_one (ps_ret (pe_ifExp (pt_val (pe_callB call_kisV (by rfl) B.isinstance (by decide +kernel) (pa_cons (pv 1) (pa_cons (pe_bltn (v := .ty "ValueError") (by rfl) zV (by decide +kernel) rfl) pa_nil)))) (pe_tup (pa_cons pe_str (pa_cons (pe_kx TX hno (pv 1)) pa_nil))) (pe_tup (pa_cons pe_str (pa_cons pe_non pa_nil)))))))))), ?_⟩
  refine ⟨by show 2 ≤ sizeLine; decide, fun T nTT => ⟨T, _, rfl, SqT.of upd_same, rfl, _, _, rfl, _, _, rfl, rfl, ?_⟩⟩
  have jT := Same.new (o := .tup [.non, .non]) nTT
  generalize upd H T (.tup [.non, .non]) = G at jT
  refine ⟨rfl, jT _ _ hc, h G jT _ _ (fun x t b G1 N1 fin => ?_) (fun y d G1 ed fin => ?_)⟩
  · obtain ⟨dx, ex⟩ := id N1
    refine ⟨_, rfl, rfl, _, rfl, ifT rfl ?_⟩
    refine ⟨_, rfl, x, dx, _, rfl, ex, x, t, b, rfl, N1, _, rfl, x, dx, _, rfl, ex, x, t, b, rfl, N1, by show 2 ≤ sizeLine; decide, fun r nr => ⟨by show 2 ≤ sizeLine; decide, fun R nR => ?_⟩⟩
    have jr := Same.new (o := .tup [.int t, .int b]) nr
    refine fin R r _ (jr.trans (Same.new nR)) (fun a o e => ⟨ne_of_none (jr _ _ e) nR, ne_of_none e nr⟩) upd_same ?_
    exact (Same.new nR) _ _ upd_same
  · refine ⟨xE, fun er na => ?_⟩
    refine ⟨_, rfl, ?_⟩
    have j2 := Same.new (o := Kx (.ref Cb) (some d) er) na
    have ek := upd_same (H := G1) (a := er) (o := Kx (.ref Cb) (some d) er)
    have ed := j2 _ _ ed
    refine ⟨_, rfl, rfl, _, rfl, ifF rfl ?_⟩
    refine ⟨_, rfl, er, d, Cb, _, _, _, true, rfl, .own Cb, ek, ed, TX, kB, true, rfl, iteF ?_⟩
    refine ⟨_, rfl, by show 2 ≤ sizeLine; decide, fun tp ntp => ?_⟩
    have j3 := Same.new (o := .tup [.ref Cs, .ref Ct]) ntp
    have et := upd_same (H := upd G1 er (Kx (.ref Cb) (some d) er)) (a := tp) (o := .tup [.ref Cs, .ref Ct])
    have ek := j3 _ _ ek
    have ed := j3 _ _ ed
    refine ⟨er, d, Cb, tp, _, _, _, false, rfl, et, .cons (.own Cs) (.cons (.own Ct) .nil), ek, ed, TX, kST, false, rfl, ifF rfl ?_⟩
    refine ⟨_, rfl, er, d, Cb, _, _, _, true, rfl, .ty _, ek, ed, TX, kV, true, rfl, iteT ?_⟩
    refine ⟨_, rfl, er, d, _, _, rfl, ek, ed, lk_here, by show 2 ≤ sizeLine; decide, fun R nR => ?_⟩
    have j23 := j2.trans j3
    exact fin R _ (j23.trans (Same.new nR)) (fun a o e => ne_of_none (j23 _ _ e) nR) upd_same
end
end Ws

namespace Ws
open PySem PySem.Spec PyProof.Rows L2
abbrev sRight : Stmt := (PySem.Challenge.pw_whatspeed_k01_numbers_of_any_value.main.body.getD 18 (.Pass ⟨0, 0, 0, 0⟩))
abbrev NRight : List Str := ["above", "below", "is_fine", "due", "told"]
abbrev PRight : List Str := ["above", "below"]
theorem scRight : FnScope NRight PRight (defScope sRight) := ⟨rfl, rfl, rfl, by decide +kernel, rfl, by decide +kernel, by decide +kernel⟩
abbrev qnR : Str := (("_law_is_right" : Str) ++ ".<locals>.") ++ "<lambda>"
/-- what is told of two values -/
def outD (d1 d2 : PyData) : PyData := match numOf d1 d2 with
  | some (t, b) => .tuple [.str "told", .tuple [.int (nT t b), .int (nB t b)]]
  | none => .tuple [.str "bad", .tuple [d1, d2]]
def OutAt (p : Addr) (G : Hp) (R : Addr) (v1 v2 : V) (d1 d2 : PyData) : Prop := R ≠ p ∧ ∃ r, r ≠ p ∧ ((∃ t b, numOf d1 d2 = some (t, b) ∧ G R = some (.tup [.str "told", .ref r]) ∧ G r = some (.tup [.int (nT t b), .int (nB t b)])) ∨ (numOf d1 d2 = none ∧ G R = some (.tup [.str "bad", .ref r]) ∧ G r = some (.tup [v1, v2])))
theorem OutAt.to {p : Addr} {G G' : Hp} {R : Addr} {v1 v2 : V} {d1 d2 : PyData} (h : OutAt p G R v1 v2 d1 d2) (k : ∀ b xs, G b = some (.tup xs) → b ≠ p → G' b = some (.tup xs)) : OutAt p G' R v1 v2 d1 d2 := by
  obtain ⟨n, r, nr, h⟩ := h
  refine ⟨n, r, nr, ?_⟩
  rcases h with ⟨t, b, e, e1, e2⟩ | ⟨e, e1, e2⟩
  · exact .inl ⟨t, b, e, k _ _ e1 n, k _ _ e2 nr⟩
  · exact .inr ⟨e, k _ _ e1 n, k _ _ e2 nr⟩
theorem OutAt.da {p : Addr} {G : Hp} {R : Addr} {v1 v2 : V} {d1 d2 : PyData} (h : OutAt p G R v1 v2 d1 d2) (D1 : Da p G v1 d1) (D2 : Da p G v2 d2) : Da p G (.ref R) (outD d1 d2) := by
  obtain ⟨n, r, nr, h⟩ := h
  unfold outD
  rcases h with ⟨t, b, e, e1, e2⟩ | ⟨e, e1, e2⟩
  · rw [e]
    exact .tup e1 n (.cons (.str _) (.cons (.tup e2 nr (.cons (.int _) (.cons (.int _) .nil))) .nil))
  · rw [e]
    exact .tup e1 n (.cons (.str _) (.cons (.tup e2 nr (.cons D1 (.cons D2 .nil))) .nil))
structure Sm (d : PyData) : Prop where
  ok : Ok 30 d
  sz : ∀ i, d = .int i → Sz 100 i
theorem sm_int {i : Int} (h : Sz 100 i) : Sm (.int i) := ⟨(ok_int (Nat.lt_of_lt_of_le h (Nat.pow_le_pow_right (by decide) (by decide)))).mono (by decide), fun j e => by cases e; exact h⟩
theorem sm_num {d1 d2 : PyData} (h1 : Sm d1) (h2 : Sm d2) {t b : Int} (e : numOf d1 d2 = some (t, b)) : d1 = .int t ∧ d2 = .int b ∧ b ≠ 0 ∧ Sz 100 t ∧ Sz 100 b := by
  cases d1 <;> cases d2 <;> first | (cases e; done) | skip
  rename_i i j
  have e' : (if j = 0 then none else some (i, j)) = some (t, b) := e
  by_cases hj : j = 0
  · rw [if_pos hj] at e'
    cases e'
  · rw [if_neg hj] at e'
    cases e'
    exact ⟨rfl, rfl, hj, h1.sz _ rfl, h2.sz _ rfl⟩
/-- shown twice in a list -/
theorem out_shown {d1 d2 : PyData} (h1 : Sm d1) (h2 : Sm d2) : (outD d1 d2).showable = true ∧ (outD d1 d2).leavesShort 1901 = true ∧ (outD d1 d2).bulk ≤ 3000 ∧ (outD d1 d2).depth ≤ 40 := by
  have ws : ∀ x : Str, x = "told" ∨ x = "bad" → (PyData.str x).showable = true ∧ (PyData.str x).leavesShort 1901 = true ∧ (PyData.str x).bulk ≤ 4 ∧ (PyData.str x).depth = 0 := by
    rintro x (rfl | rfl)
    · exact ⟨by decide +kernel, by decide +kernel, by decide +kernel, by decide +kernel⟩
    · exact ⟨by decide +kernel, by decide +kernel, by decide +kernel, by decide +kernel⟩
  have pair : ∀ {x : Str} {a b : PyData}, (x = "told" ∨ x = "bad") → Ok 30 a → Ok 30 b → (PyData.tuple [.str x, .tuple [a, b]]).showable = true ∧ (PyData.tuple [.str x, .tuple [a, b]]).leavesShort 1901 = true ∧ (PyData.tuple [.str x, .tuple [a, b]]).bulk ≤ 3000 ∧ (PyData.tuple [.str x, .tuple [a, b]]).depth ≤ 40 := by
    intro x a b hx ha hb
    obtain ⟨w1, w2, w3, w4⟩ := ws x hx
    obtain ⟨a1, a2, a3, a4⟩ := ha
    obtain ⟨b1, b2, b3, b4⟩ := hb
    refine ⟨by simp only [PyData.showable, PyData.showableAll, a1, b1, Bool.and_self], ?_, ?_, ?_⟩
    · simp only [PyData.leavesShort, PyData.leavesShortAll, a2, b2, Bool.and_self, Bool.and_true]
      simpa only [PyData.leavesShort] using w2
    · simp only [PyData.bulk, PyData.bulkAll] at w3 ⊢
      omega
    · simp only [PyData.depth, PyData.depthAll] at w4 ⊢
      omega
  unfold outD
  cases e : numOf d1 d2 with
  | none => exact pair (.inr rfl) h1.ok h2.ok
  | some z =>
    obtain ⟨t, b⟩ := z
    obtain ⟨_, _, hb, zt, zb⟩ := sm_num h1 h2 e
    have k : ∀ {i : Int}, Sz 100 i → Ok 30 (.int i) := fun h => (sm_int h).ok
    exact pair (.inl rfl) (k (zt.nT hb)) (k (zb.nB hb))
theorem two_shown {d : PyData} (h : d.showable = true ∧ d.leavesShort 1901 = true ∧ d.bulk ≤ 3000 ∧ d.depth ≤ 40) : (PyData.list [d, d]).showable = true ∧ (PyData.list [d, d]).leavesShort 1901 = true ∧ (PyData.list [d, d]).bulk ≤ 8000 ∧ (PyData.list [d, d]).depth ≤ 60 := by
  obtain ⟨a1, a2, a3, a4⟩ := h
  refine ⟨by simp only [PyData.showable, PyData.showableAll, a1, Bool.and_self], by simp only [PyData.leavesShort, PyData.leavesShortAll, a2, Bool.and_self], ?_, ?_⟩
  · simp only [PyData.bulk, PyData.bulkAll]; omega
  · simp only [PyData.depth, PyData.depthAll]; omega
theorem tabs_upd {T : List (Addr × Str)} {G : Hp} {a : Addr} {xs : List V} {o : HO} (t : LamX.Tabs T G) (e : G a = some (.lst xs)) : LamX.Tabs T (upd G a o) := fun q hq => by
  obtain ⟨ps, h1, h2, h3⟩ := t q hq
  refine ⟨ps, (upd_ne (ne_of h1 e (fun z => by cases z))).trans h1, h2, fun pos cv hc => ?_⟩
  obtain ⟨c, e1, e2⟩ := h3 pos cv hc
  exact ⟨c, e1, (upd_ne (ne_of e2 e (fun z => by unfold LamX.CodeO at z; cases z))).trans e2⟩
theorem alive {p Pt : Addr} {H G : Hp} (h : p = Pt ∨ ∃ o, H p = some o ∧ ∀ ps, o ≠ HO.tbl ps) (x : LamX.ExtN H G) (t : LamX.Tabs [(Pt, qnR)] G) : ∃ o, G p = some o := by
  rcases h with rfl | ⟨o, e, n⟩
  · obtain ⟨ps, h1, _⟩ := t _ (List.mem_singleton.mpr rfl)
    exact ⟨_, h1⟩
  · exact ⟨o, x _ _ e n⟩
theorem OutAt.ext {p : Addr} {G G' : Hp} {R : Addr} {v1 v2 : V} {d1 d2 : PyData} (h : OutAt p G R v1 v2 d1 d2) (x : LamX.ExtN G G') : OutAt p G' R v1 v2 d1 d2 := h.to fun b xs e _ => x _ _ e (fun ps z => by cases z)
theorem OutAt.same {p : Addr} {G G' : Hp} {R : Addr} {v1 v2 : V} {d1 d2 : PyData} (h : OutAt p G R v1 v2 d1 d2) (x : Same G G') : OutAt p G' R v1 v2 d1 d2 := h.to fun b xs e _ => x _ _ e
/-- what Number's making asks, from what _law_heard wishes -/
theorem num_use {C Cb p : Addr} {G : Hp} {v1 v2 : V} {d1 d2 : PyData} {Q Q2 : VK} {E : XK} (D1 : Da p G v1 d1) (D2 : Da p G v2 d2) (S1 : Sm d1) (S2 : Sm d2) (hp : ∃ o, G p = some o) (fin : ∀ R G2, Same G G2 → OutAt p G2 R v1 v2 d1 d2 → Q (.ref R) G2)
    (hq : ∀ x t b G1, NumAt C G1 x t b → (∀ R r G2, Same G1 G2 → (∀ a o, G1 a = some o → a ≠ R ∧ a ≠ r) → G2 R = some (.tup [.str "told", .ref r]) → G2 r = some (.tup [.int t, .int b]) → Q (.ref R) G2) → Q2 (.ref x) G1)
    (he : ∀ y d G1, G1 d = some (.xd [("value", .ref y)]) → (∀ R G2, Same G1 G2 → (∀ a o, G1 a = some o → a ≠ R) → G2 R = some (.tup [.str "bad", .ref y]) → Q (.ref R) G2) → E (.ref Cb) (some d) G1) :
    ∀ x dx, G x = none → G dx = none → dx ≠ x → spNumD C Cb [.ref x, v1, v2] (upd (upd G dx (.own x)) x (.ins C dx [])) (fun v H2 => v = .non ∧ Q2 (.ref x) H2) E := by
  intro x dx nx nd ne
  obtain ⟨op, hp⟩ := hp
  have j : Same G (upd (upd G dx (.own x)) x (.ins C dx [])) := fun b o e => (upd_ne (ne_of_none e nx)).trans ((upd_ne (ne_of_none e nd)).trans e)
  refine ⟨x, dx, p, v1, v2, d1, d2, rfl, upd_same, D1.same j, D2.same j, fun t b e => ?_, fun t b e H' N k => ⟨rfl, hq x _ _ H' N fun R r G2 s fr eR er => ?_⟩, fun no y d H' ey fy ed s => he y d H' ed fun R G2 s2 fr eR => ?_⟩
  · obtain ⟨_, _, _, zt, zb⟩ := sm_num S1 S2 e
    exact ⟨zt.mono (by decide), zb.mono (by decide)⟩
  · have js : Same G H' := Same.mk nx nd k
    have f := fr p op (js _ _ hp)
    exact fin R G2 (js.trans s) ⟨f.1.symm, r, f.2.symm, .inl ⟨t, b, e, eR, er⟩⟩
  · have js : Same G H' := j.trans s
    exact fin R G2 (js.trans s2) ⟨(fr p op (js _ _ hp)).symm, y, (fy p op (j _ _ hp)).symm, .inr ⟨no, eR, s2 _ _ ey⟩⟩
theorem heard_call {C Cb p Pt : Addr} {H : Hp} {v1 v2 : V} {d1 d2 : PyData} {Q : VK} {tl : XK → Hp → VK → Prop} (D1 : Da p H v1 d1) (D2 : Da p H v2 d2) (S1 : Sm d1) (S2 : Sm d2) (hp : ∃ o, H p = some o)
    (sub : ∀ G (E : XK) (Q2 : VK), (∀ x dx, G x = none → G dx = none → dx ≠ x → spNumD C Cb [.ref x, v1, v2] (upd (upd G dx (.own x)) x (.ins C dx [])) (fun v H2 => v = .non ∧ Q2 (.ref x) H2) E) → tl E G Q2)
    (fin : ∀ R G, Same H G → OutAt p G R v1 v2 d1 d2 → Q (.ref R) G) : THeard C Cb tl H Q := fun G s E Q2 hq he =>
  sub G E Q2 (num_use (Q := Q) (D1.same s) (D2.same s) S1 S2 (let ⟨o, e⟩ := hp; ⟨o, s _ _ e⟩) (fun R G2 s2 O => fin R G2 (s.trans s2) O) hq he)
theorem dp_neS (x y : Str) (h : x = y) : (!decide (V.str x = V.str y)) = false := by subst h; simp
theorem nf_one (t : Int) : nT t 1 = t ∧ nB t 1 = 1 := by
  have l := nf_low (t := t) (b := 1) (by decide)
  have h := l.cross
  have : Low t 1 t 1 := ⟨by decide, rfl, by simp⟩
  exact l.eq this (by decide) (by decide) rfl
def spRight (Pt : Addr) : Sp := fun vs H Q _ => ∃ (p : Addr) (v1 v2 : V) (d1 d2 : PyData), vs = [v1, v2] ∧ (p = Pt ∨ ∃ o, H p = some o ∧ ∀ ps, o ≠ HO.tbl ps) ∧ Da p H v1 d1 ∧ Da p H v2 d2 ∧ Sm d1 ∧ Sm d2 ∧ LamX.Tabs [(Pt, qnR)] H ∧ ∀ H', LamX.ExtN H H' → LamX.Tabs [(Pt, qnR)] H' → Q (.bl true) H'
section
variable {P : Program} {w : World} {K : PySem.W.Frag} {mg : Str → Option Value} {base : Heap} {C Cb Cs Ct Ce f fN fH c Pt : Addr} {fd fdN : FuncData} {oc od' kV doc pm cdv ct : Value} {an od : Option Addr} {osl : Array (Option Value)}
theorem ok_right (F : L2.Fun K "_law_is_right" "_law_is_right" sRight f fd) (b : Binds K fd PRight []) (hfc : fd.code = .ref c) (TB : LamX.TabB base mg c Pt) (B : Bi mg) (zR : mg "repr" = none) (zV : mg "ValueError" = none) (pT : PrpF P w K mg base 1 C "top" (spTop C)) (pB : PrpF P w K mg base 1 C "bottom" (spBot C))
    (TX : ErrC K Cb) (hno : PySem.W.findIn K (.ref Cb) "value" = some none) (gN : mg "Number" = some (.ref C)) (gE : mg "SpeedError" = some (.ref Ce)) (gB : mg "BadNumber" = some (.ref Cb)) (gS : mg "BadStretch" = some (.ref Cs)) (gT : mg "BadText" = some (.ref Ct))
    (xE : PySem.W.exmOne K (.ref Cb) (.ref Ce) = some true) (kB : PySem.W.kitOne K (.ref Cb) (.ref Cb) = some true) (kST : PySem.W.kitAny K (.ref Cb) [.ref Cs, .ref Ct] = some false) (kVE : PySem.W.kitOne K (.ref Cb) (.type "ValueError") = some true)
    (cI : CalF P w K mg base 1 "_law_is_int" spWholeD) (cL : CalF P w K mg base 1 "_law_least" spLeast)
    (gH : mg "_law_heard" = some (.ref fH)) (kH : PySem.W.keepIn K (.ref fH) = true) (lH : K.lookup fH = some ⟨oc, od, .func (PySem.W.fnOf "_law_heard" "_law_heard" (defArgs sHeard) (defBody sHeard) (defScope sHeard) .none kV doc pm an cdv ct), osl⟩) (cH : PySem.W.codeIn K cdv "_law_heard" = true)
    (bH : L2.Binds K (PySem.W.fnOf "_law_heard" "_law_heard" (defArgs sHeard) (defBody sHeard) (defScope sHeard) .none kV doc pm an cdv ct) PHeard [])
    (mN : MakE P w K mg base (L2.CX P w) 3 "Number" C (spNumD C Cb)) (mN1 : MakE P w K mg base (L2.CX P w) 3 "Number" C (fun vs H Q E => spNumD C Cb (vs ++ [.int 1]) H Q E)) (MN : Mk K C fN) (GN : FnOk P w K mg base (L2.CX P w) 3 fN fdN PNum (spNumD C Cb)) (bK : KBn K fdN PNum 1 ["bottom", "top"] (fun us ws => us ++ ws.reverse) (fun vs zs => vs ++ zs.reverse)) :
    FnG P w K mg base CX0 8 f (spRight Pt) := by
  refine fnG_ofC F b scRight (fun vs H Q E h => ?_) (fun cdR A outer s H vs Q E cl hcd hr h => ?_)
  · obtain ⟨p, v1, v2, d1, d2, rfl, _⟩ := h
    rfl
  · have sc := scRight
    obtain rfl : cdR = .ref c := hcd.symm.trans hfc
    have hG : GivesS (cxOf CX0 P w K mg base NRight "_law_is_right" (defScope sRight) f (.ref c) A outer s H E).nox 5 NHeard "_law_heard" (defScope sHeard) fH cdv (defBody sHeard) "ask" qnR (THeard C Cb) := fun f cc s H Q tl hr act hc h =>
      heard_gives B zV pT pB TX hno gE gB gS gT xE kB kST kVE f cc s H Q tl _ (hr.mono (by decide)) act hc h
    obtain ⟨p, v1, v2, d1, d2, rfl, hp, D1, D2, S1, S2, tabs, q⟩ := h
    suffices hs : ∃ t, PSs (cxOf CX0 P w K mg base NRight "_law_is_right" (defScope sRight) f (.ref c) A outer s H E).nox (defBody sRight) t ∧ t { nx := fun _ H' => Q .non H', rt := Q } (L2.start NRight [v1, v2]) H by
      obtain ⟨t, h1, h2⟩ := hs
      exact ⟨t, PSs.nox h1, h2⟩
    -- from the second due on
    have rest2 : ∃ t, PSs (cxOf CX0 P w K mg base NRight "_law_is_right" (defScope sRight) f (.ref c) A outer s H E).nox (List.drop 2 (defBody sRight)) t ∧ ∀ (G : Hp) (D : Addr) (fine : Bool), LamX.ExtN H G → LamX.Tabs [(Pt, qnR)] G → OutAt p G D v1 v2 d1 d2 →
        t { nx := fun _ H' => Q .non H', rt := Q } [some v1, some v2, some (.bl fine), some (.ref D), none] G := by
      refine ⟨_, (pss_cons (ps_set (i := 4) sc.nd rfl (Or.inl rfl) (pe_lstS (pa_cons (pe_lamS (T := [(Pt, qnR)]) (TT := THeard C Cb) (k := 4) rfl gH kH lH cH bH scHeard rfl (.inl rfl) hG TB rfl (List.mem_singleton.mpr rfl) (fun q hq _ => congrArg Prod.snd (List.mem_singleton.mp hq)) (hr.mono (by decide)) (show LamX.LamS (defScope sRight) _ from LamX.lamS_by (by decide +kernel)) rfl (fun _ _ _ _ _ => rfl) (fun A outer s H E f cc hr2 => pe_mkS mN hr2 (by decide) (fun σ => passAt (takes_of rfl rfl rfl rfl) σ) rfl (pa_cons (pv 0) (pa_cons (pv 1) pa_nil)))) pa_nil))) (pss_cons (ps_expr (pe_bm PySem.F.plainAttrs_list PySem.F.slot_list_append PySem.F.type_list_append mt_append (pv 4) (pa_cons (pe_lamS (T := [(Pt, qnR)]) (TT := THeard C Cb) (k := 4) rfl gH kH lH cH bH scHeard rfl (.inl rfl) hG TB rfl (List.mem_singleton.mpr rfl) (fun q hq _ => congrArg Prod.snd (List.mem_singleton.mp hq)) (hr.mono (by decide)) (show LamX.LamS (defScope sRight) _ from LamX.lamS_by (by decide +kernel)) rfl (fun _ _ _ _ _ => rfl) (fun A outer s H E f cc hr2 => pe_makeK0 MN GN (hr2.mono (by decide)) rfl gN bK (passes_call (takes_of rfl rfl rfl rfl) (fun _ _ _ _ h => h)) (pk_cons (pv 1) (pk_cons (pv 0) pk_nil)))) pa_nil))) (pss_cons (ps_if (pt_cmpR op_ne (pe_callB (call_repD cl hr) (by rfl) zR (by decide +kernel) (pa_cons (pv 4) pa_nil)) (pe_callB (call_repD cl hr) (by rfl) zR (by decide +kernel) (pa_cons (pe_lstS (pa_cons (pv 3) (pa_cons (pv 3) pa_nil))) pa_nil)) (nomark _)) (pss_one (ps_ret pe_bl)) pss_nil) (pss_cons (ps_set (i := 3) sc.nd rfl (Or.inl rfl) (pe_ifExp (pt_val (pe_f cI hr (by decide) rfl (pa_cons (pv 0) pa_nil))) (pe_tup (pa_cons pe_str (pa_cons (pe_tup (pa_cons (pv 0) (pa_cons pe_int pa_nil))) pa_nil))) (pe_tup (pa_cons pe_str (pa_cons (pe_tup (pa_cons (pv 0) (pa_cons pe_int pa_nil))) pa_nil))))) (pss_one (ps_ret (pe_cmpR op_eq (pe_callB (call_repD cl hr) (by rfl) zR (by decide +kernel) (pa_cons (pe_lamS (T := [(Pt, qnR)]) (TT := THeard C Cb) (k := 4) rfl gH kH lH cH bH scHeard rfl (.inl rfl) hG TB rfl (List.mem_singleton.mpr rfl) (fun q hq _ => congrArg Prod.snd (List.mem_singleton.mp hq)) (hr.mono (by decide)) (show LamX.LamS (defScope sRight) _ from LamX.lamS_by (by decide +kernel)) rfl (fun _ _ _ _ _ => rfl) (fun A outer s H E f cc hr2 => pe_mkS mN1 hr2 (by decide) (fun σ => passAt (takes_of rfl rfl rfl rfl) σ) rfl (pa_cons (pv 0) pa_nil))) pa_nil)) (pe_callB (call_repD cl hr) (by rfl) zR (by decide +kernel) (pa_cons (pv 3) pa_nil)) (nomark _)))))))), ?_⟩
      intro G D fine x0 T0 O
      refine ⟨T0, fun H2 e2 T2 => ?_⟩
      have x2 : LamX.ExtN H H2 := x0.trans e2
      refine heard_call (Pt := Pt) (D1.kp (Kp.ext x2)) (D2.kp (Kp.ext x2)) S1 S2 (alive hp x2 T2) (fun G2 E2 Q2 z => ⟨_, rfl, _, rfl, z⟩) (fun R1 G3 s3 O1 => ?_)
      refine ⟨by show 1 ≤ sizeLine; decide, fun TL nTL sTL => ?_⟩
      have O := (O.ext e2).same s3
      have x3 := x2.trans (LamX.ExtN.of s3)
      have T3 := T2.ext s3
      have j4 := Same.new (o := .lst [.ref R1]) nTL
      have eTL := upd_same (H := G3) (a := TL) (o := .lst [.ref R1])
      generalize upd G3 TL (.lst [.ref R1]) = G4 at j4 eTL
      have O := O.same j4
      have O1 := O1.same j4
      have x4 := x3.trans (LamX.ExtN.of j4)
      have T4 := T3.ext j4
      -- told.append
      refine ⟨_, rfl, .inl ⟨rfl, _, SqL.of eTL⟩, ?_⟩
      refine ⟨T4, fun H5 e5 T5 => ?_⟩
      have x45 : LamX.ExtN G4 H5 := e5
      have x5 := x4.trans x45
      refine heard_call (Pt := Pt) (D1.kp (Kp.ext x5)) (D2.kp (Kp.ext x5)) S1 S2 (alive hp x5 T5) (fun G2 E2 Q2 z => ⟨_, rfl, _, rfl, rfl, rfl, z⟩) (fun R2 G6 s6 O2 => ?_)
      have x46 := x45.trans (LamX.ExtN.of s6)
      have eTL := x46 _ _ eTL (fun ps z => by cases z)
      refine ⟨TL, _, _, rfl, rfl, eTL, by show 1 < sizeLine; decide, ?_⟩
      have T6 := T5.ext s6
      have off : ∀ b xs, G6 b = some (.tup xs) → b ≠ p → upd G6 TL (.lst ([.ref R1] ++ [.ref R2])) b = some (.tup xs) := fun b xs e _ => (upd_ne (ne_of e eTL (fun z => by cases z))).trans e
      have O := (O.ext x46).to off
      have O1 := (O1.ext x46).to off
      have O2 := O2.to off
      have x7 : LamX.ExtN H (upd G6 TL (.lst ([.ref R1] ++ [.ref R2]))) := fun b o e t => (upd_ne (ne_of_none (x3 _ _ e t) nTL)).trans (x46 _ _ (j4 _ _ (x3 _ _ e t)) t)
      have T7 := tabs_upd (o := .lst ([.ref R1] ++ [.ref R2])) T6 eTL
      have eTL2 := upd_same (H := G6) (a := TL) (o := .lst ([.ref R1] ++ [.ref R2]))
      have nTp : TL ≠ p := by
        obtain ⟨o, e⟩ := alive hp x3 T3
        exact (ne_of_none e nTL).symm
      generalize upd G6 TL (.lst ([.ref R1] ++ [.ref R2])) = G7 at *
      have E1 := D1.kp (Kp.ext x7)
      have E2' := D2.kp (Kp.ext x7)
      -- repr(told) != repr([due, due])
      obtain ⟨w1, w2, w3, w4⟩ := two_shown (out_shown S1 S2)
      refine ⟨_, rfl, TL, p, _, rfl, .lst eTL2 nTp sTL (.cons (O1.da E1 E2') (.cons (O2.da E1 E2') .nil)), w1, w2, w3, w4, ?_⟩
      refine ⟨_, rfl, _, rfl, by show 2 ≤ sizeLine; decide, fun L nL sL => ?_⟩
      have j8 := Same.new (o := .lst [.ref D, .ref D]) nL
      have eL := upd_same (H := G7) (a := L) (o := .lst [.ref D, .ref D])
      have nLp : L ≠ p := by
        obtain ⟨o, e⟩ := alive hp x7 T7
        exact (ne_of_none e nL).symm
      generalize upd G7 L (.lst [.ref D, .ref D]) = G8 at j8 eL
      have Od := (O.same j8).da (E1.same j8) (E2'.same j8)
      refine ⟨L, p, _, rfl, .lst eL nLp sL (.cons Od (.cons Od .nil)), w1, w2, w3, w4, ?_⟩
      refine ⟨rfl, _, rfl, ifF (dp_neS _ _ rfl) ?_⟩
      have x8 := x7.trans (LamX.ExtN.of j8)
      have T8 := T7.ext j8
      have E1 := E1.same j8
      have I1 : Da p G8 (.int 1) (.int 1) := .int 1
      have S0 : Sm (.int 1) := sm_int (by unfold Sz; decide)
      -- the last one
      have last : ∀ (D2 : Addr) (G9 : Hp), Same G8 G9 → OutAt p G9 D2 v1 (.int 1) d1 (.int 1) → tRet (tOp rEq (tCB rRepD (tCons (LamX.tLam [(Pt, qnR)] (THeard C Cb) fun E => tMkS C (fun vs H Q E => spNumD C Cb (vs ++ [V.int 1]) H Q E) (fun σ => WE (fun cls d x H => E cls d H) σ) (tCons (tVar 0) tNil)) tNil)) (tCB rRepD (tCons (tVar 3) tNil)))
          { nx := fun _ H' => Q .non H', rt := Q } [some v1, some v2, some (.bl fine), some (.ref D2), some (.ref TL)] G9 := by
        intro D2 G9 s9 O9
        have x9 := x8.trans (LamX.ExtN.of s9)
        have T9 := T8.ext s9
        refine ⟨T9, fun HA eA TA => ?_⟩
        have xA := x9.trans eA
        have EA1 := D1.kp (Kp.ext xA)
        refine heard_call (Pt := Pt) (d2 := .int 1) EA1 (.int 1) S1 S0 (alive hp xA TA) (fun G2 E2 Q2 z => ⟨_, rfl, z⟩) (fun R3 GB sB O3 => ?_)
        have O9 := (O9.ext eA).same sB
        obtain ⟨y1, y2, y3, y4⟩ := out_shown S1 S0
        have EB := EA1.same sB
        refine ⟨R3, p, _, rfl, O3.da EB (.int 1), y1, y2, by omega, by omega, ?_⟩
        refine ⟨_, rfl, D2, p, _, rfl, O9.da EB (.int 1), y1, y2, by omega, by omega, rfl, ?_⟩
        have e : decide (V.str (outD d1 (.int 1)).shown = V.str (outD d1 (.int 1)).shown) = true := by simp
        rw [e]
        exact q _ (xA.trans (LamX.ExtN.of sB)) (TA.ext sB)
      refine ⟨_, rfl, p, v1, d1, rfl, E1, _, rfl, ?_⟩
      have mk : ∀ (wd : Str) (r D9 : Addr), G8 r = none → upd G8 r (.tup [v1, .int 1]) D9 = none → (∀ t b, numOf d1 (.int 1) = some (t, b) → wd = "told") → (numOf d1 (.int 1) = none → wd = "bad") → OutAt p (upd (upd G8 r (.tup [v1, .int 1])) D9 (.tup [.str wd, .ref r])) D9 v1 (.int 1) d1 (.int 1) := by
        intro wd r D9 nr nD h1 h2
        obtain ⟨o, e⟩ := alive hp x8 T8
        have jr := Same.new (o := .tup [v1, .int 1]) nr
        refine ⟨(ne_of_none (jr _ _ e) nD).symm, r, (ne_of_none e nr).symm, ?_⟩
        have er := (Same.new (o := .tup [.str wd, .ref r]) nD) _ _ (upd_same (H := G8) (a := r) (o := .tup [v1, .int 1]))
        cases h : numOf d1 (.int 1) with
        | none => exact .inr ⟨rfl, by rw [h2 h]; exact upd_same, er⟩
        | some z =>
          obtain ⟨t, b⟩ := z
          obtain ⟨rfl, e2, _, _, _⟩ := sm_num S1 S0 h
          cases e2
          cases D1
          refine .inl ⟨t, 1, rfl, by rw [h1 t 1 h]; exact upd_same, ?_⟩
          rw [(nf_one t).1, (nf_one t).2]
          exact er
      cases hi : isI d1 with
      | true =>
        obtain ⟨t, rfl⟩ := isI_int hi
        refine iteT ⟨_, rfl, by show 2 ≤ sizeLine; decide, fun r nr => ⟨by show 2 ≤ sizeLine; decide, fun D9 nD => ?_⟩⟩
        exact last D9 _ ((Same.new nr).trans (Same.new nD)) (mk "told" r D9 nr nD (fun _ _ _ => rfl) (fun h => by cases (show (if (1 : Int) = 0 then none else some (t, (1 : Int))) = none from h)))
      | false =>
        refine iteF ⟨_, rfl, by show 2 ≤ sizeLine; decide, fun r nr => ⟨by show 2 ≤ sizeLine; decide, fun D9 nD => ?_⟩⟩
        exact last D9 _ ((Same.new nr).trans (Same.new nD)) (mk "bad" r D9 nr nD (fun t b h => by rw [numOf_no1 hi] at h; cases h) (fun _ => rfl))
    have rest1 : ∃ t, PSs (cxOf CX0 P w K mg base NRight "_law_is_right" (defScope sRight) f (.ref c) A outer s H E).nox (List.drop 1 (defBody sRight)) t ∧ t { nx := fun _ H' => Q .non H', rt := Q } [some v1, some v2, some (.bl (numOf d1 d2).isSome), none, none] H := by
      obtain ⟨t, hbody, ht⟩ := rest2
      refine ⟨_, (pss_cons (ps_set (i := 3) sc.nd rfl (Or.inl rfl) (pe_ifExp (pt_val (pv 2)) (pe_tup (pa_cons pe_str (pa_cons (pe_f cL hr (by decide) rfl (pa_cons (pv 0) (pa_cons (pv 1) pa_nil))) pa_nil))) (pe_tup (pa_cons pe_str (pa_cons (pe_tup (pa_cons (pv 0) (pa_cons (pv 1) pa_nil))) pa_nil))))) hbody), ?_⟩
      refine ⟨_, rfl, _, rfl, ?_⟩
      have fr : ∀ {y : Addr}, H y = none → y ≠ p := fun n => by
        obtain ⟨o, e⟩ := alive hp (LamX.ExtN.refl H) tabs
        exact (ne_of_none e n).symm
      cases h : numOf d1 d2 with
      | none =>
        refine iteF ⟨_, rfl, _, rfl, by show 2 ≤ sizeLine; decide, fun r nr => ⟨by show 2 ≤ sizeLine; decide, fun D nD => ?_⟩⟩
        have j1 := Same.new (o := .tup [v1, v2]) nr
        have j2 := Same.new (o := .tup [.str "bad", .ref r]) nD
        refine ht _ D _ (LamX.ExtN.of (j1.trans j2)) (tabs.ext (j1.trans j2)) ⟨fr (j1.free nD), r, fr nr, .inr ⟨h, upd_same, j2 _ _ upd_same⟩⟩
      | some z =>
        obtain ⟨t0, b0⟩ := z
        obtain ⟨rfl, rfl, hb, zt, zb⟩ := sm_num S1 S2 h
        cases D1
        cases D2
        refine iteT ⟨_, rfl, _, rfl, t0, b0, rfl, hb, zb.mono (by decide), zt.mono (by decide), fun r G nr er j1 => ⟨by show 2 ≤ sizeLine; decide, fun D nD => ?_⟩⟩
        have j2 := Same.new (o := .tup [.str "told", .ref r]) nD
        refine ht _ D _ (LamX.ExtN.of (j1.trans j2)) (tabs.ext (j1.trans j2)) ⟨fr (j1.free nD), r, fr nr, .inl ⟨t0, b0, h, upd_same, j2 _ _ er⟩⟩
    obtain ⟨t, hbody, ht⟩ := rest1
    refine ⟨_, (pss_cons (ps_set (i := 2) sc.nd rfl (Or.inl rfl) (pe_and (pe_f cI hr (by decide) rfl (pa_cons (pv 0) pa_nil)) (pe_and (pe_f cI hr (by decide) rfl (pa_cons (pv 1) pa_nil)) (pe_one (pe_cmpR op_ne (pv 1) pe_int (nomark _)))))) hbody), ?_⟩
    refine ⟨_, rfl, p, v1, d1, rfl, D1, _, rfl, ?_⟩
    cases h1 : isI d1 with
    | false =>
      rw [numOf_no1 h1] at ht
      exact iteF ht
    | true =>
      refine iteT ⟨_, rfl, p, v2, d2, rfl, D2, _, rfl, ?_⟩
      cases h2 : isI d2 with
      | false =>
        rw [numOf_no2 h2] at ht
        exact iteF ht
      | true =>
        obtain ⟨t0, rfl⟩ := isI_int h1
        obtain ⟨b0, rfl⟩ := isI_int h2
        cases D1
        cases D2
        refine iteT ⟨_, rfl, rfl, ?_⟩
        have e : (!decide (V.int b0 = V.int 0)) = (numOf (.int t0) (.int b0)).isSome := by
          show _ = (if b0 = 0 then none else some (t0, b0) : Option (Int × Int)).isSome
          by_cases hb : b0 = 0 <;> simp [hb]
        rw [e]
        exact ht
end
end Ws

namespace Ws
open PySem PySem.Spec PyProof.Rows L2
abbrev sLaw : Stmt := (PySem.Challenge.pw_whatspeed_k01_numbers_of_any_value.main.body.getD 19 (.Pass ⟨0, 0, 0, 0⟩))
abbrev NLaw : List Str := ["script", "k", "pot", "turn"]
abbrev PLaw : List Str := ["script"]
theorem scLaw : FnScope NLaw PLaw (defScope sLaw) := ⟨rfl, rfl, rfl, by decide +kernel, rfl, by decide +kernel, by decide +kernel⟩
def spLaw (K : PySem.W.Frag) (Pt : Addr) : Sp := fun vs H Q _ => ∃ (a : Addr) (ns : List Int), vs = [.ref a] ∧ SqL K H a (ns.map V.int) ∧ ns.length ≤ 63 ∧ H Pt = some (.tbl #[]) ∧ ∀ H', Q (.bl true) H'
theorem seq_ext {K : PySem.W.Frag} {H H' : Hp} {a : Addr} {xs : List V} (x : LamX.ExtN H H') (h : SqL K H a xs) : SqL K H' a xs := by
  rcases h with (h | ⟨o, h⟩) | h
  · exact .inl (.inl (x _ _ h (fun ps z => by cases z)))
  · exact .inl (.inr ⟨o, x _ _ h (fun ps z => by cases z)⟩)
  · exact .inr h
theorem PotAt.ext {H H' : Hp} {p : Addr} {m : Int} (h : PotAt H p m) (x : LamX.ExtN H H') : PotAt H' p m := let ⟨a, b, c, e, r⟩ := h; ⟨a, b, c, x _ _ e (fun ps z => by cases z), r⟩
theorem tabs_ch {T : List (Addr × Str)} {G G' : Hp} {p : Addr} {m : Int} (t : LamX.Tabs T G) (hp : PotAt G p m) (c : Ch p G G') : LamX.Tabs T G' := fun q hq => by
  obtain ⟨_, _, _, e, _⟩ := hp
  obtain ⟨ps, h1, h2, h3⟩ := t q hq
  refine ⟨ps, c _ _ (ne_of h1 e (fun z => by cases z)) h1, h2, fun pos cv hc => ?_⟩
  obtain ⟨d, e1, e2⟩ := h3 pos cv hc
  exact ⟨d, e1, c _ _ (ne_of e2 e (fun z => by unfold LamX.CodeO at z; cases z)) e2⟩
section
variable {P : Program} {w : World} {K : PySem.W.Frag} {mg : Str → Option Value} {base : Heap} {f Pt : Addr} {fd : FuncData}
theorem ok_law (F : L2.Fun K "law" "law" sLaw f fd) (b : Binds K fd PLaw []) (B : Bi mg) (cP : CalF P w K mg base 1 "_law_pot" (spPot K)) (cA : CalF P w K mg base 3 "_law_any" spAny) (cR : CalG P w K mg base CX0 8 "_law_is_right" (spRight Pt)) : FnG P w K mg base CX0 9 f (spLaw K Pt) := by
  refine fnG_of F b scLaw (fun vs H Q E h => ?_) (fun cdv A outer s H vs Q E cl hr h => ?_)
  · obtain ⟨a, ns, rfl, _⟩ := h
    rfl
  · have sc := scLaw
    obtain ⟨a, ns, rfl, hS, hlen, hT, q⟩ := h
    have T0 : LamX.Tabs [(Pt, qnR)] H := fun z hz => by rw [List.mem_singleton.mp hz]; exact LamX.TabS.nil hT
    refine ⟨_, (pss_cons (ps_for PassesOwn.never rfl (pi_range1 (by rfl) B.range (pa_cons (pe_callB (call_max2 rfl) (by rfl) B.max (by decide +kernel) (pa_cons pe_int (pa_cons (pe_callB (call_min2 rfl) (by rfl) B.min (by decide +kernel) (pa_cons pe_int (pa_cons (pe_callB call_len_seq (by rfl) B.len PySem.boot_len (pa_cons (pv 0) pa_nil)) pa_nil))) pa_nil))) pa_nil)) (pg_name (i := 1) sc.nd rfl (Or.inl rfl)) (pss_cons (ps_set (i := 2) sc.nd rfl (Or.inl rfl) (pe_f cP hr (by decide) rfl (pa_cons (pv 0) (pa_cons (pv 1) pa_nil)))) (pss_one (ps_for PassesOwn.never rfl (pi_range1 (by rfl) B.range (pa_cons pe_int pa_nil)) (pg_name (i := 3) sc.nd rfl (Or.inl rfl)) (pss_one (ps_if (pt_not (pt_val (pe_g cR cl hr (by decide) rfl (pa_cons (pe_f cA hr (by decide) rfl (pa_cons (pv 2) pa_nil)) (pa_cons (pe_f cA hr (by decide) rfl (pa_cons (pv 2) pa_nil)) pa_nil))))) (pss_one (ps_ret pe_bl)) pss_nil)))))) (pss_one (ps_ret (pe_and (pe_g cR cl hr (by decide) rfl (pa_cons pe_int (pa_cons pe_int pa_nil))) (pe_and (pe_g cR cl hr (by decide) rfl (pa_cons pe_int (pa_cons (pe_un un_neg pe_int) pa_nil))) (pe_and (pe_g cR cl hr (by decide) rfl (pa_cons pe_bl (pa_cons pe_int pa_nil))) (pe_one (pe_g cR cl hr (by decide) rfl (pa_cons pe_int (pa_cons (pe_un un_neg pe_int) pa_nil)))))))))), ?_⟩
    refine ⟨_, rfl, a, _, rfl, .inl hS, _, _, rfl, _, _, rfl, ?_⟩
    generalize hn : (if (if ((ns.map V.int).length : Int) < 3 then ((ns.map V.int).length : Int) else 3) > 1 then (if ((ns.map V.int).length : Int) < 3 then ((ns.map V.int).length : Int) else 3) else 1) = n
    have hn3 : n ≤ 3 ∧ 0 ≤ n := by
      rw [← hn]
      split <;> split <;> omega
    refine ⟨n, rfl, by omega, by omega, for_range (n := n.toNat) (fun i σ H' => ∃ x y z, σ = [some (.ref a), x, y, z] ∧ SqL K H' a (ns.map V.int) ∧ LamX.Tabs [(Pt, qnR)] H') ⟨_, _, _, rfl, hS, T0⟩ ?_ ?_⟩
    · rintro i σ H0 hi ⟨_, _, _, rfl, hS0, T0⟩
      rw [Int.zero_add]
      refine ⟨_, rfl, _, rfl, a, ns, i, rfl, hS0, by omega, fun p H1 np hp s1 => ?_⟩
      refine ⟨10, rfl, by decide, by decide, for_range (n := 10) (fun j σ H' => ∃ z, σ = [some (.ref a), some (.int i), some (.ref p), z] ∧ PotAt H' p (56 * (j : Int)) ∧ LamX.ExtN H0 H' ∧ LamX.Tabs [(Pt, qnR)] H') ⟨_, rfl, hp.mono (by omega), LamX.ExtN.of s1, T0.ext s1⟩ ?_ ?_⟩
      · rintro j σ H2 hj ⟨_, rfl, hp2, x2, T2⟩
        refine ⟨_, rfl, p, _, rfl, hp2, by omega, fun v1 H3 d1 D1 K1 Z1 hp3 c3 => ?_⟩
        refine ⟨_, rfl, p, _, rfl, hp3, by omega, fun v2 H4 d2 D2 K2 Z2 hp4 c4 => ?_⟩
        have T4 := tabs_ch (tabs_ch T2 hp2 c3) hp3 c4
        have al : ∃ o, H4 p = some o ∧ ∀ ps, o ≠ HO.tbl ps := by
          obtain ⟨_, _, _, e, _⟩ := hp4
          exact ⟨_, e, fun ps z => by cases z⟩
        refine ⟨p, v1, v2, d1, d2, rfl, .inr al, D1.ch c4, D2, ⟨K1, Z1⟩, ⟨K2, Z2⟩, T4, fun H5 x5 T5 => ⟨true, rfl, ifF rfl ?_⟩⟩
        refine ⟨_, rfl, (hp4.ext x5).mono (by omega), fun b' o e t => ?_, T5⟩
        have nb := ne_of_none e np
        exact x5 _ _ (c4 _ _ nb (c3 _ _ nb (x2 _ _ e t))) t
      · rintro σ H2 ⟨_, rfl, _, x2, T2⟩
        exact ⟨_, _, _, rfl, seq_ext x2 hS0, T2⟩
    · rintro σ H0 ⟨_, _, _, rfl, _, T0⟩
      have Z : ∀ {i : Int}, i.natAbs < 2 ^ 100 → Sm (.int i) := fun h => sm_int h
      refine ⟨Pt, .int 0, .int 0, _, _, rfl, .inl rfl, .int 0, .int 0, Z (by decide), Z (by decide), T0, fun H1 x1 T1 => ⟨_, rfl, iteT ?_⟩⟩
      refine ⟨_, rfl, Pt, .int 0, .int (-5), _, _, rfl, .inl rfl, .int 0, .int (-5), Z (by decide), Z (by decide), T1, fun H2 x2 T2 => ⟨_, rfl, iteT ?_⟩⟩
      refine ⟨Pt, .bl true, .int 1, _, _, rfl, .inl rfl, .bl true, .int 1, ⟨(ok_bool true).mono (by decide), fun i e => by cases e⟩, Z (by decide), T2, fun H3 x3 T3 => ⟨_, rfl, iteT ?_⟩⟩
      exact ⟨_, rfl, Pt, .int 6, .int (-4), _, _, rfl, .inl rfl, .int 6, .int (-4), Z (by decide), Z (by decide), T3, fun H4 x4 T4 => q H4⟩
end
theorem all_mk {l : PySem.W.OpenLaw} {w : World} {K : PySem.W.Frag} {h : Heap} {mg : Str → Option Value} {fa : Addr} (X : K.In h) (G : h.Ns mainGlobals mg) (hfa : mg "law" = some (.ref fa)) {C : Addr} {fWhole : Addr} {odWhole anWhole : Option Addr} {slWhole : Array (Option Value)} {ocWhole dcWhole pmWhole cdWhole ctWhole : Value} {kVWhole : Value} {fNum : Addr} {odNum anNum : Option Addr} {slNum : Array (Option Value)} {ocNum dcNum pmNum cdNum ctNum : Value} {kVNum : Value} {TNum : Addr} {oTNum : Obj} {nT : Nat} {tkT : Tok} {pNTop fNTop : Addr} {rNTop : List Value} {odNTop anNTop : Option Addr} {slNTop : Array (Option Value)} {ocNTop dcNTop pmNTop cdNTop ctNTop : Value} {kVNTop : Value} {pNBot fNBot : Addr} {rNBot : List Value} {odNBot anNBot : Option Addr} {slNBot : Array (Option Value)} {ocNBot dcNBot pmNBot cdNBot ctNBot : Value} {kVNBot : Value} {Ce : Addr} {Cb : Addr} {nmCb qCb : Str} {NCb : Addr} {bsCb bmCb : List Value} {snCb : List Str} {subCb : List Value} {abCb : Bool} {colCb : Option Bool} {ddCb : Option Addr} {m0Cb m1Cb m2Cb m3Cb m5Cb : Option Value} {fErrN : Addr} {odErrN anErrN : Option Addr} {slErrN : Array (Option Value)} {ocErrN dcErrN pmErrN cdErrN ctErrN : Value} {kVErrN : Value} {Cs : Addr} {nmCs qCs : Str} {NCs : Addr} {bsCs bmCs : List Value} {snCs : List Str} {subCs : List Value} {abCs : Bool} {colCs : Option Bool} {ddCs : Option Addr} {m0Cs m1Cs m2Cs m3Cs m5Cs : Option Value} {Ct : Addr} {nmCt qCt : Str} {NCt : Addr} {bsCt bmCt : List Value} {snCt : List Str} {subCt : List Value} {abCt : Bool} {colCt : Option Bool} {ddCt : Option Addr} {m0Ct m1Ct m2Ct m3Ct m5Ct : Option Value} {fPot : Addr} {odPot anPot : Option Addr} {slPot : Array (Option Value)} {ocPot dcPot pmPot cdPot ctPot : Value} {kVPot : Value} {fTake : Addr} {odTake anTake : Option Addr} {slTake : Array (Option Value)} {ocTake dcTake pmTake cdTake ctTake : Value} {kVTake : Value} {fOf : Addr} {odOf anOf : Option Addr} {slOf : Array (Option Value)} {ocOf dcOf pmOf cdOf ctOf : Value} {kVOf : Value} {fLeast : Addr} {odLeast anLeast : Option Addr} {slLeast : Array (Option Value)} {ocLeast dcLeast pmLeast cdLeast ctLeast : Value} {kVLeast : Value} {fAny : Addr} {odAny anAny : Option Addr} {slAny : Array (Option Value)} {ocAny dcAny pmAny cdAny ctAny : Value} {kVAny : Value} {fIsInt : Addr} {odIsInt anIsInt : Option Addr} {slIsInt : Array (Option Value)} {ocIsInt dcIsInt pmIsInt cdIsInt ctIsInt : Value} {kVIsInt : Value} {fHeard : Addr} {odHeard anHeard : Option Addr} {slHeard : Array (Option Value)} {ocHeard dcHeard pmHeard cdHeard ctHeard : Value} {kVHeard : Value} {fRight : Addr} {odRight anRight : Option Addr} {slRight : Array (Option Value)} {ocRight dcRight pmRight cdRight ctRight : Value} {kVRight : Value} {fLaw : Addr} {odLaw anLaw : Option Addr} {slLaw : Array (Option Value)} {ocLaw dcLaw pmLaw cdLaw ctLaw : Value} {kVLaw : Value} {cR Pt : Addr} (g_C : PySem.W.nsIn K mainGlobals "Number" = some (some (.ref C))) (pg_C : PySem.W.plainGet K C Str.empty = true) (hd_C : PySem.W.hasDictIn K C = true) (po_C : PySem.W.plainOver K C = true) (sa_C : PySem.W.findIn K (.ref C) "__setattr__" = some (some (.builtin "object.__setattr__"))) (mk_C : PySem.W.makesIn K C = true) (kc_C : PySem.W.keepIn K (.ref C) = true) (n_top_C : PySem.W.findIn K (.ref C) "_top" = some none) (n_bottom_C : PySem.W.findIn K (.ref C) "_bottom" = some none) (gcd : PySem.W.nsIn K mainGlobals "gcd" = some (some (.builtin "math.gcd"))) (g_fWhole : PySem.W.nsIn K mainGlobals "is_whole" = some (some (.ref fWhole))) (l_Whole : K.lookup fWhole = some ⟨ocWhole, odWhole, .func (PySem.W.fnOf "is_whole" "is_whole" (defArgs sWhole) (defBody sWhole) (defScope sWhole) .none kVWhole dcWhole pmWhole anWhole cdWhole ctWhole), slWhole⟩) (c_Whole : PySem.W.codeIn K cdWhole "is_whole" = true) (k_Whole : PySem.W.keepIn K (.ref fWhole) = true) (a_Num : PySem.W.findIn K (.ref C) "__init__" = some (some (.ref fNum))) (i_Num : PySem.W.isFn K (.ref fNum) = true) (l_Num : K.lookup fNum = some ⟨ocNum, odNum, .func (PySem.W.fnOf "__init__" "Number.__init__" (defArgs sNum) (defBody sNum) (defScope sNum) (.ref TNum) kVNum dcNum pmNum anNum cdNum ctNum), slNum⟩) (c_Num : PySem.W.codeIn K cdNum "Number.__init__" = true) (k_Num : PySem.W.keepIn K (.ref fNum) = true) (lT : K.lookup TNum = some oTNum) (dT : oTNum.data = .seq #[.int 1 tkT] nT) (a_NTop : PySem.W.findIn K (.ref C) "top" = some (some (.ref pNTop))) (g_NTop : PySem.W.specialIn K (.ref pNTop) "__get__" = some (some (.builtin "property.__get__"))) (t_NTop : PySem.W.takesIn K (.ref pNTop) = some true) (r_NTop : PySem.W.recIn K pNTop "property" = some (.ref fNTop :: rNTop)) (l_NTop : K.lookup fNTop = some ⟨ocNTop, odNTop, .func (PySem.W.fnOf "top" "Number.top" (defArgs sNTop) (defBody sNTop) (defScope sNTop) .none kVNTop dcNTop pmNTop anNTop cdNTop ctNTop), slNTop⟩) (c_NTop : PySem.W.codeIn K cdNTop "Number.top" = true) (k_NTop : PySem.W.keepIn K (.ref fNTop) = true) (a_NBot : PySem.W.findIn K (.ref C) "bottom" = some (some (.ref pNBot))) (g_NBot : PySem.W.specialIn K (.ref pNBot) "__get__" = some (some (.builtin "property.__get__"))) (t_NBot : PySem.W.takesIn K (.ref pNBot) = some true) (r_NBot : PySem.W.recIn K pNBot "property" = some (.ref fNBot :: rNBot)) (l_NBot : K.lookup fNBot = some ⟨ocNBot, odNBot, .func (PySem.W.fnOf "bottom" "Number.bottom" (defArgs sNBot) (defBody sNBot) (defScope sNBot) .none kVNBot dcNBot pmNBot anNBot cdNBot ctNBot), slNBot⟩) (c_NBot : PySem.W.codeIn K cdNBot "Number.bottom" = true) (k_NBot : PySem.W.keepIn K (.ref fNBot) = true) (g_Ce : PySem.W.nsIn K mainGlobals "SpeedError" = some (some (.ref Ce))) (ex_Ce : PySem.W.subIn K (.ref Ce) (.type "BaseException") = some true) (ty_Ce : PySem.W.typeIn K (.ref Ce) = some (.type "type")) (hd_Ce : PySem.W.hasDictIn K Ce = true) (g_Cb : PySem.W.nsIn K mainGlobals "BadNumber" = some (some (.ref Cb))) (xL_Cb : K.lookup Cb = some (excClassObj nmCb qCb Cb NCb bsCb bmCb true snCb subCb abCb colCb ddCb m0Cb m1Cb m2Cb m3Cb m5Cb "ValueError.__new__")) (rv_Cb : PySem.HandSPX.refsVE bmCb = true) (sa_Cb : PySem.W.findIn K (.ref Cb) "__setattr__" = some (some (.builtin "object.__setattr__"))) (ex_Cb : PySem.W.subIn K (.ref Cb) (.type "BaseException") = some true) (ty_Cb : PySem.W.typeIn K (.ref Cb) = some (.type "type")) (kc_Cb : PySem.W.keepIn K (.ref Cb) = true) (ga_Cb : PySem.W.findIn K (.ref Cb) "__getattribute__" = some (some (.builtin "BaseException.__getattribute__"))) (gg_Cb : PySem.W.findIn K (.ref Cb) "__getattr__" = some none) (hd_Cb : PySem.W.hasDictIn K Cb = true) (ca_Cb : PySem.W.findIn K (.ref Cb) "__class__" = some (some (.builtin "object.__class__"))) (hm_Cb : PySem.W.mroIn K Cb (.type "object") = some true) (ic_Cb : PySem.W.isClsIn K Cb = true) (ss_Cb : PySem.W.subIn K (.ref Cb) (.ref Cb) = some true) (nvalue_Cb : PySem.W.findIn K (.ref Cb) "value" = some none) (a_ErrN : PySem.W.findIn K (.ref Cb) "__init__" = some (some (.ref fErrN))) (i_ErrN : PySem.W.isFn K (.ref fErrN) = true) (l_ErrN : K.lookup fErrN = some ⟨ocErrN, odErrN, .func (PySem.W.fnOf "__init__" "BadNumber.__init__" (defArgs sErrN) (defBody sErrN) (defScope sErrN) .none kVErrN dcErrN pmErrN anErrN cdErrN ctErrN), slErrN⟩) (c_ErrN : PySem.W.codeIn K cdErrN "BadNumber.__init__" = true) (k_ErrN : PySem.W.keepIn K (.ref fErrN) = true) (g_Cs : PySem.W.nsIn K mainGlobals "BadStretch" = some (some (.ref Cs))) (xL_Cs : K.lookup Cs = some (excClassObj nmCs qCs Cs NCs bsCs bmCs true snCs subCs abCs colCs ddCs m0Cs m1Cs m2Cs m3Cs m5Cs "ValueError.__new__")) (rv_Cs : PySem.HandSPX.refsVE bmCs = true) (sa_Cs : PySem.W.findIn K (.ref Cs) "__setattr__" = some (some (.builtin "object.__setattr__"))) (ex_Cs : PySem.W.subIn K (.ref Cs) (.type "BaseException") = some true) (ty_Cs : PySem.W.typeIn K (.ref Cs) = some (.type "type")) (kc_Cs : PySem.W.keepIn K (.ref Cs) = true) (ga_Cs : PySem.W.findIn K (.ref Cs) "__getattribute__" = some (some (.builtin "BaseException.__getattribute__"))) (gg_Cs : PySem.W.findIn K (.ref Cs) "__getattr__" = some none) (hd_Cs : PySem.W.hasDictIn K Cs = true) (ca_Cs : PySem.W.findIn K (.ref Cs) "__class__" = some (some (.builtin "object.__class__"))) (hm_Cs : PySem.W.mroIn K Cs (.type "object") = some true) (ic_Cs : PySem.W.isClsIn K Cs = true) (ss_Cs : PySem.W.subIn K (.ref Cs) (.ref Cs) = some true) (nvalue_Cs : PySem.W.findIn K (.ref Cs) "value" = some none) (g_Ct : PySem.W.nsIn K mainGlobals "BadText" = some (some (.ref Ct))) (xL_Ct : K.lookup Ct = some (excClassObj nmCt qCt Ct NCt bsCt bmCt true snCt subCt abCt colCt ddCt m0Ct m1Ct m2Ct m3Ct m5Ct "ValueError.__new__")) (rv_Ct : PySem.HandSPX.refsVE bmCt = true) (sa_Ct : PySem.W.findIn K (.ref Ct) "__setattr__" = some (some (.builtin "object.__setattr__"))) (ex_Ct : PySem.W.subIn K (.ref Ct) (.type "BaseException") = some true) (ty_Ct : PySem.W.typeIn K (.ref Ct) = some (.type "type")) (kc_Ct : PySem.W.keepIn K (.ref Ct) = true) (ga_Ct : PySem.W.findIn K (.ref Ct) "__getattribute__" = some (some (.builtin "BaseException.__getattribute__"))) (gg_Ct : PySem.W.findIn K (.ref Ct) "__getattr__" = some none) (hd_Ct : PySem.W.hasDictIn K Ct = true) (ca_Ct : PySem.W.findIn K (.ref Ct) "__class__" = some (some (.builtin "object.__class__"))) (hm_Ct : PySem.W.mroIn K Ct (.type "object") = some true) (ic_Ct : PySem.W.isClsIn K Ct = true) (ss_Ct : PySem.W.subIn K (.ref Ct) (.ref Ct) = some true) (nvalue_Ct : PySem.W.findIn K (.ref Ct) "value" = some none) (oc_n : PySem.W.specialIn K (.builtin "object.__class__") "__get__" = some (some (.builtin "getset_descriptor.__get__"))) (oc_t : PySem.W.takesIn K (.builtin "object.__class__") = some true) (s_Cb_Cs : PySem.W.subIn K (.ref Cb) (.ref Cs) = some false) (s_Cb_Ct : PySem.W.subIn K (.ref Cb) (.ref Ct) = some false) (s_Cb_Ce : PySem.W.subIn K (.ref Cb) (.ref Ce) = some true) (s_Cb_V : PySem.W.subIn K (.ref Cb) (.type "ValueError") = some true) (g_fPot : PySem.W.nsIn K mainGlobals "_law_pot" = some (some (.ref fPot))) (l_Pot : K.lookup fPot = some ⟨ocPot, odPot, .func (PySem.W.fnOf "_law_pot" "_law_pot" (defArgs sPot) (defBody sPot) (defScope sPot) .none kVPot dcPot pmPot anPot cdPot ctPot), slPot⟩) (c_Pot : PySem.W.codeIn K cdPot "_law_pot" = true) (k_Pot : PySem.W.keepIn K (.ref fPot) = true) (g_fTake : PySem.W.nsIn K mainGlobals "_law_take" = some (some (.ref fTake))) (l_Take : K.lookup fTake = some ⟨ocTake, odTake, .func (PySem.W.fnOf "_law_take" "_law_take" (defArgs sTake) (defBody sTake) (defScope sTake) .none kVTake dcTake pmTake anTake cdTake ctTake), slTake⟩) (c_Take : PySem.W.codeIn K cdTake "_law_take" = true) (k_Take : PySem.W.keepIn K (.ref fTake) = true) (g_fOf : PySem.W.nsIn K mainGlobals "_law_of" = some (some (.ref fOf))) (l_Of : K.lookup fOf = some ⟨ocOf, odOf, .func (PySem.W.fnOf "_law_of" "_law_of" (defArgs sOf) (defBody sOf) (defScope sOf) .none kVOf dcOf pmOf anOf cdOf ctOf), slOf⟩) (c_Of : PySem.W.codeIn K cdOf "_law_of" = true) (k_Of : PySem.W.keepIn K (.ref fOf) = true) (g_fLeast : PySem.W.nsIn K mainGlobals "_law_least" = some (some (.ref fLeast))) (l_Least : K.lookup fLeast = some ⟨ocLeast, odLeast, .func (PySem.W.fnOf "_law_least" "_law_least" (defArgs sLeast) (defBody sLeast) (defScope sLeast) .none kVLeast dcLeast pmLeast anLeast cdLeast ctLeast), slLeast⟩) (c_Least : PySem.W.codeIn K cdLeast "_law_least" = true) (k_Least : PySem.W.keepIn K (.ref fLeast) = true) (g_fAny : PySem.W.nsIn K mainGlobals "_law_any" = some (some (.ref fAny))) (l_Any : K.lookup fAny = some ⟨ocAny, odAny, .func (PySem.W.fnOf "_law_any" "_law_any" (defArgs sAny) (defBody sAny) (defScope sAny) .none kVAny dcAny pmAny anAny cdAny ctAny), slAny⟩) (c_Any : PySem.W.codeIn K cdAny "_law_any" = true) (k_Any : PySem.W.keepIn K (.ref fAny) = true) (g_fIsInt : PySem.W.nsIn K mainGlobals "_law_is_int" = some (some (.ref fIsInt))) (l_IsInt : K.lookup fIsInt = some ⟨ocIsInt, odIsInt, .func (PySem.W.fnOf "_law_is_int" "_law_is_int" (defArgs sIsInt) (defBody sIsInt) (defScope sIsInt) .none kVIsInt dcIsInt pmIsInt anIsInt cdIsInt ctIsInt), slIsInt⟩) (c_IsInt : PySem.W.codeIn K cdIsInt "_law_is_int" = true) (k_IsInt : PySem.W.keepIn K (.ref fIsInt) = true) (g_fHeard : PySem.W.nsIn K mainGlobals "_law_heard" = some (some (.ref fHeard))) (l_Heard : K.lookup fHeard = some ⟨ocHeard, odHeard, .func (PySem.W.fnOf "_law_heard" "_law_heard" (defArgs sHeard) (defBody sHeard) (defScope sHeard) .none kVHeard dcHeard pmHeard anHeard cdHeard ctHeard), slHeard⟩) (c_Heard : PySem.W.codeIn K cdHeard "_law_heard" = true) (k_Heard : PySem.W.keepIn K (.ref fHeard) = true) (g_fRight : PySem.W.nsIn K mainGlobals "_law_is_right" = some (some (.ref fRight))) (l_Right : K.lookup fRight = some ⟨ocRight, odRight, .func (PySem.W.fnOf "_law_is_right" "_law_is_right" (defArgs sRight) (defBody sRight) (defScope sRight) .none kVRight dcRight pmRight anRight cdRight ctRight), slRight⟩) (c_Right : PySem.W.codeIn K cdRight "_law_is_right" = true) (k_Right : PySem.W.keepIn K (.ref fRight) = true) (g_fLaw : PySem.W.nsIn K mainGlobals "law" = some (some (.ref fLaw))) (l_Law : K.lookup fLaw = some ⟨ocLaw, odLaw, .func (PySem.W.fnOf "law" "law" (defArgs sLaw) (defBody sLaw) (defScope sLaw) .none kVLaw dcLaw pmLaw anLaw cdLaw ctLaw), slLaw⟩) (c_Law : PySem.W.codeIn K cdLaw "law" = true) (k_Law : PySem.W.keepIn K (.ref fLaw) = true) (hcR : cdRight = .ref cR) (z_len : PySem.W.nsIn K mainGlobals "len" = some none) (z_abs : PySem.W.nsIn K mainGlobals "abs" = some none) (z_int : PySem.W.nsIn K mainGlobals "int" = some none) (z_bool : PySem.W.nsIn K mainGlobals "bool" = some none) (z_max : PySem.W.nsIn K mainGlobals "max" = some none) (z_min : PySem.W.nsIn K mainGlobals "min" = some none) (z_range : PySem.W.nsIn K mainGlobals "range" = some none) (z_all : PySem.W.nsIn K mainGlobals "all" = some none) (z_any : PySem.W.nsIn K mainGlobals "any" = some none) (z_isinstance : PySem.W.nsIn K mainGlobals "isinstance" = some none) (z_repr : PySem.W.nsIn K mainGlobals "repr" = some none) (z_ValueError : PySem.W.nsIn K mainGlobals "ValueError" = some none) :
    ∀ base : Heap, K.In base → base.Ns mainGlobals mg → (∀ p ∈ [(cR, Pt)], LamX.TabB base mg p.1 p.2) → FnG l.prog w K mg base CX0 9 fa (spLaw K Pt) := by
  have e := hfa.symm.trans (PySem.W.mg_of X G g_fLaw)
  cases e
  have mgo : ∀ {x : Str} {v : Value}, PySem.W.nsIn K mainGlobals x = some (some v) → mg x = some v := fun e => PySem.W.mg_of X G e
  have B : Bi mg := ⟨PySem.W.mg_none_of X G z_len, PySem.W.mg_none_of X G z_abs, PySem.W.mg_none_of X G z_int, PySem.W.mg_none_of X G z_bool, PySem.W.mg_none_of X G z_max, PySem.W.mg_none_of X G z_min, PySem.W.mg_none_of X G z_range, PySem.W.mg_none_of X G z_all, PySem.W.mg_none_of X G z_any, PySem.W.mg_none_of X G z_isinstance⟩
  have zR : mg "repr" = none := PySem.W.mg_none_of X G z_repr
  have zV : mg "ValueError" = none := PySem.W.mg_none_of X G z_ValueError
  have clC : Cls K C := ⟨pg_C, hd_C, po_C, sa_C⟩
  have NC : NumC K C := ⟨clC, n_top_C, n_bottom_C⟩
  have TE : OexC K Cb := ⟨⟨_, _, _, _, _, _, _, _, _, _, _, _, _, _, _, xL_Cb, rv_Cb⟩, sa_Cb, ex_Cb, ty_Cb, kc_Cb⟩
  have TX : ErrC K Cb := ⟨ga_Cb, gg_Cb, ex_Cb, hd_Cb, ca_Cb, oc_n, oc_t, hm_Cb⟩
  have kS : PySem.W.kitOne K (.ref Cb) (.ref Cs) = some false := kit_no ic_Cs ty_Cs s_Cb_Cs (fun z => by injection z with z; subst z; rw [ss_Cb] at s_Cb_Cs; cases s_Cb_Cs)
  have kT : PySem.W.kitOne K (.ref Cb) (.ref Ct) = some false := kit_no ic_Ct ty_Ct s_Cb_Ct (fun z => by injection z with z; subst z; rw [ss_Cb] at s_Cb_Ct; cases s_Cb_Ct)
  have xE : PySem.W.exmOne K (.ref Cb) (.ref Ce) = some true := PySem.W.exm_ref ex_Ce hd_Ce ty_Ce s_Cb_Ce
  have kST : PySem.W.kitAny K (.ref Cb) [.ref Cs, .ref Ct] = some false := by simp only [PySem.W.kitAny, kS, kT]
  have kVE : PySem.W.kitOne K (.ref Cb) (.type "ValueError") = some true := by
    show (if (Value.ref Cb == Value.type "ValueError") = true then some true else (if PySem.W.kitMeta "ValueError" = true then PySem.W.subIn K (.ref Cb) (.type "ValueError") else none)) = _
    rw [if_neg (by simp), if_pos (by decide +kernel)]
    exact s_Cb_V
  have FWhole := L2.fun_mk (st := sWhole) l_Whole c_Whole k_Whole
  have FNTop := L2.fun_mk (st := sNTop) l_NTop c_NTop k_NTop
  have FNBot := L2.fun_mk (st := sNBot) l_NBot c_NBot k_NBot
  have FErrN := L2.fun_mk (st := sErrN) l_ErrN c_ErrN k_ErrN
  have FPot := L2.fun_mk (st := sPot) l_Pot c_Pot k_Pot
  have FTake := L2.fun_mk (st := sTake) l_Take c_Take k_Take
  have FOf := L2.fun_mk (st := sOf) l_Of c_Of k_Of
  have FLeast := L2.fun_mk (st := sLeast) l_Least c_Least k_Least
  have FAny := L2.fun_mk (st := sAny) l_Any c_Any k_Any
  have FIsInt := L2.fun_mk (st := sIsInt) l_IsInt c_IsInt k_IsInt
  have FHeard := L2.fun_mk (st := sHeard) l_Heard c_Heard k_Heard
  have FRight := L2.fun_mk (st := sRight) l_Right c_Right k_Right
  have FLaw := L2.fun_mk (st := sLaw) l_Law c_Law k_Law
  have bWhole := FWhole.binds (ps := PWhole) fun _ _ _ _ _ _ us hl => match us, hl with | [_], _ => rfl
  have bNTop := FNTop.binds (ps := PNTop) fun _ _ _ _ _ _ us hl => match us, hl with | [_], _ => rfl
  have bNBot := FNBot.binds (ps := PNBot) fun _ _ _ _ _ _ us hl => match us, hl with | [_], _ => rfl
  have bErrN := FErrN.binds (ps := PErrN) fun _ _ _ _ _ _ us hl => match us, hl with | [_, _], _ => rfl
  have bPot := FPot.binds (ps := PPot) fun _ _ _ _ _ _ us hl => match us, hl with | [_, _], _ => rfl
  have bTake := FTake.binds (ps := PTake) fun _ _ _ _ _ _ us hl => match us, hl with | [_, _], _ => rfl
  have bOf := FOf.binds (ps := POf) fun _ _ _ _ _ _ us hl => match us, hl with | [_, _], _ => rfl
  have bLeast := FLeast.binds (ps := PLeast) fun _ _ _ _ _ _ us hl => match us, hl with | [_, _], _ => rfl
  have bAny := FAny.binds (ps := PAny) fun _ _ _ _ _ _ us hl => match us, hl with | [_], _ => rfl
  have bIsInt := FIsInt.binds (ps := PIsInt) fun _ _ _ _ _ _ us hl => match us, hl with | [_], _ => rfl
  have bHeard := FHeard.binds (ps := PHeard) fun _ _ _ _ _ _ us hl => match us, hl with | [_], _ => rfl
  have bRight := FRight.binds (ps := PRight) fun _ _ _ _ _ _ us hl => match us, hl with | [_, _], _ => rfl
  have bLaw := FLaw.binds (ps := PLaw) fun _ _ _ _ _ _ us hl => match us, hl with | [_], _ => rfl
  have FNum : FunD K "__init__" "Number.__init__" (defArgs sNum) (defBody sNum) (defScope sNum) [.int 1] [] fNum _ := ⟨⟨_, _, _, _, _, _, _, _, _, _, rfl, l_Num, c_Num, .inr ⟨(fun z => by cases z), TNum, oTNum, [.int 1 tkT], nT, rfl, lT, dT, .cons ⟨_, rfl⟩ .nil⟩, .inl rfl⟩, k_Num⟩
  obtain ⟨dsN, vN, bN⟩ := FNum.binds1 (ps := PNum) 3 1 (fun z => by cases z) rfl fun T kV doc pm an cdv ct us its h1 h2 => match us, its, h1, h2 with | [_, _, _], [_], _, _ => ⟨_, rfl, rfl⟩
  obtain ⟨dsM, vM, bM⟩ := FNum.binds1 (ps := PNum) 2 0 (fun z => by cases z) rfl fun T kV doc pm an cdv ct us its h1 h2 => match us, its, h1, h2 with | [_, _], [_], _, _ => ⟨_, rfl, rfl⟩
  obtain ⟨its, bK⟩ := FNum.kbindsD (ps := PNum) 1 ["bottom", "top"] (fun us _ ws => us ++ ws.reverse) (fun z => by cases z) (fun r1 _ r3 => r1.append r3.reverse) fun T kV doc pm an cdv ct us its ws h1 h2 h3 => match us, its, ws, h1, h2, h3 with | [_], [_], [_, _], _, _, _ => ⟨_, rfl, rfl⟩
  intro base _ _ hTB
  have TB := hTB _ (List.mem_singleton.mpr rfl)
  have cW : CalF l.prog w K mg base 1 "is_whole" spWholeD := ⟨_, ok_whole FWhole bWhole B, mgo g_fWhole, k_Whole⟩
  have GB := ok_errn (base := base) (P := l.prog) (w := w) (mg := mg) FErrN TE nvalue_Cb
  have GN := ok_num (base := base) (P := l.prog) (w := w) (mg := mg) FNum B NC (mgo gcd) cW (mgo g_Cb) TE a_ErrN (beq_iff_eq.mp i_ErrN) GB bErrN
  have MN : Mk K C fNum := ⟨mk_C, a_Num, i_Num, kc_C⟩
  have mN : MakE l.prog w K mg base (L2.CX l.prog w) 3 "Number" C (spNumD C Cb) := ⟨_, MN, (GN.raw bN vN).imp fun vs H Q E h => by rw [show List.drop 1 [V.int 1] = [] from rfl, List.append_nil]; exact h, mgo g_C⟩
  have mN1 : MakE l.prog w K mg base (L2.CX l.prog w) 3 "Number" C (fun vs H Q E => spNumD C Cb (vs ++ [.int 1]) H Q E) := ⟨_, MN, GN.raw bM vM, mgo g_C⟩
  have pT : PrpF l.prog w K mg base 1 C "top" (spTop C) := ⟨_, _, clC, ⟨a_NTop, g_NTop, t_NTop, _, r_NTop⟩, ok_top FNTop bNTop NC⟩
  have pB : PrpF l.prog w K mg base 1 C "bottom" (spBot C) := ⟨_, _, clC, ⟨a_NBot, g_NBot, t_NBot, _, r_NBot⟩, ok_bot FNBot bNBot NC⟩
  have cP : CalF l.prog w K mg base 1 "_law_pot" (spPot K) := ⟨_, ok_pot FPot bPot B, mgo g_fPot, k_Pot⟩
  have cT : CalF l.prog w K mg base 1 "_law_take" spTake := ⟨_, ok_take FTake bTake B, mgo g_fTake, k_Take⟩
  have cO : CalF l.prog w K mg base 2 "_law_of" spOf := ⟨_, ok_of FOf bOf B cT, mgo g_fOf, k_Of⟩
  have cL : CalF l.prog w K mg base 1 "_law_least" spLeast := ⟨_, ok_least FLeast bLeast B, mgo g_fLeast, k_Least⟩
  have cA : CalF l.prog w K mg base 3 "_law_any" spAny := ⟨_, ok_any FAny bAny B cT cO, mgo g_fAny, k_Any⟩
  have cI : CalF l.prog w K mg base 1 "_law_is_int" spWholeD := ⟨_, ok_isint FIsInt bIsInt B, mgo g_fIsInt, k_IsInt⟩
  have cR2 : CalG l.prog w K mg base CX0 8 "_law_is_right" (spRight Pt) := ⟨_, ok_right FRight bRight hcR TB B zR zV pT pB TX nvalue_Cb (mgo g_C) (mgo g_Ce) (mgo g_Cb) (mgo g_Cs) (mgo g_Ct) xE (kit_self _) kST kVE cI cL (mgo g_fHeard) k_Heard l_Heard c_Heard bHeard mN mN1 MN GN bK, mgo g_fRight, k_Right⟩
  exact ok_law FLaw bLaw B cP cA cR2

end Ws

open PySem PySem.W PyProof.Rows
set_option maxHeartbeats 0
open_top hdK for PySem.Challenge.rw_whatspeed_k01_numbers_of_any_value

theorem PySem.Challenge.cw_whatspeed_k01_numbers_of_any_value_holds : PySem.Challenge.rw_whatspeed_k01_numbers_of_any_value.Holds := by
  refine hdK ?_
  k_fill
  refine Ws.walk_GT (l := PySem.Challenge.rw_whatspeed_k01_numbers_of_any_value) (n := 63) (k := 9) (tb := [(282, 278)]) (sp := fun w => Ws.spLaw _ 278) rfl (by decide) rfl ⟨rfl, by decide, by decide⟩ (fun w h Y => PySem.W.km_in_of Y) ?T ?F (fun _ _ a ns hl hT hS => ⟨a, ns, rfl, hS, hl, hT _ (List.mem_singleton.mpr rfl), fun _ => rfl⟩)
  case T =>
    intro w h Y p hp
    rw [List.mem_singleton.mp hp]
    exact ⟨km_tabs_of Y 278 (by simp), by kernel_rfl, codeHd_of_K (km_in_of Y) (by kernel_rfl)⟩
  case F =>
    intro w mg fa h KX G hmg
    refine' Ws.all_mk (cR := 282) (Pt := 278) KX G hmg ?g_C ?pg_C ?hd_C ?po_C ?sa_C ?mk_C ?kc_C ?n_top_C ?n_bottom_C ?gcd ?g_fWhole ?l_Whole ?c_Whole ?k_Whole ?a_Num ?i_Num ?l_Num ?c_Num ?k_Num ?lT ?dT ?a_NTop ?g_NTop ?t_NTop ?r_NTop ?l_NTop ?c_NTop ?k_NTop ?a_NBot ?g_NBot ?t_NBot ?r_NBot ?l_NBot ?c_NBot ?k_NBot ?g_Ce ?ex_Ce ?ty_Ce ?hd_Ce ?g_Cb ?xL_Cb ?rv_Cb ?sa_Cb ?ex_Cb ?ty_Cb ?kc_Cb ?ga_Cb ?gg_Cb ?hd_Cb ?ca_Cb ?hm_Cb ?ic_Cb ?ss_Cb ?nvalue_Cb ?a_ErrN ?i_ErrN ?l_ErrN ?c_ErrN ?k_ErrN ?g_Cs ?xL_Cs ?rv_Cs ?sa_Cs ?ex_Cs ?ty_Cs ?kc_Cs ?ga_Cs ?gg_Cs ?hd_Cs ?ca_Cs ?hm_Cs ?ic_Cs ?ss_Cs ?nvalue_Cs ?g_Ct ?xL_Ct ?rv_Ct ?sa_Ct ?ex_Ct ?ty_Ct ?kc_Ct ?ga_Ct ?gg_Ct ?hd_Ct ?ca_Ct ?hm_Ct ?ic_Ct ?ss_Ct ?nvalue_Ct ?oc_n ?oc_t ?s_Cb_Cs ?s_Cb_Ct ?s_Cb_Ce ?s_Cb_V ?g_fPot ?l_Pot ?c_Pot ?k_Pot ?g_fTake ?l_Take ?c_Take ?k_Take ?g_fOf ?l_Of ?c_Of ?k_Of ?g_fLeast ?l_Least ?c_Least ?k_Least ?g_fAny ?l_Any ?c_Any ?k_Any ?g_fIsInt ?l_IsInt ?c_IsInt ?k_IsInt ?g_fHeard ?l_Heard ?c_Heard ?k_Heard ?g_fRight ?l_Right ?c_Right ?k_Right ?g_fLaw ?l_Law ?c_Law ?k_Law ?hcR ?z_len ?z_abs ?z_int ?z_bool ?z_max ?z_min ?z_range ?z_all ?z_any ?z_isinstance ?z_repr ?z_ValueError
    (case g_C => k_is)
    (case pg_C => k_is)
    (case hd_C => k_is)
    (case po_C => k_is)
    (case sa_C => k_is)
    (case mk_C => k_is)
    (case kc_C => k_is)
    (case n_top_C => k_is)
    (case n_bottom_C => k_is)
    (case gcd => k_is)
    (case g_fWhole => k_is)
    (case l_Whole => k_is)
    (case c_Whole => k_is)
    (case k_Whole => k_is)
    (case a_Num => k_is)
    (case i_Num => k_is)
    (case l_Num => k_is)
    (case c_Num => k_is)
    (case k_Num => k_is)
    (case lT => k_is)
    (case dT => rfl)
    (case a_NTop => k_is)
    (case g_NTop => k_is)
    (case t_NTop => k_is)
    (case r_NTop => k_is)
    (case l_NTop => k_is)
    (case c_NTop => k_is)
    (case k_NTop => k_is)
    (case a_NBot => k_is)
    (case g_NBot => k_is)
    (case t_NBot => k_is)
    (case r_NBot => k_is)
    (case l_NBot => k_is)
    (case c_NBot => k_is)
    (case k_NBot => k_is)
    (case g_Ce => k_is)
    (case ex_Ce => k_is)
    (case ty_Ce => k_is)
    (case hd_Ce => k_is)
    (case g_Cb => k_is)
    (case xL_Cb => k_is)
    (case rv_Cb => rfl)
    (case sa_Cb => k_is)
    (case ex_Cb => k_is)
    (case ty_Cb => k_is)
    (case kc_Cb => k_is)
    (case ga_Cb => k_is)
    (case gg_Cb => k_is)
    (case hd_Cb => k_is)
    (case ca_Cb => k_is)
    (case hm_Cb => k_is)
    (case ic_Cb => k_is)
    (case ss_Cb => k_is)
    (case nvalue_Cb => k_is)
    (case a_ErrN => k_is)
    (case i_ErrN => k_is)
    (case l_ErrN => k_is)
    (case c_ErrN => k_is)
    (case k_ErrN => k_is)
    (case g_Cs => k_is)
    (case xL_Cs => k_is)
    (case rv_Cs => rfl)
    (case sa_Cs => k_is)
    (case ex_Cs => k_is)
    (case ty_Cs => k_is)
    (case kc_Cs => k_is)
    (case ga_Cs => k_is)
    (case gg_Cs => k_is)
    (case hd_Cs => k_is)
    (case ca_Cs => k_is)
    (case hm_Cs => k_is)
    (case ic_Cs => k_is)
    (case ss_Cs => k_is)
    (case nvalue_Cs => k_is)
    (case g_Ct => k_is)
    (case xL_Ct => k_is)
    (case rv_Ct => rfl)
    (case sa_Ct => k_is)
    (case ex_Ct => k_is)
    (case ty_Ct => k_is)
    (case kc_Ct => k_is)
    (case ga_Ct => k_is)
    (case gg_Ct => k_is)
    (case hd_Ct => k_is)
    (case ca_Ct => k_is)
    (case hm_Ct => k_is)
    (case ic_Ct => k_is)
    (case ss_Ct => k_is)
    (case nvalue_Ct => k_is)
    (case oc_n => k_is)
    (case oc_t => k_is)
    (case s_Cb_Cs => k_is)
    (case s_Cb_Ct => k_is)
    (case s_Cb_Ce => k_is)
    (case s_Cb_V => k_is)
    (case g_fPot => k_is)
    (case l_Pot => k_is)
    (case c_Pot => k_is)
    (case k_Pot => k_is)
    (case g_fTake => k_is)
    (case l_Take => k_is)
    (case c_Take => k_is)
    (case k_Take => k_is)
    (case g_fOf => k_is)
    (case l_Of => k_is)
    (case c_Of => k_is)
    (case k_Of => k_is)
    (case g_fLeast => k_is)
    (case l_Least => k_is)
    (case c_Least => k_is)
    (case k_Least => k_is)
    (case g_fAny => k_is)
    (case l_Any => k_is)
    (case c_Any => k_is)
    (case k_Any => k_is)
    (case g_fIsInt => k_is)
    (case l_IsInt => k_is)
    (case c_IsInt => k_is)
    (case k_IsInt => k_is)
    (case g_fHeard => k_is)
    (case l_Heard => k_is)
    (case c_Heard => k_is)
    (case k_Heard => k_is)
    (case g_fRight => k_is)
    (case l_Right => k_is)
    (case c_Right => k_is)
    (case k_Right => k_is)
    (case g_fLaw => k_is)
    (case l_Law => k_is)
    (case c_Law => k_is)
    (case k_Law => k_is)
    (case hcR => rfl)
    (case z_len => k_is)
    (case z_abs => k_is)
    (case z_int => k_is)
    (case z_bool => k_is)
    (case z_max => k_is)
    (case z_min => k_is)
    (case z_range => k_is)
    (case z_all => k_is)
    (case z_any => k_is)
    (case z_isinstance => k_is)
    (case z_repr => k_is)
    (case z_ValueError => k_is)
#print axioms PySem.Challenge.cw_whatspeed_k01_numbers_of_any_value_holds

