import PyProof.Rows.All
import Wide.All
import OpenK.AllK
import Wide.FinOn
import HandS.ForMost
import HandS.Star
import HandS.OwnEq
import HandS.Property
import HandS.Gcd
import HandS.Wide
import HandS.IsInst
import HandS.Defaults
import KE.KOpsOwn
import PyProof.InstNe
import HandS.Ends
import PyProof.Rows.ReprR
import HandS.List
import PyProof.ReprBulk
import PyProof.FitsInt
import PyProof.ReprRoads
import PyProof.Conv_bool
import PyProof.Rows.Range3
import HandS.Exc
import HandS.ExcOwn
import HandS.ExcInit
import HandS.WordsExc
import HandS.ExcIs
import KE.KExcIs
import HandS.MakeKwOnly
import HandS.More
import HandS.DeepEq
import HandS.Dict
import HandS.Zip
import PySem.Challenge.RW_whatspeed_k07_stretches_of_any_value
set_option Elab.async false
set_option linter.all false
set_option maxRecDepth 100000
set_option maxHeartbeats 4000000
namespace Ws
open PySem PySem.Spec PyProof.Rows L2
/-! ### promises of defs, methods, makers, operators: by show (0 : Int) < _; decide +kernelitional values -/
abbrev Fr1 := FnR
section
variable (P : Program) (w : World) (K : PySem.W.Frag) (mg : Str → Option Value) (base : Heap)
/-- a def of the module, called by its name -/
def CalF (k : Nat) (x : Str) (sp : Sp) : Prop := ∃ f : Addr, FnR P w K mg base CX0 k f sp ∧ mg x = some (.ref f) ∧ PySem.W.keepIn K (.ref f) = true
/-- a class that makes instances, called by its name -/
def MakF (k : Nat) (x : Str) (C : Addr) (sp : Sp) : Prop := ∃ f : Addr, Mk K C f ∧ FnR P w K mg base CX0 k f sp ∧ mg x = some (.ref C)
/-- a method -/
def MetF (k : Nat) (C : Addr) (m : Str) (sp : Sp) : Prop := ∃ f : Addr, Cls K C ∧ Meth K C m f ∧ FnR P w K mg base CX0 k f sp
/-- a special method that an operator calls -/
def OpnF (k : Nat) (C : Addr) (m : Str) (sp : Sp) : Prop := ∃ f : Addr, PySem.W.findIn K (.ref C) m = some (some (.ref f)) ∧ PySem.W.isFn K (.ref f) = true ∧ FnR P w K mg base CX0 k f sp
/-- a property -/
def PrpF (k : Nat) (C : Addr) (m : Str) (sp : Sp) : Prop := ∃ p g : Addr, Cls K C ∧ PropOf K C m p g ∧ FnR P w K mg base CX0 k g sp
/-- instances are called -/
def CloF (k : Nat) (C : Addr) (sp : Sp) : Prop := ∃ g : Addr, StX.CallO K C g ∧ FnR P w K mg base CX0 k g sp
end
section
variable {X : Cx} {k j : Nat} {C f : Addr} {sp : Sp} {x m : Str} {p pos apos : Pos} {e o : Expr} {es : List Expr} {ta : TE} {t : TA}
abbrev CalX (X : Cx) := CalF X.prog X.w X.K X.mg X.base
theorem run_R {pins : List (Addr × Obj)} {σ : L2.St} {H : Hp} {s : Shared} {Q : VK} {us : List Value} {vs : List V} {E : XK} {CX : CXT} (F : FnR X.prog X.w X.K X.mg X.base CX k f sp) (hr : Room k X.A) (hx : Passes CX X E)
    (I : Inv X pins σ H s) (r : Vals vs us) (h : sp vs H Q E) : wpAny (model X.prog X.w) X.A (call (.ref f) us) (EP X pins σ Q) X.xe s := by
  refine wpAny_call (codeAny_mono (run_fnR F hr hx I r h) fun r s' q => ?_)
  cases r with
  | error e => exact q
  | ok fl => cases fl with
    | ret u => exact q
    | next => exact q.elim
    | brk => exact q.elim
    | cont => exact q.elim
/-- f(e, ..) -/
def tF (sp : Sp) (t : TA) : TE := fun σ H Q => t σ H fun vs H1 => sp vs H1 Q E0
theorem pe_f (c : CalF X.prog X.w X.K X.mg X.base k x sp) (hr : Room j X.A) (hk : k ≤ j) (hg : Gl X x) (ha : PA X (e :: es) t) (hdb : (x == ("__debug__" : Str)) = false := by decide)
    (he : starEach (e :: es) X.env = (false, eval e X.env) :: starEach es X.env := by rfl) (hpl : (backTo pos (starEach es X.env)).any (·.1) = false := by rfl) : PE X (.Call (.Name x p) (e :: es) [] pos) (tF sp t) := by
  obtain ⟨f, F, hm, hkp⟩ := c
  refine ⟨fun pins s σ H Q I h => ?_⟩
  refine wpAny_Call_Name_kw (ld_glob I hg hm ?_ hdb)
  refine PySem.W.callWith_K (h₀ := X.base) I.ok.mod.kin hkp (thn (ha.run pos pins s σ H _ I h) fun us s1 ⟨vs, H1, I1, r, q⟩ => ⟨I1.kIn, ?_⟩) he hpl
  exact run_R F (hr.mono hk) pass0 I1 r q
/-- C(e, ..) -/
def tMk (C : Addr) (sp : Sp) (t : TA) : TE := fun σ H Q => t σ H fun vs H1 => ∀ x dx, H1 x = Option.none → H1 dx = Option.none → dx ≠ x → sp (V.ref x :: vs) (upd (upd H1 dx (.own x)) x (.ins C dx [])) (fun v H2 => v = .non ∧ Q (.ref x) H2) E0
theorem pe_mk (c : MakF X.prog X.w X.K X.mg X.base k x C sp) (hr : Room j X.A) (hk : k + 1 ≤ j) (hg : Gl X x) (ha : PA X (e :: es) t) (hdb : (x == ("__debug__" : Str)) = false := by decide)
    (he : starEach (e :: es) X.env = (false, eval e X.env) :: starEach es X.env := by rfl) (hpl : (backTo pos (starEach es X.env)).any (·.1) = false := by rfl) : PE X (.Call (.Name x p) (e :: es) [] pos) (tMk C sp t) := by
  obtain ⟨f, M, F, hm⟩ := c
  exact StX.pe_makeR M F (hr.mono hk) hg hm pass0 ha hdb he hpl
/-- o.m(e, ..) -/
def tMt (C : Addr) (m : Str) (sp : Sp) (ta : TE) (t : TA) : TE := fun σ H Q => ta σ H fun x H1 => ∃ a dx fs, x = .ref a ∧ H1 a = some (.ins C dx fs) ∧ fs.lookup m = none ∧ t σ H1 fun vs H2 => sp (x :: vs) H2 Q E0
theorem pe_mt {pl : Sem Bool} (c : MetF X.prog X.w X.K X.mg X.base k C m sp) (hr : Room j X.A) (hk : k ≤ j) (he : PE X o ta) (ha : PA X (e :: es) t)
    (hst : starEach (e :: es) X.env = (false, eval e X.env) :: starEach es X.env := by rfl) (hpl : (backTo pos (starEach es X.env)).any (·.1) = false := by rfl)
    (ht : eval (.Call (.Attribute o m apos) (e :: es) [] pos) X.env = (do
      let ov ← eval o X.env
      standAt apos.atName
      let (f, first) ← holding [ov] (getMethod ov m pl)
      callWith pos f first (backTo pos (starEach (e :: es) X.env)) (backToKw pos (keywordEach [] X.env))) := by rfl) :
    PE X (.Call (.Attribute o m apos) (e :: es) [] pos) (tMt C m sp ta t) := by
  obtain ⟨f, hc, hm, F⟩ := c
  refine ⟨fun pins s σ H Q I h => ?_⟩
  refine PySem.W.methodCall_KW (pl := pl) (thn (he.run pins s σ H _ I h) fun u s1 ⟨x, H1, I1, rx, a, dx, fs, ex, ea, l, q⟩ => ?_) ht
  subst ex
  obtain rfl : u = Value.ref a := rx
  refine getmeth_ok I1 ea hc hm l ?_
  refine PySem.W.callWith_K (first := [.ref a]) (h₀ := X.base) I.ok.mod.kin hm.kp (thn (ha.run pos pins s1 σ H1 _ I1 q) fun us s2 ⟨vs, H2, I2, r, q2⟩ => ⟨I2.kIn, ?_⟩) hst hpl
  exact run_R (us := .ref a :: us) (vs := .ref a :: vs) F (hr.mono hk) pass0 I2 (.cons rfl r) q2
/-- e.f, a property -/
def tPr (C : Addr) (sp : Sp) (ta : TE) : TE := fun σ H Q => ta σ H fun x H1 => ∃ a dx fs, x = .ref a ∧ H1 a = some (.ins C dx fs) ∧ sp [.ref a] H1 Q E0
theorem pe_pr (c : PrpF X.prog X.w X.K X.mg X.base k C m sp) (hr : Room j X.A) (hk : k + 1 ≤ j) (he : PE X e ta) (hab : attributeBase e m X.env (eval e X.env) = eval e X.env := by rfl) : PE X (.Attribute e m pos) (tPr C sp ta) := by
  obtain ⟨p, g, hc, hp, F⟩ := c
  refine ⟨fun pins s σ H Q I h => ?_⟩
  refine attr_of hab (thn (he.run pins s σ H _ I h) fun u s1 ⟨x, H1, I1, rx, a, dx, fs, ex, ea, q⟩ => ?_)
  subst ex
  obtain rfl : u = Value.ref a := rx
  obtain ⟨mA, O, _, _, _, _⟩ := ins_get I1.hok ea
  obtain ⟨od, J, _⟩ := O.look
  obtain ⟨rest, hrec⟩ := hp.rec_
  have hcs : (PySem.W.clsIn X.K C).isSome = true := by
    obtain ⟨cd, hcd, _⟩ := PySem.W.any_some hc.hd
    rw [hcd]
    rfl
  have I2 := I1.tok (s1.toks + 1)
  have hr1 : Room (k + 1) X.A := hr.mono hk
  refine PySem.W.get_bind I1.kIn J (PySem.W.plainGet_of (hc.get m)).1 (PySem.W.findObj_data hcs hp.at_ hp.get hp.tak) (PySem.W.plainGet_of (hc.get m)).2 (wpAny_call (PySem.W.prop_get (s := { s1 with toks := s1.toks + 1 }) I1.kIn hrec ?_))
  refine codeAny_mono (F X.A.in1 X.stack { s1 with toks := s1.toks + 1 } H1 [.ref a] [.ref a] Q E0 hr1.in1 I2.env0.in1 (.cons rfl .nil) q) fun r s' hq => ?_
  cases r with
  | error er => exact hq.elim
  | ok fl =>
    cases fl with
    | ret u =>
      obtain ⟨v, H', I3, rv, q3⟩ := I2.after hq
      show wpAny _ _ (handedOut u) _ _ _
      rw [PySem.W.handedOut_of (handed_of rv)]
      exact wpAny_pure ⟨v, H', I3, rv, q3⟩
    | next => exact False.elim hq
    | brk => exact False.elim hq
    | cont => exact False.elim hq
/-- an instance called -/
def tClo (C : Addr) (sp : Sp) (tf : TE) (t : TA) : TE := fun σ H Q => tf σ H fun y H1 => ∃ a, y = V.ref a ∧ t σ H1 fun vs H2 => (∃ dx fs, H2 a = some (.ins C dx fs)) ∧ sp (V.ref a :: vs) H2 Q E0
theorem pe_clo {tf : TE} {fe : Expr} (c : CloF X.prog X.w X.K X.mg X.base k C sp) (hr : Room j X.A) (hk : k ≤ j) (hf : PE X fe tf) (ha : PA X (e :: es) t)
    (ht : eval (.Call fe (e :: es) [] pos) X.env = (do callWith pos (← eval fe X.env) [] (backTo pos (starEach (e :: es) X.env)) (backToKw pos (keywordEach [] X.env))) := by rfl)
    (he : starEach (e :: es) X.env = (false, eval e X.env) :: starEach es X.env := by rfl) (hpl : (backTo pos (starEach es X.env)).any (·.1) = false := by rfl) : PE X (.Call fe (e :: es) [] pos) (tClo C sp tf t) := by
  obtain ⟨g, c, F⟩ := c
  refine ⟨fun pins s σ H Q I h => ?_⟩
  refine Call_ (thn (hf.run pins s σ H _ I h) fun u s1 ⟨y, H1, I1, ry, a, ey, q⟩ => ?_) ht
  subst ey
  obtain rfl : u = Value.ref a := ry
  refine StX.callO_with (thn (ha.run pos pins s1 σ H1 _ I1 q) fun us s2 ⟨vs, H2, I2, r, ⟨dx, fs, hi⟩, q2⟩ => ?_) he hpl
  have hi' : StX.InsC X H2 a C := .inr ⟨dx, fs, hi⟩
  obtain ⟨ox, od, J, hd⟩ := StX.insC_at I2 hi'
  exact ⟨⟨C, ox, od, J, hd⟩, StX.run_callO c F (hr.mono hk) pass0 I2 hi' r q2⟩
/-! ### operators -/
/-- the value handed back by an operator's method is never NotImplemented -/
theorem cmpBack {pins : List (Addr × Obj)} {σ : L2.St} {Q : VK} {v : Value} {s : Shared} (h : EP X pins σ Q v s) : PySem.W.CmpBack (EP X pins σ Q) v s := by
  obtain ⟨y, H, I, r, q⟩ := h
  have fin : EP X pins σ Q v s := ⟨y, H, I, r, q⟩
  cases y with
  | non => cases (show v = Value.none from r); exact fin
  | bl b => cases (show v = Value.bool b from r); exact fin
  | int i => obtain ⟨t, e⟩ := (show ∃ t, v = Value.int i t from r); subst e; exact fin
  | str i => obtain ⟨t, e⟩ := (show ∃ t, v = Value.str i t from r); subst e; exact fin
  | byt i => obtain ⟨t, e⟩ := (show ∃ t, v = Value.bytes i t from r); subst e; exact fin
  | flt i => obtain ⟨t, e⟩ := (show ∃ t, v = Value.float i t from r); subst e; exact fin
  | ref a => cases (show v = Value.ref a from r); exact fin
  | ty n => cases (show v = Value.type n from r); exact fin
theorem inst_of {pins : List (Addr × Obj)} {σ : L2.St} {H : Hp} {s : Shared} {a dx : Addr} {fs : List (Str × V)} (I : Inv X pins σ H s) (h : H a = some (.ins C dx fs)) : ∃ ox od, PySem.W.InstAt s.heap a ox C od := by
  obtain ⟨mA, O, _⟩ := ins_get I.hok h
  obtain ⟨od, J, _⟩ := O.look
  exact ⟨_, _, J⟩
/-- a op b, both of the class at C, by its own method -/
def rOwn (C : Addr) (sp : Sp) : R2 := fun x y H Q => ∃ a dx fs b dy gs, x = .ref a ∧ H a = some (.ins C dx fs) ∧ y = .ref b ∧ H b = some (.ins C dy gs) ∧ sp [.ref a, .ref b] H Q E0
theorem op_own {op : Operator} (c : OpnF X.prog X.w X.K X.mg X.base k C (PySem.dunder op.info.2) sp) (hs : PySem.W.selfFirst X.K C = true) (hr : Room j X.A) (hk : k ≤ j) : OpR X (binaryOp op) (rOwn C sp) := by
  obtain ⟨f, h1, h2, F⟩ := c
  intro pins s σ H x y v u Q I rx ry h
  obtain ⟨a, dx, fs, b, dy, gs, rfl, ea, rfl, eb, q⟩ := h
  cases (show v = Value.ref a from rx)
  cases (show u = Value.ref b from ry)
  obtain ⟨ox, od, J⟩ := inst_of I ea
  obtain ⟨oy, oe, J2⟩ := inst_of I eb
  obtain ⟨m, hF⟩ := I.fr
  refine PySem.W.binop_K hF I.ok.mod.kin J J2.type hs h1 h2 ?_
  exact wpAny_mono (run_R (us := [.ref a, .ref b]) (vs := [.ref a, .ref b]) F (hr.mono hk) pass0 I (.cons rfl (.cons rfl .nil)) q) (fun v s' hv => cmpBack hv) fun _ _ z => z
/-- what a value's type is to ==: its typeOf -/
inductive TyL (H : Hp) : V → Value → Prop where
  | non : TyL H .non (.type "NoneType")
  | bl (b : Bool) : TyL H (.bl b) (.type "bool")
  | int (i : Int) : TyL H (.int i) (.type "int")
  | str (x : Str) : TyL H (.str x) (.type "str")
  | lst {a : Addr} {xs : List V} (e : H a = some (.lst xs)) : TyL H (.ref a) (.type "list")
  | tup {a : Addr} {xs : List V} (e : H a = some (.tup xs)) : TyL H (.ref a) (.type "tuple")
  | dK {a : Addr} {xs : List (Key × V)} (e : H a = some (.dK xs)) : TyL H (.ref a) (.type "dict")
  | ins {a C dx : Addr} {fs : List (Str × V)} (e : H a = some (.ins C dx fs)) : TyL H (.ref a) (.ref C)
theorem looks_ref {M : Model} {h : Heap} {a : Addr} {o : Obj} {t : Value} (e : h.get? a = some o) (c : o.cls = t) : PySem.W.Looks M h (typeOf (.ref a)) t := by
  intro A Q E s k q
  subst c
  exact wpAny_typeOf_ref (k _ _ e) q
theorem TyL.looks {pins : List (Addr × Obj)} {σ : L2.St} {H : Hp} {s : Shared} {M : Model} {x : V} {u t : Value} (I : Inv X pins σ H s) (rx : RelV x u) (ty : TyL H x t) : PySem.W.Looks M s.heap (typeOf u) t := by
  cases ty with
  | non => cases (show u = Value.none from rx); exact .of_pure rfl
  | bl b => cases (show u = Value.bool b from rx); exact .of_pure rfl
  | int i => obtain ⟨t, q⟩ := (show ∃ t, u = Value.int i t from rx); subst q; exact .of_pure rfl
  | str i => obtain ⟨t, q⟩ := (show ∃ t, u = Value.str i t from rx); subst q; exact .of_pure rfl
  | @lst a xs e =>
    cases (show u = Value.ref a from rx)
    obtain ⟨_, its, n, _, h1⟩ := (show ObjOk X.prog X.w H s.heap a (.lst xs) from I.hok a _ e)
    exact looks_ref h1 rfl
  | @tup a xs e =>
    cases (show u = Value.ref a from rx)
    obtain ⟨_, its, _, ob, h1, c, _⟩ := (show ObjOk X.prog X.w H s.heap a (.tup xs) from I.hok a _ e)
    exact looks_ref h1 c
  | @dK a xs e =>
    cases (show u = Value.ref a from rx)
    obtain ⟨_, _, vs, _, o, es, ep, h1, h2, _⟩ := (show ObjOk X.prog X.w H s.heap a (.dK xs) from I.hok a _ e)
    exact looks_ref h1 h2.1
  | @ins a C dx fs e =>
    cases (show u = Value.ref a from rx)
    obtain ⟨ox, od, J⟩ := inst_of I e
    exact J.type
/-- a == b by a's own __eq__ -/
def rEqO (K : PySem.W.Frag) (C : Addr) (sp : Sp) : R2 := fun x y H Q => ∃ a dx fs t, x = .ref a ∧ H a = some (.ins C dx fs) ∧ TyL H y t ∧ PySem.W.notFirst K C t = true ∧ sp [.ref a, y] H Q E0
theorem op_eqO (c : OpnF X.prog X.w X.K X.mg X.base k C "__eq__" sp) (hr : Room j X.A) (hk : k ≤ j) : OpR X (compareOp .Eq) (rEqO X.K C sp) := by
  obtain ⟨f, h1, h2, F⟩ := c
  intro pins s σ H x y v u Q I rx ry h
  obtain ⟨a, dx, fs, t, rfl, ea, ty, nf, q⟩ := h
  cases (show v = Value.ref a from rx)
  obtain ⟨ox, od, J⟩ := inst_of I ea
  obtain ⟨m, hF⟩ := I.fr
  refine PySem.W.cmp_ofEq (PySem.W.cmp_K (op := .Eq) hr.units0 hF I.ok.mod.kin J (ty.looks I ry) nf h1 h2 ?_)
  exact wpAny_mono (run_R (us := [.ref a, u]) (vs := [.ref a, y]) F (hr.mono hk) pass0 I (.cons rfl (.cons ry .nil)) q) (fun v s' hv => cmpBack hv) fun _ _ z => z
/-- -a by its own __neg__ -/
def rUnO (C : Addr) (sp : Sp) : V → Hp → VK → Prop := fun x H Q => ∃ a dx fs, x = .ref a ∧ H a = some (.ins C dx fs) ∧ sp [.ref a] H Q E0
theorem un_negO (c : OpnF X.prog X.w X.K X.mg X.base k C "__neg__" sp) (hr : Room j X.A) (hk : k ≤ j) : UnR X (unaryOp .USub) (rUnO C sp) := by
  obtain ⟨f, h1, h2, F⟩ := c
  intro pins s σ H x v Q I rx h
  obtain ⟨a, dx, fs, rfl, ea, q⟩ := h
  cases (show v = Value.ref a from rx)
  obtain ⟨ox, od, J⟩ := inst_of I ea
  obtain ⟨m, hF⟩ := I.fr
  exact PySem.W.ksp_neg hF I.ok.mod.kin J h1 h2 (run_R (us := [.ref a]) (vs := [.ref a]) F (hr.mono hk) pass0 I (.cons rfl .nil) q)
/-- a's truth by its own __bool__ -/
def rTruO (C : Addr) (sp : Sp) : V → Hp → (Bool → Hp → Prop) → Prop := fun x H Q => ∃ a dx fs, x = .ref a ∧ H a = some (.ins C dx fs) ∧ sp [.ref a] H (fun v H' => ∃ b, v = .bl b ∧ Q b H') E0
theorem tru_own (c : OpnF X.prog X.w X.K X.mg X.base k C "__bool__" sp) (hr : Room j X.A) (hk : k ≤ j) : TruR X (rTruO C sp) := by
  obtain ⟨f, h1, h2, F⟩ := c
  intro pins s σ H x v Q I rx h
  obtain ⟨a, dx, fs, rfl, ea, q⟩ := h
  cases (show v = Value.ref a from rx)
  obtain ⟨ox, od, J⟩ := inst_of I ea
  obtain ⟨m, hF⟩ := I.fr
  refine PySem.W.truthy_K hF I.ok.mod.kin J h1 h2 (wpAny_mono (run_R (us := [.ref a]) (vs := [.ref a]) F (hr.mono hk) pass0 I (.cons rfl .nil) q) (fun r s' hv => ?_) fun _ _ z => z)
  obtain ⟨y, H', I', ry, b, rfl, qb⟩ := hv
  cases (show r = Value.bool b from ry)
  exact ⟨H', I', qb⟩
/-- a test by a value's truth -/
def tTru (r : V → Hp → (Bool → Hp → Prop) → Prop) (ta : TE) : TT := fun σ H Q => ta σ H fun x H1 => r x H1 Q
theorem pt_tru {r : V → Hp → (Bool → Hp → Prop) → Prop} {a : Expr} (hT : TruR X r) (ha : PE X a ta) (he : ∀ whole, isTrue a X.env whole = (do let v ← whole; standAt a.pos; holding [v] (truthy v)) := by intro _; rfl) : PT X a (tTru r ta) := by
  refine ⟨fun pins s σ H Q I h => ?_⟩
  exact isTrue_plain (thn (ha.run pins s σ H _ I h) fun v s1 ⟨x, H1, I1, r1, q1⟩ => hT pins s1 σ H1 x v Q I1 r1 q1) (he _)
/-! ### great ints -/
theorem op_powW : OpR X (binaryOp .Pow) (rI (fun i j => 0 ≤ j ∧ (Builtin.Int.intBits i : Int) * j ≤ 2 ^ 27) fun i j => .int (i ^ j.toNat)) := opI fun _ _ _ _ _ _ _ hc q => pow_int hc.1 hc.2 q
theorem op_fdivZ : OpR X (binaryOp .FloorDiv) (rI (fun _ j => j ≠ 0 ∧ j.natAbs.log2 < 9000) fun i j => .int (i.fdiv j)) := opI fun _ _ _ _ _ _ _ hc q => floordiv_int hc.1 q (.inl (PyProof.noPylong_of_log2 hc.2))
end
end Ws
namespace Ws
open PySem PySem.Spec PyProof.Rows L2
/-! ### from a def of the text to its promise -/
section
variable {P : Program} {w : World} {K : PySem.W.Frag} {mg : Str → Option Value} {base : Heap}
theorem fnR_of {x qual : Str} {st : Stmt} {f : Addr} {fd : FuncData} {N ps : List Str} {k : Nat} {sp : Sp} (F : L2.Fun K x qual st f fd) (b : Binds K fd ps []) (S : FnScope N ps (defScope st)) (len : ∀ vs H Q E, sp vs H Q E → vs.length = ps.length)
    (hbody : ∀ (cdv : Value) (A : Around) (outer : List Env) (s : Shared) (H : Hp) (vs : List V) (Q : VK) (E : XK), Room k (A.deeper (envOfC qual (defScope st) s.heap.objs.size f cdv)) → sp vs H Q E →
      ∃ t, PSs (cxOf CX0 P w K mg base N qual (defScope st) f cdv A outer s H E).nox (defBody st) t ∧ t { nx := fun _ H' => Q .non H', rt := Q } (start N vs) H) : FnR P w K mg base CX0 (k + 1) f sp :=
  ((F.ok S len hbody).raw b .nil).imp fun vs H Q E h => by rw [List.append_nil]; exact h
/-- a def with defaults: all of them are handed in, or the last ones are filled up -/
theorem fnD_of {x qual : Str} {st : Stmt} {f : Addr} {fd : FuncData} {N ps : List Str} {k : Nat} {sp sp' : Sp} {dvs dvs' : List V} {ds : List Value} (F : FunD K x qual (defArgs st) (defBody st) (defScope st) dvs [] f fd) (b : Binds K fd ps ds) (d : Vals dvs' ds) (S : FnScope N ps (defScope st)) (len : ∀ vs H Q E, sp vs H Q E → vs.length = ps.length)
    (imp : ∀ vs H Q E, sp' vs H Q E → sp (vs ++ dvs') H Q E)
    (hbody : ∀ (cdv : Value) (A : Around) (outer : List Env) (s : Shared) (H : Hp) (vs : List V) (Q : VK) (E : XK), Room k (A.deeper (envOfC qual (defScope st) s.heap.objs.size f cdv)) → sp vs H Q E →
      ∃ t, PSs (cxOf CX0 P w K mg base N qual (defScope st) f cdv A outer s H E).nox (defBody st) t ∧ t { nx := fun _ H' => Q .non H', rt := Q } (start N vs) H) : FnR P w K mg base CX0 (k + 1) f sp' :=
  ((F.ok (CX := CX0) S len fun cdv A outer s H vs Q E hr h => let ⟨t, h1, h2⟩ := hbody cdv A outer s H vs Q E hr h; ⟨t, h1.nox, h2⟩).raw b d).imp imp
end
/-- names of built-ins that the module doesn't bind -/
structure Bi (mg : Str → Option Value) : Prop where
  len : mg "len" = none
  abs : mg "abs" = none
  int : mg "int" = none
  bool : mg "bool" = none
  max : mg "max" = none
  min : mg "min" = none
  range : mg "range" = none
  all : mg "all" = none
  any : mg "any" = none
  isinstance : mg "isinstance" = none
/-! ### heaps -/
/-- all but what stands at p is as it was -/
def Ch (p : Addr) (H H' : Hp) : Prop := ∀ b o, b ≠ p → H b = some o → H' b = some o
theorem Ch.refl {p : Addr} {H : Hp} : Ch p H H := fun _ _ _ h => h
theorem Ch.trans {p : Addr} {H H1 H2 : Hp} (a : Ch p H H1) (b : Ch p H1 H2) : Ch p H H2 := fun c o n h => b c o n (a c o n h)
theorem Ch.of {p : Addr} {H H' : Hp} (h : Same H H') : Ch p H H' := fun b o _ e => h b o e
theorem Ch.upd {p : Addr} {H : Hp} {o : HO} : Ch p H (L2.upd H p o) := fun b u n e => by rw [upd_ne n]; exact e
theorem Same.new {H : Hp} {p : Addr} {o : HO} (h : H p = none) : Same H (upd H p o) := fun b u e => by rw [upd_ne (ne_of_none e h)]; exact e
theorem Ch.new {q p : Addr} {H : Hp} {o : HO} (h : H p = none) : Ch q H (L2.upd H p o) := Ch.of (Same.new h)
theorem Ch.free {p q : Addr} {H H' : Hp} (c : Ch p H H') (n : q ≠ p) (h : H' q = none) : H q = none := by
  cases e : H q with
  | none => rfl
  | some o => rw [c q o n e] at h; cases h
/-- a fresh instance is laid, then filled by its __init__ -/
theorem Same.mk {H H1 : Hp} {x dx C : Addr} (nx : H x = none) (nd : H dx = none) (k : ∀ b o, (upd (upd H dx (.own x)) x (.ins C dx [])) b = some o → b ≠ x → H1 b = some o) : Same H H1 := fun b o e =>
  k b o (by rw [upd_ne (ne_of_none e nx), upd_ne (ne_of_none e nd)]; exact e) (ne_of_none e nx)
/-! ### fields -/
theorem lk_here {k : Str} {v : V} {r : List (Str × V)} : List.lookup k ((k, v) :: r) = some v := by
  have e : (k == k) = true := beq_self_eq_true k
  simp only [List.lookup, e]
theorem lk_past {k g : Str} {v : V} {r : List (Str × V)} (h : (k == g) = false) : List.lookup k ((g, v) :: r) = List.lookup k r := by
  simp only [List.lookup, h]
theorem put_here {f : Str} {v x : V} {r : List (Str × V)} : putF f v ((f, x) :: r) = (f, v) :: r := if_pos rfl
theorem put_past {f g : Str} {v x : V} {r : List (Str × V)} (h : ¬ g = f) : putF f v ((g, x) :: r) = (g, x) :: putF f v r := if_neg h
end Ws
namespace Ws
theorem ifT {c : Bool} {A B : Prop} (hc : c = true) (h : A) : if c = true then A else B := by rw [if_pos hc]; exact h
theorem ifF {c : Bool} {A B : Prop} (hc : c = false) (h : B) : if c = true then A else B := by rw [hc, if_neg Bool.false_ne_true]; exact h
theorem if2 {c : Bool} {A B : Prop} (h1 : c = true → A) (h2 : c = false → B) : if c = true then A else B := by
  cases c with
  | true => exact ifT rfl (h1 rfl)
  | false => exact ifF rfl (h2 rfl)
end Ws
namespace Ws
open PySem PySem.Spec PyProof.Rows L2
section
variable {X : Cx} {CX : CXT} {k n : Nat} {f C : Addr} {fd : FuncData} {ps ks : List Str} {sp : Sp} {E : XK} {m : Str} {pos apos : Pos} {e o : Expr} {kws : List Keyword} {ta : TE} {tk : TA} {g : List Value → List Value → List Value} {gV : List V → List V → List V}
/-- o.m(k = v, ..) -/
def tMtK (C : Addr) (m : Str) (n : Nat) (sp : Sp) (gV : List V → List V → List V) (E : XK) (ta : TE) (tk : TA) : TE := fun σ H Q => ta σ H fun x H1 => ∃ a dx fs, x = .ref a ∧ H1 a = some (.ins C dx fs) ∧ fs.lookup m = none ∧ tk σ H1 fun zs H2 => zs.length = n ∧ sp (gV [x] zs) H2 Q E
theorem pe_mtK0 {pl : Sem Bool} (c : Cls X.K C) (hm : Meth X.K C m f) (F : FnOk X.prog X.w X.K X.mg X.base CX k f fd ps sp) (hr : Room k X.A) (hb : KBn X.K fd ps 1 ks g gV) (hx : Passes CX X E) (he : PE X o ta) (hkw : PK X kws tk)
    (hall : (backToKw pos (keywordEach kws X.env)).all (·.1.isSome) = true := by rfl) (hks : (backToKw pos (keywordEach kws X.env)).filterMap (·.1) = ks := by rfl)
    (hpl : ((backTo pos (starEach [] X.env)).any (·.1) || (backToKw pos (keywordEach kws X.env)).any (·.1.isNone)) = false := by rfl)
    (ht : eval (.Call (.Attribute o m apos) [] kws pos) X.env = (do
      let ov ← eval o X.env
      standAt apos.atName
      let (f, first) ← holding [ov] (getMethod ov m pl)
      callWith pos f first (backTo pos (starEach [] X.env)) (backToKw pos (keywordEach kws X.env))) := by rfl) :
    PE X (.Call (.Attribute o m apos) [] kws pos) (tMtK C m ks.length sp gV E ta tk) := by
  refine ⟨fun pins s σ H Q I h => ?_⟩
  refine PySem.W.methodCall_KW (pl := pl) (thn (he.run pins s σ H _ I h) fun u s1 ⟨x, H1, I1, rx, a, dx, fs, ex, ea, l, q⟩ => ?_) ht
  subst ex
  obtain rfl : u = Value.ref a := rx
  refine getmeth_ok I1 ea c hm l ?_
  refine PySem.W.callWith_KW0 (first := [.ref a]) (h₀ := X.base) I.ok.mod.kin hm.kp hall ?_ hpl
  refine thn (hkw.run pos pins s1 σ H1 _ I1 q) fun ws s2 ⟨zs, H2, I2, rz, l2, q2⟩ => ⟨I2.kIn, ?_⟩
  rw [hks]
  exact run_fnN (us := [.ref a]) (vs := [.ref a]) F hr hb hx I2 (.cons rfl .nil) rz rfl l2 q2
end
end Ws
namespace Ws
theorem bit_lo (c : Bool) : -(2 ^ 64) < (if c = true then (1 : Int) else 0) ∧ (if c = true then (1 : Int) else 0) < 2 ^ 64 := by cases c <;> decide
theorem bit_nn (c : Bool) : 0 ≤ (if c = true then (1 : Int) else 0) := by cases c <;> decide
end Ws
namespace Ws
open PySem
theorem kit_self {K : PySem.W.Frag} (t : Value) : PySem.W.kitOne K t t = some true := by
  unfold PySem.W.kitOne
  rw [if_pos (by simp)]
end Ws

namespace Ws
/-! ### fractions in lowest terms -/
def gI (t b : Int) : Int := ((Nat.gcd t.natAbs b.natAbs : Nat) : Int)
def gS (t b : Int) : Int := if b < 0 then -(gI t b) else gI t b
def nT (t b : Int) : Int := t.fdiv (gS t b)
def nB (t b : Int) : Int := b.fdiv (gS t b)
theorem gI_pos {t b : Int} (hb : b ≠ 0) : 0 < gI t b := by
  have : 0 < Nat.gcd t.natAbs b.natAbs := Nat.gcd_pos_of_pos_right _ (by omega)
  unfold gI; omega
theorem gS_ne {t b : Int} (hb : b ≠ 0) : gS t b ≠ 0 := by
  have := gI_pos (t := t) hb
  unfold gS; split <;> omega
/-- the reduced pair -/
structure Low (t b p q : Int) : Prop where
  pos : 0 < q
  cross : p * b = t * q
  cop : Nat.gcd p.natAbs q.natAbs = 1
theorem nf_parts {t b : Int} (hb : b ≠ 0) : ∃ t' b' : Int, t = gI t b * t' ∧ b = gI t b * b' ∧ Nat.gcd t'.natAbs b'.natAbs = 1 ∧ b' ≠ 0 := by
  have hg := gI_pos (t := t) hb
  have h1 : gI t b ∣ t := by
    have : Nat.gcd t.natAbs b.natAbs ∣ t.natAbs := Nat.gcd_dvd_left _ _
    have := Int.ofNat_dvd.mpr this
    exact Int.dvd_natAbs.mp this
  have h2 : gI t b ∣ b := by
    have : Nat.gcd t.natAbs b.natAbs ∣ b.natAbs := Nat.gcd_dvd_right _ _
    have := Int.ofNat_dvd.mpr this
    exact Int.dvd_natAbs.mp this
  obtain ⟨t', e1⟩ := h1
  obtain ⟨b', e2⟩ := h2
  refine ⟨t', b', e1, e2, ?_, ?_⟩
  · have e3 : t.natAbs = (gI t b).natAbs * t'.natAbs := by rw [← Int.natAbs_mul, ← e1]
    have e4 : b.natAbs = (gI t b).natAbs * b'.natAbs := by rw [← Int.natAbs_mul, ← e2]
    have e5 : Nat.gcd t.natAbs b.natAbs = (gI t b).natAbs := by unfold gI; simp
    rw [e3, e4, Nat.gcd_mul_left] at e5
    have h0 : 0 < (gI t b).natAbs := by omega
    exact Nat.eq_of_mul_eq_mul_left h0 (by rw [e5, Nat.mul_one])
  · intro z
    rw [z, Int.mul_zero] at e2
    exact hb e2
theorem nf_vals {t b : Int} (hb : b ≠ 0) : ∃ t' b' : Int, t = gI t b * t' ∧ b = gI t b * b' ∧ Nat.gcd t'.natAbs b'.natAbs = 1 ∧ b' ≠ 0 ∧ nT t b = (if b < 0 then -t' else t') ∧ nB t b = (if b < 0 then -b' else b') ∧ (b < 0 ↔ b' < 0) := by
  obtain ⟨t', b', e1, e2, hc, h0⟩ := nf_parts (t := t) hb
  have hg := gI_pos (t := t) hb
  have hs : b < 0 ↔ b' < 0 := by
    constructor
    · intro h
      apply Int.lt_of_not_ge
      intro h2
      have : 0 ≤ gI t b * b' := Int.mul_nonneg (by omega) h2
      omega
    · intro h
      have : gI t b * b' < gI t b * 0 := Int.mul_lt_mul_of_pos_left h hg
      omega
  refine ⟨t', b', e1, e2, hc, h0, ?_, ?_, hs⟩
  · unfold nT gS
    split
    · generalize gI t b = g at *
      subst e1
      rw [show g * t' = -g * -t' by grind, Int.mul_fdiv_cancel_left _ (by omega)]
    · generalize gI t b = g at *
      subst e1
      rw [Int.mul_fdiv_cancel_left _ (by omega)]
  · unfold nB gS
    split
    · generalize gI t b = g at *
      rw [e2, show g * b' = -g * -b' by grind, Int.mul_fdiv_cancel_left _ (by omega)]
    · generalize gI t b = g at *
      rw [e2, Int.mul_fdiv_cancel_left _ (by omega)]
theorem nf_low {t b : Int} (hb : b ≠ 0) : Low t b (nT t b) (nB t b) := by
  obtain ⟨t', b', e1, e2, hc, h0, eT, eB, hs⟩ := nf_vals (t := t) hb
  generalize gI t b = g at *
  rw [eT, eB]
  split
  · rename_i h
    have := hs.mp h
    refine ⟨by omega, by grind, by simpa using hc⟩
  · rename_i h
    have : ¬ b' < 0 := fun z => h (hs.mpr z)
    exact ⟨by omega, by grind, hc⟩
theorem nf_le {t b : Int} (hb : b ≠ 0) : (nT t b).natAbs ≤ t.natAbs ∧ (nB t b).natAbs ≤ b.natAbs := by
  obtain ⟨t', b', e1, e2, hc, h0, eT, eB, hs⟩ := nf_vals (t := t) hb
  have hg := gI_pos (t := t) hb
  have e3 : t.natAbs = (gI t b).natAbs * t'.natAbs := by rw [← Int.natAbs_mul, ← e1]
  have e4 : b.natAbs = (gI t b).natAbs * b'.natAbs := by rw [← Int.natAbs_mul, ← e2]
  have h0 : 1 ≤ (gI t b).natAbs := by omega
  have k1 : t'.natAbs ≤ t.natAbs := by rw [e3]; exact Nat.le_mul_of_pos_left _ h0
  have k2 : b'.natAbs ≤ b.natAbs := by rw [e4]; exact Nat.le_mul_of_pos_left _ h0
  rw [eT, eB]
  by_cases h : b < 0
  · rw [if_pos h, if_pos h]
    constructor <;> omega
  · rw [if_neg h, if_neg h]
    exact ⟨k1, k2⟩
theorem low_uniq {p q r s : Int} (h : p * s = r * q) (hq : 0 < q) (hs : 0 < s) (h1 : Nat.gcd p.natAbs q.natAbs = 1) (h2 : Nat.gcd r.natAbs s.natAbs = 1) : p = r ∧ q = s := by
  have e : p.natAbs * s.natAbs = r.natAbs * q.natAbs := by rw [← Int.natAbs_mul, ← Int.natAbs_mul, h]
  have d1 : q.natAbs ∣ s.natAbs := by
    have c : Nat.Coprime q.natAbs p.natAbs := by rw [Nat.coprime_comm]; exact h1
    exact c.dvd_of_dvd_mul_left ⟨r.natAbs, by rw [e, Nat.mul_comm]⟩
  have d2 : s.natAbs ∣ q.natAbs := by
    have c : Nat.Coprime s.natAbs r.natAbs := by rw [Nat.coprime_comm]; exact h2
    exact c.dvd_of_dvd_mul_left ⟨p.natAbs, by rw [← e, Nat.mul_comm]⟩
  have e2 : q.natAbs = s.natAbs := Nat.dvd_antisymm d1 d2
  have e3 : q = s := by omega
  subst e3
  exact ⟨Int.eq_of_mul_eq_mul_right (by omega) h, rfl⟩
/-- a reduced pair is the reduced pair of anything that it crosses with -/
theorem Low.eq {t b p q c d r s : Int} (h : Low t b p q) (h' : Low c d r s) (hb : b ≠ 0) (hd : d ≠ 0) (e : t * d = c * b) : p = r ∧ q = s := by
  refine low_uniq ?_ h.pos h'.pos h.cop h'.cop
  have e1 := h.cross
  have e2 := h'.cross
  have : (p * s) * (b * d) = (r * q) * (b * d) := by grind
  exact Int.eq_of_mul_eq_mul_right (Int.mul_ne_zero hb hd) this
theorem Low.ne {t b p q c d r s : Int} (h : Low t b p q) (h' : Low c d r s) (hb : b ≠ 0) (hd : d ≠ 0) (e : t * d ≠ c * b) : ¬ (p = r ∧ q = s) := by
  rintro ⟨rfl, rfl⟩
  refine e ?_
  have e1 := h.cross
  have e2 := h'.cross
  have : (t * d) * q = (c * b) * q := by grind
  exact Int.eq_of_mul_eq_mul_right (by have := h.pos; omega) this
theorem nf_eq {t b c d : Int} (hb : b ≠ 0) (hd : d ≠ 0) (e : t * d = c * b) : nT t b = nT c d ∧ nB t b = nB c d := (nf_low hb).eq (nf_low hd) hb hd e
theorem nf_ne {t b c d : Int} (hb : b ≠ 0) (hd : d ≠ 0) (e : t * d ≠ c * b) : ¬ (nT t b = nT c d ∧ nB t b = nB c d) := (nf_low hb).ne (nf_low hd) hb hd e
/-- the law's own reckoning -/
theorem nf_least {t b : Int} (hb : b ≠ 0) : ((if b < 0 then -1 else 1) * t) / gI t b = nT t b ∧ (if b < 0 then -b else b) / gI t b = nB t b := by
  obtain ⟨t', b', e1, e2, hc, h0, eT, eB, hs⟩ := nf_vals (t := t) hb
  have hg := gI_pos (t := t) hb
  rw [eT, eB]
  generalize gI t b = g at *
  subst e1
  split
  · refine ⟨?_, ?_⟩
    · rw [show -1 * (g * t') = g * -t' by grind, Int.mul_ediv_cancel_left _ (by omega)]
    · rw [e2, show -(g * b') = g * -b' by grind, Int.mul_ediv_cancel_left _ (by omega)]
  · refine ⟨?_, ?_⟩
    · rw [Int.one_mul, Int.mul_ediv_cancel_left _ (by omega)]
    · rw [e2, Int.mul_ediv_cancel_left _ (by omega)]
/-- one turn of Euclid's loop -/
theorem gcd_turn {a b : Int} (ha : 0 ≤ a) (hb : 0 < b) : Nat.gcd b.natAbs (a % b).natAbs = Nat.gcd a.natAbs b.natAbs := by
  rw [Int.natAbs_emod_of_nonneg ha, Nat.gcd_comm a.natAbs, Nat.gcd_rec b.natAbs a.natAbs, Nat.gcd_comm]
/-! ### sizes -/
/-- less than n bits -/
def Sz (n : Nat) (i : Int) : Prop := i.natAbs < 2 ^ n
theorem Sz.mono {n m : Nat} {i : Int} (h : Sz n i) (hm : n ≤ m) : Sz m i := Nat.lt_of_lt_of_le h (Nat.pow_le_pow_right (by decide) hm)
theorem Sz.mul {n m : Nat} {i j : Int} (h : Sz n i) (h' : Sz m j) : Sz (n + m) (i * j) := by
  unfold Sz at *
  rw [Int.natAbs_mul, Nat.pow_add]
  exact Nat.mul_lt_mul'' h h'
theorem Sz.add {n : Nat} {i j : Int} (h : Sz n i) (h' : Sz n j) : Sz (n + 1) (i + j) := by
  unfold Sz at *
  rw [Nat.pow_succ]
  omega
theorem Sz.sub {n : Nat} {i j : Int} (h : Sz n i) (h' : Sz n j) : Sz (n + 1) (i - j) := by
  unfold Sz at *
  rw [Nat.pow_succ]
  omega
theorem Sz.neg {n : Nat} {i : Int} (h : Sz n i) : Sz n (-i) := by
  unfold Sz at *
  omega
theorem Sz.nT {n : Nat} {t b : Int} (hb : b ≠ 0) (h : Sz n t) : Sz n (nT t b) := Nat.lt_of_le_of_lt (nf_le hb).1 h
theorem Sz.nB {n : Nat} {t b : Int} (hb : b ≠ 0) (h : Sz n b) : Sz n (nB t b) := Nat.lt_of_le_of_lt (nf_le hb).2 h
theorem Sz.gI {n : Nat} {t b : Int} (hb : b ≠ 0) (h : Sz n b) : Sz n (gI t b) := by
  refine Nat.lt_of_le_of_lt ?_ h
  unfold Ws.gI
  exact Nat.le_of_dvd (by omega) (Nat.gcd_dvd_right _ _)
theorem Sz.of_abs {n : Nat} {i : Int} (h : i.natAbs < 2 ^ n) : Sz n i := h
end Ws
namespace Ws
/-- a reduced pair is that of any other pair that crosses with the first one -/
theorem Low.base {t b p q c d : Int} (h : Low t b p q) (hb : b ≠ 0) (e : t * d = c * b) : Low c d p q := by
  refine ⟨h.pos, ?_, h.cop⟩
  have e1 := h.cross
  have : (p * d) * b = (c * q) * b := by grind
  exact Int.eq_of_mul_eq_mul_right hb this
theorem Low.nf {t b p q : Int} (h : Low t b p q) (hb : b ≠ 0) : p = nT t b ∧ q = nB t b := h.eq (nf_low hb) hb hb rfl
theorem Low.szT {t b p q : Int} {n : Nat} (h : Low t b p q) (hb : b ≠ 0) (z : Sz n t) : Sz n p := by rw [(h.nf hb).1]; exact z.nT hb
theorem Low.szB {t b p q : Int} {n : Nat} (h : Low t b p q) (hb : b ≠ 0) (z : Sz n b) : Sz n q := by rw [(h.nf hb).2]; exact z.nB hb
theorem Low.zero {t b p q : Int} (h : Low t b p q) (hb : b ≠ 0) : p = 0 ↔ t = 0 := by
  have e := h.cross
  have hq := h.pos
  constructor
  · intro z
    rw [z, Int.zero_mul] at e
    rcases Int.mul_eq_zero.mp e.symm with z | z
    · exact z
    · omega
  · intro z
    rw [z, Int.zero_mul] at e
    rcases Int.mul_eq_zero.mp e with z | z
    · exact z
    · exact absurd z hb
theorem Low.self {t b p q : Int} (h : Low t b p q) (hb : b ≠ 0) : Low p q p q := ⟨h.pos, rfl, h.cop⟩
end Ws

namespace Ws
open PySem PySem.Spec PyProof.Rows L2
section
variable {K : PySem.W.Frag} {a : Addr} {xs : List V} {g : TG} {te : TE} {vs : List Nat} {σ : L2.St} {H1 : Hp} {D : Addr} {Qd : Hp → Prop}
/-- a comprehension without a test: what is made so far stands at D, J tells of it -/
def PvJ (D : Addr) (J : Nat → List V → Hp → Prop) : Nat → Hp → Prop := fun i H => ∃ acc, acc.length = i ∧ H D = some (.lst acc) ∧ J i acc H
theorem step_J {J : Nat → List V → Hp → Prop} {i : Nat} {x : V} {H : Hp} (hz : i < sizeLine) (h : PvJ D J i H)
    (hs : ∀ acc, J i acc H → H D = some (.lst acc) → acc.length = i → ∀ Qn : VK, (∀ y H4, H4 D = some (.lst acc) → J (i + 1) (acc ++ [y]) (upd H4 D (.lst (acc ++ [y]))) → Qn y H4) → g x (wipe σ vs) H fun σ2 H2 => wipe σ2 vs = wipe σ vs ∧ te σ2 H2 Qn) :
    g x (wipe σ vs) H fun σ2 H2 => wipe σ2 vs = wipe σ vs ∧ tYes σ2 H2 fun b H3 => if b = true then te σ2 H3 fun y H4 => ∃ acc, H4 D = some (.lst acc) ∧ acc.length < sizeLine ∧ PvJ D J (i + 1) (upd H4 D (.lst (acc ++ [y]))) else PvJ D J (i + 1) H3 := by
  obtain ⟨acc, hl, hD, j⟩ := h
  have := hs acc j hD hl (fun y H4 => ∃ acc, H4 D = some (.lst acc) ∧ acc.length < sizeLine ∧ PvJ D J (i + 1) (upd H4 D (.lst (acc ++ [y])))) fun y H4 e jj => ⟨acc, e, by rw [hl]; exact hz, acc ++ [y], by rw [List.length_append, hl] <;> rfl, upd_same, jj⟩
  have e : (fun (σ2 : L2.St) (H2 : Hp) => wipe σ2 vs = wipe σ vs ∧ tYes σ2 H2 fun b H3 => if b = true then te σ2 H3 fun y H4 => ∃ acc, H4 D = some (.lst acc) ∧ acc.length < sizeLine ∧ PvJ D J (i + 1) (upd H4 D (.lst (acc ++ [y]))) else PvJ D J (i + 1) H3)
      = fun σ2 H2 => wipe σ2 vs = wipe σ vs ∧ te σ2 H2 fun y H4 => ∃ acc, H4 D = some (.lst acc) ∧ acc.length < sizeLine ∧ PvJ D J (i + 1) (upd H4 D (.lst (acc ++ [y]))) := by
    funext σ2 H2
    show (wipe σ2 vs = wipe σ vs ∧ (if true = true then (te σ2 H2 fun y H4 => ∃ acc, H4 D = some (.lst acc) ∧ acc.length < sizeLine ∧ PvJ D J (i + 1) (upd H4 D (.lst (acc ++ [y])))) else PvJ D J (i + 1) H2)) = _
    rw [if_pos rfl]
  rw [e]
  exact this
theorem lcT (J : Nat → List V → Hp → Prop) (h0 : J 0 [] (upd H1 D (.lst []))) (hl : ∀ i acc H, J i acc H → SqT K H a xs) (hz : xs.length < sizeLine)
    (hs : ∀ i x H acc, xs[i]? = some x → J i acc H → H D = some (.lst acc) → acc.length = i → ∀ Qn : VK, (∀ y H4, H4 D = some (.lst acc) → J (i + 1) (acc ++ [y]) (upd H4 D (.lst (acc ++ [y]))) → Qn y H4) → g x (wipe σ vs) H fun σ2 H2 => wipe σ2 vs = wipe σ vs ∧ te σ2 H2 Qn)
    (hd : ∀ ys H, J xs.length ys H → H D = some (.lst ys) → ys.length = xs.length → Qd H) :
    ∃ W : Nat → Nat → Hp → Prop, (∃ m, W 0 m (upd H1 D (.lst []))) ∧ ∀ i m H, W i m H →
      ((Itt K a).stop i H ∧ Qd H) ∨ ((Itt K a).go i H ∧ ∃ Nx : Hp → Prop, (∀ H', Nx H' → ∃ m', m' < m ∧ W (i + 1) m' H') ∧ ∀ x H', (Itt K a).yld i H x H' → g x (wipe σ vs) H' fun σ2 H2 => wipe σ2 vs = wipe σ vs ∧ tYes σ2 H2 fun b H3 =>
        if b = true then te σ2 H3 fun y H4 => ∃ acc, H4 D = some (.lst acc) ∧ acc.length < sizeLine ∧ Nx (upd H4 D (.lst (acc ++ [y]))) else Nx H3) :=
  lc_tup (K := K) (a := a) (xs := xs) (PvJ D J) ⟨[], rfl, upd_same, h0⟩ (fun i H _ h => let ⟨acc, _, _, j⟩ := h; hl i acc H j)
    (fun i x H hx h => step_J (Nat.lt_trans (List.getElem?_eq_some_iff.mp hx).1 hz) h fun acc j e l => hs i x H acc hx j e l) fun H h => let ⟨ys, l, e, j⟩ := h; hd ys H j e l
theorem lcL (J : Nat → List V → Hp → Prop) (h0 : J 0 [] (upd H1 D (.lst []))) (hl : ∀ i acc H, J i acc H → SqL K H a xs) (hz : xs.length < sizeLine)
    (hs : ∀ i x H acc, xs[i]? = some x → J i acc H → H D = some (.lst acc) → acc.length = i → ∀ Qn : VK, (∀ y H4, H4 D = some (.lst acc) → J (i + 1) (acc ++ [y]) (upd H4 D (.lst (acc ++ [y]))) → Qn y H4) → g x (wipe σ vs) H fun σ2 H2 => wipe σ2 vs = wipe σ vs ∧ te σ2 H2 Qn)
    (hd : ∀ ys H, J xs.length ys H → H D = some (.lst ys) → ys.length = xs.length → Qd H) :
    ∃ W : Nat → Nat → Hp → Prop, (∃ m, W 0 m (upd H1 D (.lst []))) ∧ ∀ i m H, W i m H →
      ((Itl K a).stop i H ∧ Qd H) ∨ ((Itl K a).go i H ∧ ∃ Nx : Hp → Prop, (∀ H', Nx H' → ∃ m', m' < m ∧ W (i + 1) m' H') ∧ ∀ x H', (Itl K a).yld i H x H' → g x (wipe σ vs) H' fun σ2 H2 => wipe σ2 vs = wipe σ vs ∧ tYes σ2 H2 fun b H3 =>
        if b = true then te σ2 H3 fun y H4 => ∃ acc, H4 D = some (.lst acc) ∧ acc.length < sizeLine ∧ Nx (upd H4 D (.lst (acc ++ [y]))) else Nx H3) :=
  lc_list (K := K) (a := a) (xs := xs) (PvJ D J) ⟨[], rfl, upd_same, h0⟩ (fun i H _ h => let ⟨acc, _, _, j⟩ := h; hl i acc H j)
    (fun i x H hx h => step_J (Nat.lt_trans (List.getElem?_eq_some_iff.mp hx).1 hz) h fun acc j e l => hs i x H acc hx j e l) fun H h => let ⟨ys, l, e, j⟩ := h; hd ys H j e l
theorem lcR {lo : Int} {n : Nat} (J : Nat → List V → Hp → Prop) (h0 : J 0 [] (upd H1 D (.lst []))) (hz : n < sizeLine)
    (hs : ∀ i H acc, i < n → J i acc H → H D = some (.lst acc) → acc.length = i → ∀ Qn : VK, (∀ y H4, H4 D = some (.lst acc) → J (i + 1) (acc ++ [y]) (upd H4 D (.lst (acc ++ [y]))) → Qn y H4) → g (.int (lo + i)) (wipe σ vs) H fun σ2 H2 => wipe σ2 vs = wipe σ vs ∧ te σ2 H2 Qn)
    (hd : ∀ ys H, J n ys H → H D = some (.lst ys) → ys.length = n → Qd H) :
    ∃ W : Nat → Nat → Hp → Prop, (∃ m, W 0 m (upd H1 D (.lst []))) ∧ ∀ i m H, W i m H →
      ((Itr lo n).stop i H ∧ Qd H) ∨ ((Itr lo n).go i H ∧ ∃ Nx : Hp → Prop, (∀ H', Nx H' → ∃ m', m' < m ∧ W (i + 1) m' H') ∧ ∀ x H', (Itr lo n).yld i H x H' → g x (wipe σ vs) H' fun σ2 H2 => wipe σ2 vs = wipe σ vs ∧ tYes σ2 H2 fun b H3 =>
        if b = true then te σ2 H3 fun y H4 => ∃ acc, H4 D = some (.lst acc) ∧ acc.length < sizeLine ∧ Nx (upd H4 D (.lst (acc ++ [y]))) else Nx H3) :=
  lc_range (PvJ D J) ⟨[], rfl, upd_same, h0⟩ (fun i H hi h => step_J (Nat.lt_trans hi hz) h fun acc j e l => hs i H acc hi j e l) fun H h => let ⟨ys, l, e, j⟩ := h; hd ys H j e l
end
end Ws

namespace Ws
open PySem PySem.W PySem.Calls PyProof.Rows
/-- what a class with an own __eq__ and no __ne__ must be -/
structure NeC (K : Frag) (C : Addr) : Prop where
  ne : findIn K (.ref C) "__ne__" = some (some (.builtin "object.__ne__"))
  obj : ∃ (nm q : Str) (N : Addr) (bs bm : List Value) (hd : Bool) (sn : List Str) (sub : List Value) (ab : Bool) (col : Option Bool) (dd : Option Addr) (k0 k1 k2 k3 k5 : Option Value) (nid : String),
    K.lookup C = some (excClassObj nm q C N bs bm hd sn sub ab col dd k0 k1 k2 k3 k5 nid) ∧ bm.contains (.type "object") = true
section
variable {prog : Program} {w : World} {A : Around} {E : Value → Shared → Prop} {s : Shared} {K : Frag} {x C L f : Addr} {h₀ : Heap} {m : Str → Option Value} {ox : Obj} {od : Option Obj} {b tb : Value}
theorem ifBound_B {M : Model} {args : List Value} {Q : Option Value → Shared → Prop} (X : K.In s.heap) (I : InstAt s.heap x ox C od) (hs : findIn K (.ref C) "__ne__" = some (some (.builtin "object.__ne__")))
    (h : wpAny M A (call (.builtin "object.__ne__") (.ref x :: args)) (fun v => Q (some v)) E s) : wpAny M A (callSpecialIfBound? (.ref x) "__ne__" args) Q E s := by
  simp only [callSpecialIfBound?, bindSpecialIfBound?]
  refine wpAny_holding (wpAny_bind (wpAny_bind (wpAny_bind (I.type.here ((looks_findIn X hs).here ?_)))))
  dsimp only
  simp only [PySem.F.cmp_object.ne.bind]
  have fin : wpAny M A (call (.builtin "object.__ne__") ([.ref x] ++ args) >>= fun v => pure (some v)) Q E s := wpAny_bind (wpAny_mono h (fun v s' h' => wpAny_pure h') fun _ _ h' => h')
  refine wpAny_bind (wpAny_askSetting (wpAny_ite ?_))
  split
  · exact wpAny_bind (wpAny_pure (wpAny_pure (by exact fin)))
  · exact wpAny_tryCatch (wpAny_bind (wpAny_pure (wpAny_pure (by exact fin))))
theorem objNe_K (hu : A.units < cLine) (X : K.In s.heap) (I : InstAt s.heap x ox C od) (hs : findIn K (.ref C) "__eq__" = some (some (.ref f))) (hf : isFn K (.ref f) = true) {Q : Fin → Shared → Prop}
    (hcall : wpAny (model prog w) A (call (.ref f) [.ref x, b]) (fun v s' => ∃ r, v = .bool r ∧ Q (.done (.ret (.bool (!r)))) s') E s) : wpAny (model prog w) A (Builtin.«object.__ne__» ⟨[.ref x, b], []⟩) Q E s := by
  obtain ⟨h, g, d, t, os⟩ := s
  unfold Builtin.«object.__ne__»
  repeat (first
    | with_reducible refine wpAny_cRoomFor hu ?_
    | (refine wpAny_bind (m := callSpecialIfBound? (.ref x) (Str.ofString "__eq__") [b])
        (ifBound_K X I hs hf (wpAny_mono hcall (fun r s' hr => by
          obtain ⟨r, rfl, hq⟩ := hr
          repeat (first | exact hq | exact wpAny_pure hq | exact wpAny_truthy_bool hq | (refine wpAny_bind (m := truthy (.bool _)) (wpAny_truthy_bool ?_)) | wp_step)) fun _ _ e => e)))
    | wp_step)
theorem ne_K (N : NeC K C) (hu : A.units + 1 < cLine) (F : Fr h₀ L s.heap m) (X₀ : K.In h₀) (I : InstAt s.heap x ox C od) (hb : Looks (model prog w) s.heap (typeOf b) tb) (hn : notFirst K C tb = true)
    (hs : findIn K (.ref C) "__eq__" = some (some (.ref f))) (hf : isFn K (.ref f) = true) {Q : Value → Shared → Prop}
    (h : wpAny (model prog w) A.in1 (call (.ref f) [.ref x, b]) (fun v s' => ∃ r, v = .bool r ∧ Q (.bool (!r)) s') E s) : wpAny (model prog w) A (compareOp .NotEq (.ref x) b) Q E s := by
  have X := X₀.keeps F.keep
  obtain ⟨hne, nm, q, N, bs, bm, hd, sn, sub, ab, col, dd, k0, k1, k2, k3, k5, nid, hC, hbm⟩ := N
  have one : wpAny (model prog w) A (tryCompare (.ref x) "__ne__" b) (fun r s' => ∃ v, r = some v ∧ Q v s') E s := by
    unfold tryCompare
    refine wpAny_bind (ifBound_B X I hne (wpAny_call (codeAny_call_builtin PySem.F.cmp_object.ne.plain PySem.F.cmpEntry_ne ?_)))
    obtain ⟨hh, g, d, t, os⟩ := s
    refine wpAny_check_slot_inst PySem.F.cmpKind_ne PySem.F.cmpSplit_ne (PySem.F.cmpArgs_ne _ _) hbm I.at_ I.cls (X _ _ hC) ?_
    refine objNe_K (A := A.in1) (Nat.lt_of_succ_lt_succ (Nat.succ_lt_succ hu)) X I hs hf (wpAny_mono h (fun v s' hv => ?_) fun _ _ e => e)
    obtain ⟨r, rfl, hq⟩ := hv
    first
      | exact ⟨r, rfl, wpAny_pure ⟨_, rfl, hq⟩⟩
      | exact ⟨r, rfl, wpAny_pure (wpAny_pure ⟨_, rfl, hq⟩)⟩
  show wpAny (model prog w) A (richCompare .NotEq (.ref x) b) Q E s
  unfold richCompare
  simp only [oneThing_ref]
  refine wpAny_holding (wpAny_bind (wpAny_cRoomFor (Nat.lt_of_succ_lt hu) ?_))
  rw [cmpInfo_NotEq]
  dsimp only
  refine wpAny_bind (I.type.here (wpAny_bind (hb.here ?_)))
  split
  · rename_i q
    have e : subIn K tb (.ref C) = some false := by
      rcases Bool.or_eq_true_iff.mp hn with e | e
      · rw [beq_iff_eq.mp e] at q; simp at q
      · exact beq_iff_eq.mp e
    refine wpAny_bind ((looks_subIn X e).here ?_)
    simp only [Bool.false_eq_true, if_false]
    refine wpAny_bind (wpAny_mono one (fun r s' z => ?_) fun _ _ e => e)
    obtain ⟨v, rfl, hq⟩ := z
    exact wpAny_pure hq
  · refine wpAny_bind (wpAny_pure ?_)
    simp only [Bool.false_eq_true, if_false]
    refine wpAny_bind (wpAny_mono one (fun r s' z => ?_) fun _ _ e => e)
    obtain ⟨v, rfl, hq⟩ := z
    exact wpAny_pure hq
end
end Ws
namespace Ws
open PySem PySem.Spec PyProof.Rows L2
section
variable {X : Cx} {k j : Nat} {C : Addr} {sp : Sp}
/-- the callee runs one call further in -/
theorem run_in1 {f : Addr} {pins : List (Addr × Obj)} {σ : L2.St} {H : Hp} {s : Shared} {Q : VK} {us : List Value} {vs : List V} {Ex : Value → Shared → Prop} (F : FnR X.prog X.w X.K X.mg X.base CX0 k f sp) (hr : Room (k + 1) X.A) (I : Inv X pins σ H s) (r : Vals vs us) (h : sp vs H Q E0) :
    wpAny (model X.prog X.w) X.A.in1 (call (.ref f) us) (EP X pins σ Q) Ex s := by
  refine wpAny_call (codeAny_mono (F X.A.in1 X.stack s H us vs Q E0 hr.in1 I.env0.in1 r h) fun r s' hq => ?_)
  cases r with
  | error er => exact hq.elim
  | ok fl =>
    cases fl with
    | ret u => exact I.after hq
    | next => exact False.elim hq
    | brk => exact False.elim hq
    | cont => exact False.elim hq
/-- a != b by a's own __eq__ -/
def rNeO (K : PySem.W.Frag) (C : Addr) (sp : Sp) : R2 := fun x y H Q => ∃ a dx fs t, x = .ref a ∧ H a = some (.ins C dx fs) ∧ TyL H y t ∧ PySem.W.notFirst K C t = true ∧ sp [.ref a, y] H (fun v H' => ∃ r, v = .bl r ∧ Q (.bl (!r)) H') E0
theorem op_neO (N : NeC X.K C) (c : OpnF X.prog X.w X.K X.mg X.base k C "__eq__" sp) (hr : Room j X.A) (hk : k + 1 ≤ j) : OpR X (compareOp .NotEq) (rNeO X.K C sp) := by
  obtain ⟨f, h1, h2, F⟩ := c
  intro pins s σ H x y v u Q I rx ry h
  obtain ⟨a, dx, fs, t, rfl, ea, ty, nf, q⟩ := h
  cases (show v = Value.ref a from rx)
  obtain ⟨ox, od, J⟩ := inst_of I ea
  obtain ⟨m, hF⟩ := I.fr
  refine ne_K N (hu_of hr) hF I.ok.mod.kin J (ty.looks I ry) nf h1 h2 ?_
  refine wpAny_mono (run_in1 (us := [.ref a, u]) (vs := [.ref a, y]) F (hr.mono hk) I (.cons rfl (.cons ry .nil)) q) (fun v s' hv => ?_) fun _ _ z => z
  obtain ⟨z, H', I', rz, r, rfl, q'⟩ := hv
  cases (show v = Value.bool r from rz)
  exact ⟨r, rfl, .bl _, H', I', rfl, q'⟩
end
/-- isinstance with a class of one's own, answered no -/
theorem kit_no {K : PySem.W.Frag} {t : Value} {D : Addr} (h1 : PySem.W.isClsIn K D = true) (h2 : PySem.W.typeIn K (.ref D) = some (.type "type")) (h3 : PySem.W.subIn K t (.ref D) = some false) (h4 : t ≠ .ref D) : PySem.W.kitOne K t (.ref D) = some false := by
  have e : (t == Value.ref D) = false := by
    cases h : (t == Value.ref D) with
    | false => rfl
    | true => exact absurd (eq_of_beq h) h4
  have e2 : ((PySem.W.clsIn K D).isSome && PySem.W.typeIn K (.ref D) == some (.type "type")) = true := by
    have h1' : (PySem.W.clsIn K D).isSome = true := h1
    rw [h1', h2] <;> rfl
  unfold PySem.W.kitOne
  rw [e, if_neg Bool.false_ne_true]
  show (if ((PySem.W.clsIn K D).isSome && PySem.W.typeIn K (.ref D) == some (.type "type")) = true then PySem.W.subIn K t (.ref D) else none) = some false
  rw [if_pos e2, h3]
end Ws

namespace Ws
open PySem PySem.Spec PyProof.Rows L2
/-! ### defs that are called where nothing is being shown: repr may be asked within them -/
/-- FnR for such calls alone -/
def FnG (P : Program) (w : World) (K : PySem.W.Frag) (mg : Str → Option Value) (base : Heap) (CX : CXT) (k : Nat) (f : Addr) (sp : Sp) : Prop :=
  ∀ (A : Around) (outer : List Env) (s : Shared) (H : Hp) (us : List Value) (vs : List V) (Q : VK) (E : XK), A.guards = some [] → Room k A → Env0 P w K mg base A outer s H → Vals vs us → sp vs H Q E →
    codeAny (model P w) A (.call (.ref f) ⟨us, []⟩) (CR CX outer P w H s Q E) s
theorem FnG.of {P : Program} {w : World} {K : PySem.W.Frag} {mg : Str → Option Value} {base : Heap} {CX : CXT} {k : Nat} {f : Addr} {sp : Sp} (F : FnR P w K mg base CX k f sp) : FnG P w K mg base CX k f sp :=
  fun A outer s H us vs Q E _ hr e0 r h => F A outer s H us vs Q E hr e0 r h
/-- such a def of the module, by its name -/
def CalG (P : Program) (w : World) (K : PySem.W.Frag) (mg : Str → Option Value) (base : Heap) (CX : CXT) (k : Nat) (x : Str) (sp : Sp) : Prop := ∃ f : Addr, FnG P w K mg base CX k f sp ∧ mg x = some (.ref f) ∧ PySem.W.keepIn K (.ref f) = true
section
variable {X : Cx} {k j : Nat} {f : Addr} {sp : Sp} {x : Str} {p pos : Pos} {e : Expr} {es : List Expr} {t : TA} {CX : CXT} {E : XK}
theorem run_G {pins : List (Addr × Obj)} {σ : L2.St} {H : Hp} {s : Shared} {Q : VK} {us : List Value} {vs : List V} (F : FnG X.prog X.w X.K X.mg X.base CX k f sp) (cl : X.A.guards = some []) (hr : Room k X.A) (hx : Passes CX X E)
    (I : Inv X pins σ H s) (r : Vals vs us) (h : sp vs H Q E) : wpAny (model X.prog X.w) X.A (call (.ref f) us) (EP X pins σ Q) X.xe s := by
  refine wpAny_call (codeAny_mono (F X.A X.stack s H us vs Q E cl hr I.env0 r h) fun out s' q => ?_)
  cases out with
  | error e => exact hx pins σ H s e s' I q
  | ok fl => cases fl with
    | ret u => exact I.after q
    | next => exact q.elim
    | brk => exact q.elim
    | cont => exact q.elim
def tFE (sp : Sp) (E : XK) (t : TA) : TE := fun σ H Q => t σ H fun vs H1 => sp vs H1 Q E
/-- f(e, ..) -/
theorem pe_gE (c : CalG X.prog X.w X.K X.mg X.base CX k x sp) (cl : X.A.guards = some []) (hr : Room j X.A) (hk : k ≤ j) (hx : Passes CX X E) (hg : Gl X x) (ha : PA X (e :: es) t) (hdb : (x == ("__debug__" : Str)) = false := by decide)
    (he : starEach (e :: es) X.env = (false, eval e X.env) :: starEach es X.env := by rfl) (hpl : (backTo pos (starEach es X.env)).any (·.1) = false := by rfl) : PE X (.Call (.Name x p) (e :: es) [] pos) (tFE sp E t) := by
  obtain ⟨f, F, hm, hkp⟩ := c
  refine ⟨fun pins s σ H Q I h => ?_⟩
  refine wpAny_Call_Name_kw (ld_glob I hg hm ?_ hdb)
  refine PySem.W.callWith_K (h₀ := X.base) I.ok.mod.kin hkp (thn (ha.run pos pins s σ H _ I h) fun us s1 ⟨vs, H1, I1, r, q⟩ => ⟨I1.kIn, ?_⟩) he hpl
  exact run_G F cl (hr.mono hk) hx I1 r q
theorem pe_g (c : CalG X.prog X.w X.K X.mg X.base CX0 k x sp) (cl : X.A.guards = some []) (hr : Room j X.A) (hk : k ≤ j) (hg : Gl X x) (ha : PA X (e :: es) t) (hdb : (x == ("__debug__" : Str)) = false := by decide)
    (he : starEach (e :: es) X.env = (false, eval e X.env) :: starEach es X.env := by rfl) (hpl : (backTo pos (starEach es X.env)).any (·.1) = false := by rfl) : PE X (.Call (.Name x p) (e :: es) [] pos) (tF sp t) :=
  pe_gE c cl hr hk pass0 hg ha hdb he hpl
end
section
variable {P : Program} {w : World} {K : PySem.W.Frag} {mg : Str → Option Value} {base : Heap}
/-- a def of the text: its body is read where nothing is being shown -/
theorem fnG_ofX {CX : CXT} {x qual : Str} {st : Stmt} {f : Addr} {fd : FuncData} {N ps : List Str} {k : Nat} {sp : Sp} (F : L2.Fun K x qual st f fd) (b : Binds K fd ps []) (S : FnScope N ps (defScope st)) (len : ∀ vs H Q E, sp vs H Q E → vs.length = ps.length)
    (hbody : ∀ (cdv : Value) (A : Around) (outer : List Env) (s : Shared) (H : Hp) (vs : List V) (Q : VK) (E : XK), A.guards = some [] → Room k (A.deeper (envOfC qual (defScope st) s.heap.objs.size f cdv)) → sp vs H Q E →
      ∃ t, PSs (cxOf CX P w K mg base N qual (defScope st) f cdv A outer s H E) (defBody st) t ∧ t { nx := fun _ H' => Q .non H', rt := Q } (start N vs) H) : FnG P w K mg base CX (k + 1) f sp := by
  obtain ⟨oc, od, kV, doc, pm, an, cdv, ct, osl, rfl, lk, hcd⟩ := F.ex
  intro A outer s H us vs Q E cl hr e0 r hsp
  have hn := len _ _ _ _ hsp
  have inS : K.In s.heap := e0.mod.kin.keeps fun b o e => (e0.bs b o e).1
  have free : s.heap.NoLimit := e0.mod.nolimit.keeps fun b o e => (e0.bs b o e).1
  have hl : us.length = ps.length := r.length ▸ hn
  have bd := b s us inS (by rw [List.append_nil]; exact hl)
  rw [List.append_nil] at bd
  have kinds : ∀ y ∈ ps.zip us, (defScope st).names.lookup y.1 = some .local ∨ ((defScope st).names.lookup y.1 = some .cell ∧ ((cellsFrom (s.heap.objs.size + 1) (defScope st).names []).lookup y.1).isSome = true) := by
    rintro ⟨n, v⟩ hy
    exact (S.par n (List.of_mem_zip hy).1).imp id fun q => ⟨q, PySem.W.cellsFrom_some _ _ _ (.inl q)⟩
  refine codeAny_call_function hr.depth (inS _ _ lk) rfl S.co S.gen rfl (PySem.W.codeRec_of inS hcd) (bd _ _ _ _ ?_)
  refine wpAny_newFunctionEnv_cells S.kind kinds fun env hE s1 z => ?_
  cases hE
  refine ⟨free.keeps z.toInCall.keep, codeAny_func ?_⟩
  obtain ⟨t, ht, q⟩ := hbody cdv A outer s H vs Q E cl (hr.deeper _) hsp
  have I : Inv (cxOf CX P w K mg base N qual (defScope st) f cdv A outer s H E) [] (start N vs) H s1 := inv_start S hr.hd e0 hn r z
  refine wpAny_mono (ht.run [] s1 (start N vs) H _ I q) (fun fl s2 out => ?_) fun _ _ out => out
  cases fl with
  | ret u => obtain ⟨v, _, H2, J, rv, q2⟩ := out; exact ⟨v, H2, J.os, J.bare, J.base, J.hok, rv, q2⟩
  | next => obtain ⟨_, H2, J, q2⟩ := out; exact ⟨.non, H2, J.os, J.bare, J.base, J.hok, rfl, q2⟩
  | brk => exact out.elim fun _ z => z.elim fun _ z => z.2.elim
  | cont => exact out.elim fun _ z => z.elim fun _ z => z.2.elim
theorem fnG_of {x qual : Str} {st : Stmt} {f : Addr} {fd : FuncData} {N ps : List Str} {k : Nat} {sp : Sp} (F : L2.Fun K x qual st f fd) (b : Binds K fd ps []) (S : FnScope N ps (defScope st)) (len : ∀ vs H Q E, sp vs H Q E → vs.length = ps.length)
    (hbody : ∀ (cdv : Value) (A : Around) (outer : List Env) (s : Shared) (H : Hp) (vs : List V) (Q : VK) (E : XK), A.guards = some [] → Room k (A.deeper (envOfC qual (defScope st) s.heap.objs.size f cdv)) → sp vs H Q E →
      ∃ t, PSs (cxOf CX0 P w K mg base N qual (defScope st) f cdv A outer s H E).nox (defBody st) t ∧ t { nx := fun _ H' => Q .non H', rt := Q } (start N vs) H) : FnG P w K mg base CX0 (k + 1) f sp :=
  fnG_ofX F b S len fun cdv A outer s H vs Q E cl hr h => let ⟨t, h1, h2⟩ := hbody cdv A outer s H vs Q E cl hr h; ⟨t, h1.nox, h2⟩
end
/-! ### the law's own call -/
/-- what is tracked when the law begins: its script, if the module doesn't have it -/
def only1 (K : PySem.W.Frag) (a : Addr) (o : Obj) (xs : List V) : Hp := fun b => if b = a then (match K.lookup a with | some _ => none | none => some (.frz o (.lst xs))) else none
theorem law_G {P : Program} {w : World} {K : PySem.W.Frag} {mg mb : Str → Option Value} {k : Nat} {fa a : Addr} {sp : Sp} {s : Shared} {vs : List Value} {ns : List Int}
    (inS : K.In s.heap) (hm : s.heap.Ns mainGlobals mg) (hb : s.heap.Ns builtinsNs mb) (bb : ∀ x : Str, x ≠ "__name__" → mb x = bootBuiltins x) (free : s.heap.NoLimit) (hg : s.gens = #[])
    (ha : s.heap.get? a = some { cls := .type "list", data := .seq vs.toArray }) (hi : IntsAre vs ns) (hl : ns.length ≤ sizeLine) (hr : Room k callerA)
    (F : ∀ base : Heap, K.In base → base.Ns mainGlobals mg → FnG P w K mg base CX0 k fa sp)
    (hsp : ∀ H : Hp, Only H → SqL K H a (ns.map V.int) → sp [.ref a] H (fun v _ => v = .bl true) fun _ _ _ => False) :
    codeAny (model P w) callerA (.call (.ref fa) ⟨[.ref a], []⟩) (fun r s' => r = .ok (.ret (.bool true)) ∧ OldK s.heap s'.heap ∧ s'.os = s.os ∧ AllBare s'.gens) s := by
  let ob : Obj := { cls := .type "list", data := .seq vs.toArray }
  let H : Hp := only1 K a ob (ns.map V.int)
  have hH : ∀ b u, H b = some u → b = a ∧ K.lookup a = none ∧ u = .frz ob (.lst (ns.map V.int)) := by
    intro b u e
    have e1 : (if b = a then (match K.lookup a with | some _ => none | none => some (HO.frz ob (.lst (ns.map V.int)))) else none) = some u := e
    by_cases hba : b = a
    · rw [if_pos hba] at e1
      cases hk : K.lookup a with
      | some _ => rw [hk] at e1; cases e1
      | none => rw [hk] at e1; exact ⟨hba, rfl, (Option.some.inj e1).symm⟩
    · rw [if_neg hba] at e1; cases e1
  have only : Only H := fun b => by
    cases e : H b with
    | none => exact .inl rfl
    | some u => obtain ⟨_, _, rfl⟩ := hH b u e; exact .inr ⟨_, _, rfl⟩
  have rv := vals_ints hi
  have here : SqL K H a (ns.map V.int) := by
    cases hk : K.lookup a with
    | none =>
      refine .inl (.inr ⟨ob, ?_⟩)
      show (if a = a then (match K.lookup a with | some _ => none | none => some (HO.frz ob (.lst (ns.map V.int)))) else none) = _
      rw [if_pos rfl, hk]
    | some o =>
      have e := inS a o hk
      rw [ha] at e
      cases e
      exact .inr ⟨_, vs.toArray, _, hk, rfl, rfl, rfl, by rw [List.size_toArray, hi.length]; exact hl, by simpa using rv⟩
  have ok : HOk P w H s.heap := fun b u e => by
    obtain ⟨rfl, _, rfl⟩ := hH b u e
    exact ⟨ha, by rw [List.length_map]; exact hl, vs, _, rv, ha⟩
  have low : ∀ {b : Addr} {o : Obj}, s.heap.get? b = some o → H b = none → (hidT s.heap H).get? b = some o := fun e n => hidT_get e n
  have lowD : ∀ {b : Addr} {m : Str → Option Value}, s.heap.Ns b m → (hidT s.heap H).Ns b m := fun {b m} ⟨o, es, ep, e, d, r⟩ => ⟨o, es, ep, low e (by
    cases q : H b with
    | none => rfl
    | some u =>
      obtain ⟨rfl, _, _⟩ := hH b u q
      rw [ha] at e
      cases e
      cases (show Data.seq vs.toArray _ = Data.dict es ep from d)), d, r⟩
  have inB : K.In (hidT s.heap H) := fun b o e => low (inS b o e) (by
    cases q : H b with
    | none => rfl
    | some u =>
      obtain ⟨rfl, n, _⟩ := hH b u q
      rw [n] at e
      cases e)
  have M : Mod K mg (hidT s.heap H) := ⟨inB, lowD hm, ⟨mb, lowD hb, bb⟩, let ⟨mc, h1, h2⟩ := free; ⟨mc, lowD h1, h2⟩⟩
  have e0 : Env0 P w K mg (hidT s.heap H) callerA [] s H := ⟨rfl, M, fun b o e => of_hidT e, Nat.le_of_eq (hidT_size _ _), trivial, fun b z => absurd (show b ∈ ([] : List Addr) from z) (by simp), ok, .of_eq hg⟩
  refine codeAny_mono (F _ inB (lowD hm) callerA [] s H [.ref a] [.ref a] _ _ rfl hr e0 (.cons rfl .nil) (hsp H only here)) fun r s' h => ?_
  cases r with
  | error e => exact h.elim
  | ok fl =>
    cases fl with
    | ret u =>
      obtain ⟨v, H', os, bare, un, ok', r', q⟩ := h
      cases (show v = V.bl true from q)
      cases (show u = Value.bool true from r')
      refine ⟨rfl, OldK.of_keep fun b o e => ?_, os, bare⟩
      cases z : H b with
      | none => exact un.keep b o e z (fun y => absurd (show b ∈ ([] : List Addr) from y) (by simp)) (by simp)
      | some u =>
        obtain ⟨rfl, _, rfl⟩ := hH b u z
        rw [ha] at e
        cases e
        exact (ok' b _ (un.frzs b _ _ z)).1
    | next => exact h.elim
    | brk => exact h.elim
    | cont => exact h.elim
/-- the goal behind the top, from the law's promise -/
theorem walk_G {l : PySem.W.OpenLaw} {n k : Nat} {q : Program} {loose : List Str} {XP : (Str → Option Value) → Heap → Prop} {YP : World → Heap → Prop} {d : DefRec} {K : Params → PySem.W.Frag} {sp : World → Sp}
    (hn : l.most = some n) (hn2 : n ≤ sizeLine) (hdf : d.params.defaults = []) (hr : Room k callerA) (hY : ∀ (w : World) (h : Heap), YP w h → (K w.params).In h)
    (F : ∀ (w : World) (mg : Str → Option Value) (fa : Addr) (h : Heap), (K w.params).In h → h.Ns mainGlobals mg → mg d.name = some (.ref fa) → ∀ base : Heap, (K w.params).In base → base.Ns mainGlobals mg → FnG l.prog w (K w.params) mg base CX0 k fa (sp w))
    (hsp : ∀ (w : World) (H : Hp) (a : Addr) (ns : List Int), ns.length ≤ n → Only H → SqL (K w.params) H a (ns.map V.int) → sp w [.ref a] H (fun v _ => v = .bl true) fun _ _ _ => False) :
    PySem.W.WalkO q loose XP YP l.row.toRowW d [] (fun f vs => PySem.call f vs) :=
  Att.attach_call hn hdf fun w s₀ s mg mb fa o pm cd doc a vs ns G Y ho hd hcd hmg hobj hints hlen hg =>
    law_G (hY w _ Y) G.T.g G.T.b G.T.builtins G.T.nolimit hg hobj hints (Nat.le_trans hlen hn2) hr (F w mg fa _ (hY w _ Y) G.T.g hmg) fun H hO hS => hsp w H a ns hlen hO hS
end Ws

namespace Ws
open PySem PySem.Spec PyProof.Rows L2
/-! ### repr of plain data -/
mutual
/-- data of short numbers and texts of real signs -/
def Tdy : PyData → Prop
  | .none => True
  | .bool _ => True
  | .int i => i.natAbs.log2 < 1900
  | .str x => ∀ c ∈ x.cps.toList, c < 16 ^ 8
  | .list xs => TdyA xs
  | .tuple xs => TdyA xs
  | .dict _ => False
def TdyA : List PyData → Prop
  | [] => True
  | x :: xs => Tdy x ∧ TdyA xs
end
mutual
theorem Tdy.get : ∀ {d : PyData}, Tdy d → d.showable = true ∧ d.hasDict = false ∧ d.leavesShort 1901 = true
  | .none, _ => ⟨rfl, rfl, rfl⟩
  | .bool _, _ => ⟨rfl, rfl, rfl⟩
  | .int i, h => by
    have h' : i.natAbs.log2 < 1900 := h
    refine ⟨?_, rfl, ?_⟩
    · simp only [PyData.showable, decide_eq_true_eq]; omega
    · show decide ((Str.ofString (toString i)).length ≤ 1901) = true
      rw [decide_eq_true_eq, PySem.ofString_length]
      exact int_text_length_le (by decide) h'
  | .str x, h => ⟨rfl, rfl, by simp only [PyData.leavesShort, List.all_eq_true, decide_eq_true_eq]; exact h⟩
  | .list xs, h => by
    obtain ⟨a, b, c⟩ := TdyA.get (xs := xs) h
    exact ⟨by simpa only [PyData.showable] using a, by simpa only [PyData.hasDict] using b, by simpa only [PyData.leavesShort] using c⟩
  | .tuple xs, h => by
    obtain ⟨a, b, c⟩ := TdyA.get (xs := xs) h
    exact ⟨by simpa only [PyData.showable] using a, by simpa only [PyData.hasDict] using b, by simpa only [PyData.leavesShort] using c⟩
  | .dict _, h => False.elim h
theorem TdyA.get : ∀ {xs : List PyData}, TdyA xs → PyData.showableAll xs = true ∧ PyData.hasDictAll xs = false ∧ PyData.leavesShortAll 1901 xs = true
  | [], _ => ⟨rfl, rfl, rfl⟩
  | x :: xs, h => by
    obtain ⟨h1, h2⟩ := (show Tdy x ∧ TdyA xs from h)
    obtain ⟨a, b, c⟩ := Tdy.get h1
    obtain ⟨d, e, f⟩ := TdyA.get h2
    exact ⟨by simp only [PyData.showableAll, a, d, Bool.and_self], by simp only [PyData.hasDictAll, b, e, Bool.or_self], by simp only [PyData.leavesShortAll, c, f, Bool.and_self]⟩
end
/-- a value that is shown -/
def Shw (K : PySem.W.Frag) (H : Hp) (x : V) (d : PyData) : Prop := Dp K H x d ∧ Tdy d ∧ d.bulk ≤ 8000 ∧ d.depth ≤ 60
section
variable {X : Cx}
def rRep (K : PySem.W.Frag) : List V → Hp → VK → Prop := fun xs H Q => ∃ a d, xs = [V.ref a] ∧ Shw K H (.ref a) d ∧ Q (.str d.shown) H
theorem call_rep {j : Nat} (cl : X.A.guards = some []) (hr : Room j X.A) : CallR X (.builtin "repr") (rRep X.K) := by
  intro pins s σ H xs us Q I r h
  obtain ⟨a, d, rfl, ⟨dp, ty, bk, de⟩, q⟩ := h
  obtain ⟨u, rfl, ru⟩ := vals1 r
  cases (show u = Value.ref a from ru)
  obtain ⟨as, rd⟩ := Dp.reads I d _ _ dp rfl
  obtain ⟨sh, nd, sl⟩ := ty.get
  have sz := PyData.shown_le_bulk 1901 (by decide) d sl
  have sz2 : d.shown.length ≤ sizeLine := by
    have : sizeLine = 16777216 := by decide
    have : (1901 + 2) * d.bulk ≤ 1903 * 8000 := Nat.mul_le_mul (by decide) bk
    omega
  refine repr_of_reads' rd sh (PyData.noDict_hsm nd) cl ?_ (fun _ _ e => e) (fun h' u tk hk => ⟨.str d.shown, H, I.kept hk, ⟨u, rfl⟩, q⟩) sz2
  have := hr.un
  omega
end
end Ws
namespace Ws
open PySem PySem.Spec PyProof.Rows L2
section
variable {X : Cx} {j k : Nat} {C : Addr} {sp : Sp}
/-- abs(a) by a's own __abs__ -/
theorem call_absO (c : OpnF X.prog X.w X.K X.mg X.base k C "__abs__" sp) (hr : Room j X.A) (hk : k + 1 ≤ j) : CallR X (.builtin "abs") (fun xs H Q => ∃ a dx fs, xs = [V.ref a] ∧ H a = some (.ins C dx fs) ∧ sp [.ref a] H Q E0) := by
  obtain ⟨f, h1, h2, F⟩ := c
  intro pins s σ H xs us Q I r h
  obtain ⟨a, dx, fs, rfl, ea, q⟩ := h
  obtain ⟨u, rfl, ru⟩ := vals1 r
  cases (show u = Value.ref a from ru)
  obtain ⟨ox, od, J⟩ := inst_of I ea
  refine Calls.call_function_entry kind_abs plain_abs entry_abs (args_abs _) ?_
  unfold Builtin.«abs»
  refine wpAny_bind (m := oneArg "abs" _) (wpAny_pure ?_)
  refine wpAny_bind (PySem.W.special_fn I.kIn J h1 (beq_iff_eq.mp h2) (wpAny_mono (run_in1 (us := [.ref a]) (vs := [.ref a]) F (hr.mono hk) I (.cons rfl .nil) q) (fun v s' hv => ?_) fun _ _ z => z))
  exact wpAny_pure ⟨_, rfl, hv⟩
end
end Ws
namespace Ws
open PySem PySem.Spec PyProof.Rows L2
section
variable {prog : Program} {w : World}
theorem bool_new_own {x : Addr} : MeetsIn prog w (Builtin.«bool.__new__» ⟨[.type "bool", .ref x], []⟩) (fun A R s => wpAny (model prog w) A.in1 (truthy (.ref x)) (fun b s' => R (.ok (.ret (.bool b))) s') (fun e s' => R (.error e) s') s) :=
  .of_wp fun A R s h => by
    have f1 := F.conv_sub_bool
    unfold Builtin.«bool.__new__»
    repeat (first
      | assumption
      | (refine wpAny_bind (m := truthy (.ref x)) (wpAny_mono h (fun b s' q => ?_) fun _ _ z => z))
      | wp_step)
    all_goals first | exact q | exact ⟨_, rfl, q⟩ | skip
theorem run_in2 {X : Cx} {k : Nat} {sp : Sp} {f : Addr} {pins : List (Addr × Obj)} {σ : L2.St} {H : Hp} {s : Shared} {Q : VK} {us : List Value} {vs : List V} {Ex : Value → Shared → Prop} (F : FnR X.prog X.w X.K X.mg X.base CX0 k f sp) (hr : Room (k + 2) X.A) (I : Inv X pins σ H s) (r : Vals vs us) (h : sp vs H Q E0) :
    wpAny (model X.prog X.w) X.A.in1.in1 (call (.ref f) us) (EP X pins σ Q) Ex s := by
  refine wpAny_call (codeAny_mono (F X.A.in1.in1 X.stack s H us vs Q E0 (Room.in1 (Room.in1 hr)) I.env0.in1.in1 r h) fun r s' hq => ?_)
  cases r with
  | error er => exact hq.elim
  | ok fl =>
    cases fl with
    | ret u => exact I.after hq
    | next => exact False.elim hq
    | brk => exact False.elim hq
    | cont => exact False.elim hq
section
variable {X : Cx} {j k : Nat} {C : Addr} {sp : Sp}
/-- bool(a) by a's own __bool__ -/
theorem call_boolO (c : OpnF X.prog X.w X.K X.mg X.base k C "__bool__" sp) (hr : Room j X.A) (hk : k + 2 ≤ j) : CallR X (.type "bool") (fun xs H Q => ∃ a dx fs, xs = [V.ref a] ∧ H a = some (.ins C dx fs) ∧ sp [.ref a] H (fun v H' => ∃ b, v = .bl b ∧ Q (.bl b) H') E0) := by
  obtain ⟨f, h1, h2, G⟩ := c
  intro pins s σ H xs us Q I r h
  obtain ⟨a, dx, fs, rfl, ea, q⟩ := h
  obtain ⟨u, rfl, ru⟩ := vals1 r
  cases (show u = Value.ref a from ru)
  obtain ⟨ox, od, J⟩ := inst_of I ea
  obtain ⟨m, hF⟩ := I.fr
  refine callType_newIn PySem.F.called_bool PySem.F.newNe_bool (PySem.F.typeCall_bool_1 _) (PySem.F.newCall_bool_1 _) (fun obj => PySem.F.args_object_init_2 obj _) PySem.F.entry_bool_new bool_new_own ?_
  refine PySem.W.truthy_K hF I.ok.mod.kin J h1 h2 (wpAny_mono (run_in2 (us := [.ref a]) (vs := [.ref a]) G (hr.mono hk) I (.cons rfl .nil) q) (fun r s' hv => ?_) fun _ _ z => z)
  obtain ⟨y, H', I', ry, b, rfl, qb⟩ := hv
  cases (show r = Value.bool b from ry)
  exact ⟨rfl, .bl b, H', I', rfl, qb⟩
end
end
end Ws

namespace Ws
open PySem PySem.Spec PyProof.Rows L2
/-! ### an own error, caught and kept in a variable behind the suite -/
/-- at a: an error of the class cls, its dict at d -/
def Kx (cls : Value) (d : Option Addr) (a : Addr) : HO := .ext fun h => ∃ (oe : Obj) (vs : Array Value), h.get? a = some oe ∧ Zc cls d oe ∧ oe.data = .fields vs
theorem kx_ok {P : Program} {w : World} {H : Hp} {h : Heap} {a : Addr} {cls : Value} {d : Option Addr} {oe : Obj} {vs : Array Value} (e : h.get? a = some oe) (z : Zc cls d oe) (hd : oe.data = .fields vs) : ObjOk P w H h a (Kx cls d a) :=
  ⟨⟨oe, vs, e, z, hd⟩, ⟨oe, e⟩, fun _ _ ⟨o, v, q, r⟩ k => ⟨o, v, k o q, r⟩⟩
theorem kx_at {P : Program} {w : World} {H : Hp} {h : Heap} {a : Addr} {cls : Value} {d : Option Addr} (ok : HOk P w H h) (e : H a = some (Kx cls d a)) : ∃ (oe : Obj) (vs : Array Value), h.get? a = some oe ∧ Zc cls d oe ∧ oe.data = .fields vs := by
  have x : ObjOk P w H h a (.ext fun h => ∃ (oe : Obj) (vs : Array Value), h.get? a = some oe ∧ Zc cls d oe ∧ oe.data = .fields vs) := ok a _ e
  exact x.1
section
variable {X : Cx} {pins : List (Addr × Obj)} {σ : L2.St} {H : Hp} {s : Shared}
/-- an object that is pinned, and new since the entry, is tracked from here on -/
theorem track {a : Addr} {oe : Obj} {vs : Array Value} {o : HO} (I : Inv X ((a, oe) :: pins) σ H s) (new : X.s_0.heap.get? a = none) (off : ∀ p ∈ X.pn ++ pins, p.1 ≠ a) (hd : oe.data = .fields vs) (ob : ObjOk X.prog X.w (upd H a o) s.heap a o) : Inv X pins σ (upd H a o) s := by
  obtain ⟨ha, na, nL, nF, _⟩ := I.pin (a, oe) (List.mem_append_right _ List.mem_cons_self)
  have was : ∀ {b : Addr} {u : HO}, H b = some u → b ≠ a := fun {b u} e z => by rw [z, na] at e; cases e
  have old : ∀ {b : Addr} {u : Obj}, X.s_0.heap.get? b = some u → b ≠ a := fun {b u} e z => by rw [z, new] at e; cases e
  refine ⟨I.ok, I.os, I.bare, ⟨I.base.keep, I.base.slot, fun b u e n x => (upd_ne (old e)).trans (I.base.free b u e n x), I.base.there, fun b xs e => ?_, fun b u v e => ?_, fun b ps e => ?_⟩, I.loc, I.cell, (upd_ne (Ne.symm nL)).trans I.free, fun x c e => ?_, fun p hp => ?_, fun b u e => ?_, I.len⟩
  · have q := I.base.tups b xs e
    exact (upd_ne (was q)).trans q
  · have q := I.base.frzs b u v e
    exact (upd_ne (was q)).trans q
  · obtain ⟨m, q⟩ := I.base.tbls b ps e
    exact ⟨m, (upd_ne (was q)).trans q⟩
  · refine (upd_ne fun z => ?_).trans (I.freeC x c e)
    obtain ⟨v, oc, e1, e2⟩ := I.cell x c e
    rw [z, ha] at e1
    cases e1
    rw [hd] at e2
    cases e2
  · have hp' : p ∈ X.pn ++ ((a, oe) :: pins) := by
      rcases List.mem_append.mp hp with h | h
      · exact List.mem_append_left _ h
      · exact List.mem_append_right _ (List.mem_cons_of_mem _ h)
    obtain ⟨q1, q2, q3⟩ := I.pin p hp'
    exact ⟨q1, (upd_ne (off p hp)).trans q2, q3⟩
  · by_cases hb : b = a
    · subst hb
      rw [upd_same] at e
      cases e
      exact ob
    · rw [upd_ne hb] at e
      exact (I.hok b u e).stay (fun c v _ q => q) (fun c q => (upd_ne (was q)).trans q) fun c xs q => (upd_ne (was q)).trans q
end
/-- the wish of a try whose clause keeps what it catches: slot i is the clause's name -/
def wKeep (K : PySem.W.Frag) (c : Value) (i : Nat) (ts : Addr → Value → Option Addr → TS) (D : Ends) : WX := fun cls d σ H =>
  PySem.W.exmOne K cls c = some true ∧ ∀ a, H a = none → ts a cls d { nx := fun σ' H' => D.nx (σ'.set i none) (upd H' a (Kx cls d a)), rt := fun _ _ => False } (σ.set i (some (.ref a))) H
section
variable {X : Cx} {x n : Str} {c : Value} {i : Nat} {body suite : List Stmt} {b0 : Stmt} {np pos pos' : Pos} {tb : WX → TS} {ts : Addr → Value → Option Addr → TS}
theorem ps_keep (hs : X.stack = X.env :: X.outer) (hf : X.env.frame = some X.env.locals) (hex : X.ex = []) (hN : X.N.Nodup) (hi : X.N[i]? = some n) (hln : X.env.kindOf n = some .local) (hc : Names X x c)
    (hb : ∀ (W : WX) (pn : List (Addr × Obj)) (xe : Value → Shared → Prop), Takes (X.tr pn xe) W → PassesOwn (model X.prog X.w) X.A X.env xe → PSs (X.tr pn xe) body (tb W))
    (hsu : ∀ (a : Addr) (oe : Obj) (cls : Value) (d : Option Addr) (pn : List (Addr × Obj)), Zc cls d oe → (∃ vs, oe.data = .fields vs) → PSs (X.suite a ((a, oe) :: pn)) (b0 :: suite) (ts a cls d)) :
    PS X (.Try body [.ExceptHandler (some (.Name x np)) (some n) (b0 :: suite) pos'] [] [] pos) (fun D σ H => tb (wKeep X.K c i ts D) D σ H) := by
  refine ⟨fun pins s σ H D I h => wpAny_Try_except ?_⟩
  have ok := I.ok
  have frames : X.A.frames = some (X.env :: X.outer) := ok.frames.trans (congrArg some hs)
  let Ex : Value → Shared → Prop := fun e s₁ => wpAny (model X.prog X.w) X.A (noteFrame e X.env) (fun _ s₂ => wpAny (model X.prog X.w) X.A (setFlight e none) (fun _ s₃ =>
    wpAny (model X.prog X.w) X.A (handleBy e X.env [.ExceptHandler (some (.Name x np)) (some n) (b0 :: suite) pos']) (SP X pins D) X.xe s₃) X.xe s₂) X.xe s₁
  have takes : Takes (X.tr (X.pn ++ pins) Ex) (wKeep X.K c i ts D) := by
    rintro u s' ⟨a, B, sI, pins1, σ1, H1, cls, d, rfl, J0, nb, up, sky, na, os, ag, hex1, suiteOk⟩
    have J : Inv X pins σ1 H1 sI := J0.ofTry ok
    have sky1 : Sky B (X.env :: X.outer) a (Zc cls d) X.env.locals s'.heap := hs ▸ sky
    show wpAny (model X.prog X.w) X.A (noteFrame (.ref a) X.env) _ _ _
    refine Sky.land Zc.steady frames hf sky1 fun hA flA upA => ?_
    have JA : Inv X pins σ1 H1 { s' with heap := hA } := J.landed nb flA.1 (up.trans upA) os ag
    obtain ⟨oA, vA, eA, zA, dA⟩ := flA.there
    have notFrame : a ∉ frs (X.env :: X.outer) := fun hm => by
      obtain ⟨_, o2, e2, hn⟩ := flA.2.2.1.mem hm
      rw [eA] at e2
      cases e2
      exact hn _ dA
    have nL : a ≠ X.env.locals := fun z => notFrame (List.mem_filterMap.mpr ⟨X.env, List.mem_cons_self, by rw [hf, z]⟩)
    have nF : a ∉ X.fs := fun hm => by
      obtain ⟨e, he, q⟩ := List.mem_filterMap.mp hm
      exact notFrame (List.mem_filterMap.mpr ⟨e, List.mem_cons_of_mem _ he, q⟩)
    have freshB : B.get? a = none := flA.2.1
    have freshI : sI.heap.get? a = none := by
      cases q : sI.heap.get? a with
      | none => rfl
      | some o =>
        have z := nb a o q (by rw [hs]; exact notFrame)
        rw [freshB] at z
        cases z
    have fresh0 : X.s_0.heap.get? a = none := by
      cases q : X.s_0.heap.get? a with
      | none => rfl
      | some o =>
        obtain ⟨o2, z⟩ := J.base.there a o q (by rw [hex]; exact fun y => nomatch y)
        rw [freshI] at z
        cases z
    have off : ∀ p ∈ X.pn ++ pins, p.1 ≠ a := fun p hp z => by
      have q := (J.pin p hp).1
      rw [z, freshI] at q
      cases q
    have SA := JA.suite eA dA na nL nF
    refine wpAny_handleBy_cons (codeAny_handlers_test ?_) (by intro q; cases q)
    have LT : PySem.W.Looks (model X.prog X.w) hA (typeOf (.ref a)) cls := fun A Q E s k q => wpAny_typeOf_ref (k _ _ eA) (by rw [zA.1]; exact q)
    have LM := PySem.W.exm_one (M := model X.prog X.w) JA.kIn LT hex1
    have named : ∀ {Q : Value → Shared → Prop} {E : Value → Shared → Prop}, Q c { s' with heap := hA } → wpAny (model X.prog X.w) (X.A.mark (some (.ref a))) (eval (.Name x np) X.env) Q E { s' with heap := hA } := fun {Q E} q => by
      obtain ⟨g1, g2, g3 | ⟨g3, g4, g5⟩⟩ := hc
      · exact ld_glob (X := X.suite a ((a, oA) :: (X.pn ++ pins))) SA g1 g3 q g2
      · exact ld_blt (X := X.suite a ((a, oA) :: (X.pn ++ pins))) SA g1 g3 g4 q g5 g2
    refine named (LM.here (codeAny_handlers_suite_as ?_))
    refine HandSPX.lands_againZ flA fun hB flB upB => ?_
    have JB : Inv X pins σ1 H1 { s' with heap := hB } := J.landed nb flB.1 ((up.trans upA).trans upB) os ag
    obtain ⟨oB, vB, eB, zB, dB⟩ := flB.there
    refine store_ok (X := X.suite a ((a, oB) :: (X.pn ++ pins))) (v := .ref a) (JB.suite eB dB na nL nF) hN hi (.inl hln) rfl (fun s5 S5 => ?_) (.inr hln)
    refine wpAny_mono ((hsu a oB cls d (X.pn ++ pins) zB ⟨_, dB⟩).run [] s5 _ H1 _ S5 (suiteOk a na)) (fun f s6 out => ?_) (fun _ _ z => z.elim)
    cases f with
    | next =>
      obtain ⟨σ6, H6, S6, q6⟩ := out
      have T6 : Inv X ((a, oB) :: pins) σ6 H6 s6 := ⟨ok, S6.os, S6.bare, S6.base, S6.loc, S6.cell, S6.free, S6.freeC, fun p hp => S6.pin p (by
        rw [List.append_nil]
        rcases List.mem_append.mp hp with z | z
        · exact List.mem_cons_of_mem _ (List.mem_append_left _ z)
        · rcases List.mem_cons.mp z with z | z
          · rw [z]; exact List.mem_cons_self
          · exact List.mem_cons_of_mem _ (List.mem_append_right _ z)), S6.hok, S6.len⟩
      refine gone_ok T6 hN hi hln fun s7 J7 => ?_
      have e7 := (J7.pin (a, oB) (List.mem_append_right _ List.mem_cons_self)).1
      exact ⟨_, _, track J7 fresh0 off dB (kx_ok e7 zB dB), q6⟩
    | ret u => obtain ⟨_, _, _, _, _, q6⟩ := out; exact q6.elim
    | brk => obtain ⟨_, _, _, q6⟩ := out; exact False.elim q6
    | cont => obtain ⟨_, _, _, q6⟩ := out; exact False.elim q6
  refine wpAny_mono ((hb (wKeep X.K c i ts D) (X.pn ++ pins) Ex takes PassesOwn.looking).run [] s σ H D (I.toTry _) h) (fun f s1 out => ?_) fun e s1 z => z
  cases f with
  | next => obtain ⟨σ1, H1, J1, q⟩ := out; exact wpAny_execs_nil ⟨σ1, H1, J1.ofTry ok, q⟩
  | ret u => obtain ⟨v, σ1, H1, J1, r, q⟩ := out; exact ⟨v, σ1, H1, J1.ofTry ok, r, q⟩
  | brk => obtain ⟨σ1, H1, J1, q⟩ := out; exact ⟨σ1, H1, J1.ofTry ok, q⟩
  | cont => obtain ⟨σ1, H1, J1, q⟩ := out; exact ⟨σ1, H1, J1.ofTry ok, q⟩
end
end Ws
namespace Ws
open PySem PySem.Spec PyProof.Rows L2
/-! ### calls that may raise, within a try or in a def that lets it out -/
/-- a method whose error is told -/
def MetE (P : Program) (w : World) (K : PySem.W.Frag) (mg : Str → Option Value) (base : Heap) (CX : CXT) (k : Nat) (C : Addr) (m : Str) (sp : Sp) : Prop := ∃ f : Addr, Cls K C ∧ Meth K C m f ∧ FnR P w K mg base CX k f sp
/-- a def whose error is told -/
def CalE (P : Program) (w : World) (K : PySem.W.Frag) (mg : Str → Option Value) (base : Heap) (CX : CXT) (k : Nat) (x : Str) (sp : Sp) : Prop := ∃ f : Addr, FnR P w K mg base CX k f sp ∧ mg x = some (.ref f) ∧ PySem.W.keepIn K (.ref f) = true
section
variable {X : Cx} {CX : CXT} {k j : Nat} {C f : Addr} {sp : Sp} {E : L2.St → XK} {x m : Str} {p pos apos : Pos} {e o : Expr} {es : List Expr} {ta : TE} {t : TA}
theorem run_S {pins : List (Addr × Obj)} {σ : L2.St} {H : Hp} {s : Shared} {Q : VK} {us : List Value} {vs : List V} (F : FnR X.prog X.w X.K X.mg X.base CX k f sp) (hr : Room k X.A) (hx : PassesAt CX X σ (E σ))
    (I : Inv X pins σ H s) (r : Vals vs us) (h : sp vs H Q (E σ)) : wpAny (model X.prog X.w) X.A (call (.ref f) us) (EP X pins σ Q) X.xe s := by
  refine wpAny_call (codeAny_mono (F X.A X.stack s H us vs Q (E σ) hr I.env0 r h) fun out s' q => ?_)
  cases out with
  | error e => exact hx pins H s e s' I q
  | ok fl => cases fl with
    | ret u => exact I.after q
    | next => exact q.elim
    | brk => exact q.elim
    | cont => exact q.elim
/-- f(e, ..) -/
def tFS (sp : Sp) (E : L2.St → XK) (t : TA) : TE := fun σ H Q => t σ H fun vs H1 => sp vs H1 Q (E σ)
theorem pe_fS (c : CalE X.prog X.w X.K X.mg X.base CX k x sp) (hr : Room j X.A) (hk : k ≤ j) (hx : ∀ σ, PassesAt CX X σ (E σ)) (hg : Gl X x) (ha : PA X (e :: es) t) (hdb : (x == ("__debug__" : Str)) = false := by decide)
    (he : starEach (e :: es) X.env = (false, eval e X.env) :: starEach es X.env := by rfl) (hpl : (backTo pos (starEach es X.env)).any (·.1) = false := by rfl) : PE X (.Call (.Name x p) (e :: es) [] pos) (tFS sp E t) := by
  obtain ⟨f, F, hm, hkp⟩ := c
  refine ⟨fun pins s σ H Q I h => ?_⟩
  refine wpAny_Call_Name_kw (ld_glob I hg hm ?_ hdb)
  refine PySem.W.callWith_K (h₀ := X.base) I.ok.mod.kin hkp (thn (ha.run pos pins s σ H _ I h) fun us s1 ⟨vs, H1, I1, r, q⟩ => ⟨I1.kIn, ?_⟩) he hpl
  exact run_S F (hr.mono hk) (hx σ) I1 r q
/-- o.m(e, ..) -/
def tMtS (C : Addr) (m : Str) (sp : Sp) (E : L2.St → XK) (ta : TE) (t : TA) : TE := fun σ H Q => ta σ H fun x H1 => ∃ a dx fs, x = .ref a ∧ H1 a = some (.ins C dx fs) ∧ fs.lookup m = none ∧ t σ H1 fun vs H2 => sp (x :: vs) H2 Q (E σ)
theorem pe_mtS {pl : Sem Bool} (c : MetE X.prog X.w X.K X.mg X.base CX k C m sp) (hr : Room j X.A) (hk : k ≤ j) (hx : ∀ σ, PassesAt CX X σ (E σ)) (he : PE X o ta) (ha : PA X (e :: es) t)
    (hst : starEach (e :: es) X.env = (false, eval e X.env) :: starEach es X.env := by rfl) (hpl : (backTo pos (starEach es X.env)).any (·.1) = false := by rfl)
    (ht : eval (.Call (.Attribute o m apos) (e :: es) [] pos) X.env = (do
      let ov ← eval o X.env
      standAt apos.atName
      let (f, first) ← holding [ov] (getMethod ov m pl)
      callWith pos f first (backTo pos (starEach (e :: es) X.env)) (backToKw pos (keywordEach [] X.env))) := by rfl) :
    PE X (.Call (.Attribute o m apos) (e :: es) [] pos) (tMtS C m sp E ta t) := by
  obtain ⟨f, hc, hm, F⟩ := c
  refine ⟨fun pins s σ H Q I h => ?_⟩
  refine PySem.W.methodCall_KW (pl := pl) (thn (he.run pins s σ H _ I h) fun u s1 ⟨x, H1, I1, rx, a, dx, fs, ex, ea, l, q⟩ => ?_) ht
  subst ex
  obtain rfl : u = Value.ref a := rx
  refine getmeth_ok I1 ea hc hm l ?_
  refine PySem.W.callWith_K (first := [.ref a]) (h₀ := X.base) I.ok.mod.kin hm.kp (thn (ha.run pos pins s1 σ H1 _ I1 q) fun us s2 ⟨vs, H2, I2, r, q2⟩ => ⟨I2.kIn, ?_⟩) hst hpl
  exact run_S (us := .ref a :: us) (vs := .ref a :: vs) F (hr.mono hk) (hx σ) I2 (.cons rfl r) q2
/-- C(e, ..), its __init__ may raise -/
def tMkS (C : Addr) (sp : Sp) (E : L2.St → XK) (t : TA) : TE := fun σ H Q => t σ H fun vs H1 => ∀ x dx, H1 x = Option.none → H1 dx = Option.none → dx ≠ x → sp (V.ref x :: vs) (upd (upd H1 dx (.own x)) x (.ins C dx [])) (fun v H2 => v = .non ∧ Q (.ref x) H2) (E σ)
end
/-! ### what a kept error is asked -/
/-- an own error class with its own __init__ -/
structure ErrC (K : PySem.W.Frag) (C : Addr) : Prop where
  ga : PySem.W.findIn K (.ref C) "__getattribute__" = some (some (.builtin "BaseException.__getattribute__"))
  gg : PySem.W.findIn K (.ref C) "__getattr__" = some none
  exC : PySem.W.subIn K (.ref C) (.type "BaseException") = some true
  hdC : PySem.W.hasDictIn K C = true
  ca : PySem.W.findIn K (.ref C) "__class__" = some (some (.builtin "object.__class__"))
  hn : PySem.W.specialIn K (.builtin "object.__class__") "__get__" = some (some (.builtin "getset_descriptor.__get__"))
  ht : PySem.W.takesIn K (.builtin "object.__class__") = some true
  hm : PySem.W.mroIn K C (.type "object") = some true
theorem ErrC.isc {K : PySem.W.Frag} {C : Addr} (T : ErrC K C) : (PySem.W.clsIn K C).isSome = true := by
  obtain ⟨cd, hc, _⟩ := PySem.W.any_some T.hdC
  rw [hc]
  rfl
section
variable {X : Cx} {C D : Addr}
theorem kx_inst {pins : List (Addr × Obj)} {σ : L2.St} {H : Hp} {s : Shared} {a d : Addr} {fs : List (Str × V)} (I : Inv X pins σ H s) (e : H a = some (Kx (.ref C) (some d) a)) (ed : H d = some (.xd fs)) :
    ∃ ox od, PySem.W.InstAt s.heap a ox C (some od) ∧ ∀ (f : Str) (v : V), fs.lookup f = some v → ∃ u, PySem.W.lookIn f od = some (some u) ∧ L2.RelV v u := by
  obtain ⟨oe, vs, e1, z, hd⟩ := kx_at I.hok e
  have hx : ObjOk X.prog X.w H s.heap d (.xd fs) := I.hok d _ ed
  obtain ⟨mA, hns, hr⟩ := hx
  obtain ⟨od, ho, hl⟩ := lookIn_ns hns
  refine ⟨oe, od, ⟨e1, z.1, by unfold PySem.W.notCls; rw [hd] <;> rfl, by rw [z.2]; exact ho⟩, fun f v l => ?_⟩
  obtain ⟨u, hu, ru⟩ := RelO.some_of (v := v) (o := mA f) (by rw [← l]; exact hr f)
  exact ⟨u, (hl f).trans (congrArg some hu), ru⟩
/-- caught.f -/
def tKx (C : Addr) (f : Str) (te : TE) : TE := fun σ H Q => te σ H fun x H1 => ∃ (a d : Addr) (fs : List (Str × V)) (v : V), x = .ref a ∧ H1 a = some (Kx (.ref C) (some d) a) ∧ H1 d = some (.xd fs) ∧ fs.lookup f = some v ∧ Q v H1
theorem pe_kx {e : Expr} {te : TE} {pos : Pos} {n : Str} (T : ErrC X.K C) (hno : PySem.W.findIn X.K (.ref C) n = some none) (he : PE X e te) (hb : attributeBase e n X.env (eval e X.env) = eval e X.env := by rfl) : PE X (.Attribute e n pos) (tKx C n te) := by
  refine ⟨fun pins s σ H Q I h => attr_of hb (thn (he.run pins s σ H _ I h) fun u s1 out => ?_)⟩
  obtain ⟨y, H1, I1, ry, a, d, fs, v, rfl, ea, ed, l, q⟩ := out
  obtain rfl : u = Value.ref a := ry
  obtain ⟨ox, od, J, look⟩ := kx_inst I1 ea ed
  obtain ⟨v', hv, rv⟩ := look n v l
  exact HandSPX.exc_get I1.kIn J T.ga T.gg T.exC (PySem.W.findObj_own T.hdC hno rfl hv) (handed_of rv) ⟨v, H1, I1.tok _, rv, q⟩
/-- isinstance(caught, D) -/
def rKis (K : PySem.W.Frag) : List V → Hp → VK → Prop := fun xs H Q => ∃ (a d C D : Addr) (fs : List (Str × V)) (b : Bool), xs = [.ref a, .ref D] ∧ H a = some (Kx (.ref C) (some d) a) ∧ H d = some (.xd fs) ∧ ErrC K C ∧ PySem.W.kitOne K (.ref C) (.ref D) = some b ∧ Q (.bl b) H
theorem call_kis : CallR X (.builtin "isinstance") (rKis X.K) := by
  intro pins s σ H xs us Q I r h
  obtain ⟨a, d, C, D, fs, b, rfl, ea, ed, T, kk, q⟩ := h
  cases r with
  | cons r1 r2 =>
    cases r2 with
    | cons r2 r3 =>
      cases r3
      cases r1
      cases r2
      obtain ⟨ox, od, J, _⟩ := kx_inst I ea ed
      exact PySem.W.kia_one (PySem.W.kitx_exc T.isc T.ga T.gg T.exC T.ca T.hn T.ht T.hm) I.kIn J kk (fun z => nomatch z) fun tk => ⟨.bl b, H, I.kept (t' := tk) fun _ _ z => z, rfl, q⟩
end
end Ws
namespace Ws
open PySem PySem.Spec PyProof.Rows L2
section
variable {X : Cx} {CX : CXT} {k j : Nat} {C f : Addr} {sp : Sp} {E : L2.St → XK} {x : Str} {p pos : Pos} {e : Expr} {es : List Expr} {t : TA} {fd : FuncData} {ps ks : List Str} {g : List Value → List Value → List Value} {gV : List V → List V → List V}
theorem run_mkS {pins : List (Addr × Obj)} {σ : L2.St} {H : Hp} {s : Shared} {Q : VK} {us : List Value} {vs : List V} (M : Mk X.K C f) (F : FnR X.prog X.w X.K X.mg X.base CX k f sp) (hr : Room (k + 1) X.A) (hx : PassesAt CX X σ (E σ)) (I : Inv X pins σ H s) (r : Vals vs us)
    (h : ∀ x dx, H x = Option.none → H dx = Option.none → dx ≠ x → sp (V.ref x :: vs) (upd (upd H dx (.own x)) x (.ins C dx [])) (fun v H2 => v = .non ∧ Q (.ref x) H2) (E σ)) : wpAny (model X.prog X.w) X.A (call (.ref C) us) (EP X pins σ Q) X.xe s := by
  have now := h (s.heap.objs.size + 1) s.heap.objs.size (I.hok.fresh (Nat.le_succ _)) (I.hok.fresh (Nat.le_refl _)) (Nat.ne_of_lt (Nat.lt_succ_self _))
  have I2 := Inv.made (C := C) I
  refine wpAny_call (make_map (f := f) I.kIn M.makes M.init (beq_iff_eq.mp M.fn) (codeAny_mono (F _ X.stack _ _ (Value.ref (s.heap.objs.size + 1) :: us) (V.ref (s.heap.objs.size + 1) :: vs) _ (E σ) (hr.make C us []) (I2.env0.make C us []) (.cons rfl r) now) fun out s' q => ?_))
  cases out with
  | error e => exact hx pins _ _ e s' I2 q
  | ok fl => cases fl with
    | ret u =>
      obtain ⟨v, H3, I3, rv, ev, q3⟩ := I2.after q
      cases ev
      exact ⟨rv, V.ref (s.heap.objs.size + 1), H3, I3, rfl, q3⟩
    | next => exact q.elim
    | brk => exact q.elim
    | cont => exact q.elim
/-- a class whose __init__ may raise -/
def MakE (P : Program) (w : World) (K : PySem.W.Frag) (mg : Str → Option Value) (base : Heap) (CX : CXT) (k : Nat) (x : Str) (C : Addr) (sp : Sp) : Prop := ∃ f : Addr, Mk K C f ∧ FnR P w K mg base CX k f sp ∧ mg x = some (.ref C)
theorem pe_mkS (c : MakE X.prog X.w X.K X.mg X.base CX k x C sp) (hr : Room j X.A) (hk : k + 1 ≤ j) (hx : ∀ σ, PassesAt CX X σ (E σ)) (hg : Gl X x) (ha : PA X (e :: es) t) (hdb : (x == ("__debug__" : Str)) = false := by decide)
    (he : starEach (e :: es) X.env = (false, eval e X.env) :: starEach es X.env := by rfl) (hpl : (backTo pos (starEach es X.env)).any (·.1) = false := by rfl) : PE X (.Call (.Name x p) (e :: es) [] pos) (tMkS C sp E t) := by
  obtain ⟨f, M, F, hm⟩ := c
  refine ⟨fun pins s σ H Q I h => wpAny_Call_Name_kw (ld_glob I hg hm ?_ hdb)⟩
  refine PySem.W.callWith_K (h₀ := X.base) I.ok.mod.kin M.kp (thn (ha.run pos pins s σ H _ I h) fun us s1 ⟨vs, H1, I1, r, q⟩ => ⟨I1.kIn, ?_⟩) he hpl
  exact run_mkS M F (hr.mono hk) (hx σ) I1 r q
/-- no error at all is let out -/
theorem passN {X : Cx} {E : XK} (h : ∀ c d H, ¬ E c d H) : Passes (L2.CX X.prog X.w) X E := fun _ _ _ _ _ _ _ c => by
  obtain ⟨_, _, _, _, _, _, _, _, _, _, _, _, z⟩ := c
  exact (h _ _ _ z).elim
theorem passNS {X : Cx} : ∀ σ, PassesAt (L2.CX X.prog X.w) X σ E0 := fun σ _ _ _ _ _ _ c => by
  obtain ⟨_, _, _, _, _, _, _, _, _, _, _, _, z⟩ := c
  exact z.elim
end
end Ws
namespace Ws
open PySem PySem.Spec PyProof.Rows L2
section
variable {X : Cx} {CX : CXT} {k n : Nat} {C f : Addr} {sp : Sp} {E : L2.St → XK} {x : Str} {p pos : Pos} {e : Expr} {es : List Expr} {kws : List Keyword} {t tk : TA} {fd : FuncData} {ps ks : List Str} {g : List Value → List Value → List Value} {gV : List V → List V → List V}
theorem run_mkKS {pins : List (Addr × Obj)} {σ : L2.St} {H : Hp} {s : Shared} {Q : VK} {us ws : List Value} {vs zs : List V} (M : Mk X.K C f) (F : FnOk X.prog X.w X.K X.mg X.base CX k f fd ps sp) (hr : Room (k + 1) X.A) (hb : KBn X.K fd ps (n + 1) ks g gV) (hx : PassesAt CX X σ (E σ))
    (I : Inv X pins σ H s) (r : Vals vs us) (rz : Vals zs ws) (l1 : vs.length = n) (l2 : zs.length = ks.length)
    (h : ∀ x dx, H x = Option.none → H dx = Option.none → dx ≠ x → sp (gV (.ref x :: vs) zs) (upd (upd H dx (.own x)) x (.ins C dx [])) (fun v H2 => v = .non ∧ Q (.ref x) H2) (E σ)) :
    wpAny (model X.prog X.w) X.A (call (.ref C) us (ks.zip ws)) (EP X pins σ Q) X.xe s := by
  have now := h (s.heap.objs.size + 1) s.heap.objs.size (I.hok.fresh (Nat.le_succ _)) (I.hok.fresh (Nat.le_refl _)) (Nat.ne_of_lt (Nat.lt_succ_self _))
  have I2 := Inv.made (C := C) I
  have all := hb.rel (Paired.cons (show L2.RelV (V.ref (s.heap.objs.size + 1)) (Value.ref (s.heap.objs.size + 1)) from rfl) r) rz
  have len : (Value.ref (s.heap.objs.size + 1) :: us).length = n + 1 := congrArg (· + 1) (r.length.symm.trans l1)
  refine wpAny_call (make_map (f := f) I.kIn M.makes M.init (beq_iff_eq.mp M.fn) (codeAny_mono (F.run _ X.stack _ _ ⟨Value.ref (s.heap.objs.size + 1) :: us, ks.zip ws⟩ (g (Value.ref (s.heap.objs.size + 1) :: us) ws) _ _ (E σ) (hr.make C us (ks.zip ws))
    (I2.env0.make C us (ks.zip ws)) (hb.to _ _ ws I2.kIn len (rz.length.symm.trans l2)) all now) fun out s' q => ?_))
  cases out with
  | error e => exact hx pins _ _ e s' I2 q
  | ok fl => cases fl with
    | ret u =>
      obtain ⟨v, H3, I3, rv, ev, q3⟩ := I2.after q
      cases ev
      exact ⟨rv, V.ref (s.heap.objs.size + 1), H3, I3, rfl, q3⟩
    | next => exact q.elim
    | brk => exact q.elim
    | cont => exact q.elim
/-- C(e, .., k = v, ..), its __init__ may raise -/
def tMkKS (C : Addr) (n m : Nat) (sp : Sp) (gV : List V → List V → List V) (E : L2.St → XK) (t tk : TA) : TE := fun σ H Q => t σ H fun vs H1 => tk σ H1 fun zs H2 => vs.length = n ∧ zs.length = m ∧ ∀ x dx, H2 x = Option.none → H2 dx = Option.none → dx ≠ x →
  sp (gV (.ref x :: vs) zs) (upd (upd H2 dx (.own x)) x (.ins C dx [])) (fun v H3 => v = .non ∧ Q (.ref x) H3) (E σ)
theorem pe_mkKS (M : Mk X.K C f) (F : FnOk X.prog X.w X.K X.mg X.base CX k f fd ps sp) (hr : Room (k + 1) X.A) (hg : Gl X x) (hm : X.mg x = some (.ref C)) (hb : KBn X.K fd ps (n + 1) ks g gV) (hx : ∀ σ, PassesAt CX X σ (E σ)) (ha : PA X (e :: es) t) (hkw : PK X kws tk)
    (hall : (backToKw pos (keywordEach kws X.env)).all (·.1.isSome) = true := by rfl) (hks : (backToKw pos (keywordEach kws X.env)).filterMap (·.1) = ks := by rfl) (hdb : (x == ("__debug__" : Str)) = false := by decide)
    (he : starEach (e :: es) X.env = (false, eval e X.env) :: starEach es X.env := by rfl) (hpl : ((backTo pos (starEach (e :: es) X.env)).any (·.1) || (backToKw pos (keywordEach kws X.env)).any (·.1.isNone)) = false := by rfl) :
    PE X (.Call (.Name x p) (e :: es) kws pos) (tMkKS C n ks.length sp gV E t tk) := by
  refine ⟨fun pins s σ H Q I h => wpAny_Call_Name_kw (ld_glob I hg hm ?_ hdb)⟩
  refine PySem.W.callWith_KW (h₀ := X.base) I.ok.mod.kin M.kp hall (thn (ha.run pos pins s σ H _ I h) fun us s1 ⟨vs, H1, I1, r, q⟩ => ?_) hpl he
  refine thn (hkw.run pos pins s1 σ H1 _ I1 q) fun ws s2 ⟨zs, H2, I2, rz, l1, l2, q2⟩ => ⟨I2.kIn, ?_⟩
  rw [hks]
  exact run_mkKS M F hr hb (hx σ) I2 r rz l1 l2 q2
end
/-! ### == of two tuples of the very same items -/
section
variable {X : Cx}
def rEqTI (K : PySem.W.Frag) : R2 := fun x y H Q => ∃ (a b : Addr) (xs : List V), x = .ref a ∧ y = .ref b ∧ SqT K H a xs ∧ SqT K H b xs ∧ (∀ v ∈ xs, flatB v = true ∨ ∃ c, v = .ref c) ∧ Q (.bl true) H
theorem eq_item {A : Around} {s : Shared} {v : V} {u u' : Value} (r : L2.RelV v u) (r' : L2.RelV v u') (f : flatB v = true ∨ ∃ c, v = .ref c) : SeqAt.EqAt A s u u' true := by
  rcases f with f | ⟨c, rfl⟩
  · exact eqAt_same r r' f
  · cases (show u = Value.ref c from r)
    cases (show u' = Value.ref c from r')
    exact SeqAt.EqAt.same _
theorem op_eqTI {j : Nat} (hr : Room j X.A) : OpR X (compareOp .Eq) (rEqTI X.K) := by
  intro pins s σ H x y v u Q I rx ry h
  obtain ⟨a, b, xs, rfl, rfl, ha, hb, hf, q⟩ := h
  cases (show v = Value.ref a from rx)
  cases (show u = Value.ref b from ry)
  obtain ⟨us, r1, ⟨o1, e1, c1, n1, d1⟩, _⟩ := I.tuple ha
  obtain ⟨ws, r2, ⟨o2, e2, c2, n2, d2⟩, _⟩ := I.tuple hb
  refine SeqAt.eq_tupleAt (items := us.toArray) (items2 := ws.toArray) (e := fun _ => true) ⟨o1, e1, c1, n1, d1⟩ ⟨o2, e2, c2, n2, d2⟩ hr.units0 (fun j h1 h2 => ?_) ?_
  · have g1 : j < us.length := by simpa using h1
    have g2 : j < ws.length := by simpa using h2
    have g0 : j < xs.length := by rw [r1.length]; exact g1
    obtain ⟨z1, y1, w1⟩ := r1.get (List.getElem?_eq_getElem g0)
    obtain ⟨z2, y2, w2⟩ := r2.get (List.getElem?_eq_getElem g0)
    rw [List.getElem?_eq_getElem g1] at y1
    rw [List.getElem?_eq_getElem g2] at y2
    have k : SeqAt.EqAt X.A.in1 s us[j] ws[j] true := by
      cases y1
      cases y2
      exact eq_item w1 w2 (hf _ (List.getElem_mem g0))
    simpa using k
  · have l : us.toArray.size = ws.toArray.size := by
      rw [List.size_toArray, List.size_toArray, ← r1.length, ← r2.length]
    have e : ((List.range (min us.toArray.size ws.toArray.size)).all (fun _ => true) && us.toArray.size == ws.toArray.size) = true := by
      rw [l, List.all_eq_true.mpr (fun _ _ => rfl)]
      simp
    rw [e]
    exact ⟨.bl true, H, I, rfl, q⟩
/-- isinstance with a built-in class, of an instance of one's own -/
theorem kit_tyb {K : PySem.W.Frag} {t : Value} {T : String} {b : Bool} (h0 : (t == Value.type T) = false) (h1 : PySem.W.kitMeta T = true) (h2 : PySem.W.subIn K t (.type T) = some b) : PySem.W.kitOne K t (.type T) = some b := by
  unfold PySem.W.kitOne
  rw [h0, if_neg Bool.false_ne_true]
  show (if PySem.W.kitMeta T = true then PySem.W.subIn K t (.type T) else none) = some b
  rw [if_pos h1, h2]
end
end Ws

namespace Ws
open PySem PySem.Spec PyProof.Rows L2
abbrev sWhole : Stmt := (PySem.Challenge.pw_whatspeed_k07_stretches_of_any_value.main.body.getD 7 (.Pass ⟨0, 0, 0, 0⟩))
abbrev NWhole : List Str := ["value"]
abbrev PWhole : List Str := ["value"]
theorem scWhole : FnScope NWhole PWhole (defScope sWhole) := ⟨rfl, rfl, rfl, by decide +kernel, rfl, by decide +kernel, by decide +kernel⟩
abbrev sNum : Stmt := (inClass (PySem.Challenge.pw_whatspeed_k07_stretches_of_any_value.main.body.getD 8 (.Pass ⟨0, 0, 0, 0⟩)) 0)
abbrev NNum : List Str := ["self", "top", "bottom", "shared"]
abbrev PNum : List Str := ["self", "top", "bottom"]
theorem scNum : FnScope NNum PNum (defScope sNum) := ⟨rfl, rfl, rfl, by decide +kernel, rfl, by decide +kernel, by decide +kernel⟩
abbrev sNTop : Stmt := (inClass (PySem.Challenge.pw_whatspeed_k07_stretches_of_any_value.main.body.getD 8 (.Pass ⟨0, 0, 0, 0⟩)) 1)
abbrev NNTop : List Str := ["self"]
abbrev PNTop : List Str := ["self"]
theorem scNTop : FnScope NNTop PNTop (defScope sNTop) := ⟨rfl, rfl, rfl, by decide +kernel, rfl, by decide +kernel, by decide +kernel⟩
abbrev sNBot : Stmt := (inClass (PySem.Challenge.pw_whatspeed_k07_stretches_of_any_value.main.body.getD 8 (.Pass ⟨0, 0, 0, 0⟩)) 2)
abbrev NNBot : List Str := ["self"]
abbrev PNBot : List Str := ["self"]
theorem scNBot : FnScope NNBot PNBot (defScope sNBot) := ⟨rfl, rfl, rfl, by decide +kernel, rfl, by decide +kernel, by decide +kernel⟩
abbrev sNEq : Stmt := (inClass (PySem.Challenge.pw_whatspeed_k07_stretches_of_any_value.main.body.getD 8 (.Pass ⟨0, 0, 0, 0⟩)) 3)
abbrev NNEq : List Str := ["self", "other"]
abbrev PNEq : List Str := ["self", "other"]
theorem scNEq : FnScope NNEq PNEq (defScope sNEq) := ⟨rfl, rfl, rfl, by decide +kernel, rfl, by decide +kernel, by decide +kernel⟩
abbrev sNBool : Stmt := (inClass (PySem.Challenge.pw_whatspeed_k07_stretches_of_any_value.main.body.getD 8 (.Pass ⟨0, 0, 0, 0⟩)) 4)
abbrev NNBool : List Str := ["self"]
abbrev PNBool : List Str := ["self"]
theorem scNBool : FnScope NNBool PNBool (defScope sNBool) := ⟨rfl, rfl, rfl, by decide +kernel, rfl, by decide +kernel, by decide +kernel⟩
abbrev sNAdd : Stmt := (inClass (PySem.Challenge.pw_whatspeed_k07_stretches_of_any_value.main.body.getD 8 (.Pass ⟨0, 0, 0, 0⟩)) 5)
abbrev NNAdd : List Str := ["self", "other"]
abbrev PNAdd : List Str := ["self", "other"]
theorem scNAdd : FnScope NNAdd PNAdd (defScope sNAdd) := ⟨rfl, rfl, rfl, by decide +kernel, rfl, by decide +kernel, by decide +kernel⟩
abbrev sNSub : Stmt := (inClass (PySem.Challenge.pw_whatspeed_k07_stretches_of_any_value.main.body.getD 8 (.Pass ⟨0, 0, 0, 0⟩)) 6)
abbrev NNSub : List Str := ["self", "other"]
abbrev PNSub : List Str := ["self", "other"]
theorem scNSub : FnScope NNSub PNSub (defScope sNSub) := ⟨rfl, rfl, rfl, by decide +kernel, rfl, by decide +kernel, by decide +kernel⟩
abbrev sNMul : Stmt := (inClass (PySem.Challenge.pw_whatspeed_k07_stretches_of_any_value.main.body.getD 8 (.Pass ⟨0, 0, 0, 0⟩)) 7)
abbrev NNMul : List Str := ["self", "other"]
abbrev PNMul : List Str := ["self", "other"]
theorem scNMul : FnScope NNMul PNMul (defScope sNMul) := ⟨rfl, rfl, rfl, by decide +kernel, rfl, by decide +kernel, by decide +kernel⟩
/-! ### a Number, a Line in the heap -/
def nF (t b : Int) : List (Str × V) := [("_top", .int t), ("_bottom", .int b)]
def NumAt (C : Addr) (H : Hp) (a : Addr) (t b : Int) : Prop := ∃ dx, H a = some (.ins C dx (nF t b))
theorem nF_top (t b : Int) : (nF t b).lookup ("_top" : Str) = some (.int t) := lk_here
theorem nF_bot (t b : Int) : (nF t b).lookup ("_bottom" : Str) = some (.int b) := (lk_past (by decide +kernel)).trans lk_here
theorem NumAt.same {C : Addr} {H H' : Hp} {a : Addr} {t b : Int} (h : NumAt C H a t b) (s : Same H H') : NumAt C H' a t b := let ⟨dx, e⟩ := h; ⟨dx, s _ _ e⟩
theorem NumAt.ch {C : Addr} {H H' : Hp} {p a : Addr} {t b : Int} (h : NumAt C H a t b) (s : Ch p H H') (n : a ≠ p) : NumAt C H' a t b := let ⟨dx, e⟩ := h; ⟨dx, s _ _ n e⟩
/-- what the class Number must be -/
structure NumC (K : PySem.W.Frag) (C : Addr) : Prop where
  cl : Cls K C
  nT : NoAttr K C "_top"
  nB : NoAttr K C "_bottom"
  ha : PySem.W.findIn K (.ref C) "__class__" = some (some (.builtin "object.__class__"))
  hn : PySem.W.specialIn K (.builtin "object.__class__") "__get__" = some (some (.builtin "getset_descriptor.__get__"))
  htk : PySem.W.takesIn K (.builtin "object.__class__") = some true
  hm : PySem.W.mroIn K C (.type "object") = some true
  kk : PySem.W.kitOne K (.ref C) (.ref C) = some true
  sf : PySem.W.selfFirst K C = true
  nf : PySem.W.notFirst K C (.ref C) = true
theorem NumC.ty {K : PySem.W.Frag} {C : Addr} (c : NumC K C) {H : Hp} {a dx : Addr} {fs : List (Str × V)} (e : H a = some (.ins C dx fs)) : TyX K H (.ref a) (.ref C) := .base (.ins e c.cl c.ha c.hn c.htk c.hm)
/-! ### promises -/
def spWhole : Sp := fun vs H Q _ => ∃ i : Int, vs = [.int i] ∧ Q (.bl true) H
def spNum (C : Addr) : Sp := fun vs H Q _ => ∃ (x dx : Addr) (t b : Int), vs = [.ref x, .int t, .int b] ∧ b ≠ 0 ∧ Sz 8000 b ∧ H x = some (.ins C dx []) ∧
  ∀ H', NumAt C H' x (nT t b) (nB t b) → (∀ a o, H a = some o → a ≠ x → H' a = some o) → Q .non H'
def spTop (C : Addr) : Sp := fun vs H Q _ => ∃ (a : Addr) (t b : Int), vs = [.ref a] ∧ NumAt C H a t b ∧ Q (.int t) H
def spBot (C : Addr) : Sp := fun vs H Q _ => ∃ (a : Addr) (t b : Int), vs = [.ref a] ∧ NumAt C H a t b ∧ Q (.int b) H
def spNEq (C : Addr) : Sp := fun vs H Q _ => ∃ (a c : Addr) (t b p q : Int), vs = [.ref a, .ref c] ∧ NumAt C H a t b ∧ NumAt C H c p q ∧ Q (.bl (decide (t = p ∧ b = q))) H
def spNBool (C : Addr) : Sp := fun vs H Q _ => ∃ (a : Addr) (t b : Int), vs = [.ref a] ∧ NumAt C H a t b ∧ Q (.bl (t != 0)) H
/-- a new Number at a place that was free -/
def spOp2 (C : Addr) (f g : Int → Int → Int → Int → Int) : Sp := fun vs H Q _ => ∃ (a c : Addr) (t b p q : Int), vs = [.ref a, .ref c] ∧ NumAt C H a t b ∧ NumAt C H c p q ∧ Sz 2000 t ∧ Sz 2000 b ∧ Sz 2000 p ∧ Sz 2000 q ∧ g t b p q ≠ 0 ∧
  ∀ x H', H x = none → NumAt C H' x (nT (f t b p q) (g t b p q)) (nB (f t b p q) (g t b p q)) → Same H H' → Q (.ref x) H'
abbrev spAdd (C : Addr) : Sp := spOp2 C (fun t b p q => t * q + p * b) (fun _ b _ q => b * q)
abbrev spSub (C : Addr) : Sp := spOp2 C (fun t b p q => t * q - p * b) (fun _ b _ q => b * q)
abbrev spMul (C : Addr) : Sp := spOp2 C (fun t b p q => t * p) (fun _ b _ q => b * q)
section
variable {P : Program} {w : World} {K : PySem.W.Frag} {mg : Str → Option Value} {base : Heap} {C f : Addr} {fd : FuncData}
theorem ok_whole (F : L2.Fun K "is_whole" "is_whole" sWhole f fd) (b : Binds K fd PWhole []) (B : Bi mg) : FnR P w K mg base CX0 1 f spWhole := by
  refine fnR_of F b scWhole (fun vs H Q E h => ?_) (fun cdv A outer s H vs Q E hr h => ?_)
  · obtain ⟨i, rfl, _⟩ := h
    rfl
  · have sc := scWhole
    obtain ⟨i, rfl, k⟩ := h
    refine ⟨_, (pss_one (ps_ret (pe_and (pe_callB call_isi (by rfl) B.isinstance (by decide +kernel) (pa_cons (pv 0) (pa_cons (pe_bltn (v := .ty "int") (by rfl) B.int (by decide +kernel) rfl) pa_nil))) (pe_one (pe_not (pe_callB call_isi (by rfl) B.isinstance (by decide +kernel) (pa_cons (pv 0) (pa_cons (pe_bltn (v := .ty "bool") (by rfl) B.bool (by decide +kernel) rfl) pa_nil)))))))), ?_⟩
    refine ⟨_, rfl, _, _, _, _, true, rfl, .ty _, .base (.int i), kit_ty (by decide +kernel), true, rfl, iteT ?_⟩
    exact ⟨_, rfl, _, _, _, _, false, rfl, .ty _, .base (.int i), kit_ty (by decide +kernel), false, rfl, k⟩
theorem ok_num {dvs' : List V} {ds : List Value} {dvs : List V} {sp' : Sp} (F : FunD K "__init__" "Number.__init__" (defArgs sNum) (defBody sNum) (defScope sNum) dvs [] f fd) (b : Binds K fd PNum ds) (d : Vals dvs' ds) (imp : ∀ vs H Q E, sp' vs H Q E → spNum C (vs ++ dvs') H Q E)
    (B : Bi mg) (NC : NumC K C) (hgcd : mg "gcd" = some (.builtin "math.gcd")) (cW : CalF P w K mg base 1 "is_whole" spWhole) : FnR P w K mg base CX0 2 f sp' := by
  refine fnD_of F b d scNum (sp := spNum C) (fun vs H Q E h => ?_) imp (fun cdv A outer s H vs Q E hr h => ?_)
  · obtain ⟨x, dx, t, b, rfl, _⟩ := h
    rfl
  · have sc := scNum
    obtain ⟨x, dx, t, b, rfl, hb, hz, hx, k⟩ := h
    refine ⟨_, (pss_cons (ps_if (PW.pt (pw_or (pt_not (pt_val (pe_f cW hr (by decide) rfl (pa_cons (pv 1) pa_nil)))) (pw_or (pt_not (pt_val (pe_f cW hr (by decide) rfl (pa_cons (pv 2) pa_nil)))) (pw_or1 (pt_cmpR op_eq (pv 2) pe_int (nomark _)))))) (pss_one ps_never) pss_nil) (pss_cons (ps_set (i := 3) sc.nd rfl (Or.inl rfl) (pe_callBfun cr_gcd (by rfl) hgcd (pa_cons (pv 1) (pa_cons (pv 2) pa_nil)))) (pss_cons (ps_if (pt_cmpR op_lt (pv 2) pe_int (nomark _)) (pss_one (ps_set (i := 3) sc.nd rfl (Or.inl rfl) (pe_un un_neg (pv 3)))) pss_nil) (pss_cons (ps_fld (pv 0) (pe_op op_fdivZ (pv 1) (pv 3)) rfl) (pss_one (ps_fld (pv 0) (pe_op op_fdivZ (pv 2) (pv 3)) rfl)))))), ?_⟩
    refine ⟨_, rfl, t, rfl, true, rfl, iteF ?_⟩
    refine ⟨_, rfl, b, rfl, true, rfl, iteF ?_⟩
    refine ⟨_, rfl, rfl, _, rfl, ?_⟩
    refine ifF (by simpa using hb) ?_
    refine ⟨_, rfl, _, rfl, _, _, rfl, ?_⟩
    refine ⟨_, rfl, _, _, rfl, rfl, _, rfl, ?_⟩
    have hs : Sz 8000 (gS t b) := by
      have := Sz.gI (t := t) hb hz
      unfold gS
      split
      · exact this.neg
      · exact this
    have fin : ∀ {Qn : Ends} {y : Int}, y = gS t b → tSeq (sFld K (tVar 0) (tOp (rI (fun _ j => j ≠ 0 ∧ j.natAbs.log2 < 9000) fun i j => .int (i.fdiv j)) (tVar 1) (tVar 3)) "_top") (sFld K (tVar 0) (tOp (rI (fun _ j => j ≠ 0 ∧ j.natAbs.log2 < 9000) fun i j => .int (i.fdiv j)) (tVar 2) (tVar 3)) "_bottom")
        { nx := fun _ H' => Q .non H', rt := Q } [some (.ref x), some (.int t), some (.int b), some (.int y)] H := by
      rintro Qn y rfl
      have h9 : (gS t b).natAbs.log2 < 9000 := Nat.lt_of_lt_of_le (PySem.Flt.log2_lt_of (by decide) hs) (by decide)
      refine ⟨_, rfl, _, rfl, _, _, rfl, rfl, ⟨gS_ne hb, h9⟩, _, rfl, x, C, dx, [], rfl, hx, NC.cl, NC.nT, (by show 0 < 1000; decide), ?_⟩
      refine ⟨_, rfl, _, rfl, _, _, rfl, rfl, ⟨gS_ne hb, h9⟩, _, rfl, x, C, dx, _, rfl, upd_same, NC.cl, NC.nB, (by show 1 < 1000; decide), ?_⟩
      refine k _ ⟨dx, upd_same.trans (congrArg some (congrArg (HO.ins C dx) ?_))⟩ fun a o e n => ?_
      · exact (put_past (by decide +kernel)).trans rfl
      · rw [upd_ne n, upd_ne n]
        exact e
    by_cases hn : b < 0
    · refine ifT (by simpa using hn) ?_
      refine ⟨_, rfl, _, rfl, ?_⟩
      refine fin (Qn := { nx := fun _ H' => Q .non H', rt := Q }) ?_
      unfold gS gI
      rw [if_pos hn]
    · refine ifF (by simpa using hn) ?_
      refine fin (Qn := { nx := fun _ H' => Q .non H', rt := Q }) ?_
      unfold gS gI
      rw [if_neg hn]
theorem ok_top (F : L2.Fun K "top" "Number.top" sNTop f fd) (b : Binds K fd PNTop []) (NC : NumC K C) : FnR P w K mg base CX0 1 f (spTop C) := by
  refine fnR_of F b scNTop (fun vs H Q E h => ?_) (fun cdv A outer s H vs Q E hr h => ?_)
  · obtain ⟨a, t, b, rfl, _⟩ := h
    rfl
  · have sc := scNTop
    obtain ⟨a, t, b, rfl, ⟨dx, e⟩, k⟩ := h
    refine ⟨_, (pss_one (ps_ret (pe_fld (pv 0) rfl))), ?_⟩
    exact ⟨_, rfl, a, C, dx, _, _, rfl, e, NC.cl, NC.nT, nF_top _ _, k⟩
theorem ok_bot (F : L2.Fun K "bottom" "Number.bottom" sNBot f fd) (b : Binds K fd PNBot []) (NC : NumC K C) : FnR P w K mg base CX0 1 f (spBot C) := by
  refine fnR_of F b scNBot (fun vs H Q E h => ?_) (fun cdv A outer s H vs Q E hr h => ?_)
  · obtain ⟨a, t, b, rfl, _⟩ := h
    rfl
  · have sc := scNBot
    obtain ⟨a, t, b, rfl, ⟨dx, e⟩, k⟩ := h
    refine ⟨_, (pss_one (ps_ret (pe_fld (pv 0) rfl))), ?_⟩
    exact ⟨_, rfl, a, C, dx, _, _, rfl, e, NC.cl, NC.nB, nF_bot _ _, k⟩
theorem ok_neq (F : L2.Fun K "__eq__" "Number.__eq__" sNEq f fd) (b : Binds K fd PNEq []) (B : Bi mg) (NC : NumC K C) (gN : mg "Number" = some (.ref C)) : FnR P w K mg base CX0 1 f (spNEq C) := by
  refine fnR_of F b scNEq (fun vs H Q E h => ?_) (fun cdv A outer s H vs Q E hr h => ?_)
  · obtain ⟨a, c, t, b, p, q, rfl, _⟩ := h
    rfl
  · have sc := scNEq
    obtain ⟨a, c, t, b, p, q, rfl, ⟨dx, ea⟩, ⟨dy, ec⟩, k⟩ := h
    refine ⟨_, (pss_one (ps_ret (pe_and (pe_callB call_isi (by rfl) B.isinstance (by decide +kernel) (pa_cons (pv 1) (pa_cons (pe_glob (v := .ref C) rfl gN rfl) pa_nil))) (pe_and (pe_cmpR op_eq (pe_fld (pv 0) rfl) (pe_fld (pv 1) rfl) (nomark _)) (pe_one (pe_cmpR op_eq (pe_fld (pv 0) rfl) (pe_fld (pv 1) rfl) (nomark _))))))), ?_⟩
    refine ⟨_, rfl, _, _, _, _, true, rfl, .own C, NC.ty ec, NC.kk, true, rfl, iteT ?_⟩
    refine ⟨_, rfl, a, C, dx, _, _, rfl, ea, NC.cl, NC.nT, nF_top _ _, _, rfl, c, C, dy, _, _, rfl, ec, NC.cl, NC.nT, nF_top _ _, rfl, _, rfl, ?_⟩
    by_cases h1 : t = p
    · subst h1
      refine ifT (by simp) ?_
      refine ⟨_, rfl, a, C, dx, _, _, rfl, ea, NC.cl, NC.nB, nF_bot _ _, _, rfl, c, C, dy, _, _, rfl, ec, NC.cl, NC.nB, nF_bot _ _, rfl, ?_⟩
      simpa using k
    · refine ifF (by simpa using h1) ?_
      simpa [h1] using k
theorem ok_nbool (F : L2.Fun K "__bool__" "Number.__bool__" sNBool f fd) (b : Binds K fd PNBool []) (B : Bi mg) (NC : NumC K C) : FnR P w K mg base CX0 1 f (spNBool C) := by
  refine fnR_of F b scNBool (fun vs H Q E h => ?_) (fun cdv A outer s H vs Q E hr h => ?_)
  · obtain ⟨a, t, b, rfl, _⟩ := h
    rfl
  · have sc := scNBool
    obtain ⟨a, t, b, rfl, ⟨dx, ea⟩, k⟩ := h
    refine ⟨_, (pss_one (ps_ret (pe_callTy call_bool1 (by rfl) B.bool (by decide +kernel) (pa_cons (pe_fld (pv 0) rfl) pa_nil)))), ?_⟩
    exact ⟨_, rfl, a, C, dx, _, _, rfl, ea, NC.cl, NC.nT, nF_top _ _, .inl ⟨t, rfl, k⟩⟩
theorem ok_nadd (F : L2.Fun K "__add__" "Number.__add__" sNAdd f fd) (b : Binds K fd PNAdd []) (NC : NumC K C) (mN : MakF P w K mg base 2 "Number" C (spNum C)) : FnR P w K mg base CX0 4 f (spAdd C) := by
  refine fnR_of F b scNAdd (fun vs H Q E h => ?_) (fun cdv A outer s H vs Q E hr h => ?_)
  · obtain ⟨a, c, t, b, p, q, rfl, _⟩ := h
    rfl
  · have sc := scNAdd
    obtain ⟨a, c, t, b, p, q, rfl, ⟨dx, ea⟩, ⟨dy, ec⟩, z1, z2, z3, z4, h0, k⟩ := h
    refine ⟨_, (pss_one (ps_ret (pe_mk mN hr (by decide) rfl (pa_cons (pe_op op_add (pe_op op_mulW (pe_fld (pv 0) rfl) (pe_fld (pv 1) rfl)) (pe_op op_mulW (pe_fld (pv 1) rfl) (pe_fld (pv 0) rfl))) (pa_cons (pe_op op_mulW (pe_fld (pv 0) rfl) (pe_fld (pv 1) rfl)) pa_nil))))), ?_⟩
    refine ⟨_, rfl, a, C, dx, _, _, rfl, ea, NC.cl, NC.nT, nF_top _ _, _, rfl, c, C, dy, _, _, rfl, ec, NC.cl, NC.nB, nF_bot _ _, _, _, rfl, rfl, wide_mul z1 z4 (by decide) (by decide) (by decide), ?_⟩
    refine ⟨_, rfl, c, C, dy, _, _, rfl, ec, NC.cl, NC.nT, nF_top _ _, _, rfl, a, C, dx, _, _, rfl, ea, NC.cl, NC.nB, nF_bot _ _, _, _, rfl, rfl, wide_mul z3 z2 (by decide) (by decide) (by decide), _, _, rfl, rfl, ?_⟩
    refine ⟨_, rfl, a, C, dx, _, _, rfl, ea, NC.cl, NC.nB, nF_bot _ _, _, rfl, c, C, dy, _, _, rfl, ec, NC.cl, NC.nB, nF_bot _ _, _, _, rfl, rfl, wide_mul z2 z4 (by decide) (by decide) (by decide), ?_⟩
    intro x d nx nd ne
    refine ⟨x, d, _, _, rfl, h0, (z2.mul z4).mono (by decide), upd_same, fun H1 h1 k1 => ⟨rfl, ?_⟩⟩
    exact k x H1 nx h1 (Same.mk nx nd k1)
theorem ok_nsub (F : L2.Fun K "__sub__" "Number.__sub__" sNSub f fd) (b : Binds K fd PNSub []) (NC : NumC K C) (mN : MakF P w K mg base 2 "Number" C (spNum C)) : FnR P w K mg base CX0 4 f (spSub C) := by
  refine fnR_of F b scNSub (fun vs H Q E h => ?_) (fun cdv A outer s H vs Q E hr h => ?_)
  · obtain ⟨a, c, t, b, p, q, rfl, _⟩ := h
    rfl
  · have sc := scNSub
    obtain ⟨a, c, t, b, p, q, rfl, ⟨dx, ea⟩, ⟨dy, ec⟩, z1, z2, z3, z4, h0, k⟩ := h
    refine ⟨_, (pss_one (ps_ret (pe_mk mN hr (by decide) rfl (pa_cons (pe_op op_sub (pe_op op_mulW (pe_fld (pv 0) rfl) (pe_fld (pv 1) rfl)) (pe_op op_mulW (pe_fld (pv 1) rfl) (pe_fld (pv 0) rfl))) (pa_cons (pe_op op_mulW (pe_fld (pv 0) rfl) (pe_fld (pv 1) rfl)) pa_nil))))), ?_⟩
    refine ⟨_, rfl, a, C, dx, _, _, rfl, ea, NC.cl, NC.nT, nF_top _ _, _, rfl, c, C, dy, _, _, rfl, ec, NC.cl, NC.nB, nF_bot _ _, _, _, rfl, rfl, wide_mul z1 z4 (by decide) (by decide) (by decide), ?_⟩
    refine ⟨_, rfl, c, C, dy, _, _, rfl, ec, NC.cl, NC.nT, nF_top _ _, _, rfl, a, C, dx, _, _, rfl, ea, NC.cl, NC.nB, nF_bot _ _, _, _, rfl, rfl, wide_mul z3 z2 (by decide) (by decide) (by decide), _, _, rfl, rfl, ?_⟩
    refine ⟨_, rfl, a, C, dx, _, _, rfl, ea, NC.cl, NC.nB, nF_bot _ _, _, rfl, c, C, dy, _, _, rfl, ec, NC.cl, NC.nB, nF_bot _ _, _, _, rfl, rfl, wide_mul z2 z4 (by decide) (by decide) (by decide), ?_⟩
    intro x d nx nd ne
    refine ⟨x, d, _, _, rfl, h0, (z2.mul z4).mono (by decide), upd_same, fun H1 h1 k1 => ⟨rfl, ?_⟩⟩
    exact k x H1 nx h1 (Same.mk nx nd k1)
theorem ok_nmul (F : L2.Fun K "__mul__" "Number.__mul__" sNMul f fd) (b : Binds K fd PNMul []) (NC : NumC K C) (mN : MakF P w K mg base 2 "Number" C (spNum C)) : FnR P w K mg base CX0 4 f (spMul C) := by
  refine fnR_of F b scNMul (fun vs H Q E h => ?_) (fun cdv A outer s H vs Q E hr h => ?_)
  · obtain ⟨a, c, t, b, p, q, rfl, _⟩ := h
    rfl
  · have sc := scNMul
    obtain ⟨a, c, t, b, p, q, rfl, ⟨dx, ea⟩, ⟨dy, ec⟩, z1, z2, z3, z4, h0, k⟩ := h
    refine ⟨_, (pss_one (ps_ret (pe_mk mN hr (by decide) rfl (pa_cons (pe_op op_mulW (pe_fld (pv 0) rfl) (pe_fld (pv 1) rfl)) (pa_cons (pe_op op_mulW (pe_fld (pv 0) rfl) (pe_fld (pv 1) rfl)) pa_nil))))), ?_⟩
    refine ⟨_, rfl, a, C, dx, _, _, rfl, ea, NC.cl, NC.nT, nF_top _ _, _, rfl, c, C, dy, _, _, rfl, ec, NC.cl, NC.nT, nF_top _ _, _, _, rfl, rfl, wide_mul z1 z3 (by decide) (by decide) (by decide), ?_⟩
    refine ⟨_, rfl, a, C, dx, _, _, rfl, ea, NC.cl, NC.nB, nF_bot _ _, _, rfl, c, C, dy, _, _, rfl, ec, NC.cl, NC.nB, nF_bot _ _, _, _, rfl, rfl, wide_mul z2 z4 (by decide) (by decide) (by decide), ?_⟩
    intro x d nx nd ne
    refine ⟨x, d, _, _, rfl, h0, (z2.mul z4).mono (by decide), upd_same, fun H1 h1 k1 => ⟨rfl, ?_⟩⟩
    exact k x H1 nx h1 (Same.mk nx nd k1)
end
end Ws

namespace Ws
open PySem PySem.Spec PyProof.Rows L2
abbrev sPot : Stmt := (PySem.Challenge.pw_whatspeed_k07_stretches_of_any_value.main.body.getD 12 (.Pass ⟨0, 0, 0, 0⟩))
abbrev NPot : List Str := ["script", "k", "cell", "own"]
abbrev PPot : List Str := ["script", "k"]
theorem scPot : FnScope NPot PPot (defScope sPot) := ⟨rfl, rfl, rfl, by decide +kernel, rfl, by decide +kernel, by decide +kernel⟩
abbrev sTake : Stmt := (PySem.Challenge.pw_whatspeed_k07_stretches_of_any_value.main.body.getD 13 (.Pass ⟨0, 0, 0, 0⟩))
abbrev NTake : List Str := ["pot", "upto", "digit", "prime", "mixed"]
abbrev PTake : List Str := ["pot", "upto"]
theorem scTake : FnScope NTake PTake (defScope sTake) := ⟨rfl, rfl, rfl, by decide +kernel, rfl, by decide +kernel, by decide +kernel⟩
abbrev sOf : Stmt := (PySem.Challenge.pw_whatspeed_k07_stretches_of_any_value.main.body.getD 14 (.Pass ⟨0, 0, 0, 0⟩))
abbrev NOf : List Str := ["pot", "some"]
abbrev POf : List Str := ["pot", "some"]
theorem scOf : FnScope NOf POf (defScope sOf) := ⟨rfl, rfl, rfl, by decide +kernel, rfl, by decide +kernel, by decide +kernel⟩
/-! ### the pot of drawn numbers -/
def PotAt (H : Hp) (p : Addr) (m : Int) : Prop := ∃ own seed n : Int, H p = some (.lst [.int own, .int seed, .int n]) ∧ 0 ≤ own ∧ 0 ≤ seed ∧ seed < 2305843009213693921 ∧ 0 ≤ n ∧ n ≤ m
theorem PotAt.mono {H : Hp} {p : Addr} {m m' : Int} (h : PotAt H p m) (l : m ≤ m') : PotAt H p m' := let ⟨a, b, c, e, h1, h2, h3, h4, h5⟩ := h; ⟨a, b, c, e, h1, h2, h3, h4, Int.le_trans h5 l⟩
theorem PotAt.same {H H' : Hp} {p : Addr} {m : Int} (h : PotAt H p m) (s : Same H H') : PotAt H' p m := let ⟨a, b, c, e, r⟩ := h; ⟨a, b, c, s _ _ e, r⟩
def spPot (K : PySem.W.Frag) : Sp := fun vs H Q _ => ∃ (s : Addr) (ns : List Int) (k : Nat), vs = [.ref s, .int k] ∧ SqL K H s (ns.map V.int) ∧ k < 100 ∧ ∀ p H', H p = none → PotAt H' p 0 → Same H H' → Q (.ref p) H'
def spTake : Sp := fun vs H Q _ => ∃ (p : Addr) (u m : Int), vs = [.ref p, .int u] ∧ PotAt H p m ∧ m ≤ 1000000 ∧ 1 ≤ u ∧ u < 1073741824 ∧ ∀ d H', 0 ≤ d → d < u → PotAt H' p (m + 1) → Ch p H H' → Q (.int d) H'
def spOf : Sp := fun vs H Q _ => ∃ (p l : Addr) (xs : List V) (m : Int), vs = [.ref p, .ref l] ∧ PotAt H p m ∧ m ≤ 1000000 ∧ H l = some (.lst xs) ∧ l ≠ p ∧ 1 ≤ xs.length ∧ xs.length ≤ 1000 ∧ ∀ v H', v ∈ xs → PotAt H' p (m + 1) → Ch p H H' → Q v H'
section
variable {P : Program} {w : World} {K : PySem.W.Frag} {mg : Str → Option Value} {base : Heap} {f : Addr} {fd : FuncData}
theorem at_map {ns : List Int} {k : Nat} (h : k < ns.length) : atI (ns.map V.int) (k : Int) = some (.int ns[k]) := atI_nat (by rw [List.getElem?_map, List.getElem?_eq_getElem h]; rfl)
theorem emod_lt {a b : Int} (h : 0 < b) : a % b < b := Int.emod_lt_of_pos a h
theorem emod_nn {a b : Int} (h : 0 < b) : 0 ≤ a % b := Int.emod_nonneg a (by omega)
theorem ok_pot (F : L2.Fun K "_law_pot" "_law_pot" sPot f fd) (b : Binds K fd PPot []) (B : Bi mg) : FnR P w K mg base CX0 1 f (spPot K) := by
  refine fnR_of F b scPot (fun vs H Q E h => ?_) (fun cdv A outer s H vs Q E hr h => ?_)
  · obtain ⟨s, ns, k, rfl, _⟩ := h
    rfl
  · have sc := scPot
    obtain ⟨s, ns, k, rfl, hS, hk, q⟩ := h
    refine ⟨_, (pss_cons (ps_set (i := 2) sc.nd rfl (Or.inl rfl) (pe_ifExp (pt_cmpR op_lt (pv 1) (pe_callB call_len_seq (by rfl) B.len PySem.boot_len (pa_cons (pv 0) pa_nil)) (nomark _)) (pe_callTy call_int1 (by rfl) B.int (by decide +kernel) (pa_cons (pe_ix ix_list (pv 0) (pv 1) (fun _ _ => rfl)) pa_nil)) (pe_op op_add (pe_op op_mul pe_int (pv 1)) pe_int))) (pss_cons (ps_set (i := 3) sc.nd rfl (Or.inl rfl) (pe_op op_mul (pe_op op_mod (pe_callTy call_int1 (by rfl) B.int (by decide +kernel) (pa_cons (pe_callB call_abs (by rfl) B.abs (by decide +kernel) (pa_cons (pv 2) pa_nil)) pa_nil)) (pe_op op_powW (pe_op op_pow pe_int pe_int) pe_int)) (pe_callTy call_int1 (by rfl) B.int (by decide +kernel) (pa_cons (pe_cmpR op_ge (pe_callB call_abs (by rfl) B.abs (by decide +kernel) (pa_cons (pv 2) pa_nil)) (pe_op op_pow pe_int pe_int) (nomark _)) pa_nil)))) (pss_one (ps_ret (pe_lst (pa_cons (pv 3) (pa_cons (pe_op op_mod (pe_callTy call_int1 (by rfl) B.int (by decide +kernel) (pa_cons (pe_op op_add (pe_op op_add (pe_op op_mul (pe_op op_mod (pe_callTy call_int1 (by rfl) B.int (by decide +kernel) (pa_cons (pv 2) pa_nil)) pe_int) pe_int) (pe_op op_mul (pe_op op_mul pe_int (pv 1)) (pv 1))) pe_int) pa_nil)) pe_int) (pa_cons pe_int pa_nil)))))))), ?_⟩
    refine ⟨_, rfl, _, rfl, s, _, rfl, .inl hS, _, _, rfl, rfl, _, rfl, ?_⟩
    have hA : ∀ z : Int, (if z < 0 then -z else z) = (if z < 0 then -z else z) := fun _ => rfl
    refine if2 (fun hc => ?_) (fun hc => ?_)
    · have hlt : k < ns.length := by
        have := of_decide_eq_true hc
        rw [List.length_map] at this
        omega
      refine ⟨_, rfl, _, rfl, s, _, _, _, rfl, rfl, hS, at_map hlt, .inl ⟨_, rfl, ?_⟩⟩
      generalize ns[k] = z
      refine ⟨_, rfl, _, rfl, .inl ⟨_, rfl, _, _, rfl, rfl, ⟨by decide, by decide, by decide⟩, _, _, rfl, rfl, ⟨by decide, by decide +kernel⟩, _, _, rfl, rfl, by show (0 : Int) < _; decide +kernel, ?_⟩⟩
      refine ⟨_, rfl, _, rfl, _, _, rfl, rfl, ⟨by decide, by decide, by decide⟩, _, _, rfl, rfl, .inr ⟨_, rfl, _, _, rfl, rfl, .inr (bit_lo _), ?_⟩⟩
      refine ⟨_, rfl, _, rfl, .inl ⟨_, rfl, _, _, rfl, rfl, by show (0 : Int) < _; decide +kernel, _, _, rfl, rfl, .inr ⟨by decide, by decide⟩, _, rfl, _, _, rfl, rfl, .inl ⟨by decide, by decide⟩, _, rfl, _, _, rfl, rfl, .inr ⟨by omega, by omega⟩, _, _, rfl, rfl, _, _, rfl, rfl, .inl ⟨_, rfl, _, _, rfl, rfl, by show (0 : Int) < _; decide +kernel, ?_⟩⟩⟩
      refine ⟨by show 3 ≤ sizeLine; decide, fun p hp => q p _ hp ⟨_, _, _, upd_same, ?_, emod_nn (by decide), emod_lt (by decide), by decide, by decide⟩ (Same.new hp)⟩
      exact Int.mul_nonneg (emod_nn (by decide +kernel)) (bit_nn _)
    · refine ⟨_, rfl, _, _, rfl, rfl, .inl ⟨by decide, by decide⟩, _, _, rfl, rfl, ?_⟩
      generalize (41 * (k : Int) + 19) = z
      refine ⟨_, rfl, _, rfl, .inl ⟨_, rfl, _, _, rfl, rfl, ⟨by decide, by decide, by decide⟩, _, _, rfl, rfl, ⟨by decide, by decide +kernel⟩, _, _, rfl, rfl, by show (0 : Int) < _; decide +kernel, ?_⟩⟩
      refine ⟨_, rfl, _, rfl, _, _, rfl, rfl, ⟨by decide, by decide, by decide⟩, _, _, rfl, rfl, .inr ⟨_, rfl, _, _, rfl, rfl, .inr (bit_lo _), ?_⟩⟩
      refine ⟨_, rfl, _, rfl, .inl ⟨_, rfl, _, _, rfl, rfl, by show (0 : Int) < _; decide +kernel, _, _, rfl, rfl, .inr ⟨by decide, by decide⟩, _, rfl, _, _, rfl, rfl, .inl ⟨by decide, by decide⟩, _, rfl, _, _, rfl, rfl, .inr ⟨by omega, by omega⟩, _, _, rfl, rfl, _, _, rfl, rfl, .inl ⟨_, rfl, _, _, rfl, rfl, by show (0 : Int) < _; decide +kernel, ?_⟩⟩⟩
      refine ⟨by show 3 ≤ sizeLine; decide, fun p hp => q p _ hp ⟨_, _, _, upd_same, ?_, emod_nn (by decide), emod_lt (by decide), by decide, by decide⟩ (Same.new hp)⟩
      exact Int.mul_nonneg (emod_nn (by decide +kernel)) (bit_nn _)
theorem ok_take (F : L2.Fun K "_law_take" "_law_take" sTake f fd) (b : Binds K fd PTake []) (B : Bi mg) : FnR P w K mg base CX0 1 f spTake := by
  refine fnR_of F b scTake (fun vs H Q E h => ?_) (fun cdv A outer s H vs Q E hr h => ?_)
  · obtain ⟨p, u, m, rfl, _⟩ := h
    rfl
  · have sc := scTake
    obtain ⟨p, u, m, rfl, ⟨own, seed, n, hp, h1, h2, h3, h4, h5⟩, hm, hu, hu2, q⟩ := h
    refine ⟨_, (pss_cons (ps_if (pt_cmpR op_gt (pe_ix ix_list (pv 0) pe_int (fun _ _ => rfl)) pe_int (nomark _)) (pss_cons (ps_set (i := 2) sc.nd rfl (Or.inl rfl) (pe_op op_mod (pe_callTy call_int1 (by rfl) B.int (by decide +kernel) (pa_cons (pe_ix ix_list (pv 0) pe_int (fun _ _ => rfl)) pa_nil)) (pv 1))) (pss_cons (ps_asg (pe_op op_fdiv (pe_ix ix_list (pv 0) pe_int (fun _ _ => rfl)) (pv 1)) (pg_sub (pv 0) pe_int set_list)) (pss_one (ps_ret (pv 2))))) pss_nil) (pss_cons (ps_asg (pe_op op_add (pe_ix ix_list (pv 0) pe_int (fun _ _ => rfl)) pe_int) (pg_sub (pv 0) pe_int set_list)) (pss_cons (ps_set (i := 3) sc.nd rfl (Or.inl rfl) (pe_ix ix_list (pe_lst (pa_cons pe_int (pa_cons pe_int (pa_cons pe_int (pa_cons pe_int (pa_cons pe_int pa_nil)))))) (pe_op op_mod (pe_callTy call_int1 (by rfl) B.int (by decide +kernel) (pa_cons (pe_ix ix_list (pv 0) pe_int (fun _ _ => rfl)) pa_nil)) pe_int) (fun _ _ => rfl))) (pss_cons (ps_set (i := 4) sc.nd rfl (Or.inl rfl) (pe_op op_mod (pe_callTy call_int1 (by rfl) B.int (by decide +kernel) (pa_cons (pe_op op_pow (pe_op op_add (pe_op op_add (pe_ix ix_list (pv 0) pe_int (fun _ _ => rfl)) (pe_op op_mul (pe_op op_mul pe_int (pe_ix ix_list (pv 0) pe_int (fun _ _ => rfl))) (pe_ix ix_list (pv 0) pe_int (fun _ _ => rfl)))) pe_int) pe_int) pa_nil)) (pv 3))) (pss_one (ps_ret (pe_op op_mod (pe_callTy call_int1 (by rfl) B.int (by decide +kernel) (pa_cons (pe_op op_fdiv (pe_op op_mul (pv 4) (pe_op op_add (pe_op op_mod (pe_callTy call_int1 (by rfl) B.int (by decide +kernel) (pa_cons (pv 4) pa_nil)) pe_int) (pe_op op_mul pe_int (pe_ix ix_list (pv 0) pe_int (fun _ _ => rfl))))) pe_int) pa_nil)) (pv 1)))))))), ?_⟩
    refine ⟨_, rfl, p, _, _, _, rfl, rfl, SqL.of hp, rfl, _, _, rfl, rfl, _, rfl, ?_⟩
    refine if2 (fun hc => ?_) (fun hc => ?_)
    · refine ⟨_, rfl, p, _, _, _, rfl, rfl, SqL.of hp, rfl, .inl ⟨_, rfl, _, rfl, _, _, rfl, rfl, by omega, ?_⟩⟩
      refine ⟨_, rfl, p, _, _, _, rfl, rfl, SqL.of hp, rfl, _, rfl, _, _, rfl, rfl, ⟨by omega, by omega⟩, ?_⟩
      refine ⟨_, rfl, p, _, _, _, rfl, rfl, hp, rfl, ?_⟩
      refine ⟨_, rfl, ?_⟩
      refine q _ _ (emod_nn (by omega)) (emod_lt (by omega)) ⟨_, _, _, upd_same, Int.ediv_nonneg h1 (by omega), h2, h3, h4, by omega⟩ Ch.upd
    · refine ⟨_, rfl, p, _, _, _, rfl, rfl, SqL.of hp, rfl, _, _, rfl, rfl, ?_⟩
      refine ⟨_, rfl, p, _, _, _, rfl, rfl, hp, rfl, ?_⟩
      refine ⟨by show 5 ≤ sizeLine; decide, fun l hl => ?_⟩
      have npl : p ≠ l := ne_of_none upd_same hl
      refine ⟨_, rfl, p, _, _, _, rfl, rfl, SqL.of ((upd_ne npl).trans upd_same), rfl, .inl ⟨_, rfl, _, _, rfl, rfl, by show (0 : Int) < _; decide +kernel, ?_⟩⟩
      have hi : ∃ (j : Nat) (pr : Int), (n + 1) % 5 = (j : Int) ∧ [V.int 2147483647, V.int 2147483629, V.int 2147483587, V.int 2147483579, V.int 2147483563][j]? = some (.int pr) ∧ 0 < pr ∧ pr ≤ 2147483647 := by
        have e1 : 0 ≤ (n + 1) % 5 := emod_nn (by decide)
        have e2 : (n + 1) % 5 < 5 := emod_lt (by decide)
        have : (n + 1) % 5 = 0 ∨ (n + 1) % 5 = 1 ∨ (n + 1) % 5 = 2 ∨ (n + 1) % 5 = 3 ∨ (n + 1) % 5 = 4 := by omega
        rcases this with e | e | e | e | e
        · exact ⟨0, _, e, rfl, by decide, by decide⟩
        · exact ⟨1, _, e, rfl, by decide, by decide⟩
        · exact ⟨2, _, e, rfl, by decide, by decide⟩
        · exact ⟨3, _, e, rfl, by decide, by decide⟩
        · exact ⟨4, _, e, rfl, by decide, by decide⟩
      obtain ⟨j, pr, ej, hj, hpr, hpr2⟩ := hi
      refine ⟨l, _, _, _, rfl, rfl, SqL.of upd_same, at_of ej hj, ?_⟩
      refine ⟨_, rfl, p, _, _, _, rfl, rfl, SqL.of ((upd_ne npl).trans upd_same), rfl, ?_⟩
      refine ⟨_, rfl, p, _, _, _, rfl, rfl, SqL.of ((upd_ne npl).trans upd_same), rfl, _, _, rfl, rfl, .inl ⟨by decide, by decide⟩, ?_⟩
      refine ⟨_, rfl, p, _, _, _, rfl, rfl, SqL.of ((upd_ne npl).trans upd_same), rfl, _, _, rfl, rfl, .inr ⟨by omega, by omega⟩, _, _, rfl, rfl, _, _, rfl, rfl, ?_⟩
      have hsq : 0 ≤ (n + 1) * (n + 1) ∧ (n + 1) * (n + 1) ≤ 1000001 * 1000001 := ⟨Int.mul_nonneg (by omega) (by omega), Int.mul_le_mul (by omega) (by omega) (by omega) (by decide)⟩
      have hb0 : 99961 * (n + 1) * (n + 1) = 99961 * ((n + 1) * (n + 1)) := Int.mul_assoc _ _ _
      refine ⟨_, _, rfl, rfl, ⟨by decide, by decide, ?_⟩, .inl ⟨_, rfl, _, rfl, _, _, rfl, rfl, hpr, ?_⟩⟩
      · rw [hb0]
        omega
      · generalize hmx : ((seed + 99961 * (n + 1) * (n + 1) + 47) ^ (3 : Int).toNat) % pr = mx
        have m1 : 0 ≤ mx := by rw [← hmx]; exact emod_nn hpr
        have m2 : mx < pr := by rw [← hmx]; exact emod_lt hpr
        refine ⟨_, rfl, _, rfl, .inl ⟨_, rfl, _, _, rfl, rfl, by show (0 : Int) < _; decide +kernel, ?_⟩⟩
        refine ⟨_, rfl, p, _, _, _, rfl, rfl, SqL.of ((upd_ne npl).trans upd_same), rfl, _, _, rfl, rfl, .inl ⟨by decide, by decide⟩, _, _, rfl, rfl, _, _, rfl, rfl, .inl ⟨by omega, by omega⟩, _, _, rfl, rfl, ⟨by decide, by decide⟩, .inl ⟨_, rfl, _, rfl, _, _, rfl, rfl, by omega, ?_⟩⟩
        exact q _ _ (emod_nn (by omega)) (emod_lt (by omega)) ⟨_, _, _, (upd_ne npl).trans upd_same, h1, h2, h3, by omega, by omega⟩ (Ch.upd.trans (Ch.new hl))
theorem ok_of (F : L2.Fun K "_law_of" "_law_of" sOf f fd) (b : Binds K fd POf []) (B : Bi mg) (cT : CalF P w K mg base 1 "_law_take" spTake) : FnR P w K mg base CX0 2 f spOf := by
  refine fnR_of F b scOf (fun vs H Q E h => ?_) (fun cdv A outer s H vs Q E hr h => ?_)
  · obtain ⟨p, l, xs, m, rfl, _⟩ := h
    rfl
  · have sc := scOf
    obtain ⟨p, l, xs, m, rfl, hp, hm, hl, n, h1, h2, q⟩ := h
    refine ⟨_, (pss_one (ps_ret (pe_ix ix_list (pv 1) (pe_f cT hr (by decide) rfl (pa_cons (pv 0) (pa_cons (pe_callB call_len_seq (by rfl) B.len PySem.boot_len (pa_cons (pv 1) pa_nil)) pa_nil))) (fun _ _ => rfl)))), ?_⟩
    refine ⟨_, rfl, _, rfl, _, rfl, l, xs, rfl, .inl (SqL.of hl), p, _, m, rfl, hp, hm, by omega, by omega, fun d H1 d0 d1 hp1 c1 => ?_⟩
    have hj : d.toNat < xs.length := by omega
    exact ⟨l, xs, _, _, rfl, rfl, SqL.of (c1 _ _ n hl), at_of (j := d.toNat) (by omega) (List.getElem?_eq_getElem hj), q _ _ (List.getElem_mem hj) hp1 c1⟩
end
end Ws

namespace Ws
open PySem PySem.Spec PyProof.Rows L2
abbrev sNNeg : Stmt := (inClass (PySem.Challenge.pw_whatspeed_k07_stretches_of_any_value.main.body.getD 8 (.Pass ⟨0, 0, 0, 0⟩)) 8)
abbrev NNNeg : List Str := ["self"]
abbrev PNNeg : List Str := ["self"]
theorem scNNeg : FnScope NNNeg PNNeg (defScope sNNeg) := ⟨rfl, rfl, rfl, by decide +kernel, rfl, by decide +kernel, by decide +kernel⟩
abbrev sNAbs : Stmt := (inClass (PySem.Challenge.pw_whatspeed_k07_stretches_of_any_value.main.body.getD 8 (.Pass ⟨0, 0, 0, 0⟩)) 9)
abbrev NNAbs : List Str := ["self"]
abbrev PNAbs : List Str := ["self"]
theorem scNAbs : FnScope NNAbs PNAbs (defScope sNAbs) := ⟨rfl, rfl, rfl, by decide +kernel, rfl, by decide +kernel, by decide +kernel⟩
abbrev sNLess : Stmt := (inClass (PySem.Challenge.pw_whatspeed_k07_stretches_of_any_value.main.body.getD 8 (.Pass ⟨0, 0, 0, 0⟩)) 10)
abbrev NNLess : List Str := ["self", "other"]
abbrev PNLess : List Str := ["self", "other"]
theorem scNLess : FnScope NNLess PNLess (defScope sNLess) := ⟨rfl, rfl, rfl, by decide +kernel, rfl, by decide +kernel, by decide +kernel⟩
def absI (t : Int) : Int := if t < 0 then -t else t
def spOp1 (C : Addr) (f : Int → Int) : Sp := fun vs H Q _ => ∃ (a : Addr) (t b : Int), vs = [.ref a] ∧ NumAt C H a t b ∧ b ≠ 0 ∧ Sz 2000 b ∧ ∀ x H', H x = none → NumAt C H' x (nT (f t) b) (nB (f t) b) → Same H H' → Q (.ref x) H'
abbrev spNeg (C : Addr) : Sp := spOp1 C fun t => -t
abbrev spAbs (C : Addr) : Sp := spOp1 C absI
def spLess (C : Addr) : Sp := fun vs H Q _ => ∃ (a c : Addr) (t b p q : Int), vs = [.ref a, .ref c] ∧ NumAt C H a t b ∧ NumAt C H c p q ∧ Sz 2000 t ∧ Sz 2000 b ∧ Sz 2000 p ∧ Sz 2000 q ∧ Q (.bl (decide (t * q < p * b))) H
section
variable {P : Program} {w : World} {K : PySem.W.Frag} {mg : Str → Option Value} {base : Heap} {C f : Addr} {fd : FuncData}
theorem ok_nneg (F : L2.Fun K "__neg__" "Number.__neg__" sNNeg f fd) (b : Binds K fd PNNeg []) (NC : NumC K C) (mN : MakF P w K mg base 2 "Number" C (spNum C)) : FnR P w K mg base CX0 4 f (spNeg C) := by
  refine fnR_of F b scNNeg (fun vs H Q E h => ?_) (fun cdv A outer s H vs Q E hr h => ?_)
  · obtain ⟨a, t, b, rfl, _⟩ := h
    rfl
  · have sc := scNNeg
    obtain ⟨a, t, b, rfl, ⟨dx, ea⟩, hb, zb, k⟩ := h
    refine ⟨_, (pss_one (ps_ret (pe_mk mN hr (by decide) rfl (pa_cons (pe_un un_neg (pe_fld (pv 0) rfl)) (pa_cons (pe_fld (pv 0) rfl) pa_nil))))), ?_⟩
    refine ⟨_, rfl, a, C, dx, _, _, rfl, ea, NC.cl, NC.nT, nF_top _ _, _, rfl, ?_⟩
    refine ⟨_, rfl, a, C, dx, _, _, rfl, ea, NC.cl, NC.nB, nF_bot _ _, ?_⟩
    intro x d nx nd ne
    refine ⟨x, d, _, _, rfl, hb, zb.mono (by decide), upd_same, fun H1 h1 k1 => ⟨rfl, ?_⟩⟩
    exact k x H1 nx h1 (Same.mk nx nd k1)
theorem ok_nabs (F : L2.Fun K "__abs__" "Number.__abs__" sNAbs f fd) (b : Binds K fd PNAbs []) (B : Bi mg) (NC : NumC K C) (mN : MakF P w K mg base 2 "Number" C (spNum C)) : FnR P w K mg base CX0 4 f (spAbs C) := by
  refine fnR_of F b scNAbs (fun vs H Q E h => ?_) (fun cdv A outer s H vs Q E hr h => ?_)
  · obtain ⟨a, t, b, rfl, _⟩ := h
    rfl
  · have sc := scNAbs
    obtain ⟨a, t, b, rfl, ⟨dx, ea⟩, hb, zb, k⟩ := h
    refine ⟨_, (pss_one (ps_ret (pe_mk mN hr (by decide) rfl (pa_cons (pe_callB call_abs (by rfl) B.abs (by decide +kernel) (pa_cons (pe_fld (pv 0) rfl) pa_nil)) (pa_cons (pe_fld (pv 0) rfl) pa_nil))))), ?_⟩
    refine ⟨_, rfl, a, C, dx, _, _, rfl, ea, NC.cl, NC.nT, nF_top _ _, _, rfl, ?_⟩
    refine ⟨_, rfl, a, C, dx, _, _, rfl, ea, NC.cl, NC.nB, nF_bot _ _, ?_⟩
    intro x d nx nd ne
    refine ⟨x, d, _, _, rfl, hb, zb.mono (by decide), upd_same, fun H1 h1 k1 => ⟨rfl, ?_⟩⟩
    exact k x H1 nx h1 (Same.mk nx nd k1)
theorem ok_nless (F : L2.Fun K "is_less" "Number.is_less" sNLess f fd) (b : Binds K fd PNLess []) (NC : NumC K C) : FnR P w K mg base CX0 1 f (spLess C) := by
  refine fnR_of F b scNLess (fun vs H Q E h => ?_) (fun cdv A outer s H vs Q E hr h => ?_)
  · obtain ⟨a, c, t, b, p, q, rfl, _⟩ := h
    rfl
  · have sc := scNLess
    obtain ⟨a, c, t, b, p, q, rfl, ⟨dx, ea⟩, ⟨dy, ec⟩, z1, z2, z3, z4, k⟩ := h
    refine ⟨_, (pss_one (ps_ret (pe_cmpR op_lt (pe_op op_mulW (pe_fld (pv 0) rfl) (pe_fld (pv 1) rfl)) (pe_op op_mulW (pe_fld (pv 1) rfl) (pe_fld (pv 0) rfl)) (nomark _)))), ?_⟩
    refine ⟨_, rfl, a, C, dx, _, _, rfl, ea, NC.cl, NC.nT, nF_top _ _, _, rfl, c, C, dy, _, _, rfl, ec, NC.cl, NC.nB, nF_bot _ _, _, _, rfl, rfl, wide_mul z1 z4 (by decide) (by decide) (by decide), ?_⟩
    refine ⟨_, rfl, c, C, dy, _, _, rfl, ec, NC.cl, NC.nT, nF_top _ _, _, rfl, a, C, dx, _, _, rfl, ea, NC.cl, NC.nB, nF_bot _ _, _, _, rfl, rfl, wide_mul z3 z2 (by decide) (by decide) (by decide), _, _, rfl, rfl, k⟩
end
end Ws

namespace Ws
open PySem PySem.Spec PyProof.Rows L2
abbrev sErrN : Stmt := (inClass (PySem.Challenge.pw_whatspeed_k07_stretches_of_any_value.main.body.getD 5 (.Pass ⟨0, 0, 0, 0⟩)) 0)
abbrev NErrN : List Str := ["self", "value"]
abbrev PErrN : List Str := ["self", "value"]
theorem scErrN : FnScope NErrN PErrN (defScope sErrN) := ⟨rfl, rfl, rfl, by decide +kernel, rfl, by decide +kernel, by decide +kernel⟩
/-! ### an own error's __init__ -/
def spErr (C : Addr) : Sp := fun vs H Q _ => ∃ (a : Addr) (v : V), vs = [.ref a, v] ∧ H a = some (exo a C none) ∧ ∀ d, H d = none → d ≠ a → Q .non (upd (upd H d (exd d [("value", v)])) a (exo a C (some d)))
section
variable {P : Program} {w : World} {K : PySem.W.Frag} {mg : Str → Option Value} {base : Heap} {C f : Addr} {fd : FuncData}
theorem ok_errn (F : L2.Fun K "__init__" "BadStretch.__init__" sErrN f fd) (T : OexC K C) (hno : PySem.W.findIn K (.ref C) "value" = some none) : FnOk P w K mg base CX0 1 f fd PErrN (spErr C) := by
  refine F.ok scErrN (fun vs H Q E h => ?_) (fun cdv A outer s H vs Q E hr h => ?_)
  · obtain ⟨a, v, rfl, _⟩ := h
    rfl
  · have sc := scErrN
    obtain ⟨a, v, rfl, e, k⟩ := h
    refine ⟨_, (pss_one (ps_ost (pv 0) (pv 1))), ?_⟩
    refine ⟨_, rfl, _, rfl, a, C, rfl, T, hno, .inl ⟨e, fun d nd ne => ?_⟩⟩
    exact k d nd ne
end
/-- what raising one leaves -/
theorem err_same {H : Hp} {a d C : Addr} {v : V} (na : H a = none) (nd : H d = none) : Same H (upd (del (upd (upd (upd H a (exo a C none)) d (exd d [("value", v)])) a (exo a C (some d))) a) d (.xd [("value", v)])) := fun b o e => by
  have h1 := ne_of_none e na
  have h2 := ne_of_none e nd
  rw [upd_ne h2, del_ne h1, upd_ne h1, upd_ne h2, upd_ne h1]
  exact e
end Ws

namespace Ws
open PySem PySem.Spec PyProof.Rows L2
abbrev sSInit : Stmt := (inClass (PySem.Challenge.pw_whatspeed_k07_stretches_of_any_value.main.body.getD 10 (.Pass ⟨0, 0, 0, 0⟩)) 0)
abbrev NSInit : List Str := ["self", "low", "high", "has_low", "has_high"]
abbrev PSInit : List Str := ["self", "low", "high", "has_low", "has_high"]
theorem scSInit : FnScope NSInit PSInit (defScope sSInit) := ⟨rfl, rfl, rfl, by decide +kernel, rfl, by decide +kernel, by decide +kernel⟩
abbrev sSLow : Stmt := (inClass (PySem.Challenge.pw_whatspeed_k07_stretches_of_any_value.main.body.getD 10 (.Pass ⟨0, 0, 0, 0⟩)) 1)
abbrev NSLow : List Str := ["self"]
abbrev PSLow : List Str := ["self"]
theorem scSLow : FnScope NSLow PSLow (defScope sSLow) := ⟨rfl, rfl, rfl, by decide +kernel, rfl, by decide +kernel, by decide +kernel⟩
abbrev sSHigh : Stmt := (inClass (PySem.Challenge.pw_whatspeed_k07_stretches_of_any_value.main.body.getD 10 (.Pass ⟨0, 0, 0, 0⟩)) 2)
abbrev NSHigh : List Str := ["self"]
abbrev PSHigh : List Str := ["self"]
theorem scSHigh : FnScope NSHigh PSHigh (defScope sSHigh) := ⟨rfl, rfl, rfl, by decide +kernel, rfl, by decide +kernel, by decide +kernel⟩
abbrev sSHl : Stmt := (inClass (PySem.Challenge.pw_whatspeed_k07_stretches_of_any_value.main.body.getD 10 (.Pass ⟨0, 0, 0, 0⟩)) 3)
abbrev NSHl : List Str := ["self"]
abbrev PSHl : List Str := ["self"]
theorem scSHl : FnScope NSHl PSHl (defScope sSHl) := ⟨rfl, rfl, rfl, by decide +kernel, rfl, by decide +kernel, by decide +kernel⟩
abbrev sSHh : Stmt := (inClass (PySem.Challenge.pw_whatspeed_k07_stretches_of_any_value.main.body.getD 10 (.Pass ⟨0, 0, 0, 0⟩)) 4)
abbrev NSHh : List Str := ["self"]
abbrev PSHh : List Str := ["self"]
theorem scSHh : FnScope NSHh PSHh (defScope sSHh) := ⟨rfl, rfl, rfl, by decide +kernel, rfl, by decide +kernel, by decide +kernel⟩
abbrev sSMid : Stmt := (inClass (PySem.Challenge.pw_whatspeed_k07_stretches_of_any_value.main.body.getD 10 (.Pass ⟨0, 0, 0, 0⟩)) 5)
abbrev NSMid : List Str := ["self"]
abbrev PSMid : List Str := ["self"]
theorem scSMid : FnScope NSMid PSMid (defScope sSMid) := ⟨rfl, rfl, rfl, by decide +kernel, rfl, by decide +kernel, by decide +kernel⟩
/-! ### what may stand at an end, what may say that it is included -/
inductive EndK where
  | num (p q : Int)
  | odd
inductive FlagK where
  | flag (b : Bool)
  | odd
def EndK.isNum : EndK → Bool
  | .num _ _ => true
  | .odd => false
def FlagK.isFlag : FlagK → Bool
  | .flag _ => true
  | .odd => false
def fineB : EndK → EndK → FlagK → FlagK → Bool
  | .num p q, .num r s, .flag b, .flag c => decide (p * s < r * q) || (decide (p * s = r * q) && (b && c))
  | _, _, _, _ => false
/-- a value that is neither a Number nor a truth -/
def OddV (K : PySem.W.Frag) (C : Addr) (H : Hp) (v : V) : Prop := (∃ t, TyX K H v t ∧ PySem.W.kitOne K t (.ref C) = some false ∧ PySem.W.kitOne K t (.type "bool") = some false) ∧ (flatB v = true ∨ ∃ a o, v = .ref a ∧ H a = some o)
def EndIs (K : PySem.W.Frag) (C : Addr) (H : Hp) (v : V) : EndK → Prop
  | .num p q => ∃ a, v = .ref a ∧ NumAt C H a p q ∧ Low p q p q ∧ Sz 40 p ∧ Sz 40 q
  | .odd => OddV K C H v
def FlagIs (K : PySem.W.Frag) (C : Addr) (H : Hp) (v : V) : FlagK → Prop
  | .flag b => v = .bl b
  | .odd => OddV K C H v
theorem EndIs.ty {K : PySem.W.Frag} {C : Addr} {H : Hp} {v : V} (NC : NumC K C) : ∀ {A : EndK}, EndIs K C H v A → ∃ t, TyX K H v t ∧ PySem.W.kitOne K t (.ref C) = some A.isNum
  | .num p q, ⟨a, e, ⟨dx, h⟩, _⟩ => by subst e; exact ⟨_, NC.ty h, NC.kk⟩
  | .odd, ⟨⟨t, h1, h2, _⟩, _⟩ => ⟨t, h1, h2⟩
theorem FlagIs.ty {K : PySem.W.Frag} {C : Addr} {H : Hp} {v : V} : ∀ {A : FlagK}, FlagIs K C H v A → ∃ t, TyX K H v t ∧ PySem.W.kitOne K t (.type "bool") = some A.isFlag
  | .flag b, e => by cases (show v = V.bl b from e); exact ⟨_, .base (.bl b), kit_self _⟩
  | .odd, ⟨⟨t, h1, _, h2⟩, _⟩ => ⟨t, h1, h2⟩
theorem tyx_same {K : PySem.W.Frag} {H H' : Hp} {v : V} {t : Value} (h : TyX K H v t) (s : ∀ a o, v = .ref a → H a = some o → H' a = some o) : TyX K H' v t := by
  cases h with
  | base h => cases h with
    | non => exact .base .non
    | bl x => exact .base (.bl x)
    | int i => exact .base (.int i)
    | str x => exact .base (.str x)
    | flt x => exact .base (.flt x)
    | lst e => exact .base (.lst (s _ _ rfl e))
    | frz e => exact .base (.frz (s _ _ rfl e))
    | tup e => exact .base (.tup (s _ _ rfl e))
    | dK e => exact .base (.dK (s _ _ rfl e))
    | dT e => exact .base (.dT (s _ _ rfl e))
    | ins e cl ha hn htk hm => exact .base (.ins (s _ _ rfl e) cl ha hn htk hm)
  | byt b => exact .byt b
  | set e => exact .set (s _ _ rfl e)
  | kList e c => exact .kList e c
  | kTuple e c => exact .kTuple e c
  | kDict e c => exact .kDict e c
  | fTuple e => exact .fTuple (s _ _ rfl e)
  | fDict e => exact .fDict (s _ _ rfl e)
theorem OddV.at {K : PySem.W.Frag} {C : Addr} {H H' : Hp} {v : V} (h : OddV K C H v) (s : ∀ a o, v = .ref a → H a = some o → H' a = some o) : OddV K C H' v := let ⟨⟨t, h1, h2⟩, h3⟩ := h; ⟨⟨t, tyx_same h1 s, h2⟩, h3.imp id fun ⟨a, o, e, q⟩ => ⟨a, o, e, s a o e q⟩⟩
theorem EndIs.at {K : PySem.W.Frag} {C : Addr} {H H' : Hp} {v : V} (s : ∀ a o, v = .ref a → H a = some o → H' a = some o) : ∀ {A : EndK}, EndIs K C H v A → EndIs K C H' v A
  | .num p q, ⟨a, e, ⟨dx, h⟩, r⟩ => ⟨a, e, ⟨dx, s _ _ e h⟩, r⟩
  | .odd, h => OddV.at h s
theorem FlagIs.at {K : PySem.W.Frag} {C : Addr} {H H' : Hp} {v : V} (s : ∀ a o, v = .ref a → H a = some o → H' a = some o) : ∀ {A : FlagK}, FlagIs K C H v A → FlagIs K C H' v A
  | .flag b, e => e
  | .odd, h => OddV.at h s
theorem EndIs.same {K : PySem.W.Frag} {C : Addr} {H H' : Hp} {v : V} {A : EndK} (h : EndIs K C H v A) (s : Same H H') : EndIs K C H' v A := EndIs.at (fun a o _ e => s a o e) h
theorem FlagIs.same {K : PySem.W.Frag} {C : Addr} {H H' : Hp} {v : V} {A : FlagK} (h : FlagIs K C H v A) (s : Same H H') : FlagIs K C H' v A := FlagIs.at (fun a o _ e => s a o e) h
/-! ### a Stretch in the heap -/
def sF (l h hl hh m : V) : List (Str × V) := [("_low", l), ("_high", h), ("_has_low", hl), ("_has_high", hh), ("_middle", m)]
def StrAt (D : Addr) (H : Hp) (a : Addr) (l h hl hh m : V) : Prop := ∃ dx, H a = some (.ins D dx (sF l h hl hh m))
theorem StrAt.same {D : Addr} {H H' : Hp} {a : Addr} {l h hl hh m : V} (z : StrAt D H a l h hl hh m) (s : Same H H') : StrAt D H' a l h hl hh m := let ⟨dx, e⟩ := z; ⟨dx, s _ _ e⟩
structure StrC (K : PySem.W.Frag) (D : Addr) : Prop where
  cl : Cls K D
  n1 : NoAttr K D "_low"
  n2 : NoAttr K D "_high"
  n3 : NoAttr K D "_has_low"
  n4 : NoAttr K D "_has_high"
  n5 : NoAttr K D "_middle"
/-- the middle -/
def MidAt (C : Addr) (H : Hp) (m : V) (A B : EndK) : Prop := ∃ a p q r s, m = .ref a ∧ A = .num p q ∧ B = .num r s ∧ NumAt C H a (nT (p * s + r * q) (2 * q * s)) (nB (p * s + r * q) (2 * q * s))
def spStr (K : PySem.W.Frag) (C D Cs : Addr) : Sp := fun vs H Q E => ∃ (x dx : Addr) (l h hl hh : V) (A B : EndK) (F G : FlagK), vs = [.ref x, l, h, hl, hh] ∧ H x = some (.ins D dx []) ∧ l ≠ .ref x ∧ h ≠ .ref x ∧ hl ≠ .ref x ∧ hh ≠ .ref x ∧ EndIs K C H l A ∧ EndIs K C H h B ∧ FlagIs K C H hl F ∧ FlagIs K C H hh G ∧
  (fineB A B F G = true → ∀ m H', StrAt D H' x l h hl hh m → MidAt C H' m A B → (∀ a o, H a = some o → a ≠ x → H' a = some o) → Q .non H') ∧
  (fineB A B F G = false → ∀ y d H', H' y = some (.tup [l, h]) → H' d = some (.xd [("value", .ref y)]) → Same H H' → E (.ref Cs) (some d) H')
def spFld (D : Addr) (g : V → V → V → V → V → V) : Sp := fun vs H Q _ => ∃ (a : Addr) (l h hl hh m : V), vs = [.ref a] ∧ StrAt D H a l h hl hh m ∧ Q (g l h hl hh m) H
section
variable {P : Program} {w : World} {K : PySem.W.Frag} {mg : Str → Option Value} {base : Heap} {C D Cs f fB : Addr} {fd fdB : FuncData}
theorem sF_1 (l h hl hh m : V) : (sF l h hl hh m).lookup ("_low" : Str) = some l := lk_here
theorem sF_2 (l h hl hh m : V) : (sF l h hl hh m).lookup ("_high" : Str) = some h := (lk_past (by decide +kernel)).trans lk_here
theorem sF_3 (l h hl hh m : V) : (sF l h hl hh m).lookup ("_has_low" : Str) = some hl := (lk_past (by decide +kernel)).trans ((lk_past (by decide +kernel)).trans lk_here)
theorem sF_4 (l h hl hh m : V) : (sF l h hl hh m).lookup ("_has_high" : Str) = some hh := (lk_past (by decide +kernel)).trans ((lk_past (by decide +kernel)).trans ((lk_past (by decide +kernel)).trans lk_here))
theorem sF_5 (l h hl hh m : V) : (sF l h hl hh m).lookup ("_middle" : Str) = some m := (lk_past (by decide +kernel)).trans ((lk_past (by decide +kernel)).trans ((lk_past (by decide +kernel)).trans ((lk_past (by decide +kernel)).trans lk_here)))
theorem ok_slow (F : L2.Fun K "low" "Stretch.low" sSLow f fd) (b : Binds K fd PSLow []) (SC : StrC K D) : FnR P w K mg base CX0 1 f (spFld D fun l _ _ _ _ => l) := by
  refine fnR_of F b scSLow (fun vs H Q E h => ?_) (fun cdv A outer s H vs Q E hr h => ?_)
  · obtain ⟨a, l, h, hl, hh, m, rfl, _⟩ := h
    rfl
  · have sc := scSLow
    obtain ⟨a, l, h, hl, hh, m, rfl, ⟨dx, e⟩, k⟩ := h
    refine ⟨_, (pss_one (ps_ret (pe_fld (pv 0) rfl))), ?_⟩
    exact ⟨_, rfl, a, D, dx, _, _, rfl, e, SC.cl, SC.n1, sF_1 _ _ _ _ _, k⟩
theorem ok_shigh (F : L2.Fun K "high" "Stretch.high" sSHigh f fd) (b : Binds K fd PSHigh []) (SC : StrC K D) : FnR P w K mg base CX0 1 f (spFld D fun _ h _ _ _ => h) := by
  refine fnR_of F b scSHigh (fun vs H Q E h => ?_) (fun cdv A outer s H vs Q E hr h => ?_)
  · obtain ⟨a, l, h, hl, hh, m, rfl, _⟩ := h
    rfl
  · have sc := scSHigh
    obtain ⟨a, l, h, hl, hh, m, rfl, ⟨dx, e⟩, k⟩ := h
    refine ⟨_, (pss_one (ps_ret (pe_fld (pv 0) rfl))), ?_⟩
    exact ⟨_, rfl, a, D, dx, _, _, rfl, e, SC.cl, SC.n2, sF_2 _ _ _ _ _, k⟩
theorem ok_shl (F : L2.Fun K "has_low" "Stretch.has_low" sSHl f fd) (b : Binds K fd PSHl []) (SC : StrC K D) : FnR P w K mg base CX0 1 f (spFld D fun _ _ hl _ _ => hl) := by
  refine fnR_of F b scSHl (fun vs H Q E h => ?_) (fun cdv A outer s H vs Q E hr h => ?_)
  · obtain ⟨a, l, h, hl, hh, m, rfl, _⟩ := h
    rfl
  · have sc := scSHl
    obtain ⟨a, l, h, hl, hh, m, rfl, ⟨dx, e⟩, k⟩ := h
    refine ⟨_, (pss_one (ps_ret (pe_fld (pv 0) rfl))), ?_⟩
    exact ⟨_, rfl, a, D, dx, _, _, rfl, e, SC.cl, SC.n3, sF_3 _ _ _ _ _, k⟩
theorem ok_shh (F : L2.Fun K "has_high" "Stretch.has_high" sSHh f fd) (b : Binds K fd PSHh []) (SC : StrC K D) : FnR P w K mg base CX0 1 f (spFld D fun _ _ _ hh _ => hh) := by
  refine fnR_of F b scSHh (fun vs H Q E h => ?_) (fun cdv A outer s H vs Q E hr h => ?_)
  · obtain ⟨a, l, h, hl, hh, m, rfl, _⟩ := h
    rfl
  · have sc := scSHh
    obtain ⟨a, l, h, hl, hh, m, rfl, ⟨dx, e⟩, k⟩ := h
    refine ⟨_, (pss_one (ps_ret (pe_fld (pv 0) rfl))), ?_⟩
    exact ⟨_, rfl, a, D, dx, _, _, rfl, e, SC.cl, SC.n4, sF_4 _ _ _ _ _, k⟩
theorem ok_smid (F : L2.Fun K "middle" "Stretch.middle" sSMid f fd) (b : Binds K fd PSMid []) (SC : StrC K D) : FnR P w K mg base CX0 1 f (spFld D fun _ _ _ _ m => m) := by
  refine fnR_of F b scSMid (fun vs H Q E h => ?_) (fun cdv A outer s H vs Q E hr h => ?_)
  · obtain ⟨a, l, h, hl, hh, m, rfl, _⟩ := h
    rfl
  · have sc := scSMid
    obtain ⟨a, l, h, hl, hh, m, rfl, ⟨dx, e⟩, k⟩ := h
    refine ⟨_, (pss_one (ps_ret (pe_fld (pv 0) rfl))), ?_⟩
    exact ⟨_, rfl, a, D, dx, _, _, rfl, e, SC.cl, SC.n5, sF_5 _ _ _ _ _, k⟩
theorem put4 {H : Hp} {x a : Addr} {o o1 o2 o3 o4 : HO} (n : a ≠ x) (e : H a = some o) : upd (upd (upd (upd H x o1) x o2) x o3) x o4 a = some o := (upd_ne n).trans ((upd_ne n).trans ((upd_ne n).trans ((upd_ne n).trans e)))
theorem sF_put {l h hl hh m : V} : putF "_middle" m (putF "_has_high" hh (putF "_has_low" hl (putF "_high" h (putF "_low" l [])))) = sF l h hl hh m := by
  have p0 : putF "_low" l [] = [(("_low" : Str), l)] := rfl
  have p1 : putF "_high" h [(("_low" : Str), l)] = [(("_low" : Str), l), (("_high" : Str), h)] := (put_past (by decide +kernel)).trans rfl
  have p2 : putF "_has_low" hl [(("_low" : Str), l), (("_high" : Str), h)] = [(("_low" : Str), l), (("_high" : Str), h), (("_has_low" : Str), hl)] := (put_past (by decide +kernel)).trans (congrArg (List.cons _) ((put_past (by decide +kernel)).trans rfl))
  have p3 : putF "_has_high" hh [(("_low" : Str), l), (("_high" : Str), h), (("_has_low" : Str), hl)] = [(("_low" : Str), l), (("_high" : Str), h), (("_has_low" : Str), hl), (("_has_high" : Str), hh)] := (put_past (by decide +kernel)).trans (congrArg (List.cons _) ((put_past (by decide +kernel)).trans (congrArg (List.cons _) ((put_past (by decide +kernel)).trans rfl))))
  have p4 : putF "_middle" m [(("_low" : Str), l), (("_high" : Str), h), (("_has_low" : Str), hl), (("_has_high" : Str), hh)] = sF l h hl hh m := (put_past (by decide +kernel)).trans (congrArg (List.cons _) ((put_past (by decide +kernel)).trans (congrArg (List.cons _) ((put_past (by decide +kernel)).trans (congrArg (List.cons _) ((put_past (by decide +kernel)).trans rfl))))))
  rw [p0, p1, p2, p3, p4]
theorem mid_eq {u v p q r s : Int} (hq : 0 < q) (hs : 0 < s) (h : Low (p * s + r * q) (q * s) u v) : nT (u * nT 1 2) (v * nB 1 2) = nT (p * s + r * q) (2 * q * s) ∧ nB (u * nT 1 2) (v * nB 1 2) = nB (p * s + r * q) (2 * q * s) := by
  have e1 : nT 1 2 = 1 := by decide
  have e2 : nB 1 2 = 2 := by decide
  have c := h.cross
  have v0 := h.pos
  have qs : q * s ≠ 0 := Int.mul_ne_zero (by omega) (by omega)
  rw [e1, e2]
  refine nf_eq (by omega) (by rw [Int.mul_assoc]; omega) ?_
  grind
theorem ok_str {dvs : List V} {kvs : List (Str × V)} (F : FunD K "__init__" "Stretch.__init__" (defArgs sSInit) (defBody sSInit) (defScope sSInit) dvs kvs f fd) (B : Bi mg) (NC : NumC K C) (SC : StrC K D) (gN : mg "Number" = some (.ref C)) (gS : mg "BadStretch" = some (.ref Cs))
    (mN : MakF P w K mg base 2 "Number" C (spNum C)) (oA : OpnF P w K mg base 4 C (PySem.dunder Operator.Add.info.2) (spAdd C)) (oM : OpnF P w K mg base 4 C (PySem.dunder Operator.Mult.info.2) (spMul C)) (oE : OpnF P w K mg base 1 C "__eq__" (spNEq C)) (tL : MetF P w K mg base 1 C "is_less" (spLess C))
    (TE : OexC K Cs) (iB : PySem.W.findIn K (.ref Cs) "__init__" = some (some (.ref fB))) (tB : PySem.W.typeIn K (.ref fB) = some (.type "function")) (GB : FnOk P w K mg base CX0 1 fB fdB PErrN (spErr Cs)) (bB : Binds K fdB PErrN []) :
    FnOk P w K mg base (L2.CX P w) 5 f fd PSInit (spStr K C D Cs) := by
  refine F.ok scSInit (fun vs H Q E h => ?_) (fun cdv A0 outer s H vs Q E hr h => ?_)
  · obtain ⟨x, dx, l, h, hl, hh, A, B, F, G, rfl, _⟩ := h
    rfl
  · have sc := scSInit
    obtain ⟨x, dx, l, h, hl, hh, A, B', F, G, rfl, hx, nl, nh, nhl, nhh, iA, iB', iF, iG, k1, k2⟩ := h
    have rest : ∃ t, PSs (cxOf (L2.CX P w) P w K mg base NSInit "Stretch.__init__" (defScope sSInit) f cdv A0 outer s H E) (List.drop 3 (defBody sSInit)) t ∧ ∀ (a1 a2 : Addr) (p q r s' : Int) (b1 b2 : Bool), l = .ref a1 → h = .ref a2 → A = .num p q → B' = .num r s' → F = .flag b1 → G = .flag b2 →
        NumAt C H a1 p q → NumAt C H a2 r s' → Low p q p q → Low r s' r s' → Sz 40 p → Sz 40 q → Sz 40 r → Sz 40 s' → fineB A B' F G = true →
        t { nx := fun _ H' => Q .non H', rt := Q } [some (.ref x), some l, some h, some hl, some hh] H := by
      refine ⟨_, (pss_cons (ps_fld (pv 0) (pv 1) rfl) (pss_cons (ps_fld (pv 0) (pv 2) rfl) (pss_cons (ps_fld (pv 0) (pv 3) rfl) (pss_cons (ps_fld (pv 0) (pv 4) rfl) (pss_one (ps_fld (pv 0) (pe_op (op_own oM NC.sf hr (by decide)) (pe_op (op_own oA NC.sf hr (by decide)) (pv 1) (pv 2)) (pe_mk mN hr (by decide) rfl (pa_cons pe_int (pa_cons pe_int pa_nil)))) rfl)))))), ?_⟩
      rintro a1 a2 p q r s' b1 b2 rfl rfl rfl rfl rfl rfl N1 N2 l1 l2 zp zq zr zs fine
      obtain ⟨d1, e1⟩ := N1
      obtain ⟨d2, e2⟩ := N2
      have n1 : a1 ≠ x := fun z => nl (by rw [z])
      have n2 : a2 ≠ x := fun z => nh (by rw [z])
      have q0 := l1.pos
      have s0 := l2.pos
      have qs : q * s' ≠ 0 := Int.mul_ne_zero (by omega) (by omega)
      refine ⟨_, rfl, _, rfl, x, D, dx, [], rfl, hx, SC.cl, SC.n1, (by show 0 < 1000; decide), ?_⟩
      refine ⟨_, rfl, _, rfl, x, D, dx, _, rfl, upd_same, SC.cl, SC.n2, (by show 1 < 1000; decide), ?_⟩
      refine ⟨_, rfl, _, rfl, x, D, dx, _, rfl, upd_same, SC.cl, SC.n3, (by show 2 < 1000; decide), ?_⟩
      refine ⟨_, rfl, _, rfl, x, D, dx, _, rfl, upd_same, SC.cl, SC.n4, (by show 3 < 1000; decide), ?_⟩
      refine ⟨_, rfl, _, rfl, a1, d1, _, a2, d2, _, rfl, put4 n1 e1, rfl, put4 n2 e2, a1, a2, p, q, r, s', rfl, ⟨d1, put4 n1 e1⟩, ⟨d2, put4 n2 e2⟩, zp.mono (by decide), zq.mono (by decide), zr.mono (by decide), zs.mono (by decide), qs, fun u H6 nu hu j6 => ?_⟩
      intro y dy ny ndy ne
      refine ⟨y, dy, 1, 2, rfl, by decide, (show Sz 2 2 from by unfold Sz; decide).mono (by decide), upd_same, fun H7 h7 k7 => ⟨rfl, ?_⟩⟩
      have j7 : Same H6 H7 := Same.mk ny ndy k7
      have lu := nf_low (t := p * s' + r * q) qs
      have zu : Sz 100 (nT (p * s' + r * q) (q * s')) := (Sz.nT qs ((zp.mul zs).add (zr.mul zq))).mono (by decide)
      have zv : Sz 100 (nB (p * s' + r * q) (q * s')) := (Sz.nB qs (zq.mul zs)).mono (by decide)
      have em := mid_eq q0 s0 lu
      have hv : nB (p * s' + r * q) (q * s') * nB 1 2 ≠ 0 := Int.mul_ne_zero (by have := lu.pos; omega) (by decide)
      obtain ⟨du, eu⟩ := hu
      obtain ⟨dy', ey⟩ := h7
      refine ⟨u, du, _, y, dy', _, rfl, j7 _ _ eu, rfl, ey, u, y, _, _, _, _, rfl, ⟨du, j7 _ _ eu⟩, ⟨dy', ey⟩, zu.mono (by decide), zv.mono (by decide), (show Sz 2 (nT 1 2) from by unfold Sz; decide).mono (by decide), (show Sz 2 (nB 1 2) from by unfold Sz; decide).mono (by decide), hv, fun m H8 nm hm j8 => ?_⟩
      have j68 := (j6.trans j7).trans j8
      refine ⟨_, rfl, x, D, dx, _, rfl, j68 _ _ upd_same, SC.cl, SC.n5, (by show 4 < 1000; decide), ?_⟩
      rw [em.1, em.2] at hm
      have nmx : m ≠ x := fun z => by have := j68 _ _ upd_same; rw [z] at nm; rw [(j6.trans j7) _ _ upd_same] at nm; cases nm
      refine k1 fine (.ref m) _ ⟨dx, upd_same.trans ?_⟩ ⟨m, p, q, r, s', rfl, rfl, rfl, ?_⟩ fun a o e n => (upd_ne n).trans (j68 _ _ (put4 n e))
      · rw [sF_put]
      · obtain ⟨dm, em'⟩ := hm
        exact ⟨dm, (upd_ne nmx).trans em'⟩
    obtain ⟨t, hbody, ht⟩ := rest
    refine ⟨_, (pss_cons (ps_if (PW.pt (pw_or (pt_not (pt_val (pe_callB call_isi (by rfl) B.isinstance (by decide +kernel) (pa_cons (pv 1) (pa_cons (pe_glob (v := .ref C) rfl gN rfl) pa_nil))))) (pw_or1 (pt_not (pt_val (pe_callB call_isi (by rfl) B.isinstance (by decide +kernel) (pa_cons (pv 2) (pa_cons (pe_glob (v := .ref C) rfl gN rfl) pa_nil)))))))) (pss_one (ps_raise rfl (takes_of rfl rfl rfl rfl) (pmk_oex TE iB tB GB (hr.mono (by decide)) bB .nil pass0 rfl gS (pa_cons (pe_tup (pa_cons (pv 1) (pa_cons (pv 2) pa_nil))) pa_nil)))) pss_nil) (pss_cons (ps_if (PW.pt (pw_or (pt_not (pt_val (pe_callB call_isi (by rfl) B.isinstance (by decide +kernel) (pa_cons (pv 3) (pa_cons (pe_bltn (v := .ty "bool") (by rfl) B.bool (by decide +kernel) rfl) pa_nil))))) (pw_or1 (pt_not (pt_val (pe_callB call_isi (by rfl) B.isinstance (by decide +kernel) (pa_cons (pv 4) (pa_cons (pe_bltn (v := .ty "bool") (by rfl) B.bool (by decide +kernel) rfl) pa_nil)))))))) (pss_one (ps_raise rfl (takes_of rfl rfl rfl rfl) (pmk_oex TE iB tB GB (hr.mono (by decide)) bB .nil pass0 rfl gS (pa_cons (pe_tup (pa_cons (pv 1) (pa_cons (pv 2) pa_nil))) pa_nil)))) pss_nil) (pss_cons (ps_if (PW.pt (pw_or (pt_val (pe_mt tL hr (by decide) (pv 2) (pa_cons (pv 1) pa_nil))) (pw_or1 (PW.pt (pw_and (pt_cmpR (show OpR _ _ (rEqO K C (spNEq C)) from op_eqO oE hr (by decide)) (pv 1) (pv 2) (nomark _)) (pw_and1 (pt_not (PW.pt (pw_and (pt_val (pv 3)) (pw_and1 (pt_val (pv 4)))))))))))) (pss_one (ps_raise rfl (takes_of rfl rfl rfl rfl) (pmk_oex TE iB tB GB (hr.mono (by decide)) bB .nil pass0 rfl gS (pa_cons (pe_tup (pa_cons (pv 1) (pa_cons (pv 2) pa_nil))) pa_nil)))) pss_nil) hbody))), ?_⟩
    obtain ⟨tA, yA, kA⟩ := iA.ty NC
    obtain ⟨tB', yB, kB⟩ := iB'.ty NC
    obtain ⟨tF, yF, kF⟩ := iF.ty
    obtain ⟨tG, yG, kG⟩ := iG.ty
    cases A with
    | odd =>
      refine ⟨_, rfl, _, _, _, _, false, rfl, .own C, yA, kA, false, rfl, iteT ?_⟩
      (refine ⟨_, rfl, _, rfl, by show 2 ≤ sizeLine; decide, fun y ny => ⟨by show 1 ≤ 1000; decide, fun e ne => ⟨e, _, rfl, upd_same, fun d nd hde => ?_⟩⟩⟩; have j := Same.new (o := .tup [l, h]) ny; have ey := upd_same (H := H) (a := y) (o := .tup [l, h]); generalize upd H y (.tup [l, h]) = H1 at *; have nd1 : H1 d = none := (by rw [upd_ne hde] at nd; exact nd); have sm := err_same (C := Cs) (v := .ref y) ne nd1; refine ⟨rfl, d, _, upd_same, (upd_ne hde).trans upd_same, nd1, ?_⟩; exact k2 rfl y d _ (sm _ _ ey) upd_same (j.trans sm))
    | num p q =>
      refine ⟨_, rfl, _, _, _, _, true, rfl, .own C, yA, kA, true, rfl, iteF ?_⟩
      cases B' with
      | odd =>
        refine ⟨_, rfl, _, _, _, _, false, rfl, .own C, yB, kB, false, rfl, iteT ?_⟩
        (refine ⟨_, rfl, _, rfl, by show 2 ≤ sizeLine; decide, fun y ny => ⟨by show 1 ≤ 1000; decide, fun e ne => ⟨e, _, rfl, upd_same, fun d nd hde => ?_⟩⟩⟩; have j := Same.new (o := .tup [l, h]) ny; have ey := upd_same (H := H) (a := y) (o := .tup [l, h]); generalize upd H y (.tup [l, h]) = H1 at *; have nd1 : H1 d = none := (by rw [upd_ne hde] at nd; exact nd); have sm := err_same (C := Cs) (v := .ref y) ne nd1; refine ⟨rfl, d, _, upd_same, (upd_ne hde).trans upd_same, nd1, ?_⟩; exact k2 rfl y d _ (sm _ _ ey) upd_same (j.trans sm))
      | num r s' =>
        refine ⟨_, rfl, _, _, _, _, true, rfl, .own C, yB, kB, true, rfl, iteF ?_⟩
        cases F with
        | odd =>
          refine ⟨_, rfl, _, _, _, _, false, rfl, .ty _, yF, kF, false, rfl, iteT ?_⟩
          (refine ⟨_, rfl, _, rfl, by show 2 ≤ sizeLine; decide, fun y ny => ⟨by show 1 ≤ 1000; decide, fun e ne => ⟨e, _, rfl, upd_same, fun d nd hde => ?_⟩⟩⟩; have j := Same.new (o := .tup [l, h]) ny; have ey := upd_same (H := H) (a := y) (o := .tup [l, h]); generalize upd H y (.tup [l, h]) = H1 at *; have nd1 : H1 d = none := (by rw [upd_ne hde] at nd; exact nd); have sm := err_same (C := Cs) (v := .ref y) ne nd1; refine ⟨rfl, d, _, upd_same, (upd_ne hde).trans upd_same, nd1, ?_⟩; exact k2 rfl y d _ (sm _ _ ey) upd_same (j.trans sm))
        | flag b1 =>
          refine ⟨_, rfl, _, _, _, _, true, rfl, .ty _, yF, kF, true, rfl, iteF ?_⟩
          cases G with
          | odd =>
            refine ⟨_, rfl, _, _, _, _, false, rfl, .ty _, yG, kG, false, rfl, iteT ?_⟩
            (refine ⟨_, rfl, _, rfl, by show 2 ≤ sizeLine; decide, fun y ny => ⟨by show 1 ≤ 1000; decide, fun e ne => ⟨e, _, rfl, upd_same, fun d nd hde => ?_⟩⟩⟩; have j := Same.new (o := .tup [l, h]) ny; have ey := upd_same (H := H) (a := y) (o := .tup [l, h]); generalize upd H y (.tup [l, h]) = H1 at *; have nd1 : H1 d = none := (by rw [upd_ne hde] at nd; exact nd); have sm := err_same (C := Cs) (v := .ref y) ne nd1; refine ⟨rfl, d, _, upd_same, (upd_ne hde).trans upd_same, nd1, ?_⟩; exact k2 rfl y d _ (sm _ _ ey) upd_same (j.trans sm))
          | flag b2 =>
            refine ⟨_, rfl, _, _, _, _, true, rfl, .ty _, yG, kG, true, rfl, iteF ?_⟩
            obtain ⟨a1, rfl, N1, l1, zp, zq⟩ := iA
            obtain ⟨a2, rfl, N2, l2, zr, zs⟩ := iB'
            obtain ⟨d1, e1⟩ := N1
            obtain ⟨d2, e2⟩ := N2
            have N1 : NumAt C H a1 p q := ⟨d1, e1⟩
            have N2 : NumAt C H a2 r s' := ⟨d2, e2⟩
            refine ⟨_, rfl, a2, d2, _, rfl, e2, rfl, _, rfl, a2, a1, r, s', p, q, rfl, N2, N1, zr.mono (by decide), zs.mono (by decide), zp.mono (by decide), zq.mono (by decide), _, rfl, ?_⟩
            have iF : hl = .bl b1 := iF
            have iG : hh = .bl b2 := iG
            subst iF iG
            have fine0 : fineB (.num p q) (.num r s') (.flag b1) (.flag b2) = (decide (p * s' < r * q) || (decide (p * s' = r * q) && (b1 && b2))) := rfl
            refine if2 (fun hlt => ?_) (fun hlt => ?_)
            · have hlt := of_decide_eq_true hlt
              have ff : fineB (.num p q) (.num r s') (.flag b1) (.flag b2) = false := by
                rw [fine0, decide_eq_false (by omega), decide_eq_false (by omega)]
                rfl
              (refine ⟨_, rfl, _, rfl, by show 2 ≤ sizeLine; decide, fun y ny => ⟨by show 1 ≤ 1000; decide, fun e ne => ⟨e, _, rfl, upd_same, fun d nd hde => ?_⟩⟩⟩; have j := Same.new (o := .tup [.ref a1, .ref a2]) ny; have ey := upd_same (H := H) (a := y) (o := .tup [.ref a1, .ref a2]); generalize upd H y (.tup [.ref a1, .ref a2]) = H1 at *; have nd1 : H1 d = none := (by rw [upd_ne hde] at nd; exact nd); have sm := err_same (C := Cs) (v := .ref y) ne nd1; refine ⟨rfl, d, _, upd_same, (upd_ne hde).trans upd_same, nd1, ?_⟩; exact k2 ff y d _ (sm _ _ ey) upd_same (j.trans sm))
            · have hlt := of_decide_eq_false hlt
              refine ⟨_, rfl, _, rfl, a1, d1, _, _, rfl, e1, .ins e2, NC.nf, a1, a2, p, q, r, s', rfl, N1, N2, _, rfl, ?_⟩
              refine if2 (fun heq => ?_) (fun hne => ?_)
              · obtain ⟨rfl, rfl⟩ := of_decide_eq_true heq
                cases b1 with
                | false =>
                  refine ⟨_, rfl, _, rfl, ifF rfl (ifT rfl ?_)⟩
                  have ff : fineB (.num p q) (.num p q) (.flag false) (.flag b2) = false := by
                    rw [fine0, decide_eq_false (by omega)]
                    simp
                  (refine ⟨_, rfl, _, rfl, by show 2 ≤ sizeLine; decide, fun y ny => ⟨by show 1 ≤ 1000; decide, fun e ne => ⟨e, _, rfl, upd_same, fun d nd hde => ?_⟩⟩⟩; have j := Same.new (o := .tup [.ref a1, .ref a2]) ny; have ey := upd_same (H := H) (a := y) (o := .tup [.ref a1, .ref a2]); generalize upd H y (.tup [.ref a1, .ref a2]) = H1 at *; have nd1 : H1 d = none := (by rw [upd_ne hde] at nd; exact nd); have sm := err_same (C := Cs) (v := .ref y) ne nd1; refine ⟨rfl, d, _, upd_same, (upd_ne hde).trans upd_same, nd1, ?_⟩; exact k2 ff y d _ (sm _ _ ey) upd_same (j.trans sm))
                | true =>
                  refine ⟨_, rfl, _, rfl, ifT rfl ⟨_, rfl, _, rfl, ?_⟩⟩
                  cases b2 with
                  | false =>
                    refine ifT rfl ?_
                    have ff : fineB (.num p q) (.num p q) (.flag true) (.flag false) = false := by
                      rw [fine0, decide_eq_false (by omega)]
                      simp
                    (refine ⟨_, rfl, _, rfl, by show 2 ≤ sizeLine; decide, fun y ny => ⟨by show 1 ≤ 1000; decide, fun e ne => ⟨e, _, rfl, upd_same, fun d nd hde => ?_⟩⟩⟩; have j := Same.new (o := .tup [.ref a1, .ref a2]) ny; have ey := upd_same (H := H) (a := y) (o := .tup [.ref a1, .ref a2]); generalize upd H y (.tup [.ref a1, .ref a2]) = H1 at *; have nd1 : H1 d = none := (by rw [upd_ne hde] at nd; exact nd); have sm := err_same (C := Cs) (v := .ref y) ne nd1; refine ⟨rfl, d, _, upd_same, (upd_ne hde).trans upd_same, nd1, ?_⟩; exact k2 ff y d _ (sm _ _ ey) upd_same (j.trans sm))
                  | true =>
                    refine ifF rfl ?_
                    exact ht a1 a2 p q p q true true rfl rfl rfl rfl rfl rfl N1 N2 l1 l2 zp zq zr zs (by rw [fine0]; simp)
              · refine ifF rfl ?_
                refine ht a1 a2 p q r s' b1 b2 rfl rfl rfl rfl rfl rfl N1 N2 l1 l2 zp zq zr zs ?_
                have hne := of_decide_eq_false hne
                have : p * s' ≠ r * q := fun z => hne (low_uniq z l1.pos l2.pos l1.cop l2.cop)
                rw [fine0, decide_eq_true (by omega)]
                rfl
end
end Ws

namespace Ws
open PySem PySem.Spec PyProof.Rows L2
abbrev sLine : Stmt := (inClass (PySem.Challenge.pw_whatspeed_k07_stretches_of_any_value.main.body.getD 9 (.Pass ⟨0, 0, 0, 0⟩)) 0)
abbrev NLine : List Str := ["self", "base", "slope"]
abbrev PLine : List Str := ["self", "base", "slope"]
theorem scLine : FnScope NLine PLine (defScope sLine) := ⟨rfl, rfl, rfl, by decide +kernel, rfl, by decide +kernel, by decide +kernel⟩
abbrev sDrawn : Stmt := (PySem.Challenge.pw_whatspeed_k07_stretches_of_any_value.main.body.getD 15 (.Pass ⟨0, 0, 0, 0⟩))
abbrev NDrawn : List Str := ["pot"]
abbrev PDrawn : List Str := ["pot"]
theorem scDrawn : FnScope NDrawn PDrawn (defScope sDrawn) := ⟨rfl, rfl, rfl, by decide +kernel, rfl, by decide +kernel, by decide +kernel⟩
abbrev sOdd : Stmt := (PySem.Challenge.pw_whatspeed_k07_stretches_of_any_value.main.body.getD 16 (.Pass ⟨0, 0, 0, 0⟩))
abbrev NOdd : List Str := ["pot", "some"]
abbrev POdd : List Str := ["pot"]
theorem scOdd : FnScope NOdd POdd (defScope sOdd) := ⟨rfl, rfl, rfl, by decide +kernel, rfl, by decide +kernel, by decide +kernel⟩
abbrev sFine : Stmt := (PySem.Challenge.pw_whatspeed_k07_stretches_of_any_value.main.body.getD 17 (.Pass ⟨0, 0, 0, 0⟩))
abbrev NFine : List Str := ["low", "high", "is_low", "is_high", "left", "right"]
abbrev PFine : List Str := ["low", "high", "is_low", "is_high"]
theorem scFine : FnScope NFine PFine (defScope sFine) := ⟨rfl, rfl, rfl, by decide +kernel, rfl, by decide +kernel, by decide +kernel⟩
def lF (a c : Addr) : List (Str × V) := [("_base", .ref a), ("_slope", .ref c)]
def LineAt (D : Addr) (H : Hp) (x a c : Addr) : Prop := ∃ dx, H x = some (.ins D dx (lF a c))
structure LineC (K : PySem.W.Frag) (D : Addr) : Prop where
  cl : Cls K D
  nA : NoAttr K D "_base"
  nS : NoAttr K D "_slope"
  ha : PySem.W.findIn K (.ref D) "__class__" = some (some (.builtin "object.__class__"))
  hn : PySem.W.specialIn K (.builtin "object.__class__") "__get__" = some (some (.builtin "getset_descriptor.__get__"))
  htk : PySem.W.takesIn K (.builtin "object.__class__") = some true
  hm : PySem.W.mroIn K D (.type "object") = some true
/-- what is no Number and no truth -/
structure OddC (K : PySem.W.Frag) (C D : Addr) : Prop where
  n : PySem.W.kitOne K (.type "NoneType") (.ref C) = some false
  i : PySem.W.kitOne K (.type "int") (.ref C) = some false
  s : PySem.W.kitOne K (.type "str") (.ref C) = some false
  t : PySem.W.kitOne K (.type "tuple") (.ref C) = some false
  l : PySem.W.kitOne K (.type "list") (.ref C) = some false
  d : PySem.W.kitOne K (.type "dict") (.ref C) = some false
  o : PySem.W.kitOne K (.ref D) (.ref C) = some false
  b : PySem.W.kitOne K (.ref D) (.type "bool") = some false
def spLine (D : Addr) : Sp := fun vs H Q _ => ∃ (x dx a c : Addr), vs = [.ref x, .ref a, .ref c] ∧ H x = some (.ins D dx []) ∧ ∀ H', LineAt D H' x a c → (∀ u o, H u = some o → u ≠ x → H' u = some o) → Q .non H'
def spNum1 (C : Addr) : Sp := fun vs H Q _ => ∃ (x dx : Addr) (t : Int), vs = [.ref x, .int t] ∧ H x = some (.ins C dx []) ∧ ∀ H', NumAt C H' x (nT t 1) (nB t 1) → (∀ a o, H a = some o → a ≠ x → H' a = some o) → Q .non H'
def spDrawn (C : Addr) : Sp := fun vs H Q _ => ∃ (p : Addr) (m : Int), vs = [.ref p] ∧ PotAt H p m ∧ m ≤ 100000 ∧ ∀ a H' t b, H a = none → NumAt C H' a t b → Low t b t b → Sz 20 t → Sz 20 b → PotAt H' p (m + 2) → Ch p H H' → Q (.ref a) H'
def spOdd (K : PySem.W.Frag) (C : Addr) : Sp := fun vs H Q _ => ∃ (p : Addr) (m : Int), vs = [.ref p] ∧ PotAt H p m ∧ m ≤ 100000 ∧ ∀ v H', v ≠ .ref p → OddV K C H' v → PotAt H' p (m + 1) → Ch p H H' → Q v H'
def spFine (K : PySem.W.Frag) (C : Addr) : Sp := fun vs H Q _ => ∃ (l h hl hh : V) (A B : EndK) (F G : FlagK), vs = [l, h, hl, hh] ∧ EndIs K C H l A ∧ EndIs K C H h B ∧ FlagIs K C H hl F ∧ FlagIs K C H hh G ∧ Q (.bl (fineB A B F G)) H
section
variable {P : Program} {w : World} {K : PySem.W.Frag} {mg : Str → Option Value} {base : Heap} {C D f : Addr} {fd : FuncData}
theorem ok_line (F : L2.Fun K "__init__" "Line.__init__" sLine f fd) (b : Binds K fd PLine []) (LC : LineC K D) : FnR P w K mg base CX0 1 f (spLine D) := by
  refine fnR_of F b scLine (fun vs H Q E h => ?_) (fun cdv A outer s H vs Q E hr h => ?_)
  · obtain ⟨x, dx, a, c, rfl, _⟩ := h
    rfl
  · have sc := scLine
    obtain ⟨x, dx, a, c, rfl, hx, k⟩ := h
    refine ⟨_, (pss_cons (ps_fld (pv 0) (pv 1) rfl) (pss_one (ps_fld (pv 0) (pv 2) rfl))), ?_⟩
    refine ⟨_, rfl, _, rfl, x, D, dx, [], rfl, hx, LC.cl, LC.nA, (by show 0 < 1000; decide), ?_⟩
    refine ⟨_, rfl, _, rfl, x, D, dx, _, rfl, upd_same, LC.cl, LC.nS, (by show 1 < 1000; decide), ?_⟩
    refine k _ ⟨dx, upd_same.trans (congrArg some (congrArg (HO.ins D dx) ?_))⟩ fun a o e n => ?_
    · exact (put_past (by decide +kernel)).trans rfl
    · rw [upd_ne n, upd_ne n]
      exact e
theorem ok_drawn (F : L2.Fun K "_law_drawn" "_law_drawn" sDrawn f fd) (b : Binds K fd PDrawn []) (B : Bi mg) (mN : MakF P w K mg base 2 "Number" C (spNum C)) (cT : CalF P w K mg base 1 "_law_take" spTake) (cO : CalF P w K mg base 2 "_law_of" spOf) : FnR P w K mg base CX0 4 f (spDrawn C) := by
  refine fnR_of F b scDrawn (fun vs H Q E h => ?_) (fun cdv A outer s H vs Q E hr h => ?_)
  · obtain ⟨p, m, rfl, _⟩ := h
    rfl
  · have sc := scDrawn
    obtain ⟨p, m, rfl, hp, hm, q⟩ := h
    refine ⟨_, (pss_one (ps_ret (pe_mk mN hr (by decide) rfl (pa_cons (pe_op op_sub (pe_f cT hr (by decide) rfl (pa_cons (pv 0) (pa_cons pe_int pa_nil))) pe_int) (pa_cons (pe_f cO hr (by decide) rfl (pa_cons (pv 0) (pa_cons (pe_lst (pa_cons pe_int (pa_cons pe_int (pa_cons pe_int (pa_cons pe_int pa_nil))))) pa_nil))) pa_nil))))), ?_⟩
    refine ⟨_, rfl, p, 5, m, rfl, hp, by omega, by decide, by decide, fun d H1 d0 d1 hp1 c1 => ?_⟩
    refine ⟨_, _, rfl, rfl, _, rfl, by show 4 ≤ sizeLine; decide, fun l hl => ?_⟩
    have npl : p ≠ l := by obtain ⟨_, _, _, e, _⟩ := hp1; exact ne_of_none e hl
    refine ⟨p, l, _, m + 1, rfl, ?_, by omega, upd_same, fun z => npl z.symm, by show 1 ≤ 4; decide, by show 4 ≤ 1000; decide, fun v H2 hv hp2 c2 => ?_⟩
    · obtain ⟨x, y, z, e, r⟩ := hp1
      exact ⟨x, y, z, (upd_ne npl).trans e, r⟩
    have hv' : ∃ b : Int, v = .int b ∧ 1 ≤ b ∧ b ≤ 3 := by
      simp only [List.mem_cons, List.not_mem_nil, or_false] at hv
      rcases hv with rfl | rfl | rfl | rfl
      all_goals exact ⟨_, rfl, by decide, by decide⟩
    obtain ⟨b, rfl, hb1, hb2⟩ := hv'
    have c02 : Ch p H H2 := (c1.trans (Ch.new hl)).trans c2
    intro x dx nx nd ne
    have zb : Sz 20 b := by show b.natAbs < 2 ^ 20; omega
    have zt : Sz 20 (d - 2) := by show (d - 2).natAbs < 2 ^ 20; omega
    have b0 : b ≠ 0 := by omega
    refine ⟨x, dx, _, _, rfl, b0, zb.mono (by decide), upd_same, fun H3 h3 k3 => ⟨rfl, ?_⟩⟩
    have j3 : Same H2 H3 := Same.mk nx nd k3
    have lw := nf_low (t := d - 2) b0
    have npx : x ≠ p := by rintro rfl; obtain ⟨_, _, _, e, _⟩ := hp2; rw [e] at nx; cases nx
    exact q x H3 _ _ (c02.free npx nx) h3 (lw.self b0) (zt.nT b0) (zb.nB b0) ((hp2.same j3).mono (by omega)) (c02.trans (Ch.of j3))
theorem oddR {t : Value} {H : Hp} {a : Addr} {o : HO} (e : H a = some o) (h : TyX K H (.ref a) t) (h1 : PySem.W.kitOne K t (.ref C) = some false) (h2 : PySem.W.kitOne K t (.type "bool") = some false) : OddV K C H (.ref a) := ⟨⟨t, h, h1, h2⟩, .inr ⟨a, o, rfl, e⟩⟩
theorem ok_odd (F : L2.Fun K "_law_odd" "_law_odd" sOdd f fd) (b : Binds K fd POdd []) (OC : OddC K C D) (LC : LineC K D) (mN : MakF P w K mg base 2 "Number" C (spNum1 C)) (mL : MakF P w K mg base 1 "Line" D (spLine D)) (cO : CalF P w K mg base 2 "_law_of" spOf) : FnR P w K mg base CX0 4 f (spOdd K C) := by
  refine fnR_of F b scOdd (fun vs H Q E h => ?_) (fun cdv A outer s H vs Q E hr h => ?_)
  · obtain ⟨p, m, rfl, _⟩ := h
    rfl
  · have sc := scOdd
    obtain ⟨p, m, rfl, hp, hm, q⟩ := h
    refine ⟨_, (pss_cons (ps_set (i := 1) sc.nd rfl (Or.inl rfl) (pe_lst (pa_cons pe_non (pa_cons pe_int (pa_cons pe_int (pa_cons (pe_un un_neg pe_int) (pa_cons pe_str (pa_cons pe_str (pa_cons (pe_tup pa_nil) (pa_cons (pe_lst pa_nil) (pa_cons pe_dnewK (pa_cons (pe_tup (pa_cons pe_int (pa_cons pe_int pa_nil))) (pa_cons (pe_mk mL hr (by decide) rfl (pa_cons (pe_mk mN hr (by decide) rfl (pa_cons pe_int pa_nil)) (pa_cons (pe_mk mN hr (by decide) rfl (pa_cons pe_int pa_nil)) pa_nil))) (pa_cons (pe_lst (pa_cons (pe_mk mN hr (by decide) rfl (pa_cons pe_int pa_nil)) pa_nil)) (pa_cons (pe_tup (pa_cons (pe_mk mN hr (by decide) rfl (pa_cons pe_int pa_nil)) pa_nil)) pa_nil))))))))))))))) (pss_one (ps_ret (pe_f cO hr (by decide) rfl (pa_cons (pv 0) (pa_cons (pv 1) pa_nil)))))), ?_⟩
    have np : ∀ {a : Addr} {G : Hp}, Same H G → G a = none → a ≠ p := fun {a G} s e z => by
      obtain ⟨_, _, _, e2, _⟩ := hp
      rw [z, s _ _ e2] at e
      cases e
    refine ⟨_, rfl, by show 0 ≤ sizeLine; decide, fun t1 n1 => ?_⟩
    have g1 := Same.new (o := .tup []) n1
    have e1 := upd_same (H := H) (a := t1) (o := .tup [])
    generalize upd H t1 (.tup []) = H1 at g1 e1
    refine ⟨by show 0 ≤ sizeLine; decide, fun t2 n2 => ?_⟩
    have g2 := Same.new (o := .lst []) n2
    have e2 := upd_same (H := H1) (a := t2) (o := .lst [])
    generalize upd H1 t2 (.lst []) = H2 at g2 e2
    intro t3 n3
    have g3 := Same.new (o := .dK []) n3
    have e3 := upd_same (H := H2) (a := t3) (o := .dK [])
    generalize upd H2 t3 (.dK []) = H3 at g3 e3
    refine ⟨by show 2 ≤ sizeLine; decide, fun t4 n4 => ?_⟩
    have g4 := Same.new (o := .tup [.int 0, .int 1]) n4
    have e4 := upd_same (H := H3) (a := t4) (o := .tup [.int 0, .int 1])
    generalize upd H3 t4 (.tup [.int 0, .int 1]) = H4 at g4 e4
    -- Line(Number(0), Number(1))
    intro x1 dx1 nx1 nd1 ne1
    refine ⟨x1, dx1, _, rfl, upd_same, fun H5 h5 k5 => ⟨rfl, ?_⟩⟩
    have g5 : Same H4 H5 := Same.mk nx1 nd1 k5
    intro x2 dx2 nx2 nd2 ne2
    refine ⟨x2, dx2, _, rfl, upd_same, fun H6 h6 k6 => ⟨rfl, ?_⟩⟩
    have g6 : Same H5 H6 := Same.mk nx2 nd2 k6
    intro t5 dx3 nx3 nd3 ne3
    refine ⟨t5, dx3, x1, x2, rfl, upd_same, fun H7 h7 k7 => ⟨rfl, ?_⟩⟩
    have g7 : Same H6 H7 := Same.mk nx3 nd3 k7
    -- [Number(0)]
    intro x4 dx4 nx4 nd4 ne4
    refine ⟨x4, dx4, _, rfl, upd_same, fun H8 h8 k8 => ⟨rfl, ?_⟩⟩
    have g8 : Same H7 H8 := Same.mk nx4 nd4 k8
    refine ⟨by show 1 ≤ sizeLine; decide, fun t6 n6 => ?_⟩
    have g9 := Same.new (o := .lst [.ref x4]) n6
    have e9 := upd_same (H := H8) (a := t6) (o := .lst [.ref x4])
    generalize upd H8 t6 (.lst [.ref x4]) = H9 at g9 e9
    -- (Number(1),)
    intro x5 dx5 nx5 nd5 ne5
    refine ⟨x5, dx5, _, rfl, upd_same, fun H10 h10 k10 => ⟨rfl, ?_⟩⟩
    have g10 : Same H9 H10 := Same.mk nx5 nd5 k10
    refine ⟨by show 1 ≤ sizeLine; decide, fun t7 n7 => ?_⟩
    have g11 := Same.new (o := .tup [.ref x5]) n7
    have e11 := upd_same (H := H10) (a := t7) (o := .tup [.ref x5])
    generalize upd H10 t7 (.tup [.ref x5]) = H11 at g11 e11
    refine ⟨by show 13 ≤ sizeLine; decide, fun L nL => ?_⟩
    have s2 := g1.trans g2
    have s3 := s2.trans g3
    have s4 := s3.trans g4
    have s6 := (s4.trans g5).trans g6
    have s8 := (s6.trans g7).trans g8
    have s10 := (s8.trans g9).trans g10
    have s11 := s10.trans g11
    have c12 : Ch p H11 (upd H11 L (.lst [.non, .int 0, .int 1, .int (-1), .str "", .str "0", .ref t1, .ref t2, .ref t3, .ref t4, .ref t5, .ref t6, .ref t7])) := Ch.new nL
    have g12 := Same.new (o := .lst [.non, .int 0, .int 1, .int (-1), .str "", .str "0", .ref t1, .ref t2, .ref t3, .ref t4, .ref t5, .ref t6, .ref t7]) nL
    have s12 := s11.trans g12
    have u11 := g11.trans g12
    have u9 := g10.trans u11
    have u7 := (g8.trans g9).trans u9
    have u4 := ((g5.trans g6).trans g7).trans u7
    have u3 := g4.trans u4
    have u2 := g3.trans u3
    have u1 := g2.trans u2
    refine ⟨_, rfl, _, rfl, p, L, _, m, rfl, hp.same s12, by omega, upd_same, fun z => np s11 nL z, by show 1 ≤ 13; decide, by show 13 ≤ 1000; decide, fun v G hv hpG cG => ?_⟩
    have cc := (Ch.of (p := p) s12).trans cG
    have up : ∀ {a : Addr} {o : HO} {H0 : Hp}, Same H0 (upd H11 L (.lst [.non, .int 0, .int 1, .int (-1), .str "", .str "0", .ref t1, .ref t2, .ref t3, .ref t4, .ref t5, .ref t6, .ref t7])) → a ≠ p → H0 a = some o → G a = some o := fun {a o H0} s n e => cG _ _ n (s _ _ e)
    have p1 : t1 ≠ p := np (fun _ _ e => e) n1
    have p2 : t2 ≠ p := np g1 n2
    have p3 : t3 ≠ p := np s2 n3
    have p4 : t4 ≠ p := np s3 n4
    have p5 : t5 ≠ p := np s6 nx3
    have p6 : t6 ≠ p := np s8 n6
    have p7 : t7 ≠ p := np s10 n7
    have kb : ∀ {T : String}, kitB T "bool" = some false → PySem.W.kitOne K (.type T) (.type "bool") = some false := fun h => kit_ty h
    simp only [List.mem_cons, List.not_mem_nil, or_false] at hv
    rcases hv with rfl | rfl | rfl | rfl | rfl | rfl | rfl | rfl | rfl | rfl | rfl | rfl | rfl
    · exact q _ G (fun z => nomatch z) ⟨⟨_, .base .non, OC.n, kb (by decide +kernel)⟩, .inl rfl⟩ hpG cc
    · exact q _ G (fun z => nomatch z) ⟨⟨_, .base (.int _), OC.i, kb (by decide +kernel)⟩, .inl rfl⟩ hpG cc
    · exact q _ G (fun z => nomatch z) ⟨⟨_, .base (.int _), OC.i, kb (by decide +kernel)⟩, .inl rfl⟩ hpG cc
    · exact q _ G (fun z => nomatch z) ⟨⟨_, .base (.int _), OC.i, kb (by decide +kernel)⟩, .inl rfl⟩ hpG cc
    · exact q _ G (fun z => nomatch z) ⟨⟨_, .base (.str _), OC.s, kb (by decide +kernel)⟩, .inl rfl⟩ hpG cc
    · exact q _ G (fun z => nomatch z) ⟨⟨_, .base (.str _), OC.s, kb (by decide +kernel)⟩, .inl rfl⟩ hpG cc
    · exact q _ G (fun z => p1 (by injection z)) (oddR (up u1 p1 e1) (.base (.tup (up u1 p1 e1))) OC.t (kb (by decide +kernel))) hpG cc
    · exact q _ G (fun z => p2 (by injection z)) (oddR (up u2 p2 e2) (.base (.lst (up u2 p2 e2))) OC.l (kb (by decide +kernel))) hpG cc
    · exact q _ G (fun z => p3 (by injection z)) (oddR (up u3 p3 e3) (.base (.dK (up u3 p3 e3))) OC.d (kb (by decide +kernel))) hpG cc
    · exact q _ G (fun z => p4 (by injection z)) (oddR (up u4 p4 e4) (.base (.tup (up u4 p4 e4))) OC.t (kb (by decide +kernel))) hpG cc
    · obtain ⟨dl, el⟩ := h7
      exact q _ G (fun z => p5 (by injection z)) (oddR (up u7 p5 el) (.base (.ins (up u7 p5 el) LC.cl LC.ha LC.hn LC.htk LC.hm)) OC.o OC.b) hpG cc
    · exact q _ G (fun z => p6 (by injection z)) (oddR (up u9 p6 e9) (.base (.lst (up u9 p6 e9))) OC.l (kb (by decide +kernel))) hpG cc
    · exact q _ G (fun z => p7 (by injection z)) (oddR (up g12 p7 e11) (.base (.tup (up g12 p7 e11))) OC.t (kb (by decide +kernel))) hpG cc
theorem ok_fine (F : L2.Fun K "_law_is_fine" "_law_is_fine" sFine f fd) (b : Binds K fd PFine []) (B : Bi mg) (NC : NumC K C) (gN : mg "Number" = some (.ref C)) (pT : PrpF P w K mg base 1 C "top" (spTop C)) (pB : PrpF P w K mg base 1 C "bottom" (spBot C)) : FnR P w K mg base CX0 3 f (spFine K C) := by
  refine fnR_of F b scFine (fun vs H Q E h => ?_) (fun cdv A0 outer s H vs Q E hr h => ?_)
  · obtain ⟨l, h, hl, hh, A, B, F, G, rfl, _⟩ := h
    rfl
  · have sc := scFine
    obtain ⟨l, h, hl, hh, A, B', F, G, rfl, iA, iB', iF, iG, k⟩ := h
    refine ⟨_, (pss_cons (ps_if (PW.pt (pw_or (pt_not (pt_val (pe_callB call_isi (by rfl) B.isinstance (by decide +kernel) (pa_cons (pv 0) (pa_cons (pe_glob (v := .ref C) rfl gN rfl) pa_nil))))) (pw_or1 (pt_not (pt_val (pe_callB call_isi (by rfl) B.isinstance (by decide +kernel) (pa_cons (pv 1) (pa_cons (pe_glob (v := .ref C) rfl gN rfl) pa_nil)))))))) (pss_one (ps_ret pe_bl)) pss_nil) (pss_cons (ps_if (PW.pt (pw_or (pt_not (pt_val (pe_callB call_isi (by rfl) B.isinstance (by decide +kernel) (pa_cons (pv 2) (pa_cons (pe_bltn (v := .ty "bool") (by rfl) B.bool (by decide +kernel) rfl) pa_nil))))) (pw_or1 (pt_not (pt_val (pe_callB call_isi (by rfl) B.isinstance (by decide +kernel) (pa_cons (pv 3) (pa_cons (pe_bltn (v := .ty "bool") (by rfl) B.bool (by decide +kernel) rfl) pa_nil)))))))) (pss_one (ps_ret pe_bl)) pss_nil) (pss_cons (ps_par (i := 4) (j := 5) (by rfl) sc.nd rfl rfl (by decide) rfl rfl (pa_cons (pe_op op_mulW (pe_pr pT hr (by decide) (pv 0)) (pe_pr pB hr (by decide) (pv 1))) (pa_cons (pe_op op_mulW (pe_pr pT hr (by decide) (pv 1)) (pe_pr pB hr (by decide) (pv 0))) pa_nil)) (by rfl)) (pss_one (ps_ret (pe_or (pe_cmpR op_lt (pv 4) (pv 5) (nomark _)) (pe_one (pe_and (pe_cmpR op_eq (pv 4) (pv 5) (nomark _)) (pe_and (pv 2) (pe_one (pv 3))))))))))), ?_⟩
    obtain ⟨tA, yA, kA⟩ := iA.ty NC
    obtain ⟨tB', yB, kB⟩ := iB'.ty NC
    obtain ⟨tF, yF, kF⟩ := iF.ty
    obtain ⟨tG, yG, kG⟩ := iG.ty
    cases A with
    | odd => exact ⟨_, rfl, _, _, _, _, false, rfl, .own C, yA, kA, false, rfl, iteT k⟩
    | num p q =>
      refine ⟨_, rfl, _, _, _, _, true, rfl, .own C, yA, kA, true, rfl, iteF ?_⟩
      cases B' with
      | odd => exact ⟨_, rfl, _, _, _, _, false, rfl, .own C, yB, kB, false, rfl, iteT k⟩
      | num r s' =>
        refine ⟨_, rfl, _, _, _, _, true, rfl, .own C, yB, kB, true, rfl, iteF ?_⟩
        cases F with
        | odd => exact ⟨_, rfl, _, _, _, _, false, rfl, .ty _, yF, kF, false, rfl, iteT k⟩
        | flag b1 =>
          refine ⟨_, rfl, _, _, _, _, true, rfl, .ty _, yF, kF, true, rfl, iteF ?_⟩
          cases G with
          | odd => exact ⟨_, rfl, _, _, _, _, false, rfl, .ty _, yG, kG, false, rfl, iteT k⟩
          | flag b2 =>
            refine ⟨_, rfl, _, _, _, _, true, rfl, .ty _, yG, kG, true, rfl, iteF ?_⟩
            obtain ⟨a1, rfl, N1, l1, zp, zq⟩ := iA
            obtain ⟨a2, rfl, N2, l2, zr, zs⟩ := iB'
            have iF : hl = .bl b1 := iF
            have iG : hh = .bl b2 := iG
            subst iF iG
            obtain ⟨d1, e1⟩ := N1
            obtain ⟨d2, e2⟩ := N2
            have N1 : NumAt C H a1 p q := ⟨d1, e1⟩
            have N2 : NumAt C H a2 r s' := ⟨d2, e2⟩
            refine ⟨_, rfl, a1, d1, _, rfl, e1, a1, p, q, rfl, N1, _, rfl, a2, d2, _, rfl, e2, a2, r, s', rfl, N2, _, _, rfl, rfl, wide_mul zp zs (by decide) (by decide) (by decide), ?_⟩
            refine ⟨_, rfl, a2, d2, _, rfl, e2, a2, r, s', rfl, N2, _, rfl, a1, d1, _, rfl, e1, a1, p, q, rfl, N1, _, _, rfl, rfl, wide_mul zr zq (by decide) (by decide) (by decide), ?_⟩
            refine ⟨_, _, rfl, ?_⟩
            have fin0 : fineB (.num p q) (.num r s') (.flag b1) (.flag b2) = (decide (p * s' < r * q) || (decide (p * s' = r * q) && (b1 && b2))) := rfl
            rw [fin0] at k
            refine ⟨_, rfl, _, rfl, _, _, rfl, rfl, _, rfl, if2 (fun h => ?_) (fun h => ?_)⟩
            · rw [h] at k
              exact k
            · rw [h] at k
              refine ⟨_, rfl, _, rfl, rfl, _, rfl, if2 (fun h => ?_) (fun h => ?_)⟩
              · have hv : decide (p * s' = r * q) = true := decide_eq_true (by have := of_decide_eq_true h; injection this)
                rw [hv] at k
                refine ⟨_, rfl, _, rfl, if2 (fun h => ?_) (fun h => ?_)⟩
                · subst h
                  exact ⟨_, rfl, k⟩
                · subst h
                  exact k
              · have hv : decide (p * s' = r * q) = false := decide_eq_false (fun z => of_decide_eq_false h (congrArg V.int z))
                rw [hv] at k
                exact k
end
end Ws

namespace Ws
open PySem PySem.Spec PyProof.Rows L2
abbrev sHeard : Stmt := (PySem.Challenge.pw_whatspeed_k07_stretches_of_any_value.main.body.getD 18 (.Pass ⟨0, 0, 0, 0⟩))
abbrev NHeard : List Str := ["low", "high", "is_low", "is_high", "caught", "told", "e"]
abbrev PHeard : List Str := ["low", "high", "is_low", "is_high"]
theorem scHeard : FnScope NHeard PHeard (defScope sHeard) := ⟨rfl, rfl, rfl, by decide +kernel, rfl, by decide +kernel, by decide +kernel⟩
abbrev sRefd : Stmt := (PySem.Challenge.pw_whatspeed_k07_stretches_of_any_value.main.body.getD 19 (.Pass ⟨0, 0, 0, 0⟩))
abbrev NRefd : List Str := ["caught", "low", "high", "one", "end"]
abbrev PRefd : List Str := ["caught", "low", "high"]
theorem scRefd : FnScope NRefd PRefd (defScope sRefd) := ⟨rfl, rfl, rfl, by decide +kernel, rfl, by decide +kernel, by decide +kernel⟩
def BadAt (Cs : Addr) (H : Hp) (er : Addr) (l h : V) : Prop := ∃ d y, H er = some (Kx (.ref Cs) (some d) er) ∧ H d = some (.xd [("value", .ref y)]) ∧ H y = some (.tup [l, h])
theorem BadAt.same {Cs : Addr} {H H' : Hp} {er : Addr} {l h : V} (b : BadAt Cs H er l h) (s : Same H H') : BadAt Cs H' er l h := let ⟨d, y, e1, e2, e3⟩ := b; ⟨d, y, s _ _ e1, s _ _ e2, s _ _ e3⟩
def spHeard (K : PySem.W.Frag) (C D Cs : Addr) : Sp := fun vs H Q _ => ∃ (l h hl hh : V) (A B : EndK) (F G : FlagK), vs = [l, h, hl, hh] ∧ EndIs K C H l A ∧ EndIs K C H h B ∧ FlagIs K C H hl F ∧ FlagIs K C H hh G ∧
  (fineB A B F G = true → ∀ R st m H', H' R = some (.tup [.non, .ref st]) → StrAt D H' st l h hl hh m → MidAt C H' m A B → Same H H' → Q (.ref R) H') ∧
  (fineB A B F G = false → ∀ R er H', H' R = some (.tup [.ref er, .non]) → BadAt Cs H' er l h → Same H H' → Q (.ref R) H')
def spRefd (K : PySem.W.Frag) (C Cs : Addr) : Sp := fun vs H Q _ => ∃ (er : Addr) (l h : V) (A B : EndK), vs = [.ref er, l, h] ∧ BadAt Cs H er l h ∧ EndIs K C H l A ∧ EndIs K C H h B ∧ ∀ H', Same H H' → Q (.bl true) H'
section
variable {P : Program} {w : World} {K : PySem.W.Frag} {mg : Str → Option Value} {base : Heap} {C D Cb Cs Ce f fI : Addr} {fd fdI : FuncData}
theorem OddV.nex {H : Hp} {v : V} {x : Addr} (hx : H x = none) (h : OddV K C H v) : v ≠ .ref x := fun z => by
  subst z
  obtain ⟨_, h | ⟨a, o, e, q⟩⟩ := h
  · cases h
  · cases e
    rw [hx] at q
    cases q
theorem EndIs.item {H : Hp} {v : V} : ∀ {A : EndK}, EndIs K C H v A → flatB v = true ∨ ∃ c, v = .ref c
  | .num _ _, ⟨a, e, _⟩ => .inr ⟨a, e⟩
  | .odd, ⟨_, h⟩ => h.imp id fun ⟨a, _, e, _⟩ => ⟨a, e⟩
theorem EndIs.nex {H : Hp} {v : V} {x : Addr} (hx : H x = none) : ∀ {A : EndK}, EndIs K C H v A → v ≠ .ref x
  | .num _ _, ⟨a, e, ⟨dx, h⟩, _⟩ => fun z => by rw [e] at z; cases z; rw [hx] at h; cases h
  | .odd, h => OddV.nex hx h
theorem FlagIs.nex {H : Hp} {v : V} {x : Addr} (hx : H x = none) : ∀ {A : FlagK}, FlagIs K C H v A → v ≠ .ref x
  | .flag b, e => fun z => by rw [show v = V.bl b from e] at z; cases z
  | .odd, h => OddV.nex hx h
theorem ok_heard (F : L2.Fun K "_law_heard" "_law_heard" sHeard f fd) (b : Binds K fd PHeard []) (MI : Mk K D fI) (GI : FnOk P w K mg base (L2.CX P w) 5 fI fdI PSInit (spStr K C D Cs)) (bK : KBn K fdI PSInit 3 ["has_low", "has_high"] (fun us ws => us ++ ws) (fun vs zs => vs ++ zs)) (gD : mg "Stretch" = some (.ref D))
    (gE : mg "SpeedError" = some (.ref Ce)) (xE : PySem.W.exmOne K (.ref Cs) (.ref Ce) = some true) : FnR P w K mg base CX0 7 f (spHeard K C D Cs) := by
  refine fnR_of F b scHeard (fun vs H Q E h => ?_) (fun cdv A0 outer s H vs Q E hr h => ?_)
  · obtain ⟨l, h, hl, hh, A, B, F, G, rfl, _⟩ := h
    rfl
  · have sc := scHeard
    obtain ⟨l, h, hl, hh, A, B', F, G, rfl, iA, iB', iF, iG, k1, k2⟩ := h
    refine ⟨_, (pss_cons (ps_asg (pe_tup (pa_cons pe_non (pa_cons pe_non pa_nil))) (pg_tup rfl (pgs_cons (pg_name (i := 4) sc.nd rfl (Or.inl rfl)) (pgs_cons (pg_name (i := 5) sc.nd rfl (Or.inl rfl)) pgs_nil)))) (pss_cons (ps_keep (i := 6) rfl rfl rfl sc.nd rfl rfl ⟨rfl, by decide, .inl gE⟩ (fun W pn xe tk _ => by exact (pss_one (ps_set (i := 5) sc.nd rfl (Or.inl rfl) (pe_mkKS MI GI (hr.mono (by decide)) rfl gD bK (fun σ => passAt tk σ) (pa_cons (pv 0) (pa_cons (pv 1) pa_nil)) (pk_cons (pv 2) (pk_cons (pv 3) pk_nil)))))) (fun a oe cls d pn hz hf => by exact (pss_one (ps_set (i := 4) sc.nd rfl (Or.inl rfl) (pv 6))))) (pss_one (ps_ret (pe_tup (pa_cons (pv 4) (pa_cons (pv 5) pa_nil))))))), ?_⟩
    refine ⟨by show 2 ≤ sizeLine; decide, fun T nTT => ⟨T, _, rfl, SqT.of upd_same, rfl, _, _, rfl, _, _, rfl, rfl, ?_⟩⟩
    have jT := Same.new (o := .tup [.non, .non]) nTT
    generalize upd H T (.tup [.non, .non]) = G0 at jT
    have iA := iA.same jT
    have iB' := iB'.same jT
    have iF := iF.same jT
    have iG := iG.same jT
    refine ⟨_, rfl, _, rfl, _, rfl, _, rfl, rfl, rfl, fun x dx nx nd ne => ?_⟩
    have j0 : Same G0 (upd (upd G0 dx (.own x)) x (.ins D dx [])) := fun b o e => (upd_ne (ne_of_none e nx)).trans ((upd_ne (ne_of_none e nd)).trans e)
    refine ⟨x, dx, l, h, hl, hh, A, B', F, G, rfl, upd_same, iA.nex nx, iB'.nex nx, iF.nex nx, iG.nex nx, iA.same j0, iB'.same j0, iF.same j0, iG.same j0, fun hf m G1 st mid kp => ⟨rfl, ?_⟩, fun hf y d G1 ey ed j1 => ⟨xE, fun er na => ?_⟩⟩
    · have j1 : Same G0 G1 := Same.mk nx nd kp
      refine ⟨_, rfl, _, rfl, by show 2 ≤ sizeLine; decide, fun R nR => ?_⟩
      have j2 := Same.new (o := .tup [.non, .ref x]) nR
      refine k1 hf R x m _ upd_same (st.same j2) ?_ ((jT.trans j1).trans j2)
      obtain ⟨a, p, q, r, s', e1, e2, e3, e4⟩ := mid
      exact ⟨a, p, q, r, s', e1, e2, e3, e4.same j2⟩
    · refine ⟨_, rfl, ?_⟩
      have j2 := Same.new (o := Kx (.ref Cs) (some d) er) na
      refine ⟨_, rfl, _, rfl, by show 2 ≤ sizeLine; decide, fun R nR => ?_⟩
      have j3 := Same.new (o := .tup [.ref er, .non]) nR
      exact k2 hf R er _ upd_same ⟨d, y, j3 _ _ upd_same, j3 _ _ (j2 _ _ ed), j3 _ _ (j2 _ _ ey)⟩ ((((jT.trans j0).trans j1).trans j2).trans j3)
theorem ok_refd (F : L2.Fun K "_law_is_refused" "_law_is_refused" sRefd f fd) (b : Binds K fd PRefd []) (B : Bi mg) (zT : mg "tuple" = none) (zZ : mg "zip" = none) (NC : NumC K C) (gN : mg "Number" = some (.ref C)) (TE : ErrC K Cs) (hno : PySem.W.findIn K (.ref Cs) "value" = some none) (gB : mg "BadNumber" = some (.ref Cb)) (gS : mg "BadStretch" = some (.ref Cs))
    (kB : PySem.W.kitOne K (.ref Cs) (.ref Cb) = some false) : FnR P w K mg base CX0 1 f (spRefd K C Cs) := by
  refine fnR_of F b scRefd (fun vs H Q E h => ?_) (fun cdv A0 outer s H vs Q E hr h => ?_)
  · obtain ⟨er, l, h, A, B, rfl, _⟩ := h
    rfl
  · have sc := scRefd
    obtain ⟨er, l, h, A, B', rfl, ⟨d, y, e1, e2, e3⟩, iA, iB', k⟩ := h
    refine ⟨_, (pss_cons (ps_if (PW.pt (pw_or (pt_not (pt_val (pe_callB call_kis (by rfl) B.isinstance (by decide +kernel) (pa_cons (pv 0) (pa_cons (pe_glob (v := .ref Cs) rfl gS rfl) pa_nil))))) (pw_or1 (pt_val (pe_callB call_kis (by rfl) B.isinstance (by decide +kernel) (pa_cons (pv 0) (pa_cons (pe_glob (v := .ref Cb) rfl gB rfl) pa_nil))))))) (pss_one (ps_ret pe_bl)) pss_nil) (pss_cons (ps_if (PW.pt (pw_or (pt_not (pt_val (pe_callB call_isi (by rfl) B.isinstance (by decide +kernel) (pa_cons (pe_kx TE hno (pv 0)) (pa_cons (pe_bltn (v := .ty "tuple") (by rfl) zT (by decide +kernel) rfl) pa_nil))))) (pw_or1 (pt_cmpR op_ne (pe_callB call_len_seq (by rfl) B.len PySem.boot_len (pa_cons (pe_kx TE hno (pv 0)) pa_nil)) pe_int (nomark _))))) (pss_one (ps_ret pe_bl)) pss_nil) (pss_cons (ps_for PassesOwn.never rfl (RZ.pi_zipA (by rfl) zZ (pa_cons (pe_kx TE hno (pv 0)) (pa_cons (pe_tup (pa_cons (pv 1) (pa_cons (pv 2) pa_nil))) pa_nil))) (pg_tup rfl (pgs_cons (pg_name (i := 3) sc.nd rfl (Or.inl rfl)) (pgs_cons (pg_name (i := 4) sc.nd rfl (Or.inl rfl)) pgs_nil))) (pss_one (ps_if (pt_cmpR op_ne (pe_callB call_isi (by rfl) B.isinstance (by decide +kernel) (pa_cons (pv 3) (pa_cons (pe_glob (v := .ref C) rfl gN rfl) pa_nil))) (pe_callB call_isi (by rfl) B.isinstance (by decide +kernel) (pa_cons (pv 4) (pa_cons (pe_glob (v := .ref C) rfl gN rfl) pa_nil))) (nomark _)) (pss_one (ps_ret pe_bl)) pss_nil))) (pss_one (ps_ret (pe_cmpR (op_eqTI hr) (pe_kx TE hno (pv 0)) (pe_tup (pa_cons (pv 1) (pa_cons (pv 2) pa_nil))) (nomark _))))))), ?_⟩
    refine ⟨_, rfl, er, d, Cs, Cs, _, true, rfl, e1, e2, TE, kit_self _, true, rfl, iteF ?_⟩
    refine ⟨_, rfl, er, d, Cs, Cb, _, false, rfl, e1, e2, TE, kB, false, rfl, ifF rfl ?_⟩
    refine ⟨_, rfl, er, d, _, _, rfl, e1, e2, lk_here, _, _, _, _, true, rfl, .ty _, .base (.tup e3), kit_self _, true, rfl, iteF ?_⟩
    refine ⟨_, rfl, er, d, _, _, rfl, e1, e2, lk_here, y, _, rfl, .inr (SqT.of e3), rfl, _, rfl, ifF rfl ?_⟩
    refine ⟨_, rfl, er, d, _, _, rfl, e1, e2, lk_here, _, rfl, _, rfl, by show 2 ≤ sizeLine; decide, fun T nT => ?_⟩
    have j1 := Same.new (o := .tup [l, h]) nT
    have eT := upd_same (H := H) (a := T) (o := .tup [l, h])
    generalize upd H T (.tup [l, h]) = G at j1 eT
    have one : ∀ (v : V) (A : EndK), EndIs K C H v A → ∀ G' : Hp, Same H G' → ∃ t, TyX K G' v t ∧ PySem.W.kitOne K t (.ref C) = some A.isNum := fun v A i G' s => (i.same s).ty NC
    refine ⟨y, T, [l, h], [l, h], rfl, .inr ⟨SqT.of (j1 _ _ e3), SqT.of eT, RZ.for_zipT (xs := [l, h]) (ys := [l, h]) rfl (fun i σ H' => ∃ u v, σ = [some (.ref er), some l, some h, u, v] ∧ Same G H') ⟨_, _, rfl, fun _ _ e => e⟩ ?_ ?_ ?_⟩⟩
    · rintro i σ H' ⟨_, _, _, s'⟩
      exact ⟨SqT.of (s' _ _ (j1 _ _ e3)), SqT.of (s' _ _ eT)⟩
    · rintro i x1 x2 T2 σ H' h1 h2 ⟨_, _, rfl, s'⟩ nT2
      have j2 := Same.new (o := .tup [x1, x2]) nT2
      refine ⟨T2, _, rfl, SqT.of upd_same, rfl, _, _, rfl, _, _, rfl, rfl, ?_⟩
      have key : x1 = x2 ∧ ∃ A, EndIs K C H x1 A := by
        match i, h1, h2 with
        | 0, h1, h2 => cases h1; cases h2; exact ⟨rfl, A, iA⟩
        | 1, h1, h2 => cases h1; cases h2; exact ⟨rfl, B', iB'⟩
        | i + 2, h1, _ => exact absurd h1 (by simp)
      obtain ⟨rfl, A1, i1⟩ := key
      obtain ⟨t1, ty1, k1⟩ := one _ _ i1 _ ((j1.trans s').trans j2)
      refine ⟨_, rfl, _, _, _, _, _, rfl, .own C, ty1, k1, _, rfl, _, _, _, _, _, rfl, .own C, ty1, k1, rfl, _, rfl, ifF (by simp) ?_⟩
      exact ⟨_, _, rfl, s'.trans j2⟩
    · rintro σ H' ⟨_, _, rfl, s'⟩
      have j2 := j1.trans s'
      refine ⟨_, rfl, er, d, _, _, rfl, j2 _ _ e1, j2 _ _ e2, lk_here, _, rfl, _, rfl, by show 2 ≤ sizeLine; decide, fun T3 nT3 => ?_⟩
      have j3 := Same.new (o := .tup [l, h]) nT3
      refine ⟨y, T3, [l, h], rfl, rfl, SqT.of (j3 _ _ (j2 _ _ e3)), SqT.of upd_same, fun v hv => ?_, k _ (j2.trans j3)⟩
      simp only [List.mem_cons, List.not_mem_nil, or_false] at hv
      rcases hv with rfl | rfl
      · exact iA.item
      · exact iB'.item
end
end Ws

namespace Ws
open PySem PySem.Spec PyProof.Rows L2
abbrev sRight : Stmt := (PySem.Challenge.pw_whatspeed_k07_stretches_of_any_value.main.body.getD 20 (.Pass ⟨0, 0, 0, 0⟩))
abbrev NRight : List Str := ["pot", "low", "high", "is_low", "is_high", "way", "caught", "told", "half"]
abbrev PRight : List Str := ["pot"]
theorem scRight : FnScope NRight PRight (defScope sRight) := ⟨rfl, rfl, rfl, by decide +kernel, rfl, by decide +kernel, by decide +kernel⟩
abbrev sLaw : Stmt := (PySem.Challenge.pw_whatspeed_k07_stretches_of_any_value.main.body.getD 21 (.Pass ⟨0, 0, 0, 0⟩))
abbrev NLaw : List Str := ["script", "plain", "k", "pot", "turn"]
abbrev PLaw : List Str := ["script"]
theorem scLaw : FnScope NLaw PLaw (defScope sLaw) := ⟨rfl, rfl, rfl, by decide +kernel, rfl, by decide +kernel, by decide +kernel⟩
structure StrT (K : PySem.W.Frag) (D : Addr) : Prop where
  ha : PySem.W.findIn K (.ref D) "__class__" = some (some (.builtin "object.__class__"))
  hn : PySem.W.specialIn K (.builtin "object.__class__") "__get__" = some (some (.builtin "getset_descriptor.__get__"))
  htk : PySem.W.takesIn K (.builtin "object.__class__") = some true
  hm : PySem.W.mroIn K D (.type "object") = some true
def spRight : Sp := fun vs H Q _ => ∃ (p : Addr) (m : Int), vs = [.ref p] ∧ PotAt H p m ∧ m ≤ 10000 ∧ ∀ H', PotAt H' p (m + 8) → Ch p H H' → Q (.bl true) H'
def spLaw (K : PySem.W.Frag) : Sp := fun vs H Q _ => ∃ (a : Addr) (ns : List Int), vs = [.ref a] ∧ SqL K H a (ns.map V.int) ∧ ns.length ≤ 63 ∧ ∀ H', Q (.bl true) H'
theorem fine_inv : ∀ {A B : EndK} {F G : FlagK}, fineB A B F G = true → ∃ p q r s b c, A = .num p q ∧ B = .num r s ∧ F = .flag b ∧ G = .flag c
  | .num p q, .num r s, .flag b, .flag c, _ => ⟨p, q, r, s, b, c, rfl, rfl, rfl, rfl⟩
  | .odd, _, _, _, h => by cases h
  | .num _ _, .odd, _, _, h => by cases h
  | .num _ _, .num _ _, .odd, _, h => by cases h
  | .num _ _, .num _ _, .flag _, .odd, h => by cases h
theorem dp_ne (x y : Str) (h : x = y) : (!decide (V.str x = V.str y)) = false := by subst h; simp
theorem dpB {K : PySem.W.Frag} {H : Hp} {r : Addr} {b c : Bool} (h : H r = some (.lst [.bl b, .bl c])) : Dp K H (.ref r) (.list [.bool b, .bool c]) := .lst (SqL.of h) (.cons (.bl _) (.cons (.bl _) .nil))
theorem EndIs.ch {K : PySem.W.Frag} {C p : Addr} {H H' : Hp} {v : V} {A : EndK} (h : EndIs K C H v A) (c : Ch p H H') (n : v ≠ .ref p) : EndIs K C H' v A := EndIs.at (fun a o e q => c _ _ (fun z => n (by rw [e, z])) q) h
theorem FlagIs.ch {K : PySem.W.Frag} {C p : Addr} {H H' : Hp} {v : V} {A : FlagK} (h : FlagIs K C H v A) (c : Ch p H H') (n : v ≠ .ref p) : FlagIs K C H' v A := FlagIs.at (fun a o e q => c _ _ (fun z => n (by rw [e, z])) q) h
theorem pot_off {H : Hp} {p a : Addr} {m : Int} (hp : PotAt H p m) (na : H a = none) : a ≠ p := by
  rintro rfl
  obtain ⟨_, _, _, e, _⟩ := hp
  rw [e] at na
  cases na
section
variable {P : Program} {w : World} {K : PySem.W.Frag} {mg : Str → Option Value} {base : Heap} {C D Cs f : Addr} {fd : FuncData}
theorem ok_right (F : L2.Fun K "_law_is_right" "_law_is_right" sRight f fd) (b : Binds K fd PRight []) (B : Bi mg) (gR : mg "repr" = none) (NC : NumC K C) (SC : StrC K D) (ST : StrT K D) (gD : mg "Stretch" = some (.ref D)) (mN : MakF P w K mg base 2 "Number" C (spNum C))
    (cT : CalF P w K mg base 1 "_law_take" spTake) (cD : CalF P w K mg base 4 "_law_drawn" (spDrawn C)) (cO : CalF P w K mg base 4 "_law_odd" (spOdd K C)) (cF : CalF P w K mg base 3 "_law_is_fine" (spFine K C)) (cH : CalF P w K mg base 7 "_law_heard" (spHeard K C D Cs)) (cR : CalF P w K mg base 1 "_law_is_refused" (spRefd K C Cs))
    (pT : PrpF P w K mg base 1 C "top" (spTop C)) (pB : PrpF P w K mg base 1 C "bottom" (spBot C)) (oE : OpnF P w K mg base 1 C "__eq__" (spNEq C))
    (p1 : PrpF P w K mg base 1 D "low" (spFld D fun l _ _ _ _ => l)) (p2 : PrpF P w K mg base 1 D "high" (spFld D fun _ h _ _ _ => h)) (p3 : PrpF P w K mg base 1 D "has_low" (spFld D fun _ _ hl _ _ => hl)) (p4 : PrpF P w K mg base 1 D "has_high" (spFld D fun _ _ _ hh _ => hh)) (p5 : PrpF P w K mg base 1 D "middle" (spFld D fun _ _ _ _ m => m)) : FnG P w K mg base CX0 8 f spRight := by
  refine fnG_of F b scRight (fun vs H Q E h => ?_) (fun cdv A0 outer s H vs Q E cl hr h => ?_)
  · obtain ⟨p, m, rfl, _⟩ := h
    rfl
  · have sc := scRight
    obtain ⟨p, m, rfl, hp, hm, k⟩ := h
    have rest : ∃ t, PSs (cxOf CX0 P w K mg base NRight "_law_is_right" (defScope sRight) f cdv A0 outer s H E).nox (List.drop 4 (defBody sRight)) t ∧ ∀ (G : Hp) (l h hl hh : V) (A B : EndK) (F' G' : FlagK) (wy : Option V), EndIs K C G l A → EndIs K C G h B → FlagIs K C G hl F' → FlagIs K C G hh G' → PotAt G p (m + 8) → Ch p H G →
        t { nx := fun _ H' => Q .non H', rt := Q } [some (.ref p), some l, some h, some hl, some hh, wy, none, none, none] G := by
      refine ⟨_, (pss_cons (ps_asg (pe_f cH hr (by decide) rfl (pa_cons (pv 1) (pa_cons (pv 2) (pa_cons (pv 3) (pa_cons (pv 4) pa_nil))))) (pg_tup rfl (pgs_cons (pg_name (i := 6) sc.nd rfl (Or.inl rfl)) (pgs_cons (pg_name (i := 7) sc.nd rfl (Or.inl rfl)) pgs_nil)))) (pss_cons (ps_if (pt_not (pt_val (pe_f cF hr (by decide) rfl (pa_cons (pv 1) (pa_cons (pv 2) (pa_cons (pv 3) (pa_cons (pv 4) pa_nil))))))) (pss_one (ps_ret (pe_and (pe_cmpR op_isN (pv 7) pe_non (nomark _)) (pe_one (pe_f cR hr (by decide) rfl (pa_cons (pv 6) (pa_cons (pv 1) (pa_cons (pv 2) pa_nil)))))))) pss_nil) (pss_cons (ps_if (PW.pt (pw_or (pt_cmpR op_notN (pv 6) pe_non (nomark _)) (pw_or1 (pt_not (pt_val (pe_callB call_isi (by rfl) B.isinstance (by decide +kernel) (pa_cons (pv 7) (pa_cons (pe_glob (v := .ref D) rfl gD rfl) pa_nil)))))))) (pss_one (ps_ret pe_bl)) pss_nil) (pss_cons (ps_if (PW.pt (pw_or (pt_not (pt_cmpR (show OpR _ _ (rEqO K C (spNEq C)) from op_eqO oE hr (by decide)) (pe_pr p1 hr (by decide) (pv 7)) (pv 1) (nomark _))) (pw_or1 (pt_not (pt_cmpR (show OpR _ _ (rEqO K C (spNEq C)) from op_eqO oE hr (by decide)) (pe_pr p2 hr (by decide) (pv 7)) (pv 2) (nomark _)))))) (pss_one (ps_ret pe_bl)) pss_nil) (pss_cons (ps_if (pt_cmpR op_ne (pe_callB (call_rep cl hr) (by rfl) gR (by decide +kernel) (pa_cons (pe_lst (pa_cons (pe_pr p3 hr (by decide) (pv 7)) (pa_cons (pe_pr p4 hr (by decide) (pv 7)) pa_nil))) pa_nil)) (pe_callB (call_rep cl hr) (by rfl) gR (by decide +kernel) (pa_cons (pe_lst (pa_cons (pv 3) (pa_cons (pv 4) pa_nil))) pa_nil)) (nomark _)) (pss_one (ps_ret pe_bl)) pss_nil) (pss_cons (ps_set (i := 8) sc.nd rfl (Or.inl rfl) (pe_mk mN hr (by decide) rfl (pa_cons (pe_op op_add (pe_op op_mulW (pe_pr pT hr (by decide) (pv 1)) (pe_pr pB hr (by decide) (pv 2))) (pe_op op_mulW (pe_pr pT hr (by decide) (pv 2)) (pe_pr pB hr (by decide) (pv 1)))) (pa_cons (pe_op op_mulW (pe_op op_mulW pe_int (pe_pr pB hr (by decide) (pv 1))) (pe_pr pB hr (by decide) (pv 2))) pa_nil)))) (pss_one (ps_ret (pe_cmpR (show OpR _ _ (rEqO K C (spNEq C)) from op_eqO oE hr (by decide)) (pe_pr p5 hr (by decide) (pv 7)) (pv 8) (nomark _)))))))))), ?_⟩
      intro G l h hl hh A B' F' G' wy iA iB' iF iG hpG cG
      refine ⟨_, rfl, _, rfl, _, rfl, _, rfl, l, h, hl, hh, A, B', F', G', rfl, iA, iB', iF, iG, fun hf R st mid G1 eR eS eM j1 => ?_, fun hf R er G1 eR bad j1 => ?_⟩
      · -- they make a stretch
        refine ⟨R, _, rfl, SqT.of eR, rfl, _, _, rfl, _, _, rfl, rfl, ?_⟩
        have iA := iA.same j1
        have iB' := iB'.same j1
        have iF := iF.same j1
        have iG := iG.same j1
        refine ⟨_, rfl, _, rfl, _, rfl, _, rfl, l, h, hl, hh, A, B', F', G', rfl, iA, iB', iF, iG, _, rfl, ?_⟩
        rw [hf]
        refine ifF rfl ?_
        obtain ⟨p', q, r, s', b1, b2, rfl, rfl, rfl, rfl⟩ := fine_inv hf
        obtain ⟨a1, rfl, N1, l1, zp, zq⟩ := iA
        obtain ⟨a2, rfl, N2, l2, zr, zs⟩ := iB'
        have iF : hl = .bl b1 := iF
        have iG : hh = .bl b2 := iG
        subst iF iG
        obtain ⟨d1, e1⟩ := N1
        obtain ⟨d2, e2⟩ := N2
        have N1 : NumAt C G1 a1 p' q := ⟨d1, e1⟩
        have N2 : NumAt C G1 a2 r s' := ⟨d2, e2⟩
        obtain ⟨ds, es⟩ := eS
        have eS : StrAt D G1 st (.ref a1) (.ref a2) (.bl b1) (.bl b2) mid := ⟨ds, es⟩
        obtain ⟨am, p2', q2, r2, s2, rfl, hA, hB, hmid⟩ := eM
        cases hA
        cases hB
        obtain ⟨dm, em⟩ := hmid
        have hmid : NumAt C G1 am _ _ := ⟨dm, em⟩
        refine ⟨_, rfl, rfl, _, rfl, ifF rfl ?_⟩
        refine ⟨_, rfl, _, _, _, _, true, rfl, .own D, .base (.ins es SC.cl ST.ha ST.hn ST.htk ST.hm), kit_self _, true, rfl, ifF rfl ?_⟩
        refine ⟨_, rfl, st, ds, _, rfl, es, st, _, _, _, _, _, rfl, eS, _, rfl, a1, d1, _, _, rfl, e1, .ins e1, NC.nf, a1, a1, p', q, p', q, rfl, N1, N1, _, rfl, ifF (by simp) ?_⟩
        refine ⟨_, rfl, st, ds, _, rfl, es, st, _, _, _, _, _, rfl, eS, _, rfl, a2, d2, _, _, rfl, e2, .ins e2, NC.nf, a2, a2, r, s', r, s', rfl, N2, N2, _, rfl, ifF (by simp) ?_⟩
        refine ⟨_, rfl, st, ds, _, rfl, es, st, _, _, _, _, _, rfl, eS, _, rfl, st, ds, _, rfl, es, st, _, _, _, _, _, rfl, eS, by show 2 ≤ sizeLine; decide, fun La nLa => ?_⟩
        have j2 := Same.new (o := .lst [.bl b1, .bl b2]) nLa
        have eLa := upd_same (H := G1) (a := La) (o := .lst [.bl b1, .bl b2])
        generalize upd G1 La (.lst [.bl b1, .bl b2]) = G2 at j2 eLa
        refine ⟨La, _, rfl, ⟨dpB eLa, ⟨trivial, trivial, trivial⟩, by show 2 ≤ 8000; decide, by show 1 ≤ 60; decide⟩, ?_⟩
        refine ⟨_, rfl, _, rfl, by show 2 ≤ sizeLine; decide, fun Lb nLb => ?_⟩
        have j3 := Same.new (o := .lst [.bl b1, .bl b2]) nLb
        have eLb := upd_same (H := G2) (a := Lb) (o := .lst [.bl b1, .bl b2])
        generalize upd G2 Lb (.lst [.bl b1, .bl b2]) = G3 at j3 eLb
        refine ⟨Lb, _, rfl, ⟨dpB eLb, ⟨trivial, trivial, trivial⟩, by show 2 ≤ 8000; decide, by show 1 ≤ 60; decide⟩, rfl, _, rfl, ifF (dp_ne _ _ rfl) ?_⟩
        have j23 := j2.trans j3
        have e1 := j23 _ _ e1
        have e2 := j23 _ _ e2
        have N1 := N1.same j23
        have N2 := N2.same j23
        have S2 : Sz 2 2 := by unfold Sz; decide
        have zps : Sz 80 (p' * s') := zp.mul zs
        have zrq : Sz 80 (r * q) := zr.mul zq
        have z2q : Sz 42 (2 * q) := S2.mul zq
        have q0 := l1.pos
        have s0 := l2.pos
        have h0 : 2 * q * s' ≠ 0 := Int.mul_ne_zero (by omega) (by omega)
        refine ⟨_, rfl, a1, d1, _, rfl, e1, a1, p', q, rfl, N1, _, rfl, a2, d2, _, rfl, e2, a2, r, s', rfl, N2, _, _, rfl, rfl, wide_mul zp zs (by decide) (by decide) (by decide), ?_⟩
        refine ⟨_, rfl, a2, d2, _, rfl, e2, a2, r, s', rfl, N2, _, rfl, a1, d1, _, rfl, e1, a1, p', q, rfl, N1, _, _, rfl, rfl, wide_mul zr zq (by decide) (by decide) (by decide), _, _, rfl, rfl, ?_⟩
        refine ⟨_, rfl, a1, d1, _, rfl, e1, a1, p', q, rfl, N1, _, _, rfl, rfl, wide_mul S2 zq (by decide) (by decide) (by decide), _, rfl, a2, d2, _, rfl, e2, a2, r, s', rfl, N2, _, _, rfl, rfl, wide_mul z2q zs (by decide) (by decide) (by decide), ?_⟩
        intro x dx nx nd ne
        refine ⟨x, dx, _, _, rfl, h0, (z2q.mul zs).mono (by decide), upd_same, fun G4 h4 k4 => ⟨rfl, ?_⟩⟩
        have j4 : Same G3 G4 := Same.mk nx nd k4
        have j24 := j23.trans j4
        obtain ⟨dh, eh⟩ := h4
        refine ⟨_, rfl, st, ds, _, rfl, j24 _ _ es, st, _, _, _, _, _, rfl, eS.same j24, _, rfl, am, dm, _, _, rfl, j24 _ _ em, .ins eh, NC.nf, am, x, _, _, _, _, rfl, hmid.same j24, ⟨dh, eh⟩, ?_⟩
        rw [decide_eq_true ⟨rfl, rfl⟩]
        exact k G4 (hpG.same (j1.trans j24)) (cG.trans (Ch.of (j1.trans j24)))
      · -- they make none
        refine ⟨R, _, rfl, SqT.of eR, rfl, _, _, rfl, _, _, rfl, rfl, ?_⟩
        have iA := iA.same j1
        have iB' := iB'.same j1
        refine ⟨_, rfl, _, rfl, _, rfl, _, rfl, l, h, hl, hh, A, B', F', G', rfl, iA, iB', iF.same j1, iG.same j1, _, rfl, ?_⟩
        rw [hf]
        refine ifT rfl ?_
        refine ⟨_, rfl, rfl, _, rfl, ifT rfl ?_⟩
        exact ⟨_, rfl, _, rfl, _, rfl, er, l, h, A, B', rfl, bad, iA, iB', fun H' s => k H' (hpG.same (j1.trans s)) (cG.trans (Ch.of (j1.trans s)))⟩
    obtain ⟨t, hbody, ht⟩ := rest
    refine ⟨_, (pss_cons (ps_par (i := 1) (j := 2) (by rfl) sc.nd rfl rfl (by decide) rfl rfl (pa_cons (pe_f cD hr (by decide) rfl (pa_cons (pv 0) pa_nil)) (pa_cons (pe_f cD hr (by decide) rfl (pa_cons (pv 0) pa_nil)) pa_nil)) (by rfl)) (pss_cons (ps_par (i := 3) (j := 4) (by rfl) sc.nd rfl rfl (by decide) rfl rfl (pa_cons (pe_cmpR op_eq (pe_f cT hr (by decide) rfl (pa_cons (pv 0) (pa_cons pe_int pa_nil))) pe_int (nomark _)) (pa_cons (pe_cmpR op_eq (pe_f cT hr (by decide) rfl (pa_cons (pv 0) (pa_cons pe_int pa_nil))) pe_int (nomark _)) pa_nil)) (by rfl)) (pss_cons (ps_set (i := 5) sc.nd rfl (Or.inl rfl) (pe_f cT hr (by decide) rfl (pa_cons (pv 0) (pa_cons pe_int pa_nil)))) (pss_cons (ps_if (pt_cmpR op_eq (pv 5) pe_int (nomark _)) (pss_one (ps_set (i := 1) sc.nd rfl (Or.inl rfl) (pe_f cO hr (by decide) rfl (pa_cons (pv 0) pa_nil)))) (pss_one (ps_if (pt_cmpR op_eq (pv 5) pe_int (nomark _)) (pss_one (ps_set (i := 2) sc.nd rfl (Or.inl rfl) (pe_f cO hr (by decide) rfl (pa_cons (pv 0) pa_nil)))) (pss_one (ps_if (pt_cmpR op_eq (pv 5) pe_int (nomark _)) (pss_one (ps_set (i := 3) sc.nd rfl (Or.inl rfl) (pe_f cO hr (by decide) rfl (pa_cons (pv 0) pa_nil)))) (pss_one (ps_if (pt_cmpR op_eq (pv 5) pe_int (nomark _)) (pss_one (ps_set (i := 4) sc.nd rfl (Or.inl rfl) (pe_f cO hr (by decide) rfl (pa_cons (pv 0) pa_nil)))) pss_nil))))))) hbody)))), ?_⟩
    refine ⟨_, rfl, p, m, rfl, hp, by omega, fun a1 H1 t1 u1 na1 N1 l1 zt1 zu1 hp1 c1 => ?_⟩
    refine ⟨_, rfl, p, m + 2, rfl, hp1, by omega, fun a2 H2 t2 u2 na2 N2 l2 zt2 zu2 hp2 c2 => ?_⟩
    refine ⟨_, _, rfl, ?_⟩
    refine ⟨_, rfl, p, 2, _, rfl, hp2, by omega, by decide, by decide, fun v1 H3 _ _ hp3 c3 => ?_⟩
    refine ⟨rfl, _, rfl, p, 2, _, rfl, hp3, by omega, by decide, by decide, fun v2 H4 _ _ hp4 c4 => ?_⟩
    refine ⟨rfl, _, _, rfl, ?_⟩
    refine ⟨_, rfl, p, 9, _, rfl, hp4, by omega, by decide, by decide, fun wy H5 _ _ hp5 c5 => ?_⟩
    have n1 : a1 ≠ p := pot_off hp na1
    have n2 : a2 ≠ p := pot_off hp1 na2
    have c15 : Ch p H1 H5 := ((c2.trans c3).trans c4).trans c5
    have c25 : Ch p H2 H5 := (c3.trans c4).trans c5
    have c05 := c1.trans c15
    have iA : EndIs K C H5 (.ref a1) (.num t1 u1) := ⟨a1, rfl, N1.ch c15 n1, l1, zt1.mono (by decide), zu1.mono (by decide)⟩
    have iB : EndIs K C H5 (.ref a2) (.num t2 u2) := ⟨a2, rfl, N2.ch c25 n2, l2, zt2.mono (by decide), zu2.mono (by decide)⟩
    have na1' : (V.ref a1) ≠ .ref p := fun z => n1 (by injection z)
    have na2' : (V.ref a2) ≠ .ref p := fun z => n2 (by injection z)
    generalize decide (V.int v1 = V.int 0) = b1
    generalize decide (V.int v2 = V.int 0) = b2
    have iF : FlagIs K C H5 (.bl b1) (.flag b1) := rfl
    have iG : FlagIs K C H5 (.bl b2) (.flag b2) := rfl
    refine ⟨_, rfl, rfl, _, rfl, if2 (fun _ => ?_) (fun _ => ?_)⟩
    · refine ⟨_, rfl, p, _, rfl, hp5, by omega, fun v H6 nv ov hp6 c6 => ?_⟩
      exact ht H6 _ _ _ _ .odd _ _ _ _ ov (iB.ch c6 na2') (iF.ch c6 (fun z => nomatch z)) (iG.ch c6 (fun z => nomatch z)) (hp6.mono (by omega)) (c05.trans c6)
    · refine ⟨_, rfl, rfl, _, rfl, if2 (fun _ => ?_) (fun _ => ?_)⟩
      · refine ⟨_, rfl, p, _, rfl, hp5, by omega, fun v H6 nv ov hp6 c6 => ?_⟩
        exact ht H6 _ _ _ _ _ .odd _ _ _ (iA.ch c6 na1') ov (iF.ch c6 (fun z => nomatch z)) (iG.ch c6 (fun z => nomatch z)) (hp6.mono (by omega)) (c05.trans c6)
      · refine ⟨_, rfl, rfl, _, rfl, if2 (fun _ => ?_) (fun _ => ?_)⟩
        · refine ⟨_, rfl, p, _, rfl, hp5, by omega, fun v H6 nv ov hp6 c6 => ?_⟩
          exact ht H6 _ _ _ _ _ _ .odd _ _ (iA.ch c6 na1') (iB.ch c6 na2') ov (iG.ch c6 (fun z => nomatch z)) (hp6.mono (by omega)) (c05.trans c6)
        · refine ⟨_, rfl, rfl, _, rfl, if2 (fun _ => ?_) (fun _ => ?_)⟩
          · refine ⟨_, rfl, p, _, rfl, hp5, by omega, fun v H6 nv ov hp6 c6 => ?_⟩
            exact ht H6 _ _ _ _ _ _ _ .odd _ (iA.ch c6 na1') (iB.ch c6 na2') (iF.ch c6 (fun z => nomatch z)) ov (hp6.mono (by omega)) (c05.trans c6)
          · exact ht H5 _ _ _ _ _ _ _ _ _ iA iB iF iG (hp5.mono (by omega)) c05
end
end Ws

namespace Ws
open PySem PySem.Spec PyProof.Rows L2
def spStrD (K : PySem.W.Frag) (C D Cs : Addr) : Sp := fun vs H Q E => spStr K C D Cs (vs ++ [.bl true, .bl true]) H Q E
theorem shown_tt : PyData.shown (.list [.bool true, .bool true]) = ("[True, True]" : Str) := by decide +kernel
section
variable {P : Program} {w : World} {K : PySem.W.Frag} {mg : Str → Option Value} {base : Heap} {C D Cs f : Addr} {fd : FuncData}
theorem ok_law (F : L2.Fun K "law" "law" sLaw f fd) (b : Binds K fd PLaw []) (B : Bi mg) (gR : mg "repr" = none) (NC : NumC K C) (mN : MakF P w K mg base 2 "Number" C (spNum C)) (mN1 : MakF P w K mg base 2 "Number" C (spNum1 C)) (mS : MakE P w K mg base (L2.CX P w) 5 "Stretch" D (spStrD K C D Cs)) (oE : OpnF P w K mg base 1 C "__eq__" (spNEq C))
    (p3 : PrpF P w K mg base 1 D "has_low" (spFld D fun _ _ hl _ _ => hl)) (p4 : PrpF P w K mg base 1 D "has_high" (spFld D fun _ _ _ hh _ => hh)) (p5 : PrpF P w K mg base 1 D "middle" (spFld D fun _ _ _ _ m => m)) (cP : CalF P w K mg base 1 "_law_pot" (spPot K)) (cR : CalG P w K mg base CX0 8 "_law_is_right" spRight) : FnG P w K mg base CX0 9 f (spLaw K) := by
  refine fnG_of F b scLaw (fun vs H Q E h => ?_) (fun cdv A0 outer s H vs Q E cl hr h => ?_)
  · obtain ⟨a, ns, rfl, _⟩ := h
    rfl
  · have sc := scLaw
    obtain ⟨a, ns, rfl, hS, hlen, q⟩ := h
    refine ⟨_, (pss_cons (ps_set (i := 1) sc.nd rfl (Or.inl rfl) (pe_mkS mS hr (by decide) passNS rfl (pa_cons (pe_mk mN1 hr (by decide) rfl (pa_cons pe_int pa_nil)) (pa_cons (pe_mk mN1 hr (by decide) rfl (pa_cons pe_int pa_nil)) pa_nil)))) (pss_cons (ps_if (PW.pt (pw_or (pt_cmpR op_ne (pe_callB (call_rep cl hr) (by rfl) gR (by decide +kernel) (pa_cons (pe_lst (pa_cons (pe_pr p3 hr (by decide) (pv 1)) (pa_cons (pe_pr p4 hr (by decide) (pv 1)) pa_nil))) pa_nil)) pe_str (nomark _)) (pw_or1 (pt_not (pt_cmpR (show OpR _ _ (rEqO K C (spNEq C)) from op_eqO oE hr (by decide)) (pe_pr p5 hr (by decide) (pv 1)) (pe_mk mN hr (by decide) rfl (pa_cons pe_int (pa_cons pe_int pa_nil))) (nomark _)))))) (pss_one (ps_ret pe_bl)) pss_nil) (pss_cons (ps_for PassesOwn.never rfl (pi_range1 (by rfl) B.range (pa_cons (pe_callB (call_max2 rfl) (by rfl) B.max (by decide +kernel) (pa_cons pe_int (pa_cons (pe_callB (call_min2 rfl) (by rfl) B.min (by decide +kernel) (pa_cons pe_int (pa_cons (pe_callB call_len_seq (by rfl) B.len PySem.boot_len (pa_cons (pv 0) pa_nil)) pa_nil))) pa_nil))) pa_nil)) (pg_name (i := 2) sc.nd rfl (Or.inl rfl)) (pss_cons (ps_set (i := 3) sc.nd rfl (Or.inr rfl) (pe_f cP hr (by decide) rfl (pa_cons (pv 0) (pa_cons (pv 2) pa_nil)))) (pss_one (ps_if (pt_not (pt_val (pe_callB (cr_all rfl) (by rfl) B.all (by decide +kernel) (pa_cons (pe_lc (own := [("turn", 4)]) rfl sc.nd (pi_range1 (by rfl) B.range (pa_cons pe_int pa_nil)) (blkOk_by (N := NLaw) (sc := defScope sLaw) (by decide +kernel)) (fun _ _ _ _ _ => by exact (pg_name (i := 4) sc.nd rfl (Or.inl rfl))) (fun _ _ _ _ _ => by exact pts_nil) (fun _ _ _ _ _ => by exact (pe_g cR cl hr (by decide) rfl (pa_cons (pv 3) pa_nil)))) pa_nil)))) (pss_one (ps_ret pe_bl)) pss_nil)))) (pss_one (ps_ret pe_bl))))), ?_⟩
    have lo : ∀ t : Int, nT t 1 = t ∧ nB t 1 = 1 := fun t => by
      have h := (nf_low (t := t) (b := 1) (by decide)).eq (show Low t 1 t 1 from ⟨by decide, rfl, by simp⟩) (by decide) (by decide) rfl
      exact h
    -- plain
    intro x1 dx1 nx1 nd1 ne1
    refine ⟨x1, dx1, _, rfl, upd_same, fun H1 h1 k1 => ⟨rfl, ?_⟩⟩
    have g1 : Same H H1 := Same.mk nx1 nd1 k1
    intro x2 dx2 nx2 nd2 ne2
    refine ⟨x2, dx2, _, rfl, upd_same, fun H2 h2 k2 => ⟨rfl, ?_⟩⟩
    have g2 : Same H1 H2 := Same.mk nx2 nd2 k2
    rw [(lo 0).1, (lo 0).2] at h1
    rw [(lo 1).1, (lo 1).2] at h2
    intro st ds nst nds ne
    have h1 := h1.same g2
    obtain ⟨u1, e1⟩ := h1
    obtain ⟨u2, e2⟩ := h2
    have h1 : NumAt C H2 x1 0 1 := ⟨u1, e1⟩
    have h2 : NumAt C H2 x2 1 1 := ⟨u2, e2⟩
    have j0 : Same H2 (upd (upd H2 ds (.own st)) st (.ins D ds [])) := fun b o e => (upd_ne (ne_of_none e nst)).trans ((upd_ne (ne_of_none e nds)).trans e)
    have S1 : ∀ t : Int, t = 0 ∨ t = 1 → Sz 40 t := fun t h => by rcases h with rfl | rfl <;> (unfold Sz; decide)
    have n1 : (V.ref x1) ≠ .ref st := fun z => ne_of_none e1 nst (by injection z)
    have n2 : (V.ref x2) ≠ .ref st := fun z => ne_of_none e2 nst (by injection z)
    have i1 : EndIs K C H2 (.ref x1) (.num 0 1) := ⟨x1, rfl, h1, ⟨by decide, rfl, by decide⟩, S1 _ (.inl rfl), S1 _ (.inr rfl)⟩
    have i2 : EndIs K C H2 (.ref x2) (.num 1 1) := ⟨x2, rfl, h2, ⟨by decide, rfl, by decide⟩, S1 _ (.inr rfl), S1 _ (.inr rfl)⟩
    refine ⟨st, ds, .ref x1, .ref x2, .bl true, .bl true, .num 0 1, .num 1 1, .flag true, .flag true, rfl, upd_same, n1, n2, (fun z => nomatch z), (fun z => nomatch z), i1.same j0, i2.same j0, rfl, rfl, fun hf m G1 sat mid kp => ⟨rfl, ?_⟩, fun hf => by cases hf⟩
    have g3 : Same H2 G1 := Same.mk nst nds kp
    obtain ⟨am, p', q', r', s', rfl, hA, hB, hmid⟩ := mid
    cases hA
    cases hB
    obtain ⟨es', es⟩ := sat
    have sat : StrAt D G1 st (.ref x1) (.ref x2) (.bl true) (.bl true) (.ref am) := ⟨es', es⟩
    obtain ⟨dm, em⟩ := hmid
    have hmid : NumAt C G1 am _ _ := ⟨dm, em⟩
    refine ⟨_, rfl, st, es', _, rfl, es, st, _, _, _, _, _, rfl, sat, _, rfl, st, es', _, rfl, es, st, _, _, _, _, _, rfl, sat, by show 2 ≤ sizeLine; decide, fun La nLa => ?_⟩
    have j2 := Same.new (o := .lst [.bl true, .bl true]) nLa
    have eLa := upd_same (H := G1) (a := La) (o := .lst [.bl true, .bl true])
    generalize upd G1 La (.lst [.bl true, .bl true]) = G2 at j2 eLa
    refine ⟨La, _, rfl, ⟨dpB eLa, ⟨trivial, trivial, trivial⟩, by show 2 ≤ 8000; decide, by show 1 ≤ 60; decide⟩, rfl, _, rfl, ifF (dp_ne _ _ shown_tt) ?_⟩
    refine ⟨_, rfl, st, es', _, rfl, j2 _ _ es, st, _, _, _, _, _, rfl, sat.same j2, ?_⟩
    intro y dy ny nyd ney
    refine ⟨y, dy, 1, 2, rfl, by decide, (show Sz 2 2 from by unfold Sz; decide).mono (by decide), upd_same, fun G3 h3 k3 => ⟨rfl, ?_⟩⟩
    have j3 : Same G2 G3 := Same.mk ny nyd k3
    obtain ⟨dh, eh⟩ := h3
    refine ⟨am, dm, _, _, rfl, (j2.trans j3) _ _ em, .ins eh, NC.nf, am, y, _, _, _, _, rfl, hmid.same (j2.trans j3), ⟨dh, eh⟩, _, rfl, ifF (by decide) ?_⟩
    have hS := L2.Same.seq (((g1.trans g2).trans g3).trans (j2.trans j3)) hS
    refine ⟨_, rfl, a, _, rfl, .inl hS, _, _, rfl, _, _, rfl, ?_⟩
    generalize hn : (if (if ((ns.map V.int).length : Int) < 3 then ((ns.map V.int).length : Int) else 3) > 1 then (if ((ns.map V.int).length : Int) < 3 then ((ns.map V.int).length : Int) else 3) else 1) = n
    have hn3 : n ≤ 3 ∧ 0 ≤ n := by
      rw [← hn]
      split <;> split <;> omega
    refine ⟨n, rfl, by omega, by omega, for_range (n := n.toNat) (fun i σ H' => ∃ x y, σ = [some (.ref a), some (.ref st), x, y, none] ∧ SqL K H' a (ns.map V.int)) ⟨_, _, rfl, hS⟩ ?_ ?_⟩
    · rintro i σ H0 hi ⟨_, _, rfl, hS0⟩
      rw [Int.zero_add]
      refine ⟨_, rfl, _, rfl, a, ns, i, rfl, hS0, by omega, fun p H1 np hp s1 => ?_⟩
      refine ⟨10, rfl, by decide, by decide, fun D' hD => ?_⟩
      have npD : p ≠ D' := by obtain ⟨_, _, _, e, _⟩ := hp; exact ne_of_none e hD
      refine lcR (lo := 0) (n := 10) (fun j acc H' => acc = List.replicate j (V.bl true) ∧ PotAt H' p (8 * j) ∧ Same H0 H') ⟨rfl, ?_, s1.trans (Same.new hD)⟩ (by decide) ?_ ?_
      · exact hp.same (Same.new hD)
      · rintro j H acc hj ⟨ha, hpj, sj⟩ hDj hl Qn kQ
        refine ⟨rfl, _, rfl, p, 8 * (j : Int), rfl, hpj, by omega, fun H' hp' ch => ?_⟩
        have nD0 : ∀ {b : Addr} {o : HO}, H0 b = some o → b ≠ D' := fun e => ne_of_none (s1 _ _ e) hD
        refine kQ _ _ (ch _ _ npD.symm hDj) ⟨?_, ?_, fun b o e => ?_⟩
        · rw [ha, List.replicate_succ']
        · obtain ⟨x, y, z, e, r1, r2, r3, r4, r5⟩ := hp'
          exact ⟨x, y, z, (upd_ne npD).trans e, r1, r2, r3, r4, by omega⟩
        · exact (upd_ne (nD0 e)).trans (ch _ _ (ne_of_none e np) (sj _ _ e))
      · rintro ys H2 ⟨hy, hp2, s2⟩ hD2 hl
        subst hy
        refine ⟨D', List.replicate 10 true, rfl, SqL.of hD2, true, rfl, ifF rfl ?_⟩
        exact ⟨_, _, rfl, L2.Same.seq s2 hS0⟩
    · rintro σ H' ⟨_, _, rfl, _⟩
      exact q H'
end
theorem all_mk {l : PySem.W.OpenLaw} {w : World} {K : PySem.W.Frag} {h : Heap} {mg : Str → Option Value} {fa : Addr} (X : K.In h) (G : h.Ns mainGlobals mg) (hfa : mg "law" = some (.ref fa)) {C : Addr} {fWhole : Addr} {odWhole anWhole : Option Addr} {slWhole : Array (Option Value)} {ocWhole dcWhole pmWhole cdWhole ctWhole : Value} {kVWhole : Value} {fNum : Addr} {odNum anNum : Option Addr} {slNum : Array (Option Value)} {ocNum dcNum pmNum cdNum ctNum : Value} {kVNum : Value} {TNum : Addr} {oTNum : Obj} {nT : Nat} {tkT : Tok} {pNTop fNTop : Addr} {rNTop : List Value} {odNTop anNTop : Option Addr} {slNTop : Array (Option Value)} {ocNTop dcNTop pmNTop cdNTop ctNTop : Value} {kVNTop : Value} {pNBot fNBot : Addr} {rNBot : List Value} {odNBot anNBot : Option Addr} {slNBot : Array (Option Value)} {ocNBot dcNBot pmNBot cdNBot ctNBot : Value} {kVNBot : Value} {fNEq : Addr} {odNEq anNEq : Option Addr} {slNEq : Array (Option Value)} {ocNEq dcNEq pmNEq cdNEq ctNEq : Value} {kVNEq : Value} {fNAdd : Addr} {odNAdd anNAdd : Option Addr} {slNAdd : Array (Option Value)} {ocNAdd dcNAdd pmNAdd cdNAdd ctNAdd : Value} {kVNAdd : Value} {fNMul : Addr} {odNMul anNMul : Option Addr} {slNMul : Array (Option Value)} {ocNMul dcNMul pmNMul cdNMul ctNMul : Value} {kVNMul : Value} {fNLess : Addr} {odNLess anNLess : Option Addr} {slNLess : Array (Option Value)} {ocNLess dcNLess pmNLess cdNLess ctNLess : Value} {kVNLess : Value} {L : Addr} {D : Addr} {fLine : Addr} {odLine anLine : Option Addr} {slLine : Array (Option Value)} {ocLine dcLine pmLine cdLine ctLine : Value} {kVLine : Value} {fSInit : Addr} {odSInit anSInit : Option Addr} {slSInit : Array (Option Value)} {ocSInit dcSInit pmSInit cdSInit ctSInit : Value} {WSInit : Addr} {pSLow fSLow : Addr} {rSLow : List Value} {odSLow anSLow : Option Addr} {slSLow : Array (Option Value)} {ocSLow dcSLow pmSLow cdSLow ctSLow : Value} {kVSLow : Value} {pSHigh fSHigh : Addr} {rSHigh : List Value} {odSHigh anSHigh : Option Addr} {slSHigh : Array (Option Value)} {ocSHigh dcSHigh pmSHigh cdSHigh ctSHigh : Value} {kVSHigh : Value} {pSHl fSHl : Addr} {rSHl : List Value} {odSHl anSHl : Option Addr} {slSHl : Array (Option Value)} {ocSHl dcSHl pmSHl cdSHl ctSHl : Value} {kVSHl : Value} {pSHh fSHh : Addr} {rSHh : List Value} {odSHh anSHh : Option Addr} {slSHh : Array (Option Value)} {ocSHh dcSHh pmSHh cdSHh ctSHh : Value} {kVSHh : Value} {pSMid fSMid : Addr} {rSMid : List Value} {odSMid anSMid : Option Addr} {slSMid : Array (Option Value)} {ocSMid dcSMid pmSMid cdSMid ctSMid : Value} {kVSMid : Value} {Ce : Addr} {Cs : Addr} {nmCs qCs : Str} {NCs : Addr} {bsCs bmCs : List Value} {snCs : List Str} {subCs : List Value} {abCs : Bool} {colCs : Option Bool} {ddCs : Option Addr} {m0Cs m1Cs m2Cs m3Cs m5Cs : Option Value} {fErrN : Addr} {odErrN anErrN : Option Addr} {slErrN : Array (Option Value)} {ocErrN dcErrN pmErrN cdErrN ctErrN : Value} {kVErrN : Value} {Cb : Addr} {nmCb qCb : Str} {NCb : Addr} {bsCb bmCb : List Value} {snCb : List Str} {subCb : List Value} {abCb : Bool} {colCb : Option Bool} {ddCb : Option Addr} {m0Cb m1Cb m2Cb m3Cb m5Cb : Option Value} {fPot : Addr} {odPot anPot : Option Addr} {slPot : Array (Option Value)} {ocPot dcPot pmPot cdPot ctPot : Value} {kVPot : Value} {fTake : Addr} {odTake anTake : Option Addr} {slTake : Array (Option Value)} {ocTake dcTake pmTake cdTake ctTake : Value} {kVTake : Value} {fOf : Addr} {odOf anOf : Option Addr} {slOf : Array (Option Value)} {ocOf dcOf pmOf cdOf ctOf : Value} {kVOf : Value} {fDrawn : Addr} {odDrawn anDrawn : Option Addr} {slDrawn : Array (Option Value)} {ocDrawn dcDrawn pmDrawn cdDrawn ctDrawn : Value} {kVDrawn : Value} {fOdd : Addr} {odOdd anOdd : Option Addr} {slOdd : Array (Option Value)} {ocOdd dcOdd pmOdd cdOdd ctOdd : Value} {kVOdd : Value} {fFine : Addr} {odFine anFine : Option Addr} {slFine : Array (Option Value)} {ocFine dcFine pmFine cdFine ctFine : Value} {kVFine : Value} {fHeard : Addr} {odHeard anHeard : Option Addr} {slHeard : Array (Option Value)} {ocHeard dcHeard pmHeard cdHeard ctHeard : Value} {kVHeard : Value} {fRefd : Addr} {odRefd anRefd : Option Addr} {slRefd : Array (Option Value)} {ocRefd dcRefd pmRefd cdRefd ctRefd : Value} {kVRefd : Value} {fRight : Addr} {odRight anRight : Option Addr} {slRight : Array (Option Value)} {ocRight dcRight pmRight cdRight ctRight : Value} {kVRight : Value} {fLaw : Addr} {odLaw anLaw : Option Addr} {slLaw : Array (Option Value)} {ocLaw dcLaw pmLaw cdLaw ctLaw : Value} {kVLaw : Value} (g_C : PySem.W.nsIn K mainGlobals "Number" = some (some (.ref C))) (pg_C : PySem.W.plainGet K C Str.empty = true) (hd_C : PySem.W.hasDictIn K C = true) (po_C : PySem.W.plainOver K C = true) (sa_C : PySem.W.findIn K (.ref C) "__setattr__" = some (some (.builtin "object.__setattr__"))) (mk_C : PySem.W.makesIn K C = true) (kc_C : PySem.W.keepIn K (.ref C) = true) (n_top_C : PySem.W.findIn K (.ref C) "_top" = some none) (n_bottom_C : PySem.W.findIn K (.ref C) "_bottom" = some none) (ha_C : PySem.W.findIn K (.ref C) "__class__" = some (some (.builtin "object.__class__"))) (hn_C : PySem.W.specialIn K (.builtin "object.__class__") "__get__" = some (some (.builtin "getset_descriptor.__get__"))) (htk_C : PySem.W.takesIn K (.builtin "object.__class__") = some true) (hm_C : PySem.W.mroIn K C (.type "object") = some true) (sf_C : PySem.W.selfFirst K C = true) (nf_C : PySem.W.notFirst K C (.ref C) = true) (gcd : PySem.W.nsIn K mainGlobals "gcd" = some (some (.builtin "math.gcd"))) (g_fWhole : PySem.W.nsIn K mainGlobals "is_whole" = some (some (.ref fWhole))) (l_Whole : K.lookup fWhole = some ⟨ocWhole, odWhole, .func (PySem.W.fnOf "is_whole" "is_whole" (defArgs sWhole) (defBody sWhole) (defScope sWhole) .none kVWhole dcWhole pmWhole anWhole cdWhole ctWhole), slWhole⟩) (c_Whole : PySem.W.codeIn K cdWhole "is_whole" = true) (k_Whole : PySem.W.keepIn K (.ref fWhole) = true) (a_Num : PySem.W.findIn K (.ref C) "__init__" = some (some (.ref fNum))) (i_Num : PySem.W.isFn K (.ref fNum) = true) (l_Num : K.lookup fNum = some ⟨ocNum, odNum, .func (PySem.W.fnOf "__init__" "Number.__init__" (defArgs sNum) (defBody sNum) (defScope sNum) (.ref TNum) kVNum dcNum pmNum anNum cdNum ctNum), slNum⟩) (c_Num : PySem.W.codeIn K cdNum "Number.__init__" = true) (k_Num : PySem.W.keepIn K (.ref fNum) = true) (lT : K.lookup TNum = some oTNum) (dT : oTNum.data = .seq #[.int 1 tkT] nT) (a_NTop : PySem.W.findIn K (.ref C) "top" = some (some (.ref pNTop))) (g_NTop : PySem.W.specialIn K (.ref pNTop) "__get__" = some (some (.builtin "property.__get__"))) (t_NTop : PySem.W.takesIn K (.ref pNTop) = some true) (r_NTop : PySem.W.recIn K pNTop "property" = some (.ref fNTop :: rNTop)) (l_NTop : K.lookup fNTop = some ⟨ocNTop, odNTop, .func (PySem.W.fnOf "top" "Number.top" (defArgs sNTop) (defBody sNTop) (defScope sNTop) .none kVNTop dcNTop pmNTop anNTop cdNTop ctNTop), slNTop⟩) (c_NTop : PySem.W.codeIn K cdNTop "Number.top" = true) (k_NTop : PySem.W.keepIn K (.ref fNTop) = true) (a_NBot : PySem.W.findIn K (.ref C) "bottom" = some (some (.ref pNBot))) (g_NBot : PySem.W.specialIn K (.ref pNBot) "__get__" = some (some (.builtin "property.__get__"))) (t_NBot : PySem.W.takesIn K (.ref pNBot) = some true) (r_NBot : PySem.W.recIn K pNBot "property" = some (.ref fNBot :: rNBot)) (l_NBot : K.lookup fNBot = some ⟨ocNBot, odNBot, .func (PySem.W.fnOf "bottom" "Number.bottom" (defArgs sNBot) (defBody sNBot) (defScope sNBot) .none kVNBot dcNBot pmNBot anNBot cdNBot ctNBot), slNBot⟩) (c_NBot : PySem.W.codeIn K cdNBot "Number.bottom" = true) (k_NBot : PySem.W.keepIn K (.ref fNBot) = true) (a_NEq : PySem.W.findIn K (.ref C) "__eq__" = some (some (.ref fNEq))) (i_NEq : PySem.W.isFn K (.ref fNEq) = true) (l_NEq : K.lookup fNEq = some ⟨ocNEq, odNEq, .func (PySem.W.fnOf "__eq__" "Number.__eq__" (defArgs sNEq) (defBody sNEq) (defScope sNEq) .none kVNEq dcNEq pmNEq anNEq cdNEq ctNEq), slNEq⟩) (c_NEq : PySem.W.codeIn K cdNEq "Number.__eq__" = true) (k_NEq : PySem.W.keepIn K (.ref fNEq) = true) (a_NAdd : PySem.W.findIn K (.ref C) "__add__" = some (some (.ref fNAdd))) (i_NAdd : PySem.W.isFn K (.ref fNAdd) = true) (l_NAdd : K.lookup fNAdd = some ⟨ocNAdd, odNAdd, .func (PySem.W.fnOf "__add__" "Number.__add__" (defArgs sNAdd) (defBody sNAdd) (defScope sNAdd) .none kVNAdd dcNAdd pmNAdd anNAdd cdNAdd ctNAdd), slNAdd⟩) (c_NAdd : PySem.W.codeIn K cdNAdd "Number.__add__" = true) (k_NAdd : PySem.W.keepIn K (.ref fNAdd) = true) (a_NMul : PySem.W.findIn K (.ref C) "__mul__" = some (some (.ref fNMul))) (i_NMul : PySem.W.isFn K (.ref fNMul) = true) (l_NMul : K.lookup fNMul = some ⟨ocNMul, odNMul, .func (PySem.W.fnOf "__mul__" "Number.__mul__" (defArgs sNMul) (defBody sNMul) (defScope sNMul) .none kVNMul dcNMul pmNMul anNMul cdNMul ctNMul), slNMul⟩) (c_NMul : PySem.W.codeIn K cdNMul "Number.__mul__" = true) (k_NMul : PySem.W.keepIn K (.ref fNMul) = true) (a_NLess : PySem.W.findIn K (.ref C) "is_less" = some (some (.ref fNLess))) (i_NLess : PySem.W.isFn K (.ref fNLess) = true) (l_NLess : K.lookup fNLess = some ⟨ocNLess, odNLess, .func (PySem.W.fnOf "is_less" "Number.is_less" (defArgs sNLess) (defBody sNLess) (defScope sNLess) .none kVNLess dcNLess pmNLess anNLess cdNLess ctNLess), slNLess⟩) (c_NLess : PySem.W.codeIn K cdNLess "Number.is_less" = true) (k_NLess : PySem.W.keepIn K (.ref fNLess) = true) (g_L : PySem.W.nsIn K mainGlobals "Line" = some (some (.ref L))) (pg_L : PySem.W.plainGet K L Str.empty = true) (hd_L : PySem.W.hasDictIn K L = true) (po_L : PySem.W.plainOver K L = true) (sa_L : PySem.W.findIn K (.ref L) "__setattr__" = some (some (.builtin "object.__setattr__"))) (mk_L : PySem.W.makesIn K L = true) (kc_L : PySem.W.keepIn K (.ref L) = true) (n_base_L : PySem.W.findIn K (.ref L) "_base" = some none) (n_slope_L : PySem.W.findIn K (.ref L) "_slope" = some none) (g_D : PySem.W.nsIn K mainGlobals "Stretch" = some (some (.ref D))) (pg_D : PySem.W.plainGet K D Str.empty = true) (hd_D : PySem.W.hasDictIn K D = true) (po_D : PySem.W.plainOver K D = true) (sa_D : PySem.W.findIn K (.ref D) "__setattr__" = some (some (.builtin "object.__setattr__"))) (mk_D : PySem.W.makesIn K D = true) (kc_D : PySem.W.keepIn K (.ref D) = true) (n_low_D : PySem.W.findIn K (.ref D) "_low" = some none) (n_high_D : PySem.W.findIn K (.ref D) "_high" = some none) (n_has_low_D : PySem.W.findIn K (.ref D) "_has_low" = some none) (n_has_high_D : PySem.W.findIn K (.ref D) "_has_high" = some none) (n_middle_D : PySem.W.findIn K (.ref D) "_middle" = some none) (ha_L : PySem.W.findIn K (.ref L) "__class__" = some (some (.builtin "object.__class__"))) (hm_L : PySem.W.mroIn K L (.type "object") = some true) (ha_D : PySem.W.findIn K (.ref D) "__class__" = some (some (.builtin "object.__class__"))) (hm_D : PySem.W.mroIn K D (.type "object") = some true) (a_Line : PySem.W.findIn K (.ref L) "__init__" = some (some (.ref fLine))) (i_Line : PySem.W.isFn K (.ref fLine) = true) (l_Line : K.lookup fLine = some ⟨ocLine, odLine, .func (PySem.W.fnOf "__init__" "Line.__init__" (defArgs sLine) (defBody sLine) (defScope sLine) .none kVLine dcLine pmLine anLine cdLine ctLine), slLine⟩) (c_Line : PySem.W.codeIn K cdLine "Line.__init__" = true) (k_Line : PySem.W.keepIn K (.ref fLine) = true) (a_SInit : PySem.W.findIn K (.ref D) "__init__" = some (some (.ref fSInit))) (i_SInit : PySem.W.isFn K (.ref fSInit) = true) (l_SInit : K.lookup fSInit = some ⟨ocSInit, odSInit, .func (PySem.W.fnOf "__init__" "Stretch.__init__" (defArgs sSInit) (defBody sSInit) (defScope sSInit) .none (.ref WSInit) dcSInit pmSInit anSInit cdSInit ctSInit), slSInit⟩) (whas_low_SInit : PySem.W.nsIn K WSInit "has_low" = some (some (.bool true))) (whas_high_SInit : PySem.W.nsIn K WSInit "has_high" = some (some (.bool true))) (c_SInit : PySem.W.codeIn K cdSInit "Stretch.__init__" = true) (k_SInit : PySem.W.keepIn K (.ref fSInit) = true) (a_SLow : PySem.W.findIn K (.ref D) "low" = some (some (.ref pSLow))) (g_SLow : PySem.W.specialIn K (.ref pSLow) "__get__" = some (some (.builtin "property.__get__"))) (t_SLow : PySem.W.takesIn K (.ref pSLow) = some true) (r_SLow : PySem.W.recIn K pSLow "property" = some (.ref fSLow :: rSLow)) (l_SLow : K.lookup fSLow = some ⟨ocSLow, odSLow, .func (PySem.W.fnOf "low" "Stretch.low" (defArgs sSLow) (defBody sSLow) (defScope sSLow) .none kVSLow dcSLow pmSLow anSLow cdSLow ctSLow), slSLow⟩) (c_SLow : PySem.W.codeIn K cdSLow "Stretch.low" = true) (k_SLow : PySem.W.keepIn K (.ref fSLow) = true) (a_SHigh : PySem.W.findIn K (.ref D) "high" = some (some (.ref pSHigh))) (g_SHigh : PySem.W.specialIn K (.ref pSHigh) "__get__" = some (some (.builtin "property.__get__"))) (t_SHigh : PySem.W.takesIn K (.ref pSHigh) = some true) (r_SHigh : PySem.W.recIn K pSHigh "property" = some (.ref fSHigh :: rSHigh)) (l_SHigh : K.lookup fSHigh = some ⟨ocSHigh, odSHigh, .func (PySem.W.fnOf "high" "Stretch.high" (defArgs sSHigh) (defBody sSHigh) (defScope sSHigh) .none kVSHigh dcSHigh pmSHigh anSHigh cdSHigh ctSHigh), slSHigh⟩) (c_SHigh : PySem.W.codeIn K cdSHigh "Stretch.high" = true) (k_SHigh : PySem.W.keepIn K (.ref fSHigh) = true) (a_SHl : PySem.W.findIn K (.ref D) "has_low" = some (some (.ref pSHl))) (g_SHl : PySem.W.specialIn K (.ref pSHl) "__get__" = some (some (.builtin "property.__get__"))) (t_SHl : PySem.W.takesIn K (.ref pSHl) = some true) (r_SHl : PySem.W.recIn K pSHl "property" = some (.ref fSHl :: rSHl)) (l_SHl : K.lookup fSHl = some ⟨ocSHl, odSHl, .func (PySem.W.fnOf "has_low" "Stretch.has_low" (defArgs sSHl) (defBody sSHl) (defScope sSHl) .none kVSHl dcSHl pmSHl anSHl cdSHl ctSHl), slSHl⟩) (c_SHl : PySem.W.codeIn K cdSHl "Stretch.has_low" = true) (k_SHl : PySem.W.keepIn K (.ref fSHl) = true) (a_SHh : PySem.W.findIn K (.ref D) "has_high" = some (some (.ref pSHh))) (g_SHh : PySem.W.specialIn K (.ref pSHh) "__get__" = some (some (.builtin "property.__get__"))) (t_SHh : PySem.W.takesIn K (.ref pSHh) = some true) (r_SHh : PySem.W.recIn K pSHh "property" = some (.ref fSHh :: rSHh)) (l_SHh : K.lookup fSHh = some ⟨ocSHh, odSHh, .func (PySem.W.fnOf "has_high" "Stretch.has_high" (defArgs sSHh) (defBody sSHh) (defScope sSHh) .none kVSHh dcSHh pmSHh anSHh cdSHh ctSHh), slSHh⟩) (c_SHh : PySem.W.codeIn K cdSHh "Stretch.has_high" = true) (k_SHh : PySem.W.keepIn K (.ref fSHh) = true) (a_SMid : PySem.W.findIn K (.ref D) "middle" = some (some (.ref pSMid))) (g_SMid : PySem.W.specialIn K (.ref pSMid) "__get__" = some (some (.builtin "property.__get__"))) (t_SMid : PySem.W.takesIn K (.ref pSMid) = some true) (r_SMid : PySem.W.recIn K pSMid "property" = some (.ref fSMid :: rSMid)) (l_SMid : K.lookup fSMid = some ⟨ocSMid, odSMid, .func (PySem.W.fnOf "middle" "Stretch.middle" (defArgs sSMid) (defBody sSMid) (defScope sSMid) .none kVSMid dcSMid pmSMid anSMid cdSMid ctSMid), slSMid⟩) (c_SMid : PySem.W.codeIn K cdSMid "Stretch.middle" = true) (k_SMid : PySem.W.keepIn K (.ref fSMid) = true) (g_Ce : PySem.W.nsIn K mainGlobals "SpeedError" = some (some (.ref Ce))) (ex_Ce : PySem.W.subIn K (.ref Ce) (.type "BaseException") = some true) (ty_Ce : PySem.W.typeIn K (.ref Ce) = some (.type "type")) (hd_Ce : PySem.W.hasDictIn K Ce = true) (g_Cs : PySem.W.nsIn K mainGlobals "BadStretch" = some (some (.ref Cs))) (xL_Cs : K.lookup Cs = some (excClassObj nmCs qCs Cs NCs bsCs bmCs true snCs subCs abCs colCs ddCs m0Cs m1Cs m2Cs m3Cs m5Cs "ValueError.__new__")) (rv_Cs : PySem.HandSPX.refsVE bmCs = true) (sa_Cs : PySem.W.findIn K (.ref Cs) "__setattr__" = some (some (.builtin "object.__setattr__"))) (ex_Cs : PySem.W.subIn K (.ref Cs) (.type "BaseException") = some true) (ty_Cs : PySem.W.typeIn K (.ref Cs) = some (.type "type")) (kc_Cs : PySem.W.keepIn K (.ref Cs) = true) (ga_Cs : PySem.W.findIn K (.ref Cs) "__getattribute__" = some (some (.builtin "BaseException.__getattribute__"))) (gg_Cs : PySem.W.findIn K (.ref Cs) "__getattr__" = some none) (hd_Cs : PySem.W.hasDictIn K Cs = true) (ca_Cs : PySem.W.findIn K (.ref Cs) "__class__" = some (some (.builtin "object.__class__"))) (hm_Cs : PySem.W.mroIn K Cs (.type "object") = some true) (ic_Cs : PySem.W.isClsIn K Cs = true) (ss_Cs : PySem.W.subIn K (.ref Cs) (.ref Cs) = some true) (nvalue_Cs : PySem.W.findIn K (.ref Cs) "value" = some none) (a_ErrN : PySem.W.findIn K (.ref Cs) "__init__" = some (some (.ref fErrN))) (i_ErrN : PySem.W.isFn K (.ref fErrN) = true) (l_ErrN : K.lookup fErrN = some ⟨ocErrN, odErrN, .func (PySem.W.fnOf "__init__" "BadStretch.__init__" (defArgs sErrN) (defBody sErrN) (defScope sErrN) .none kVErrN dcErrN pmErrN anErrN cdErrN ctErrN), slErrN⟩) (c_ErrN : PySem.W.codeIn K cdErrN "BadStretch.__init__" = true) (k_ErrN : PySem.W.keepIn K (.ref fErrN) = true) (g_Cb : PySem.W.nsIn K mainGlobals "BadNumber" = some (some (.ref Cb))) (xL_Cb : K.lookup Cb = some (excClassObj nmCb qCb Cb NCb bsCb bmCb true snCb subCb abCb colCb ddCb m0Cb m1Cb m2Cb m3Cb m5Cb "ValueError.__new__")) (rv_Cb : PySem.HandSPX.refsVE bmCb = true) (sa_Cb : PySem.W.findIn K (.ref Cb) "__setattr__" = some (some (.builtin "object.__setattr__"))) (ex_Cb : PySem.W.subIn K (.ref Cb) (.type "BaseException") = some true) (ty_Cb : PySem.W.typeIn K (.ref Cb) = some (.type "type")) (kc_Cb : PySem.W.keepIn K (.ref Cb) = true) (ga_Cb : PySem.W.findIn K (.ref Cb) "__getattribute__" = some (some (.builtin "BaseException.__getattribute__"))) (gg_Cb : PySem.W.findIn K (.ref Cb) "__getattr__" = some none) (hd_Cb : PySem.W.hasDictIn K Cb = true) (ca_Cb : PySem.W.findIn K (.ref Cb) "__class__" = some (some (.builtin "object.__class__"))) (hm_Cb : PySem.W.mroIn K Cb (.type "object") = some true) (ic_Cb : PySem.W.isClsIn K Cb = true) (ss_Cb : PySem.W.subIn K (.ref Cb) (.ref Cb) = some true) (nvalue_Cb : PySem.W.findIn K (.ref Cb) "value" = some none) (oc_n : PySem.W.specialIn K (.builtin "object.__class__") "__get__" = some (some (.builtin "getset_descriptor.__get__"))) (oc_t : PySem.W.takesIn K (.builtin "object.__class__") = some true) (s_Cs_Cb : PySem.W.subIn K (.ref Cs) (.ref Cb) = some false) (s_Cs_Ce : PySem.W.subIn K (.ref Cs) (.ref Ce) = some true) (ic_C : PySem.W.isClsIn K C = true) (ty_C : PySem.W.typeIn K (.ref C) = some (.type "type")) (ss_C : PySem.W.subIn K (.ref C) (.ref C) = some true) (tn_C : PySem.W.subIn K (.type "NoneType") (.ref C) = some false) (ti_C : PySem.W.subIn K (.type "int") (.ref C) = some false) (ts_C : PySem.W.subIn K (.type "str") (.ref C) = some false) (tt_C : PySem.W.subIn K (.type "tuple") (.ref C) = some false) (tl_C : PySem.W.subIn K (.type "list") (.ref C) = some false) (td_C : PySem.W.subIn K (.type "dict") (.ref C) = some false) (s_L_C : PySem.W.subIn K (.ref L) (.ref C) = some false) (lb_L : PySem.W.subIn K (.ref L) (.type "bool") = some false) (g_fPot : PySem.W.nsIn K mainGlobals "_law_pot" = some (some (.ref fPot))) (l_Pot : K.lookup fPot = some ⟨ocPot, odPot, .func (PySem.W.fnOf "_law_pot" "_law_pot" (defArgs sPot) (defBody sPot) (defScope sPot) .none kVPot dcPot pmPot anPot cdPot ctPot), slPot⟩) (c_Pot : PySem.W.codeIn K cdPot "_law_pot" = true) (k_Pot : PySem.W.keepIn K (.ref fPot) = true) (g_fTake : PySem.W.nsIn K mainGlobals "_law_take" = some (some (.ref fTake))) (l_Take : K.lookup fTake = some ⟨ocTake, odTake, .func (PySem.W.fnOf "_law_take" "_law_take" (defArgs sTake) (defBody sTake) (defScope sTake) .none kVTake dcTake pmTake anTake cdTake ctTake), slTake⟩) (c_Take : PySem.W.codeIn K cdTake "_law_take" = true) (k_Take : PySem.W.keepIn K (.ref fTake) = true) (g_fOf : PySem.W.nsIn K mainGlobals "_law_of" = some (some (.ref fOf))) (l_Of : K.lookup fOf = some ⟨ocOf, odOf, .func (PySem.W.fnOf "_law_of" "_law_of" (defArgs sOf) (defBody sOf) (defScope sOf) .none kVOf dcOf pmOf anOf cdOf ctOf), slOf⟩) (c_Of : PySem.W.codeIn K cdOf "_law_of" = true) (k_Of : PySem.W.keepIn K (.ref fOf) = true) (g_fDrawn : PySem.W.nsIn K mainGlobals "_law_drawn" = some (some (.ref fDrawn))) (l_Drawn : K.lookup fDrawn = some ⟨ocDrawn, odDrawn, .func (PySem.W.fnOf "_law_drawn" "_law_drawn" (defArgs sDrawn) (defBody sDrawn) (defScope sDrawn) .none kVDrawn dcDrawn pmDrawn anDrawn cdDrawn ctDrawn), slDrawn⟩) (c_Drawn : PySem.W.codeIn K cdDrawn "_law_drawn" = true) (k_Drawn : PySem.W.keepIn K (.ref fDrawn) = true) (g_fOdd : PySem.W.nsIn K mainGlobals "_law_odd" = some (some (.ref fOdd))) (l_Odd : K.lookup fOdd = some ⟨ocOdd, odOdd, .func (PySem.W.fnOf "_law_odd" "_law_odd" (defArgs sOdd) (defBody sOdd) (defScope sOdd) .none kVOdd dcOdd pmOdd anOdd cdOdd ctOdd), slOdd⟩) (c_Odd : PySem.W.codeIn K cdOdd "_law_odd" = true) (k_Odd : PySem.W.keepIn K (.ref fOdd) = true) (g_fFine : PySem.W.nsIn K mainGlobals "_law_is_fine" = some (some (.ref fFine))) (l_Fine : K.lookup fFine = some ⟨ocFine, odFine, .func (PySem.W.fnOf "_law_is_fine" "_law_is_fine" (defArgs sFine) (defBody sFine) (defScope sFine) .none kVFine dcFine pmFine anFine cdFine ctFine), slFine⟩) (c_Fine : PySem.W.codeIn K cdFine "_law_is_fine" = true) (k_Fine : PySem.W.keepIn K (.ref fFine) = true) (g_fHeard : PySem.W.nsIn K mainGlobals "_law_heard" = some (some (.ref fHeard))) (l_Heard : K.lookup fHeard = some ⟨ocHeard, odHeard, .func (PySem.W.fnOf "_law_heard" "_law_heard" (defArgs sHeard) (defBody sHeard) (defScope sHeard) .none kVHeard dcHeard pmHeard anHeard cdHeard ctHeard), slHeard⟩) (c_Heard : PySem.W.codeIn K cdHeard "_law_heard" = true) (k_Heard : PySem.W.keepIn K (.ref fHeard) = true) (g_fRefd : PySem.W.nsIn K mainGlobals "_law_is_refused" = some (some (.ref fRefd))) (l_Refd : K.lookup fRefd = some ⟨ocRefd, odRefd, .func (PySem.W.fnOf "_law_is_refused" "_law_is_refused" (defArgs sRefd) (defBody sRefd) (defScope sRefd) .none kVRefd dcRefd pmRefd anRefd cdRefd ctRefd), slRefd⟩) (c_Refd : PySem.W.codeIn K cdRefd "_law_is_refused" = true) (k_Refd : PySem.W.keepIn K (.ref fRefd) = true) (g_fRight : PySem.W.nsIn K mainGlobals "_law_is_right" = some (some (.ref fRight))) (l_Right : K.lookup fRight = some ⟨ocRight, odRight, .func (PySem.W.fnOf "_law_is_right" "_law_is_right" (defArgs sRight) (defBody sRight) (defScope sRight) .none kVRight dcRight pmRight anRight cdRight ctRight), slRight⟩) (c_Right : PySem.W.codeIn K cdRight "_law_is_right" = true) (k_Right : PySem.W.keepIn K (.ref fRight) = true) (g_fLaw : PySem.W.nsIn K mainGlobals "law" = some (some (.ref fLaw))) (l_Law : K.lookup fLaw = some ⟨ocLaw, odLaw, .func (PySem.W.fnOf "law" "law" (defArgs sLaw) (defBody sLaw) (defScope sLaw) .none kVLaw dcLaw pmLaw anLaw cdLaw ctLaw), slLaw⟩) (c_Law : PySem.W.codeIn K cdLaw "law" = true) (k_Law : PySem.W.keepIn K (.ref fLaw) = true) (z_len : PySem.W.nsIn K mainGlobals "len" = some none) (z_abs : PySem.W.nsIn K mainGlobals "abs" = some none) (z_int : PySem.W.nsIn K mainGlobals "int" = some none) (z_bool : PySem.W.nsIn K mainGlobals "bool" = some none) (z_max : PySem.W.nsIn K mainGlobals "max" = some none) (z_min : PySem.W.nsIn K mainGlobals "min" = some none) (z_range : PySem.W.nsIn K mainGlobals "range" = some none) (z_all : PySem.W.nsIn K mainGlobals "all" = some none) (z_any : PySem.W.nsIn K mainGlobals "any" = some none) (z_isinstance : PySem.W.nsIn K mainGlobals "isinstance" = some none) (z_repr : PySem.W.nsIn K mainGlobals "repr" = some none) (z_tuple : PySem.W.nsIn K mainGlobals "tuple" = some none) (z_zip : PySem.W.nsIn K mainGlobals "zip" = some none) :
    ∀ base : Heap, K.In base → base.Ns mainGlobals mg → FnG l.prog w K mg base CX0 9 fa (spLaw K) := by
  have e := hfa.symm.trans (PySem.W.mg_of X G g_fLaw)
  cases e
  have mgo : ∀ {x : Str} {v : Value}, PySem.W.nsIn K mainGlobals x = some (some v) → mg x = some v := fun e => PySem.W.mg_of X G e
  have B : Bi mg := ⟨PySem.W.mg_none_of X G z_len, PySem.W.mg_none_of X G z_abs, PySem.W.mg_none_of X G z_int, PySem.W.mg_none_of X G z_bool, PySem.W.mg_none_of X G z_max, PySem.W.mg_none_of X G z_min, PySem.W.mg_none_of X G z_range, PySem.W.mg_none_of X G z_all, PySem.W.mg_none_of X G z_any, PySem.W.mg_none_of X G z_isinstance⟩
  have zrepr : mg "repr" = none := PySem.W.mg_none_of X G z_repr
  have ztuple : mg "tuple" = none := PySem.W.mg_none_of X G z_tuple
  have zzip : mg "zip" = none := PySem.W.mg_none_of X G z_zip
  have clC : Cls K C := ⟨pg_C, hd_C, po_C, sa_C⟩
  have NC : NumC K C := ⟨clC, n_top_C, n_bottom_C, ha_C, hn_C, htk_C, hm_C, kit_self _, sf_C, nf_C⟩
  have TE : OexC K Cs := ⟨⟨_, _, _, _, _, _, _, _, _, _, _, _, _, _, _, xL_Cs, rv_Cs⟩, sa_Cs, ex_Cs, ty_Cs, kc_Cs⟩
  have TB : ErrC K Cs := ⟨ga_Cs, gg_Cs, ex_Cs, hd_Cs, ca_Cs, oc_n, oc_t, hm_Cs⟩
  have kB : PySem.W.kitOne K (.ref Cs) (.ref Cb) = some false := kit_no ic_Cb ty_Cb s_Cs_Cb (fun z => by injection z with z; subst z; rw [ss_Cs] at s_Cs_Cb; cases s_Cs_Cb)
  have xE : PySem.W.exmOne K (.ref Cs) (.ref Ce) = some true := PySem.W.exm_ref ex_Ce hd_Ce ty_Ce s_Cs_Ce
  have on : PySem.W.kitOne K (.type "NoneType") (.ref C) = some false := kit_no ic_C ty_C tn_C (fun z => nomatch z)
  have oi : PySem.W.kitOne K (.type "int") (.ref C) = some false := kit_no ic_C ty_C ti_C (fun z => nomatch z)
  have os : PySem.W.kitOne K (.type "str") (.ref C) = some false := kit_no ic_C ty_C ts_C (fun z => nomatch z)
  have ot : PySem.W.kitOne K (.type "tuple") (.ref C) = some false := kit_no ic_C ty_C tt_C (fun z => nomatch z)
  have ol : PySem.W.kitOne K (.type "list") (.ref C) = some false := kit_no ic_C ty_C tl_C (fun z => nomatch z)
  have od : PySem.W.kitOne K (.type "dict") (.ref C) = some false := kit_no ic_C ty_C td_C (fun z => nomatch z)
  have oo : PySem.W.kitOne K (.ref L) (.ref C) = some false := kit_no ic_C ty_C s_L_C (fun z => by injection z with z; subst z; rw [ss_C] at s_L_C; cases s_L_C)
  have ob : PySem.W.kitOne K (.ref L) (.type "bool") = some false := kit_tyb rfl (by decide +kernel) lb_L
  have OC : OddC K C L := ⟨on, oi, os, ot, ol, od, oo, ob⟩
  have clL : Cls K L := ⟨pg_L, hd_L, po_L, sa_L⟩
  have clD : Cls K D := ⟨pg_D, hd_D, po_D, sa_D⟩
  have LC : LineC K L := ⟨clL, n_base_L, n_slope_L, ha_L, oc_n, oc_t, hm_L⟩
  have SC : StrC K D := ⟨clD, n_low_D, n_high_D, n_has_low_D, n_has_high_D, n_middle_D⟩
  have ST : StrT K D := ⟨ha_D, oc_n, oc_t, hm_D⟩
  have FWhole := L2.fun_mk (st := sWhole) l_Whole c_Whole k_Whole
  have FNTop := L2.fun_mk (st := sNTop) l_NTop c_NTop k_NTop
  have FNBot := L2.fun_mk (st := sNBot) l_NBot c_NBot k_NBot
  have FErrN := L2.fun_mk (st := sErrN) l_ErrN c_ErrN k_ErrN
  have FLine := L2.fun_mk (st := sLine) l_Line c_Line k_Line
  have FSLow := L2.fun_mk (st := sSLow) l_SLow c_SLow k_SLow
  have FSHigh := L2.fun_mk (st := sSHigh) l_SHigh c_SHigh k_SHigh
  have FSHl := L2.fun_mk (st := sSHl) l_SHl c_SHl k_SHl
  have FSHh := L2.fun_mk (st := sSHh) l_SHh c_SHh k_SHh
  have FSMid := L2.fun_mk (st := sSMid) l_SMid c_SMid k_SMid
  have FNEq := L2.fun_mk (st := sNEq) l_NEq c_NEq k_NEq
  have FNAdd := L2.fun_mk (st := sNAdd) l_NAdd c_NAdd k_NAdd
  have FNMul := L2.fun_mk (st := sNMul) l_NMul c_NMul k_NMul
  have FNLess := L2.fun_mk (st := sNLess) l_NLess c_NLess k_NLess
  have FPot := L2.fun_mk (st := sPot) l_Pot c_Pot k_Pot
  have FTake := L2.fun_mk (st := sTake) l_Take c_Take k_Take
  have FOf := L2.fun_mk (st := sOf) l_Of c_Of k_Of
  have FDrawn := L2.fun_mk (st := sDrawn) l_Drawn c_Drawn k_Drawn
  have FOdd := L2.fun_mk (st := sOdd) l_Odd c_Odd k_Odd
  have FFine := L2.fun_mk (st := sFine) l_Fine c_Fine k_Fine
  have FHeard := L2.fun_mk (st := sHeard) l_Heard c_Heard k_Heard
  have FRefd := L2.fun_mk (st := sRefd) l_Refd c_Refd k_Refd
  have FRight := L2.fun_mk (st := sRight) l_Right c_Right k_Right
  have FLaw := L2.fun_mk (st := sLaw) l_Law c_Law k_Law
  have bWhole := FWhole.binds (ps := PWhole) fun _ _ _ _ _ _ us hl => match us, hl with | [_], _ => rfl
  have bNTop := FNTop.binds (ps := PNTop) fun _ _ _ _ _ _ us hl => match us, hl with | [_], _ => rfl
  have bNBot := FNBot.binds (ps := PNBot) fun _ _ _ _ _ _ us hl => match us, hl with | [_], _ => rfl
  have bErrN := FErrN.binds (ps := PErrN) fun _ _ _ _ _ _ us hl => match us, hl with | [_, _], _ => rfl
  have bLine := FLine.binds (ps := PLine) fun _ _ _ _ _ _ us hl => match us, hl with | [_, _, _], _ => rfl
  have bSLow := FSLow.binds (ps := PSLow) fun _ _ _ _ _ _ us hl => match us, hl with | [_], _ => rfl
  have bSHigh := FSHigh.binds (ps := PSHigh) fun _ _ _ _ _ _ us hl => match us, hl with | [_], _ => rfl
  have bSHl := FSHl.binds (ps := PSHl) fun _ _ _ _ _ _ us hl => match us, hl with | [_], _ => rfl
  have bSHh := FSHh.binds (ps := PSHh) fun _ _ _ _ _ _ us hl => match us, hl with | [_], _ => rfl
  have bSMid := FSMid.binds (ps := PSMid) fun _ _ _ _ _ _ us hl => match us, hl with | [_], _ => rfl
  have bNEq := FNEq.binds (ps := PNEq) fun _ _ _ _ _ _ us hl => match us, hl with | [_, _], _ => rfl
  have bNAdd := FNAdd.binds (ps := PNAdd) fun _ _ _ _ _ _ us hl => match us, hl with | [_, _], _ => rfl
  have bNMul := FNMul.binds (ps := PNMul) fun _ _ _ _ _ _ us hl => match us, hl with | [_, _], _ => rfl
  have bNLess := FNLess.binds (ps := PNLess) fun _ _ _ _ _ _ us hl => match us, hl with | [_, _], _ => rfl
  have bPot := FPot.binds (ps := PPot) fun _ _ _ _ _ _ us hl => match us, hl with | [_, _], _ => rfl
  have bTake := FTake.binds (ps := PTake) fun _ _ _ _ _ _ us hl => match us, hl with | [_, _], _ => rfl
  have bOf := FOf.binds (ps := POf) fun _ _ _ _ _ _ us hl => match us, hl with | [_, _], _ => rfl
  have bDrawn := FDrawn.binds (ps := PDrawn) fun _ _ _ _ _ _ us hl => match us, hl with | [_], _ => rfl
  have bOdd := FOdd.binds (ps := POdd) fun _ _ _ _ _ _ us hl => match us, hl with | [_], _ => rfl
  have bFine := FFine.binds (ps := PFine) fun _ _ _ _ _ _ us hl => match us, hl with | [_, _, _, _], _ => rfl
  have bHeard := FHeard.binds (ps := PHeard) fun _ _ _ _ _ _ us hl => match us, hl with | [_, _, _, _], _ => rfl
  have bRefd := FRefd.binds (ps := PRefd) fun _ _ _ _ _ _ us hl => match us, hl with | [_, _, _], _ => rfl
  have bRight := FRight.binds (ps := PRight) fun _ _ _ _ _ _ us hl => match us, hl with | [_], _ => rfl
  have bLaw := FLaw.binds (ps := PLaw) fun _ _ _ _ _ _ us hl => match us, hl with | [_], _ => rfl
  have FNum : FunD K "__init__" "Number.__init__" (defArgs sNum) (defBody sNum) (defScope sNum) [.int 1] [] fNum _ := ⟨⟨_, _, _, _, _, _, _, _, _, _, rfl, l_Num, c_Num, .inr ⟨(fun z => by cases z), TNum, oTNum, [.int 1 tkT], nT, rfl, lT, dT, .cons ⟨_, rfl⟩ .nil⟩, .inl rfl⟩, k_Num⟩
  obtain ⟨dsN, vN, bN⟩ := FNum.binds1 (ps := PNum) 3 1 (fun z => by cases z) rfl fun T kV doc pm an cdv ct us its h1 h2 => match us, its, h1, h2 with | [_, _, _], [_], _, _ => ⟨_, rfl, rfl⟩
  obtain ⟨dsM, vM, bM⟩ := FNum.binds1 (ps := PNum) 2 0 (fun z => by cases z) rfl fun T kV doc pm an cdv ct us its h1 h2 => match us, its, h1, h2 with | [_, _], [_], _, _ => ⟨_, rfl, rfl⟩
  have FS : FunD K "__init__" "Stretch.__init__" (defArgs sSInit) (defBody sSInit) (defScope sSInit) [] [("has_low", .bl true), ("has_high", .bl true)] fSInit _ := ⟨⟨_, _, _, _, _, _, _, _, _, _, rfl, l_SInit, c_SInit, .inl ⟨rfl, rfl⟩, .inr ⟨WSInit, rfl, fun q hq => by
    simp only [List.mem_cons, List.not_mem_nil, or_false] at hq
    rcases hq with rfl | rfl
    · exact ⟨_, whas_low_SInit, rfl⟩
    · exact ⟨_, whas_high_SInit, rfl⟩⟩⟩, k_SInit⟩
  obtain ⟨dsS, vS, bS⟩ := FS.binds0 (ps := PSInit) 3 (fun z => by cases z) rfl fun D' doc pm an cdv ct us ks h1 h2 => match us, ks, h1, h2 with | [_, _, _], [_, _], _, _ => ⟨_, _, _, _, _, _, rfl, rfl, _, _, _, _, _, _, rfl, rfl, rfl⟩
  obtain ⟨mvS, bKS⟩ := FS.kbinds0 (ps := PSInit) 3 ["has_low", "has_high"] [] (fun us mv ws => us ++ ws) (fun z => by cases z) (fun q hq => by cases hq) (fun r1 _ r2 => r1.append r2) fun D' doc pm an cdv ct us mv ws h1 h2 h3 => match us, mv, ws, h1, h2, h3 with | [_, _, _], [], [_, _], _, _, _ => rfl
  intro base _ _
  have cW : CalF l.prog w K mg base 1 "is_whole" spWhole := ⟨_, ok_whole FWhole bWhole B, mgo g_fWhole, k_Whole⟩
  have mN : MakF l.prog w K mg base 2 "Number" C (spNum C) := ⟨_, ⟨mk_C, a_Num, i_Num, kc_C⟩, ok_num (dvs' := []) FNum bN vN (fun vs H Q E h => by rw [List.append_nil]; exact h) B NC (mgo gcd) cW, mgo g_C⟩
  have pT : PrpF l.prog w K mg base 1 C "top" (spTop C) := ⟨_, _, clC, ⟨a_NTop, g_NTop, t_NTop, _, r_NTop⟩, ok_top FNTop bNTop NC⟩
  have pB : PrpF l.prog w K mg base 1 C "bottom" (spBot C) := ⟨_, _, clC, ⟨a_NBot, g_NBot, t_NBot, _, r_NBot⟩, ok_bot FNBot bNBot NC⟩
  have oE : OpnF l.prog w K mg base 1 C "__eq__" (spNEq C) := ⟨_, a_NEq, i_NEq, ok_neq FNEq bNEq B NC (mgo g_C)⟩
  have oA : OpnF l.prog w K mg base 4 C (PySem.dunder Operator.Add.info.2) (spAdd C) := ⟨_, a_NAdd, i_NAdd, ok_nadd FNAdd bNAdd NC mN⟩
  have oM : OpnF l.prog w K mg base 4 C (PySem.dunder Operator.Mult.info.2) (spMul C) := ⟨_, a_NMul, i_NMul, ok_nmul FNMul bNMul NC mN⟩
  have cP : CalF l.prog w K mg base 1 "_law_pot" (spPot K) := ⟨_, ok_pot FPot bPot B, mgo g_fPot, k_Pot⟩
  have cT : CalF l.prog w K mg base 1 "_law_take" spTake := ⟨_, ok_take FTake bTake B, mgo g_fTake, k_Take⟩
  have cO : CalF l.prog w K mg base 2 "_law_of" spOf := ⟨_, ok_of FOf bOf B cT, mgo g_fOf, k_Of⟩
  have mN1 : MakF l.prog w K mg base 2 "Number" C (spNum1 C) := ⟨_, ⟨mk_C, a_Num, i_Num, kc_C⟩, ok_num (dvs' := [.int 1]) FNum bM vM (fun vs H Q E ⟨x, dx, t, e, h1, h2⟩ => ⟨x, dx, t, 1, by rw [e]; rfl, by decide, (show Sz 1 1 from by unfold Sz; decide).mono (by decide), h1, h2⟩) B NC (mgo gcd) cW, mgo g_C⟩
  have tL : MetF l.prog w K mg base 1 C "is_less" (spLess C) := ⟨_, clC, ⟨a_NLess, i_NLess, k_NLess⟩, ok_nless FNLess bNLess NC⟩
  have mL : MakF l.prog w K mg base 1 "Line" L (spLine L) := ⟨_, ⟨mk_L, a_Line, i_Line, kc_L⟩, ok_line FLine bLine LC, mgo g_L⟩
  have GB := ok_errn (base := base) (P := l.prog) (w := w) (mg := mg) FErrN TE nvalue_Cs
  have GS := ok_str (base := base) (P := l.prog) (w := w) (mg := mg) FS B NC SC (mgo g_C) (mgo g_Cs) mN oA oM oE tL TE a_ErrN (beq_iff_eq.mp i_ErrN) GB bErrN
  have MS : Mk K D fSInit := ⟨mk_D, a_SInit, i_SInit, kc_D⟩
  have mS : MakE l.prog w K mg base (L2.CX l.prog w) 5 "Stretch" D (spStrD K C D Cs) := ⟨_, MS, GS.raw bS vS, mgo g_D⟩
  have p1 : PrpF l.prog w K mg base 1 D "low" (spFld D fun x _ _ _ _ => x) := ⟨_, _, clD, ⟨a_SLow, g_SLow, t_SLow, _, r_SLow⟩, ok_slow FSLow bSLow SC⟩
  have p2 : PrpF l.prog w K mg base 1 D "high" (spFld D fun _ x _ _ _ => x) := ⟨_, _, clD, ⟨a_SHigh, g_SHigh, t_SHigh, _, r_SHigh⟩, ok_shigh FSHigh bSHigh SC⟩
  have p3 : PrpF l.prog w K mg base 1 D "has_low" (spFld D fun _ _ x _ _ => x) := ⟨_, _, clD, ⟨a_SHl, g_SHl, t_SHl, _, r_SHl⟩, ok_shl FSHl bSHl SC⟩
  have p4 : PrpF l.prog w K mg base 1 D "has_high" (spFld D fun _ _ _ x _ => x) := ⟨_, _, clD, ⟨a_SHh, g_SHh, t_SHh, _, r_SHh⟩, ok_shh FSHh bSHh SC⟩
  have p5 : PrpF l.prog w K mg base 1 D "middle" (spFld D fun _ _ _ _ x => x) := ⟨_, _, clD, ⟨a_SMid, g_SMid, t_SMid, _, r_SMid⟩, ok_smid FSMid bSMid SC⟩
  have cD : CalF l.prog w K mg base 4 "_law_drawn" (spDrawn C) := ⟨_, ok_drawn FDrawn bDrawn B mN cT cO, mgo g_fDrawn, k_Drawn⟩
  have cOd : CalF l.prog w K mg base 4 "_law_odd" (spOdd K C) := ⟨_, ok_odd FOdd bOdd OC LC mN1 mL cO, mgo g_fOdd, k_Odd⟩
  have cF : CalF l.prog w K mg base 3 "_law_is_fine" (spFine K C) := ⟨_, ok_fine FFine bFine B NC (mgo g_C) pT pB, mgo g_fFine, k_Fine⟩
  have cH : CalF l.prog w K mg base 7 "_law_heard" (spHeard K C D Cs) := ⟨_, ok_heard FHeard bHeard MS GS bKS (mgo g_D) (mgo g_Ce) xE, mgo g_fHeard, k_Heard⟩
  have cRf : CalF l.prog w K mg base 1 "_law_is_refused" (spRefd K C Cs) := ⟨_, ok_refd FRefd bRefd B ztuple zzip NC (mgo g_C) TB nvalue_Cs (mgo g_Cb) (mgo g_Cs) kB, mgo g_fRefd, k_Refd⟩
  have cR : CalG l.prog w K mg base CX0 8 "_law_is_right" spRight := ⟨_, ok_right FRight bRight B zrepr NC SC ST (mgo g_D) mN cT cD cOd cF cH cRf pT pB oE p1 p2 p3 p4 p5, mgo g_fRight, k_Right⟩
  exact ok_law FLaw bLaw B zrepr NC mN mN1 mS oE p3 p4 p5 cP cR

end Ws

open PySem PySem.W PyProof.Rows
set_option maxHeartbeats 0
open_top hdK for PySem.Challenge.rw_whatspeed_k07_stretches_of_any_value

theorem PySem.Challenge.cw_whatspeed_k07_stretches_of_any_value_holds : PySem.Challenge.rw_whatspeed_k07_stretches_of_any_value.Holds := by
  refine hdK ?_
  k_fill
  refine Ws.walk_G (l := PySem.Challenge.rw_whatspeed_k07_stretches_of_any_value) (n := 63) (k := 9) (sp := fun w => Ws.spLaw _) rfl (by decide) rfl ⟨rfl, by decide, by decide⟩ (fun w h Y => PySem.W.kIn_of Y) ?F (fun _ _ a ns hl _ hS => ⟨a, ns, rfl, hS, hl, fun _ => rfl⟩)
  case F =>
    intro w mg fa h KX G hmg
    refine' Ws.all_mk KX G hmg ?g_C ?pg_C ?hd_C ?po_C ?sa_C ?mk_C ?kc_C ?n_top_C ?n_bottom_C ?ha_C ?hn_C ?htk_C ?hm_C ?sf_C ?nf_C ?gcd ?g_fWhole ?l_Whole ?c_Whole ?k_Whole ?a_Num ?i_Num ?l_Num ?c_Num ?k_Num ?lT ?dT ?a_NTop ?g_NTop ?t_NTop ?r_NTop ?l_NTop ?c_NTop ?k_NTop ?a_NBot ?g_NBot ?t_NBot ?r_NBot ?l_NBot ?c_NBot ?k_NBot ?a_NEq ?i_NEq ?l_NEq ?c_NEq ?k_NEq ?a_NAdd ?i_NAdd ?l_NAdd ?c_NAdd ?k_NAdd ?a_NMul ?i_NMul ?l_NMul ?c_NMul ?k_NMul ?a_NLess ?i_NLess ?l_NLess ?c_NLess ?k_NLess ?g_L ?pg_L ?hd_L ?po_L ?sa_L ?mk_L ?kc_L ?n_base_L ?n_slope_L ?g_D ?pg_D ?hd_D ?po_D ?sa_D ?mk_D ?kc_D ?n_low_D ?n_high_D ?n_has_low_D ?n_has_high_D ?n_middle_D ?ha_L ?hm_L ?ha_D ?hm_D ?a_Line ?i_Line ?l_Line ?c_Line ?k_Line ?a_SInit ?i_SInit ?l_SInit ?whas_low_SInit ?whas_high_SInit ?c_SInit ?k_SInit ?a_SLow ?g_SLow ?t_SLow ?r_SLow ?l_SLow ?c_SLow ?k_SLow ?a_SHigh ?g_SHigh ?t_SHigh ?r_SHigh ?l_SHigh ?c_SHigh ?k_SHigh ?a_SHl ?g_SHl ?t_SHl ?r_SHl ?l_SHl ?c_SHl ?k_SHl ?a_SHh ?g_SHh ?t_SHh ?r_SHh ?l_SHh ?c_SHh ?k_SHh ?a_SMid ?g_SMid ?t_SMid ?r_SMid ?l_SMid ?c_SMid ?k_SMid ?g_Ce ?ex_Ce ?ty_Ce ?hd_Ce ?g_Cs ?xL_Cs ?rv_Cs ?sa_Cs ?ex_Cs ?ty_Cs ?kc_Cs ?ga_Cs ?gg_Cs ?hd_Cs ?ca_Cs ?hm_Cs ?ic_Cs ?ss_Cs ?nvalue_Cs ?a_ErrN ?i_ErrN ?l_ErrN ?c_ErrN ?k_ErrN ?g_Cb ?xL_Cb ?rv_Cb ?sa_Cb ?ex_Cb ?ty_Cb ?kc_Cb ?ga_Cb ?gg_Cb ?hd_Cb ?ca_Cb ?hm_Cb ?ic_Cb ?ss_Cb ?nvalue_Cb ?oc_n ?oc_t ?s_Cs_Cb ?s_Cs_Ce ?ic_C ?ty_C ?ss_C ?tn_C ?ti_C ?ts_C ?tt_C ?tl_C ?td_C ?s_L_C ?lb_L ?g_fPot ?l_Pot ?c_Pot ?k_Pot ?g_fTake ?l_Take ?c_Take ?k_Take ?g_fOf ?l_Of ?c_Of ?k_Of ?g_fDrawn ?l_Drawn ?c_Drawn ?k_Drawn ?g_fOdd ?l_Odd ?c_Odd ?k_Odd ?g_fFine ?l_Fine ?c_Fine ?k_Fine ?g_fHeard ?l_Heard ?c_Heard ?k_Heard ?g_fRefd ?l_Refd ?c_Refd ?k_Refd ?g_fRight ?l_Right ?c_Right ?k_Right ?g_fLaw ?l_Law ?c_Law ?k_Law ?z_len ?z_abs ?z_int ?z_bool ?z_max ?z_min ?z_range ?z_all ?z_any ?z_isinstance ?z_repr ?z_tuple ?z_zip
    (case g_C => k_is)
    (case pg_C => k_is)
    (case hd_C => k_is)
    (case po_C => k_is)
    (case sa_C => k_is)
    (case mk_C => k_is)
    (case kc_C => k_is)
    (case n_top_C => k_is)
    (case n_bottom_C => k_is)
    (case ha_C => k_is)
    (case hn_C => k_is)
    (case htk_C => k_is)
    (case hm_C => k_is)
    (case sf_C => k_is)
    (case nf_C => k_is)
    (case gcd => k_is)
    (case g_fWhole => k_is)
    (case l_Whole => k_is)
    (case c_Whole => k_is)
    (case k_Whole => k_is)
    (case a_Num => k_is)
    (case i_Num => k_is)
    (case l_Num => k_is)
    (case c_Num => k_is)
    (case k_Num => k_is)
    (case lT => k_is)
    (case dT => rfl)
    (case a_NTop => k_is)
    (case g_NTop => k_is)
    (case t_NTop => k_is)
    (case r_NTop => k_is)
    (case l_NTop => k_is)
    (case c_NTop => k_is)
    (case k_NTop => k_is)
    (case a_NBot => k_is)
    (case g_NBot => k_is)
    (case t_NBot => k_is)
    (case r_NBot => k_is)
    (case l_NBot => k_is)
    (case c_NBot => k_is)
    (case k_NBot => k_is)
    (case a_NEq => k_is)
    (case i_NEq => k_is)
    (case l_NEq => k_is)
    (case c_NEq => k_is)
    (case k_NEq => k_is)
    (case a_NAdd => k_is)
    (case i_NAdd => k_is)
    (case l_NAdd => k_is)
    (case c_NAdd => k_is)
    (case k_NAdd => k_is)
    (case a_NMul => k_is)
    (case i_NMul => k_is)
    (case l_NMul => k_is)
    (case c_NMul => k_is)
    (case k_NMul => k_is)
    (case a_NLess => k_is)
    (case i_NLess => k_is)
    (case l_NLess => k_is)
    (case c_NLess => k_is)
    (case k_NLess => k_is)
    (case g_L => k_is)
    (case pg_L => k_is)
    (case hd_L => k_is)
    (case po_L => k_is)
    (case sa_L => k_is)
    (case mk_L => k_is)
    (case kc_L => k_is)
    (case n_base_L => k_is)
    (case n_slope_L => k_is)
    (case g_D => k_is)
    (case pg_D => k_is)
    (case hd_D => k_is)
    (case po_D => k_is)
    (case sa_D => k_is)
    (case mk_D => k_is)
    (case kc_D => k_is)
    (case n_low_D => k_is)
    (case n_high_D => k_is)
    (case n_has_low_D => k_is)
    (case n_has_high_D => k_is)
    (case n_middle_D => k_is)
    (case ha_L => k_is)
    (case hm_L => k_is)
    (case ha_D => k_is)
    (case hm_D => k_is)
    (case a_Line => k_is)
    (case i_Line => k_is)
    (case l_Line => k_is)
    (case c_Line => k_is)
    (case k_Line => k_is)
    (case a_SInit => k_is)
    (case i_SInit => k_is)
    (case l_SInit => k_is)
    (case whas_low_SInit => k_is)
    (case whas_high_SInit => k_is)
    (case c_SInit => k_is)
    (case k_SInit => k_is)
    (case a_SLow => k_is)
    (case g_SLow => k_is)
    (case t_SLow => k_is)
    (case r_SLow => k_is)
    (case l_SLow => k_is)
    (case c_SLow => k_is)
    (case k_SLow => k_is)
    (case a_SHigh => k_is)
    (case g_SHigh => k_is)
    (case t_SHigh => k_is)
    (case r_SHigh => k_is)
    (case l_SHigh => k_is)
    (case c_SHigh => k_is)
    (case k_SHigh => k_is)
    (case a_SHl => k_is)
    (case g_SHl => k_is)
    (case t_SHl => k_is)
    (case r_SHl => k_is)
    (case l_SHl => k_is)
    (case c_SHl => k_is)
    (case k_SHl => k_is)
    (case a_SHh => k_is)
    (case g_SHh => k_is)
    (case t_SHh => k_is)
    (case r_SHh => k_is)
    (case l_SHh => k_is)
    (case c_SHh => k_is)
    (case k_SHh => k_is)
    (case a_SMid => k_is)
    (case g_SMid => k_is)
    (case t_SMid => k_is)
    (case r_SMid => k_is)
    (case l_SMid => k_is)
    (case c_SMid => k_is)
    (case k_SMid => k_is)
    (case g_Ce => k_is)
    (case ex_Ce => k_is)
    (case ty_Ce => k_is)
    (case hd_Ce => k_is)
    (case g_Cs => k_is)
    (case xL_Cs => k_is)
    (case rv_Cs => rfl)
    (case sa_Cs => k_is)
    (case ex_Cs => k_is)
    (case ty_Cs => k_is)
    (case kc_Cs => k_is)
    (case ga_Cs => k_is)
    (case gg_Cs => k_is)
    (case hd_Cs => k_is)
    (case ca_Cs => k_is)
    (case hm_Cs => k_is)
    (case ic_Cs => k_is)
    (case ss_Cs => k_is)
    (case nvalue_Cs => k_is)
    (case a_ErrN => k_is)
    (case i_ErrN => k_is)
    (case l_ErrN => k_is)
    (case c_ErrN => k_is)
    (case k_ErrN => k_is)
    (case g_Cb => k_is)
    (case xL_Cb => k_is)
    (case rv_Cb => rfl)
    (case sa_Cb => k_is)
    (case ex_Cb => k_is)
    (case ty_Cb => k_is)
    (case kc_Cb => k_is)
    (case ga_Cb => k_is)
    (case gg_Cb => k_is)
    (case hd_Cb => k_is)
    (case ca_Cb => k_is)
    (case hm_Cb => k_is)
    (case ic_Cb => k_is)
    (case ss_Cb => k_is)
    (case nvalue_Cb => k_is)
    (case oc_n => k_is)
    (case oc_t => k_is)
    (case s_Cs_Cb => k_is)
    (case s_Cs_Ce => k_is)
    (case ic_C => k_is)
    (case ty_C => k_is)
    (case ss_C => k_is)
    (case tn_C => k_is)
    (case ti_C => k_is)
    (case ts_C => k_is)
    (case tt_C => k_is)
    (case tl_C => k_is)
    (case td_C => k_is)
    (case s_L_C => k_is)
    (case lb_L => k_is)
    (case g_fPot => k_is)
    (case l_Pot => k_is)
    (case c_Pot => k_is)
    (case k_Pot => k_is)
    (case g_fTake => k_is)
    (case l_Take => k_is)
    (case c_Take => k_is)
    (case k_Take => k_is)
    (case g_fOf => k_is)
    (case l_Of => k_is)
    (case c_Of => k_is)
    (case k_Of => k_is)
    (case g_fDrawn => k_is)
    (case l_Drawn => k_is)
    (case c_Drawn => k_is)
    (case k_Drawn => k_is)
    (case g_fOdd => k_is)
    (case l_Odd => k_is)
    (case c_Odd => k_is)
    (case k_Odd => k_is)
    (case g_fFine => k_is)
    (case l_Fine => k_is)
    (case c_Fine => k_is)
    (case k_Fine => k_is)
    (case g_fHeard => k_is)
    (case l_Heard => k_is)
    (case c_Heard => k_is)
    (case k_Heard => k_is)
    (case g_fRefd => k_is)
    (case l_Refd => k_is)
    (case c_Refd => k_is)
    (case k_Refd => k_is)
    (case g_fRight => k_is)
    (case l_Right => k_is)
    (case c_Right => k_is)
    (case k_Right => k_is)
    (case g_fLaw => k_is)
    (case l_Law => k_is)
    (case c_Law => k_is)
    (case k_Law => k_is)
    (case z_len => k_is)
    (case z_abs => k_is)
    (case z_int => k_is)
    (case z_bool => k_is)
    (case z_max => k_is)
    (case z_min => k_is)
    (case z_range => k_is)
    (case z_all => k_is)
    (case z_any => k_is)
    (case z_isinstance => k_is)
    (case z_repr => k_is)
    (case z_tuple => k_is)
    (case z_zip => k_is)
#print axioms PySem.Challenge.cw_whatspeed_k07_stretches_of_any_value_holds

