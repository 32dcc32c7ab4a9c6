import PyProof.Rows.All
import Wide.All
import OpenK.AllK
import Wide.FinOn
import HandS.ForMost
import HandS.Star
import HandS.OwnEq
import HandS.Property
import HandS.Gcd
import HandS.Wide
import HandS.IsInst
import HandS.Defaults
import KE.KOpsOwn
import PyProof.InstNe
import HandS.Ends
import PyProof.Rows.ReprR
import HandS.List
import PyProof.ReprBulk
import PyProof.FitsInt
import PyProof.ReprRoads
import PyProof.Conv_bool
import PyProof.Rows.Range3
import HandS.Exc
import HandS.ExcOwn
import HandS.ExcInit
import HandS.WordsExc
import HandS.ExcIs
import KE.KExcIs
import HandS.MakeKwOnly
import HandS.More
import HandS.DeepEq
import HandS.SetFor
import PyProof.EqKinds
import HandS.TryOnly
import PySem.Challenge.RW_whatspeed_k08_whole_what_lies_in_a_stret
set_option Elab.async false
set_option linter.all false
set_option maxRecDepth 100000
set_option maxHeartbeats 4000000
namespace Ws
open PySem PySem.Spec PyProof.Rows L2
/-! ### promises of defs, methods, makers, operators: by show (0 : Int) < _; decide +kernelitional values -/
abbrev Fr1 := FnR
section
variable (P : Program) (w : World) (K : PySem.W.Frag) (mg : Str → Option Value) (base : Heap)
/-- a def of the module, called by its name -/
def CalF (k : Nat) (x : Str) (sp : Sp) : Prop := ∃ f : Addr, FnR P w K mg base CX0 k f sp ∧ mg x = some (.ref f) ∧ PySem.W.keepIn K (.ref f) = true
/-- a class that makes instances, called by its name -/
def MakF (k : Nat) (x : Str) (C : Addr) (sp : Sp) : Prop := ∃ f : Addr, Mk K C f ∧ FnR P w K mg base CX0 k f sp ∧ mg x = some (.ref C)
/-- a method -/
def MetF (k : Nat) (C : Addr) (m : Str) (sp : Sp) : Prop := ∃ f : Addr, Cls K C ∧ Meth K C m f ∧ FnR P w K mg base CX0 k f sp
/-- a special method that an operator calls -/
def OpnF (k : Nat) (C : Addr) (m : Str) (sp : Sp) : Prop := ∃ f : Addr, PySem.W.findIn K (.ref C) m = some (some (.ref f)) ∧ PySem.W.isFn K (.ref f) = true ∧ FnR P w K mg base CX0 k f sp
/-- a property -/
def PrpF (k : Nat) (C : Addr) (m : Str) (sp : Sp) : Prop := ∃ p g : Addr, Cls K C ∧ PropOf K C m p g ∧ FnR P w K mg base CX0 k g sp
/-- instances are called -/
def CloF (k : Nat) (C : Addr) (sp : Sp) : Prop := ∃ g : Addr, StX.CallO K C g ∧ FnR P w K mg base CX0 k g sp
end
section
variable {X : Cx} {k j : Nat} {C f : Addr} {sp : Sp} {x m : Str} {p pos apos : Pos} {e o : Expr} {es : List Expr} {ta : TE} {t : TA}
abbrev CalX (X : Cx) := CalF X.prog X.w X.K X.mg X.base
theorem run_R {pins : List (Addr × Obj)} {σ : L2.St} {H : Hp} {s : Shared} {Q : VK} {us : List Value} {vs : List V} {E : XK} {CX : CXT} (F : FnR X.prog X.w X.K X.mg X.base CX k f sp) (hr : Room k X.A) (hx : Passes CX X E)
    (I : Inv X pins σ H s) (r : Vals vs us) (h : sp vs H Q E) : wpAny (model X.prog X.w) X.A (call (.ref f) us) (EP X pins σ Q) X.xe s := by
  refine wpAny_call (codeAny_mono (run_fnR F hr hx I r h) fun r s' q => ?_)
  cases r with
  | error e => exact q
  | ok fl => cases fl with
    | ret u => exact q
    | next => exact q.elim
    | brk => exact q.elim
    | cont => exact q.elim
/-- f(e, ..) -/
def tF (sp : Sp) (t : TA) : TE := fun σ H Q => t σ H fun vs H1 => sp vs H1 Q E0
theorem pe_f (c : CalF X.prog X.w X.K X.mg X.base k x sp) (hr : Room j X.A) (hk : k ≤ j) (hg : Gl X x) (ha : PA X (e :: es) t) (hdb : (x == ("__debug__" : Str)) = false := by decide)
    (he : starEach (e :: es) X.env = (false, eval e X.env) :: starEach es X.env := by rfl) (hpl : (backTo pos (starEach es X.env)).any (·.1) = false := by rfl) : PE X (.Call (.Name x p) (e :: es) [] pos) (tF sp t) := by
  obtain ⟨f, F, hm, hkp⟩ := c
  refine ⟨fun pins s σ H Q I h => ?_⟩
  refine wpAny_Call_Name_kw (ld_glob I hg hm ?_ hdb)
  refine PySem.W.callWith_K (h₀ := X.base) I.ok.mod.kin hkp (thn (ha.run pos pins s σ H _ I h) fun us s1 ⟨vs, H1, I1, r, q⟩ => ⟨I1.kIn, ?_⟩) he hpl
  exact run_R F (hr.mono hk) pass0 I1 r q
/-- C(e, ..) -/
def tMk (C : Addr) (sp : Sp) (t : TA) : TE := fun σ H Q => t σ H fun vs H1 => ∀ x dx, H1 x = Option.none → H1 dx = Option.none → dx ≠ x → sp (V.ref x :: vs) (upd (upd H1 dx (.own x)) x (.ins C dx [])) (fun v H2 => v = .non ∧ Q (.ref x) H2) E0
theorem pe_mk (c : MakF X.prog X.w X.K X.mg X.base k x C sp) (hr : Room j X.A) (hk : k + 1 ≤ j) (hg : Gl X x) (ha : PA X (e :: es) t) (hdb : (x == ("__debug__" : Str)) = false := by decide)
    (he : starEach (e :: es) X.env = (false, eval e X.env) :: starEach es X.env := by rfl) (hpl : (backTo pos (starEach es X.env)).any (·.1) = false := by rfl) : PE X (.Call (.Name x p) (e :: es) [] pos) (tMk C sp t) := by
  obtain ⟨f, M, F, hm⟩ := c
  exact StX.pe_makeR M F (hr.mono hk) hg hm pass0 ha hdb he hpl
/-- o.m(e, ..) -/
def tMt (C : Addr) (m : Str) (sp : Sp) (ta : TE) (t : TA) : TE := fun σ H Q => ta σ H fun x H1 => ∃ a dx fs, x = .ref a ∧ H1 a = some (.ins C dx fs) ∧ fs.lookup m = none ∧ t σ H1 fun vs H2 => sp (x :: vs) H2 Q E0
theorem pe_mt {pl : Sem Bool} (c : MetF X.prog X.w X.K X.mg X.base k C m sp) (hr : Room j X.A) (hk : k ≤ j) (he : PE X o ta) (ha : PA X (e :: es) t)
    (hst : starEach (e :: es) X.env = (false, eval e X.env) :: starEach es X.env := by rfl) (hpl : (backTo pos (starEach es X.env)).any (·.1) = false := by rfl)
    (ht : eval (.Call (.Attribute o m apos) (e :: es) [] pos) X.env = (do
      let ov ← eval o X.env
      standAt apos.atName
      let (f, first) ← holding [ov] (getMethod ov m pl)
      callWith pos f first (backTo pos (starEach (e :: es) X.env)) (backToKw pos (keywordEach [] X.env))) := by rfl) :
    PE X (.Call (.Attribute o m apos) (e :: es) [] pos) (tMt C m sp ta t) := by
  obtain ⟨f, hc, hm, F⟩ := c
  refine ⟨fun pins s σ H Q I h => ?_⟩
  refine PySem.W.methodCall_KW (pl := pl) (thn (he.run pins s σ H _ I h) fun u s1 ⟨x, H1, I1, rx, a, dx, fs, ex, ea, l, q⟩ => ?_) ht
  subst ex
  obtain rfl : u = Value.ref a := rx
  refine getmeth_ok I1 ea hc hm l ?_
  refine PySem.W.callWith_K (first := [.ref a]) (h₀ := X.base) I.ok.mod.kin hm.kp (thn (ha.run pos pins s1 σ H1 _ I1 q) fun us s2 ⟨vs, H2, I2, r, q2⟩ => ⟨I2.kIn, ?_⟩) hst hpl
  exact run_R (us := .ref a :: us) (vs := .ref a :: vs) F (hr.mono hk) pass0 I2 (.cons rfl r) q2
/-- e.f, a property -/
def tPr (C : Addr) (sp : Sp) (ta : TE) : TE := fun σ H Q => ta σ H fun x H1 => ∃ a dx fs, x = .ref a ∧ H1 a = some (.ins C dx fs) ∧ sp [.ref a] H1 Q E0
theorem pe_pr (c : PrpF X.prog X.w X.K X.mg X.base k C m sp) (hr : Room j X.A) (hk : k + 1 ≤ j) (he : PE X e ta) (hab : attributeBase e m X.env (eval e X.env) = eval e X.env := by rfl) : PE X (.Attribute e m pos) (tPr C sp ta) := by
  obtain ⟨p, g, hc, hp, F⟩ := c
  refine ⟨fun pins s σ H Q I h => ?_⟩
  refine attr_of hab (thn (he.run pins s σ H _ I h) fun u s1 ⟨x, H1, I1, rx, a, dx, fs, ex, ea, q⟩ => ?_)
  subst ex
  obtain rfl : u = Value.ref a := rx
  obtain ⟨mA, O, _, _, _, _⟩ := ins_get I1.hok ea
  obtain ⟨od, J, _⟩ := O.look
  obtain ⟨rest, hrec⟩ := hp.rec_
  have hcs : (PySem.W.clsIn X.K C).isSome = true := by
    obtain ⟨cd, hcd, _⟩ := PySem.W.any_some hc.hd
    rw [hcd]
    rfl
  have I2 := I1.tok (s1.toks + 1)
  have hr1 : Room (k + 1) X.A := hr.mono hk
  refine PySem.W.get_bind I1.kIn J (PySem.W.plainGet_of (hc.get m)).1 (PySem.W.findObj_data hcs hp.at_ hp.get hp.tak) (PySem.W.plainGet_of (hc.get m)).2 (wpAny_call (PySem.W.prop_get (s := { s1 with toks := s1.toks + 1 }) I1.kIn hrec ?_))
  refine codeAny_mono (F X.A.in1 X.stack { s1 with toks := s1.toks + 1 } H1 [.ref a] [.ref a] Q E0 hr1.in1 I2.env0.in1 (.cons rfl .nil) q) fun r s' hq => ?_
  cases r with
  | error er => exact hq.elim
  | ok fl =>
    cases fl with
    | ret u =>
      obtain ⟨v, H', I3, rv, q3⟩ := I2.after hq
      show wpAny _ _ (handedOut u) _ _ _
      rw [PySem.W.handedOut_of (handed_of rv)]
      exact wpAny_pure ⟨v, H', I3, rv, q3⟩
    | next => exact False.elim hq
    | brk => exact False.elim hq
    | cont => exact False.elim hq
/-- an instance called -/
def tClo (C : Addr) (sp : Sp) (tf : TE) (t : TA) : TE := fun σ H Q => tf σ H fun y H1 => ∃ a, y = V.ref a ∧ t σ H1 fun vs H2 => (∃ dx fs, H2 a = some (.ins C dx fs)) ∧ sp (V.ref a :: vs) H2 Q E0
theorem pe_clo {tf : TE} {fe : Expr} (c : CloF X.prog X.w X.K X.mg X.base k C sp) (hr : Room j X.A) (hk : k ≤ j) (hf : PE X fe tf) (ha : PA X (e :: es) t)
    (ht : eval (.Call fe (e :: es) [] pos) X.env = (do callWith pos (← eval fe X.env) [] (backTo pos (starEach (e :: es) X.env)) (backToKw pos (keywordEach [] X.env))) := by rfl)
    (he : starEach (e :: es) X.env = (false, eval e X.env) :: starEach es X.env := by rfl) (hpl : (backTo pos (starEach es X.env)).any (·.1) = false := by rfl) : PE X (.Call fe (e :: es) [] pos) (tClo C sp tf t) := by
  obtain ⟨g, c, F⟩ := c
  refine ⟨fun pins s σ H Q I h => ?_⟩
  refine Call_ (thn (hf.run pins s σ H _ I h) fun u s1 ⟨y, H1, I1, ry, a, ey, q⟩ => ?_) ht
  subst ey
  obtain rfl : u = Value.ref a := ry
  refine StX.callO_with (thn (ha.run pos pins s1 σ H1 _ I1 q) fun us s2 ⟨vs, H2, I2, r, ⟨dx, fs, hi⟩, q2⟩ => ?_) he hpl
  have hi' : StX.InsC X H2 a C := .inr ⟨dx, fs, hi⟩
  obtain ⟨ox, od, J, hd⟩ := StX.insC_at I2 hi'
  exact ⟨⟨C, ox, od, J, hd⟩, StX.run_callO c F (hr.mono hk) pass0 I2 hi' r q2⟩
/-! ### operators -/
/-- the value handed back by an operator's method is never NotImplemented -/
theorem cmpBack {pins : List (Addr × Obj)} {σ : L2.St} {Q : VK} {v : Value} {s : Shared} (h : EP X pins σ Q v s) : PySem.W.CmpBack (EP X pins σ Q) v s := by
  obtain ⟨y, H, I, r, q⟩ := h
  have fin : EP X pins σ Q v s := ⟨y, H, I, r, q⟩
  cases y with
  | non => cases (show v = Value.none from r); exact fin
  | bl b => cases (show v = Value.bool b from r); exact fin
  | int i => obtain ⟨t, e⟩ := (show ∃ t, v = Value.int i t from r); subst e; exact fin
  | str i => obtain ⟨t, e⟩ := (show ∃ t, v = Value.str i t from r); subst e; exact fin
  | byt i => obtain ⟨t, e⟩ := (show ∃ t, v = Value.bytes i t from r); subst e; exact fin
  | flt i => obtain ⟨t, e⟩ := (show ∃ t, v = Value.float i t from r); subst e; exact fin
  | ref a => cases (show v = Value.ref a from r); exact fin
  | ty n => cases (show v = Value.type n from r); exact fin
theorem inst_of {pins : List (Addr × Obj)} {σ : L2.St} {H : Hp} {s : Shared} {a dx : Addr} {fs : List (Str × V)} (I : Inv X pins σ H s) (h : H a = some (.ins C dx fs)) : ∃ ox od, PySem.W.InstAt s.heap a ox C od := by
  obtain ⟨mA, O, _⟩ := ins_get I.hok h
  obtain ⟨od, J, _⟩ := O.look
  exact ⟨_, _, J⟩
/-- a op b, both of the class at C, by its own method -/
def rOwn (C : Addr) (sp : Sp) : R2 := fun x y H Q => ∃ a dx fs b dy gs, x = .ref a ∧ H a = some (.ins C dx fs) ∧ y = .ref b ∧ H b = some (.ins C dy gs) ∧ sp [.ref a, .ref b] H Q E0
theorem op_own {op : Operator} (c : OpnF X.prog X.w X.K X.mg X.base k C (PySem.dunder op.info.2) sp) (hs : PySem.W.selfFirst X.K C = true) (hr : Room j X.A) (hk : k ≤ j) : OpR X (binaryOp op) (rOwn C sp) := by
  obtain ⟨f, h1, h2, F⟩ := c
  intro pins s σ H x y v u Q I rx ry h
  obtain ⟨a, dx, fs, b, dy, gs, rfl, ea, rfl, eb, q⟩ := h
  cases (show v = Value.ref a from rx)
  cases (show u = Value.ref b from ry)
  obtain ⟨ox, od, J⟩ := inst_of I ea
  obtain ⟨oy, oe, J2⟩ := inst_of I eb
  obtain ⟨m, hF⟩ := I.fr
  refine PySem.W.binop_K hF I.ok.mod.kin J J2.type hs h1 h2 ?_
  exact wpAny_mono (run_R (us := [.ref a, .ref b]) (vs := [.ref a, .ref b]) F (hr.mono hk) pass0 I (.cons rfl (.cons rfl .nil)) q) (fun v s' hv => cmpBack hv) fun _ _ z => z
/-- what a value's type is to ==: its typeOf -/
inductive TyL (H : Hp) : V → Value → Prop where
  | non : TyL H .non (.type "NoneType")
  | bl (b : Bool) : TyL H (.bl b) (.type "bool")
  | int (i : Int) : TyL H (.int i) (.type "int")
  | str (x : Str) : TyL H (.str x) (.type "str")
  | lst {a : Addr} {xs : List V} (e : H a = some (.lst xs)) : TyL H (.ref a) (.type "list")
  | tup {a : Addr} {xs : List V} (e : H a = some (.tup xs)) : TyL H (.ref a) (.type "tuple")
  | dK {a : Addr} {xs : List (Key × V)} (e : H a = some (.dK xs)) : TyL H (.ref a) (.type "dict")
  | ins {a C dx : Addr} {fs : List (Str × V)} (e : H a = some (.ins C dx fs)) : TyL H (.ref a) (.ref C)
theorem looks_ref {M : Model} {h : Heap} {a : Addr} {o : Obj} {t : Value} (e : h.get? a = some o) (c : o.cls = t) : PySem.W.Looks M h (typeOf (.ref a)) t := by
  intro A Q E s k q
  subst c
  exact wpAny_typeOf_ref (k _ _ e) q
theorem TyL.looks {pins : List (Addr × Obj)} {σ : L2.St} {H : Hp} {s : Shared} {M : Model} {x : V} {u t : Value} (I : Inv X pins σ H s) (rx : RelV x u) (ty : TyL H x t) : PySem.W.Looks M s.heap (typeOf u) t := by
  cases ty with
  | non => cases (show u = Value.none from rx); exact .of_pure rfl
  | bl b => cases (show u = Value.bool b from rx); exact .of_pure rfl
  | int i => obtain ⟨t, q⟩ := (show ∃ t, u = Value.int i t from rx); subst q; exact .of_pure rfl
  | str i => obtain ⟨t, q⟩ := (show ∃ t, u = Value.str i t from rx); subst q; exact .of_pure rfl
  | @lst a xs e =>
    cases (show u = Value.ref a from rx)
    obtain ⟨_, its, n, _, h1⟩ := (show ObjOk X.prog X.w H s.heap a (.lst xs) from I.hok a _ e)
    exact looks_ref h1 rfl
  | @tup a xs e =>
    cases (show u = Value.ref a from rx)
    obtain ⟨_, its, _, ob, h1, c, _⟩ := (show ObjOk X.prog X.w H s.heap a (.tup xs) from I.hok a _ e)
    exact looks_ref h1 c
  | @dK a xs e =>
    cases (show u = Value.ref a from rx)
    obtain ⟨_, _, vs, _, o, es, ep, h1, h2, _⟩ := (show ObjOk X.prog X.w H s.heap a (.dK xs) from I.hok a _ e)
    exact looks_ref h1 h2.1
  | @ins a C dx fs e =>
    cases (show u = Value.ref a from rx)
    obtain ⟨ox, od, J⟩ := inst_of I e
    exact J.type
/-- a == b by a's own __eq__ -/
def rEqO (K : PySem.W.Frag) (C : Addr) (sp : Sp) : R2 := fun x y H Q => ∃ a dx fs t, x = .ref a ∧ H a = some (.ins C dx fs) ∧ TyL H y t ∧ PySem.W.notFirst K C t = true ∧ sp [.ref a, y] H Q E0
theorem op_eqO (c : OpnF X.prog X.w X.K X.mg X.base k C "__eq__" sp) (hr : Room j X.A) (hk : k ≤ j) : OpR X (compareOp .Eq) (rEqO X.K C sp) := by
  obtain ⟨f, h1, h2, F⟩ := c
  intro pins s σ H x y v u Q I rx ry h
  obtain ⟨a, dx, fs, t, rfl, ea, ty, nf, q⟩ := h
  cases (show v = Value.ref a from rx)
  obtain ⟨ox, od, J⟩ := inst_of I ea
  obtain ⟨m, hF⟩ := I.fr
  refine PySem.W.cmp_ofEq (PySem.W.cmp_K (op := .Eq) hr.units0 hF I.ok.mod.kin J (ty.looks I ry) nf h1 h2 ?_)
  exact wpAny_mono (run_R (us := [.ref a, u]) (vs := [.ref a, y]) F (hr.mono hk) pass0 I (.cons rfl (.cons ry .nil)) q) (fun v s' hv => cmpBack hv) fun _ _ z => z
/-- -a by its own __neg__ -/
def rUnO (C : Addr) (sp : Sp) : V → Hp → VK → Prop := fun x H Q => ∃ a dx fs, x = .ref a ∧ H a = some (.ins C dx fs) ∧ sp [.ref a] H Q E0
theorem un_negO (c : OpnF X.prog X.w X.K X.mg X.base k C "__neg__" sp) (hr : Room j X.A) (hk : k ≤ j) : UnR X (unaryOp .USub) (rUnO C sp) := by
  obtain ⟨f, h1, h2, F⟩ := c
  intro pins s σ H x v Q I rx h
  obtain ⟨a, dx, fs, rfl, ea, q⟩ := h
  cases (show v = Value.ref a from rx)
  obtain ⟨ox, od, J⟩ := inst_of I ea
  obtain ⟨m, hF⟩ := I.fr
  exact PySem.W.ksp_neg hF I.ok.mod.kin J h1 h2 (run_R (us := [.ref a]) (vs := [.ref a]) F (hr.mono hk) pass0 I (.cons rfl .nil) q)
/-- a's truth by its own __bool__ -/
def rTruO (C : Addr) (sp : Sp) : V → Hp → (Bool → Hp → Prop) → Prop := fun x H Q => ∃ a dx fs, x = .ref a ∧ H a = some (.ins C dx fs) ∧ sp [.ref a] H (fun v H' => ∃ b, v = .bl b ∧ Q b H') E0
theorem tru_own (c : OpnF X.prog X.w X.K X.mg X.base k C "__bool__" sp) (hr : Room j X.A) (hk : k ≤ j) : TruR X (rTruO C sp) := by
  obtain ⟨f, h1, h2, F⟩ := c
  intro pins s σ H x v Q I rx h
  obtain ⟨a, dx, fs, rfl, ea, q⟩ := h
  cases (show v = Value.ref a from rx)
  obtain ⟨ox, od, J⟩ := inst_of I ea
  obtain ⟨m, hF⟩ := I.fr
  refine PySem.W.truthy_K hF I.ok.mod.kin J h1 h2 (wpAny_mono (run_R (us := [.ref a]) (vs := [.ref a]) F (hr.mono hk) pass0 I (.cons rfl .nil) q) (fun r s' hv => ?_) fun _ _ z => z)
  obtain ⟨y, H', I', ry, b, rfl, qb⟩ := hv
  cases (show r = Value.bool b from ry)
  exact ⟨H', I', qb⟩
/-- a test by a value's truth -/
def tTru (r : V → Hp → (Bool → Hp → Prop) → Prop) (ta : TE) : TT := fun σ H Q => ta σ H fun x H1 => r x H1 Q
theorem pt_tru {r : V → Hp → (Bool → Hp → Prop) → Prop} {a : Expr} (hT : TruR X r) (ha : PE X a ta) (he : ∀ whole, isTrue a X.env whole = (do let v ← whole; standAt a.pos; holding [v] (truthy v)) := by intro _; rfl) : PT X a (tTru r ta) := by
  refine ⟨fun pins s σ H Q I h => ?_⟩
  exact isTrue_plain (thn (ha.run pins s σ H _ I h) fun v s1 ⟨x, H1, I1, r1, q1⟩ => hT pins s1 σ H1 x v Q I1 r1 q1) (he _)
/-! ### great ints -/
theorem op_powW : OpR X (binaryOp .Pow) (rI (fun i j => 0 ≤ j ∧ (Builtin.Int.intBits i : Int) * j ≤ 2 ^ 27) fun i j => .int (i ^ j.toNat)) := opI fun _ _ _ _ _ _ _ hc q => pow_int hc.1 hc.2 q
theorem op_fdivZ : OpR X (binaryOp .FloorDiv) (rI (fun _ j => j ≠ 0 ∧ j.natAbs.log2 < 9000) fun i j => .int (i.fdiv j)) := opI fun _ _ _ _ _ _ _ hc q => floordiv_int hc.1 q (.inl (PyProof.noPylong_of_log2 hc.2))
end
end Ws
namespace Ws
open PySem PySem.Spec PyProof.Rows L2
/-! ### from a def of the text to its promise -/
section
variable {P : Program} {w : World} {K : PySem.W.Frag} {mg : Str → Option Value} {base : Heap}
theorem fnR_of {x qual : Str} {st : Stmt} {f : Addr} {fd : FuncData} {N ps : List Str} {k : Nat} {sp : Sp} (F : L2.Fun K x qual st f fd) (b : Binds K fd ps []) (S : FnScope N ps (defScope st)) (len : ∀ vs H Q E, sp vs H Q E → vs.length = ps.length)
    (hbody : ∀ (cdv : Value) (A : Around) (outer : List Env) (s : Shared) (H : Hp) (vs : List V) (Q : VK) (E : XK), Room k (A.deeper (envOfC qual (defScope st) s.heap.objs.size f cdv)) → sp vs H Q E →
      ∃ t, PSs (cxOf CX0 P w K mg base N qual (defScope st) f cdv A outer s H E).nox (defBody st) t ∧ t { nx := fun _ H' => Q .non H', rt := Q } (start N vs) H) : FnR P w K mg base CX0 (k + 1) f sp :=
  ((F.ok S len hbody).raw b .nil).imp fun vs H Q E h => by rw [List.append_nil]; exact h
/-- a def with defaults: all of them are handed in, or the last ones are filled up -/
theorem fnD_of {x qual : Str} {st : Stmt} {f : Addr} {fd : FuncData} {N ps : List Str} {k : Nat} {sp sp' : Sp} {dvs dvs' : List V} {ds : List Value} (F : FunD K x qual (defArgs st) (defBody st) (defScope st) dvs [] f fd) (b : Binds K fd ps ds) (d : Vals dvs' ds) (S : FnScope N ps (defScope st)) (len : ∀ vs H Q E, sp vs H Q E → vs.length = ps.length)
    (imp : ∀ vs H Q E, sp' vs H Q E → sp (vs ++ dvs') H Q E)
    (hbody : ∀ (cdv : Value) (A : Around) (outer : List Env) (s : Shared) (H : Hp) (vs : List V) (Q : VK) (E : XK), Room k (A.deeper (envOfC qual (defScope st) s.heap.objs.size f cdv)) → sp vs H Q E →
      ∃ t, PSs (cxOf CX0 P w K mg base N qual (defScope st) f cdv A outer s H E).nox (defBody st) t ∧ t { nx := fun _ H' => Q .non H', rt := Q } (start N vs) H) : FnR P w K mg base CX0 (k + 1) f sp' :=
  ((F.ok (CX := CX0) S len fun cdv A outer s H vs Q E hr h => let ⟨t, h1, h2⟩ := hbody cdv A outer s H vs Q E hr h; ⟨t, h1.nox, h2⟩).raw b d).imp imp
end
/-- names of built-ins that the module doesn't bind -/
structure Bi (mg : Str → Option Value) : Prop where
  len : mg "len" = none
  abs : mg "abs" = none
  int : mg "int" = none
  bool : mg "bool" = none
  max : mg "max" = none
  min : mg "min" = none
  range : mg "range" = none
  all : mg "all" = none
  any : mg "any" = none
  isinstance : mg "isinstance" = none
/-! ### heaps -/
/-- all but what stands at p is as it was -/
def Ch (p : Addr) (H H' : Hp) : Prop := ∀ b o, b ≠ p → H b = some o → H' b = some o
theorem Ch.refl {p : Addr} {H : Hp} : Ch p H H := fun _ _ _ h => h
theorem Ch.trans {p : Addr} {H H1 H2 : Hp} (a : Ch p H H1) (b : Ch p H1 H2) : Ch p H H2 := fun c o n h => b c o n (a c o n h)
theorem Ch.of {p : Addr} {H H' : Hp} (h : Same H H') : Ch p H H' := fun b o _ e => h b o e
theorem Ch.upd {p : Addr} {H : Hp} {o : HO} : Ch p H (L2.upd H p o) := fun b u n e => by rw [upd_ne n]; exact e
theorem Same.new {H : Hp} {p : Addr} {o : HO} (h : H p = none) : Same H (upd H p o) := fun b u e => by rw [upd_ne (ne_of_none e h)]; exact e
theorem Ch.new {q p : Addr} {H : Hp} {o : HO} (h : H p = none) : Ch q H (L2.upd H p o) := Ch.of (Same.new h)
theorem Ch.free {p q : Addr} {H H' : Hp} (c : Ch p H H') (n : q ≠ p) (h : H' q = none) : H q = none := by
  cases e : H q with
  | none => rfl
  | some o => rw [c q o n e] at h; cases h
/-- a fresh instance is laid, then filled by its __init__ -/
theorem Same.mk {H H1 : Hp} {x dx C : Addr} (nx : H x = none) (nd : H dx = none) (k : ∀ b o, (upd (upd H dx (.own x)) x (.ins C dx [])) b = some o → b ≠ x → H1 b = some o) : Same H H1 := fun b o e =>
  k b o (by rw [upd_ne (ne_of_none e nx), upd_ne (ne_of_none e nd)]; exact e) (ne_of_none e nx)
/-! ### fields -/
theorem lk_here {k : Str} {v : V} {r : List (Str × V)} : List.lookup k ((k, v) :: r) = some v := by
  have e : (k == k) = true := beq_self_eq_true k
  simp only [List.lookup, e]
theorem lk_past {k g : Str} {v : V} {r : List (Str × V)} (h : (k == g) = false) : List.lookup k ((g, v) :: r) = List.lookup k r := by
  simp only [List.lookup, h]
theorem put_here {f : Str} {v x : V} {r : List (Str × V)} : putF f v ((f, x) :: r) = (f, v) :: r := if_pos rfl
theorem put_past {f g : Str} {v x : V} {r : List (Str × V)} (h : ¬ g = f) : putF f v ((g, x) :: r) = (g, x) :: putF f v r := if_neg h
end Ws
namespace Ws
theorem ifT {c : Bool} {A B : Prop} (hc : c = true) (h : A) : if c = true then A else B := by rw [if_pos hc]; exact h
theorem ifF {c : Bool} {A B : Prop} (hc : c = false) (h : B) : if c = true then A else B := by rw [hc, if_neg Bool.false_ne_true]; exact h
theorem if2 {c : Bool} {A B : Prop} (h1 : c = true → A) (h2 : c = false → B) : if c = true then A else B := by
  cases c with
  | true => exact ifT rfl (h1 rfl)
  | false => exact ifF rfl (h2 rfl)
end Ws
namespace Ws
open PySem PySem.Spec PyProof.Rows L2
section
variable {X : Cx} {CX : CXT} {k n : Nat} {f C : Addr} {fd : FuncData} {ps ks : List Str} {sp : Sp} {E : XK} {m : Str} {pos apos : Pos} {e o : Expr} {kws : List Keyword} {ta : TE} {tk : TA} {g : List Value → List Value → List Value} {gV : List V → List V → List V}
/-- o.m(k = v, ..) -/
def tMtK (C : Addr) (m : Str) (n : Nat) (sp : Sp) (gV : List V → List V → List V) (E : XK) (ta : TE) (tk : TA) : TE := fun σ H Q => ta σ H fun x H1 => ∃ a dx fs, x = .ref a ∧ H1 a = some (.ins C dx fs) ∧ fs.lookup m = none ∧ tk σ H1 fun zs H2 => zs.length = n ∧ sp (gV [x] zs) H2 Q E
theorem pe_mtK0 {pl : Sem Bool} (c : Cls X.K C) (hm : Meth X.K C m f) (F : FnOk X.prog X.w X.K X.mg X.base CX k f fd ps sp) (hr : Room k X.A) (hb : KBn X.K fd ps 1 ks g gV) (hx : Passes CX X E) (he : PE X o ta) (hkw : PK X kws tk)
    (hall : (backToKw pos (keywordEach kws X.env)).all (·.1.isSome) = true := by rfl) (hks : (backToKw pos (keywordEach kws X.env)).filterMap (·.1) = ks := by rfl)
    (hpl : ((backTo pos (starEach [] X.env)).any (·.1) || (backToKw pos (keywordEach kws X.env)).any (·.1.isNone)) = false := by rfl)
    (ht : eval (.Call (.Attribute o m apos) [] kws pos) X.env = (do
      let ov ← eval o X.env
      standAt apos.atName
      let (f, first) ← holding [ov] (getMethod ov m pl)
      callWith pos f first (backTo pos (starEach [] X.env)) (backToKw pos (keywordEach kws X.env))) := by rfl) :
    PE X (.Call (.Attribute o m apos) [] kws pos) (tMtK C m ks.length sp gV E ta tk) := by
  refine ⟨fun pins s σ H Q I h => ?_⟩
  refine PySem.W.methodCall_KW (pl := pl) (thn (he.run pins s σ H _ I h) fun u s1 ⟨x, H1, I1, rx, a, dx, fs, ex, ea, l, q⟩ => ?_) ht
  subst ex
  obtain rfl : u = Value.ref a := rx
  refine getmeth_ok I1 ea c hm l ?_
  refine PySem.W.callWith_KW0 (first := [.ref a]) (h₀ := X.base) I.ok.mod.kin hm.kp hall ?_ hpl
  refine thn (hkw.run pos pins s1 σ H1 _ I1 q) fun ws s2 ⟨zs, H2, I2, rz, l2, q2⟩ => ⟨I2.kIn, ?_⟩
  rw [hks]
  exact run_fnN (us := [.ref a]) (vs := [.ref a]) F hr hb hx I2 (.cons rfl .nil) rz rfl l2 q2
end
end Ws
namespace Ws
theorem bit_lo (c : Bool) : -(2 ^ 64) < (if c = true then (1 : Int) else 0) ∧ (if c = true then (1 : Int) else 0) < 2 ^ 64 := by cases c <;> decide
theorem bit_nn (c : Bool) : 0 ≤ (if c = true then (1 : Int) else 0) := by cases c <;> decide
end Ws
namespace Ws
open PySem
theorem kit_self {K : PySem.W.Frag} (t : Value) : PySem.W.kitOne K t t = some true := by
  unfold PySem.W.kitOne
  rw [if_pos (by simp)]
end Ws

namespace Ws
/-! ### fractions in lowest terms -/
def gI (t b : Int) : Int := ((Nat.gcd t.natAbs b.natAbs : Nat) : Int)
def gS (t b : Int) : Int := if b < 0 then -(gI t b) else gI t b
def nT (t b : Int) : Int := t.fdiv (gS t b)
def nB (t b : Int) : Int := b.fdiv (gS t b)
theorem gI_pos {t b : Int} (hb : b ≠ 0) : 0 < gI t b := by
  have : 0 < Nat.gcd t.natAbs b.natAbs := Nat.gcd_pos_of_pos_right _ (by omega)
  unfold gI; omega
theorem gS_ne {t b : Int} (hb : b ≠ 0) : gS t b ≠ 0 := by
  have := gI_pos (t := t) hb
  unfold gS; split <;> omega
/-- the reduced pair -/
structure Low (t b p q : Int) : Prop where
  pos : 0 < q
  cross : p * b = t * q
  cop : Nat.gcd p.natAbs q.natAbs = 1
theorem nf_parts {t b : Int} (hb : b ≠ 0) : ∃ t' b' : Int, t = gI t b * t' ∧ b = gI t b * b' ∧ Nat.gcd t'.natAbs b'.natAbs = 1 ∧ b' ≠ 0 := by
  have hg := gI_pos (t := t) hb
  have h1 : gI t b ∣ t := by
    have : Nat.gcd t.natAbs b.natAbs ∣ t.natAbs := Nat.gcd_dvd_left _ _
    have := Int.ofNat_dvd.mpr this
    exact Int.dvd_natAbs.mp this
  have h2 : gI t b ∣ b := by
    have : Nat.gcd t.natAbs b.natAbs ∣ b.natAbs := Nat.gcd_dvd_right _ _
    have := Int.ofNat_dvd.mpr this
    exact Int.dvd_natAbs.mp this
  obtain ⟨t', e1⟩ := h1
  obtain ⟨b', e2⟩ := h2
  refine ⟨t', b', e1, e2, ?_, ?_⟩
  · have e3 : t.natAbs = (gI t b).natAbs * t'.natAbs := by rw [← Int.natAbs_mul, ← e1]
    have e4 : b.natAbs = (gI t b).natAbs * b'.natAbs := by rw [← Int.natAbs_mul, ← e2]
    have e5 : Nat.gcd t.natAbs b.natAbs = (gI t b).natAbs := by unfold gI; simp
    rw [e3, e4, Nat.gcd_mul_left] at e5
    have h0 : 0 < (gI t b).natAbs := by omega
    exact Nat.eq_of_mul_eq_mul_left h0 (by rw [e5, Nat.mul_one])
  · intro z
    rw [z, Int.mul_zero] at e2
    exact hb e2
theorem nf_vals {t b : Int} (hb : b ≠ 0) : ∃ t' b' : Int, t = gI t b * t' ∧ b = gI t b * b' ∧ Nat.gcd t'.natAbs b'.natAbs = 1 ∧ b' ≠ 0 ∧ nT t b = (if b < 0 then -t' else t') ∧ nB t b = (if b < 0 then -b' else b') ∧ (b < 0 ↔ b' < 0) := by
  obtain ⟨t', b', e1, e2, hc, h0⟩ := nf_parts (t := t) hb
  have hg := gI_pos (t := t) hb
  have hs : b < 0 ↔ b' < 0 := by
    constructor
    · intro h
      apply Int.lt_of_not_ge
      intro h2
      have : 0 ≤ gI t b * b' := Int.mul_nonneg (by omega) h2
      omega
    · intro h
      have : gI t b * b' < gI t b * 0 := Int.mul_lt_mul_of_pos_left h hg
      omega
  refine ⟨t', b', e1, e2, hc, h0, ?_, ?_, hs⟩
  · unfold nT gS
    split
    · generalize gI t b = g at *
      subst e1
      rw [show g * t' = -g * -t' by grind, Int.mul_fdiv_cancel_left _ (by omega)]
    · generalize gI t b = g at *
      subst e1
      rw [Int.mul_fdiv_cancel_left _ (by omega)]
  · unfold nB gS
    split
    · generalize gI t b = g at *
      rw [e2, show g * b' = -g * -b' by grind, Int.mul_fdiv_cancel_left _ (by omega)]
    · generalize gI t b = g at *
      rw [e2, Int.mul_fdiv_cancel_left _ (by omega)]
theorem nf_low {t b : Int} (hb : b ≠ 0) : Low t b (nT t b) (nB t b) := by
  obtain ⟨t', b', e1, e2, hc, h0, eT, eB, hs⟩ := nf_vals (t := t) hb
  generalize gI t b = g at *
  rw [eT, eB]
  split
  · rename_i h
    have := hs.mp h
    refine ⟨by omega, by grind, by simpa using hc⟩
  · rename_i h
    have : ¬ b' < 0 := fun z => h (hs.mpr z)
    exact ⟨by omega, by grind, hc⟩
theorem nf_le {t b : Int} (hb : b ≠ 0) : (nT t b).natAbs ≤ t.natAbs ∧ (nB t b).natAbs ≤ b.natAbs := by
  obtain ⟨t', b', e1, e2, hc, h0, eT, eB, hs⟩ := nf_vals (t := t) hb
  have hg := gI_pos (t := t) hb
  have e3 : t.natAbs = (gI t b).natAbs * t'.natAbs := by rw [← Int.natAbs_mul, ← e1]
  have e4 : b.natAbs = (gI t b).natAbs * b'.natAbs := by rw [← Int.natAbs_mul, ← e2]
  have h0 : 1 ≤ (gI t b).natAbs := by omega
  have k1 : t'.natAbs ≤ t.natAbs := by rw [e3]; exact Nat.le_mul_of_pos_left _ h0
  have k2 : b'.natAbs ≤ b.natAbs := by rw [e4]; exact Nat.le_mul_of_pos_left _ h0
  rw [eT, eB]
  by_cases h : b < 0
  · rw [if_pos h, if_pos h]
    constructor <;> omega
  · rw [if_neg h, if_neg h]
    exact ⟨k1, k2⟩
theorem low_uniq {p q r s : Int} (h : p * s = r * q) (hq : 0 < q) (hs : 0 < s) (h1 : Nat.gcd p.natAbs q.natAbs = 1) (h2 : Nat.gcd r.natAbs s.natAbs = 1) : p = r ∧ q = s := by
  have e : p.natAbs * s.natAbs = r.natAbs * q.natAbs := by rw [← Int.natAbs_mul, ← Int.natAbs_mul, h]
  have d1 : q.natAbs ∣ s.natAbs := by
    have c : Nat.Coprime q.natAbs p.natAbs := by rw [Nat.coprime_comm]; exact h1
    exact c.dvd_of_dvd_mul_left ⟨r.natAbs, by rw [e, Nat.mul_comm]⟩
  have d2 : s.natAbs ∣ q.natAbs := by
    have c : Nat.Coprime s.natAbs r.natAbs := by rw [Nat.coprime_comm]; exact h2
    exact c.dvd_of_dvd_mul_left ⟨p.natAbs, by rw [← e, Nat.mul_comm]⟩
  have e2 : q.natAbs = s.natAbs := Nat.dvd_antisymm d1 d2
  have e3 : q = s := by omega
  subst e3
  exact ⟨Int.eq_of_mul_eq_mul_right (by omega) h, rfl⟩
/-- a reduced pair is the reduced pair of anything that it crosses with -/
theorem Low.eq {t b p q c d r s : Int} (h : Low t b p q) (h' : Low c d r s) (hb : b ≠ 0) (hd : d ≠ 0) (e : t * d = c * b) : p = r ∧ q = s := by
  refine low_uniq ?_ h.pos h'.pos h.cop h'.cop
  have e1 := h.cross
  have e2 := h'.cross
  have : (p * s) * (b * d) = (r * q) * (b * d) := by grind
  exact Int.eq_of_mul_eq_mul_right (Int.mul_ne_zero hb hd) this
theorem Low.ne {t b p q c d r s : Int} (h : Low t b p q) (h' : Low c d r s) (hb : b ≠ 0) (hd : d ≠ 0) (e : t * d ≠ c * b) : ¬ (p = r ∧ q = s) := by
  rintro ⟨rfl, rfl⟩
  refine e ?_
  have e1 := h.cross
  have e2 := h'.cross
  have : (t * d) * q = (c * b) * q := by grind
  exact Int.eq_of_mul_eq_mul_right (by have := h.pos; omega) this
theorem nf_eq {t b c d : Int} (hb : b ≠ 0) (hd : d ≠ 0) (e : t * d = c * b) : nT t b = nT c d ∧ nB t b = nB c d := (nf_low hb).eq (nf_low hd) hb hd e
theorem nf_ne {t b c d : Int} (hb : b ≠ 0) (hd : d ≠ 0) (e : t * d ≠ c * b) : ¬ (nT t b = nT c d ∧ nB t b = nB c d) := (nf_low hb).ne (nf_low hd) hb hd e
/-- the law's own reckoning -/
theorem nf_least {t b : Int} (hb : b ≠ 0) : ((if b < 0 then -1 else 1) * t) / gI t b = nT t b ∧ (if b < 0 then -b else b) / gI t b = nB t b := by
  obtain ⟨t', b', e1, e2, hc, h0, eT, eB, hs⟩ := nf_vals (t := t) hb
  have hg := gI_pos (t := t) hb
  rw [eT, eB]
  generalize gI t b = g at *
  subst e1
  split
  · refine ⟨?_, ?_⟩
    · rw [show -1 * (g * t') = g * -t' by grind, Int.mul_ediv_cancel_left _ (by omega)]
    · rw [e2, show -(g * b') = g * -b' by grind, Int.mul_ediv_cancel_left _ (by omega)]
  · refine ⟨?_, ?_⟩
    · rw [Int.one_mul, Int.mul_ediv_cancel_left _ (by omega)]
    · rw [e2, Int.mul_ediv_cancel_left _ (by omega)]
/-- one turn of Euclid's loop -/
theorem gcd_turn {a b : Int} (ha : 0 ≤ a) (hb : 0 < b) : Nat.gcd b.natAbs (a % b).natAbs = Nat.gcd a.natAbs b.natAbs := by
  rw [Int.natAbs_emod_of_nonneg ha, Nat.gcd_comm a.natAbs, Nat.gcd_rec b.natAbs a.natAbs, Nat.gcd_comm]
/-! ### sizes -/
/-- less than n bits -/
def Sz (n : Nat) (i : Int) : Prop := i.natAbs < 2 ^ n
theorem Sz.mono {n m : Nat} {i : Int} (h : Sz n i) (hm : n ≤ m) : Sz m i := Nat.lt_of_lt_of_le h (Nat.pow_le_pow_right (by decide) hm)
theorem Sz.mul {n m : Nat} {i j : Int} (h : Sz n i) (h' : Sz m j) : Sz (n + m) (i * j) := by
  unfold Sz at *
  rw [Int.natAbs_mul, Nat.pow_add]
  exact Nat.mul_lt_mul'' h h'
theorem Sz.add {n : Nat} {i j : Int} (h : Sz n i) (h' : Sz n j) : Sz (n + 1) (i + j) := by
  unfold Sz at *
  rw [Nat.pow_succ]
  omega
theorem Sz.sub {n : Nat} {i j : Int} (h : Sz n i) (h' : Sz n j) : Sz (n + 1) (i - j) := by
  unfold Sz at *
  rw [Nat.pow_succ]
  omega
theorem Sz.neg {n : Nat} {i : Int} (h : Sz n i) : Sz n (-i) := by
  unfold Sz at *
  omega
theorem Sz.nT {n : Nat} {t b : Int} (hb : b ≠ 0) (h : Sz n t) : Sz n (nT t b) := Nat.lt_of_le_of_lt (nf_le hb).1 h
theorem Sz.nB {n : Nat} {t b : Int} (hb : b ≠ 0) (h : Sz n b) : Sz n (nB t b) := Nat.lt_of_le_of_lt (nf_le hb).2 h
theorem Sz.gI {n : Nat} {t b : Int} (hb : b ≠ 0) (h : Sz n b) : Sz n (gI t b) := by
  refine Nat.lt_of_le_of_lt ?_ h
  unfold Ws.gI
  exact Nat.le_of_dvd (by omega) (Nat.gcd_dvd_right _ _)
theorem Sz.of_abs {n : Nat} {i : Int} (h : i.natAbs < 2 ^ n) : Sz n i := h
end Ws
namespace Ws
/-- a reduced pair is that of any other pair that crosses with the first one -/
theorem Low.base {t b p q c d : Int} (h : Low t b p q) (hb : b ≠ 0) (e : t * d = c * b) : Low c d p q := by
  refine ⟨h.pos, ?_, h.cop⟩
  have e1 := h.cross
  have : (p * d) * b = (c * q) * b := by grind
  exact Int.eq_of_mul_eq_mul_right hb this
theorem Low.nf {t b p q : Int} (h : Low t b p q) (hb : b ≠ 0) : p = nT t b ∧ q = nB t b := h.eq (nf_low hb) hb hb rfl
theorem Low.szT {t b p q : Int} {n : Nat} (h : Low t b p q) (hb : b ≠ 0) (z : Sz n t) : Sz n p := by rw [(h.nf hb).1]; exact z.nT hb
theorem Low.szB {t b p q : Int} {n : Nat} (h : Low t b p q) (hb : b ≠ 0) (z : Sz n b) : Sz n q := by rw [(h.nf hb).2]; exact z.nB hb
theorem Low.zero {t b p q : Int} (h : Low t b p q) (hb : b ≠ 0) : p = 0 ↔ t = 0 := by
  have e := h.cross
  have hq := h.pos
  constructor
  · intro z
    rw [z, Int.zero_mul] at e
    rcases Int.mul_eq_zero.mp e.symm with z | z
    · exact z
    · omega
  · intro z
    rw [z, Int.zero_mul] at e
    rcases Int.mul_eq_zero.mp e with z | z
    · exact z
    · exact absurd z hb
theorem Low.self {t b p q : Int} (h : Low t b p q) (hb : b ≠ 0) : Low p q p q := ⟨h.pos, rfl, h.cop⟩
end Ws

namespace Ws
open PySem PySem.Spec PyProof.Rows L2
section
variable {K : PySem.W.Frag} {a : Addr} {xs : List V} {g : TG} {te : TE} {vs : List Nat} {σ : L2.St} {H1 : Hp} {D : Addr} {Qd : Hp → Prop}
/-- a comprehension without a test: what is made so far stands at D, J tells of it -/
def PvJ (D : Addr) (J : Nat → List V → Hp → Prop) : Nat → Hp → Prop := fun i H => ∃ acc, acc.length = i ∧ H D = some (.lst acc) ∧ J i acc H
theorem step_J {J : Nat → List V → Hp → Prop} {i : Nat} {x : V} {H : Hp} (hz : i < sizeLine) (h : PvJ D J i H)
    (hs : ∀ acc, J i acc H → H D = some (.lst acc) → acc.length = i → ∀ Qn : VK, (∀ y H4, H4 D = some (.lst acc) → J (i + 1) (acc ++ [y]) (upd H4 D (.lst (acc ++ [y]))) → Qn y H4) → g x (wipe σ vs) H fun σ2 H2 => wipe σ2 vs = wipe σ vs ∧ te σ2 H2 Qn) :
    g x (wipe σ vs) H fun σ2 H2 => wipe σ2 vs = wipe σ vs ∧ tYes σ2 H2 fun b H3 => if b = true then te σ2 H3 fun y H4 => ∃ acc, H4 D = some (.lst acc) ∧ acc.length < sizeLine ∧ PvJ D J (i + 1) (upd H4 D (.lst (acc ++ [y]))) else PvJ D J (i + 1) H3 := by
  obtain ⟨acc, hl, hD, j⟩ := h
  have := hs acc j hD hl (fun y H4 => ∃ acc, H4 D = some (.lst acc) ∧ acc.length < sizeLine ∧ PvJ D J (i + 1) (upd H4 D (.lst (acc ++ [y])))) fun y H4 e jj => ⟨acc, e, by rw [hl]; exact hz, acc ++ [y], by rw [List.length_append, hl] <;> rfl, upd_same, jj⟩
  have e : (fun (σ2 : L2.St) (H2 : Hp) => wipe σ2 vs = wipe σ vs ∧ tYes σ2 H2 fun b H3 => if b = true then te σ2 H3 fun y H4 => ∃ acc, H4 D = some (.lst acc) ∧ acc.length < sizeLine ∧ PvJ D J (i + 1) (upd H4 D (.lst (acc ++ [y]))) else PvJ D J (i + 1) H3)
      = fun σ2 H2 => wipe σ2 vs = wipe σ vs ∧ te σ2 H2 fun y H4 => ∃ acc, H4 D = some (.lst acc) ∧ acc.length < sizeLine ∧ PvJ D J (i + 1) (upd H4 D (.lst (acc ++ [y]))) := by
    funext σ2 H2
    show (wipe σ2 vs = wipe σ vs ∧ (if true = true then (te σ2 H2 fun y H4 => ∃ acc, H4 D = some (.lst acc) ∧ acc.length < sizeLine ∧ PvJ D J (i + 1) (upd H4 D (.lst (acc ++ [y])))) else PvJ D J (i + 1) H2)) = _
    rw [if_pos rfl]
  rw [e]
  exact this
theorem lcT (J : Nat → List V → Hp → Prop) (h0 : J 0 [] (upd H1 D (.lst []))) (hl : ∀ i acc H, J i acc H → SqT K H a xs) (hz : xs.length < sizeLine)
    (hs : ∀ i x H acc, xs[i]? = some x → J i acc H → H D = some (.lst acc) → acc.length = i → ∀ Qn : VK, (∀ y H4, H4 D = some (.lst acc) → J (i + 1) (acc ++ [y]) (upd H4 D (.lst (acc ++ [y]))) → Qn y H4) → g x (wipe σ vs) H fun σ2 H2 => wipe σ2 vs = wipe σ vs ∧ te σ2 H2 Qn)
    (hd : ∀ ys H, J xs.length ys H → H D = some (.lst ys) → ys.length = xs.length → Qd H) :
    ∃ W : Nat → Nat → Hp → Prop, (∃ m, W 0 m (upd H1 D (.lst []))) ∧ ∀ i m H, W i m H →
      ((Itt K a).stop i H ∧ Qd H) ∨ ((Itt K a).go i H ∧ ∃ Nx : Hp → Prop, (∀ H', Nx H' → ∃ m', m' < m ∧ W (i + 1) m' H') ∧ ∀ x H', (Itt K a).yld i H x H' → g x (wipe σ vs) H' fun σ2 H2 => wipe σ2 vs = wipe σ vs ∧ tYes σ2 H2 fun b H3 =>
        if b = true then te σ2 H3 fun y H4 => ∃ acc, H4 D = some (.lst acc) ∧ acc.length < sizeLine ∧ Nx (upd H4 D (.lst (acc ++ [y]))) else Nx H3) :=
  lc_tup (K := K) (a := a) (xs := xs) (PvJ D J) ⟨[], rfl, upd_same, h0⟩ (fun i H _ h => let ⟨acc, _, _, j⟩ := h; hl i acc H j)
    (fun i x H hx h => step_J (Nat.lt_trans (List.getElem?_eq_some_iff.mp hx).1 hz) h fun acc j e l => hs i x H acc hx j e l) fun H h => let ⟨ys, l, e, j⟩ := h; hd ys H j e l
theorem lcL (J : Nat → List V → Hp → Prop) (h0 : J 0 [] (upd H1 D (.lst []))) (hl : ∀ i acc H, J i acc H → SqL K H a xs) (hz : xs.length < sizeLine)
    (hs : ∀ i x H acc, xs[i]? = some x → J i acc H → H D = some (.lst acc) → acc.length = i → ∀ Qn : VK, (∀ y H4, H4 D = some (.lst acc) → J (i + 1) (acc ++ [y]) (upd H4 D (.lst (acc ++ [y]))) → Qn y H4) → g x (wipe σ vs) H fun σ2 H2 => wipe σ2 vs = wipe σ vs ∧ te σ2 H2 Qn)
    (hd : ∀ ys H, J xs.length ys H → H D = some (.lst ys) → ys.length = xs.length → Qd H) :
    ∃ W : Nat → Nat → Hp → Prop, (∃ m, W 0 m (upd H1 D (.lst []))) ∧ ∀ i m H, W i m H →
      ((Itl K a).stop i H ∧ Qd H) ∨ ((Itl K a).go i H ∧ ∃ Nx : Hp → Prop, (∀ H', Nx H' → ∃ m', m' < m ∧ W (i + 1) m' H') ∧ ∀ x H', (Itl K a).yld i H x H' → g x (wipe σ vs) H' fun σ2 H2 => wipe σ2 vs = wipe σ vs ∧ tYes σ2 H2 fun b H3 =>
        if b = true then te σ2 H3 fun y H4 => ∃ acc, H4 D = some (.lst acc) ∧ acc.length < sizeLine ∧ Nx (upd H4 D (.lst (acc ++ [y]))) else Nx H3) :=
  lc_list (K := K) (a := a) (xs := xs) (PvJ D J) ⟨[], rfl, upd_same, h0⟩ (fun i H _ h => let ⟨acc, _, _, j⟩ := h; hl i acc H j)
    (fun i x H hx h => step_J (Nat.lt_trans (List.getElem?_eq_some_iff.mp hx).1 hz) h fun acc j e l => hs i x H acc hx j e l) fun H h => let ⟨ys, l, e, j⟩ := h; hd ys H j e l
theorem lcR {lo : Int} {n : Nat} (J : Nat → List V → Hp → Prop) (h0 : J 0 [] (upd H1 D (.lst []))) (hz : n < sizeLine)
    (hs : ∀ i H acc, i < n → J i acc H → H D = some (.lst acc) → acc.length = i → ∀ Qn : VK, (∀ y H4, H4 D = some (.lst acc) → J (i + 1) (acc ++ [y]) (upd H4 D (.lst (acc ++ [y]))) → Qn y H4) → g (.int (lo + i)) (wipe σ vs) H fun σ2 H2 => wipe σ2 vs = wipe σ vs ∧ te σ2 H2 Qn)
    (hd : ∀ ys H, J n ys H → H D = some (.lst ys) → ys.length = n → Qd H) :
    ∃ W : Nat → Nat → Hp → Prop, (∃ m, W 0 m (upd H1 D (.lst []))) ∧ ∀ i m H, W i m H →
      ((Itr lo n).stop i H ∧ Qd H) ∨ ((Itr lo n).go i H ∧ ∃ Nx : Hp → Prop, (∀ H', Nx H' → ∃ m', m' < m ∧ W (i + 1) m' H') ∧ ∀ x H', (Itr lo n).yld i H x H' → g x (wipe σ vs) H' fun σ2 H2 => wipe σ2 vs = wipe σ vs ∧ tYes σ2 H2 fun b H3 =>
        if b = true then te σ2 H3 fun y H4 => ∃ acc, H4 D = some (.lst acc) ∧ acc.length < sizeLine ∧ Nx (upd H4 D (.lst (acc ++ [y]))) else Nx H3) :=
  lc_range (PvJ D J) ⟨[], rfl, upd_same, h0⟩ (fun i H hi h => step_J (Nat.lt_trans hi hz) h fun acc j e l => hs i H acc hi j e l) fun H h => let ⟨ys, l, e, j⟩ := h; hd ys H j e l
end
end Ws

namespace Ws
open PySem PySem.W PySem.Calls PyProof.Rows
/-- what a class with an own __eq__ and no __ne__ must be -/
structure NeC (K : Frag) (C : Addr) : Prop where
  ne : findIn K (.ref C) "__ne__" = some (some (.builtin "object.__ne__"))
  obj : ∃ (nm q : Str) (N : Addr) (bs bm : List Value) (hd : Bool) (sn : List Str) (sub : List Value) (ab : Bool) (col : Option Bool) (dd : Option Addr) (k0 k1 k2 k3 k5 : Option Value) (nid : String),
    K.lookup C = some (excClassObj nm q C N bs bm hd sn sub ab col dd k0 k1 k2 k3 k5 nid) ∧ bm.contains (.type "object") = true
section
variable {prog : Program} {w : World} {A : Around} {E : Value → Shared → Prop} {s : Shared} {K : Frag} {x C L f : Addr} {h₀ : Heap} {m : Str → Option Value} {ox : Obj} {od : Option Obj} {b tb : Value}
theorem ifBound_B {M : Model} {args : List Value} {Q : Option Value → Shared → Prop} (X : K.In s.heap) (I : InstAt s.heap x ox C od) (hs : findIn K (.ref C) "__ne__" = some (some (.builtin "object.__ne__")))
    (h : wpAny M A (call (.builtin "object.__ne__") (.ref x :: args)) (fun v => Q (some v)) E s) : wpAny M A (callSpecialIfBound? (.ref x) "__ne__" args) Q E s := by
  simp only [callSpecialIfBound?, bindSpecialIfBound?]
  refine wpAny_holding (wpAny_bind (wpAny_bind (wpAny_bind (I.type.here ((looks_findIn X hs).here ?_)))))
  dsimp only
  simp only [PySem.F.cmp_object.ne.bind]
  have fin : wpAny M A (call (.builtin "object.__ne__") ([.ref x] ++ args) >>= fun v => pure (some v)) Q E s := wpAny_bind (wpAny_mono h (fun v s' h' => wpAny_pure h') fun _ _ h' => h')
  refine wpAny_bind (wpAny_askSetting (wpAny_ite ?_))
  split
  · exact wpAny_bind (wpAny_pure (wpAny_pure (by exact fin)))
  · exact wpAny_tryCatch (wpAny_bind (wpAny_pure (wpAny_pure (by exact fin))))
theorem objNe_K (hu : A.units < cLine) (X : K.In s.heap) (I : InstAt s.heap x ox C od) (hs : findIn K (.ref C) "__eq__" = some (some (.ref f))) (hf : isFn K (.ref f) = true) {Q : Fin → Shared → Prop}
    (hcall : wpAny (model prog w) A (call (.ref f) [.ref x, b]) (fun v s' => ∃ r, v = .bool r ∧ Q (.done (.ret (.bool (!r)))) s') E s) : wpAny (model prog w) A (Builtin.«object.__ne__» ⟨[.ref x, b], []⟩) Q E s := by
  obtain ⟨h, g, d, t, os⟩ := s
  unfold Builtin.«object.__ne__»
  repeat (first
    | with_reducible refine wpAny_cRoomFor hu ?_
    | (refine wpAny_bind (m := callSpecialIfBound? (.ref x) (Str.ofString "__eq__") [b])
        (ifBound_K X I hs hf (wpAny_mono hcall (fun r s' hr => by
          obtain ⟨r, rfl, hq⟩ := hr
          repeat (first | exact hq | exact wpAny_pure hq | exact wpAny_truthy_bool hq | (refine wpAny_bind (m := truthy (.bool _)) (wpAny_truthy_bool ?_)) | wp_step)) fun _ _ e => e)))
    | wp_step)
theorem ne_K (N : NeC K C) (hu : A.units + 1 < cLine) (F : Fr h₀ L s.heap m) (X₀ : K.In h₀) (I : InstAt s.heap x ox C od) (hb : Looks (model prog w) s.heap (typeOf b) tb) (hn : notFirst K C tb = true)
    (hs : findIn K (.ref C) "__eq__" = some (some (.ref f))) (hf : isFn K (.ref f) = true) {Q : Value → Shared → Prop}
    (h : wpAny (model prog w) A.in1 (call (.ref f) [.ref x, b]) (fun v s' => ∃ r, v = .bool r ∧ Q (.bool (!r)) s') E s) : wpAny (model prog w) A (compareOp .NotEq (.ref x) b) Q E s := by
  have X := X₀.keeps F.keep
  obtain ⟨hne, nm, q, N, bs, bm, hd, sn, sub, ab, col, dd, k0, k1, k2, k3, k5, nid, hC, hbm⟩ := N
  have one : wpAny (model prog w) A (tryCompare (.ref x) "__ne__" b) (fun r s' => ∃ v, r = some v ∧ Q v s') E s := by
    unfold tryCompare
    refine wpAny_bind (ifBound_B X I hne (wpAny_call (codeAny_call_builtin PySem.F.cmp_object.ne.plain PySem.F.cmpEntry_ne ?_)))
    obtain ⟨hh, g, d, t, os⟩ := s
    refine wpAny_check_slot_inst PySem.F.cmpKind_ne PySem.F.cmpSplit_ne (PySem.F.cmpArgs_ne _ _) hbm I.at_ I.cls (X _ _ hC) ?_
    refine objNe_K (A := A.in1) (Nat.lt_of_succ_lt_succ (Nat.succ_lt_succ hu)) X I hs hf (wpAny_mono h (fun v s' hv => ?_) fun _ _ e => e)
    obtain ⟨r, rfl, hq⟩ := hv
    first
      | exact ⟨r, rfl, wpAny_pure ⟨_, rfl, hq⟩⟩
      | exact ⟨r, rfl, wpAny_pure (wpAny_pure ⟨_, rfl, hq⟩)⟩
  show wpAny (model prog w) A (richCompare .NotEq (.ref x) b) Q E s
  unfold richCompare
  simp only [oneThing_ref]
  refine wpAny_holding (wpAny_bind (wpAny_cRoomFor (Nat.lt_of_succ_lt hu) ?_))
  rw [cmpInfo_NotEq]
  dsimp only
  refine wpAny_bind (I.type.here (wpAny_bind (hb.here ?_)))
  split
  · rename_i q
    have e : subIn K tb (.ref C) = some false := by
      rcases Bool.or_eq_true_iff.mp hn with e | e
      · rw [beq_iff_eq.mp e] at q; simp at q
      · exact beq_iff_eq.mp e
    refine wpAny_bind ((looks_subIn X e).here ?_)
    simp only [Bool.false_eq_true, if_false]
    refine wpAny_bind (wpAny_mono one (fun r s' z => ?_) fun _ _ e => e)
    obtain ⟨v, rfl, hq⟩ := z
    exact wpAny_pure hq
  · refine wpAny_bind (wpAny_pure ?_)
    simp only [Bool.false_eq_true, if_false]
    refine wpAny_bind (wpAny_mono one (fun r s' z => ?_) fun _ _ e => e)
    obtain ⟨v, rfl, hq⟩ := z
    exact wpAny_pure hq
end
end Ws
namespace Ws
open PySem PySem.Spec PyProof.Rows L2
section
variable {X : Cx} {k j : Nat} {C : Addr} {sp : Sp}
/-- the callee runs one call further in -/
theorem run_in1 {f : Addr} {pins : List (Addr × Obj)} {σ : L2.St} {H : Hp} {s : Shared} {Q : VK} {us : List Value} {vs : List V} {Ex : Value → Shared → Prop} (F : FnR X.prog X.w X.K X.mg X.base CX0 k f sp) (hr : Room (k + 1) X.A) (I : Inv X pins σ H s) (r : Vals vs us) (h : sp vs H Q E0) :
    wpAny (model X.prog X.w) X.A.in1 (call (.ref f) us) (EP X pins σ Q) Ex s := by
  refine wpAny_call (codeAny_mono (F X.A.in1 X.stack s H us vs Q E0 hr.in1 I.env0.in1 r h) fun r s' hq => ?_)
  cases r with
  | error er => exact hq.elim
  | ok fl =>
    cases fl with
    | ret u => exact I.after hq
    | next => exact False.elim hq
    | brk => exact False.elim hq
    | cont => exact False.elim hq
/-- a != b by a's own __eq__ -/
def rNeO (K : PySem.W.Frag) (C : Addr) (sp : Sp) : R2 := fun x y H Q => ∃ a dx fs t, x = .ref a ∧ H a = some (.ins C dx fs) ∧ TyL H y t ∧ PySem.W.notFirst K C t = true ∧ sp [.ref a, y] H (fun v H' => ∃ r, v = .bl r ∧ Q (.bl (!r)) H') E0
theorem op_neO (N : NeC X.K C) (c : OpnF X.prog X.w X.K X.mg X.base k C "__eq__" sp) (hr : Room j X.A) (hk : k + 1 ≤ j) : OpR X (compareOp .NotEq) (rNeO X.K C sp) := by
  obtain ⟨f, h1, h2, F⟩ := c
  intro pins s σ H x y v u Q I rx ry h
  obtain ⟨a, dx, fs, t, rfl, ea, ty, nf, q⟩ := h
  cases (show v = Value.ref a from rx)
  obtain ⟨ox, od, J⟩ := inst_of I ea
  obtain ⟨m, hF⟩ := I.fr
  refine ne_K N (hu_of hr) hF I.ok.mod.kin J (ty.looks I ry) nf h1 h2 ?_
  refine wpAny_mono (run_in1 (us := [.ref a, u]) (vs := [.ref a, y]) F (hr.mono hk) I (.cons rfl (.cons ry .nil)) q) (fun v s' hv => ?_) fun _ _ z => z
  obtain ⟨z, H', I', rz, r, rfl, q'⟩ := hv
  cases (show v = Value.bool r from rz)
  exact ⟨r, rfl, .bl _, H', I', rfl, q'⟩
end
/-- isinstance with a class of one's own, answered no -/
theorem kit_no {K : PySem.W.Frag} {t : Value} {D : Addr} (h1 : PySem.W.isClsIn K D = true) (h2 : PySem.W.typeIn K (.ref D) = some (.type "type")) (h3 : PySem.W.subIn K t (.ref D) = some false) (h4 : t ≠ .ref D) : PySem.W.kitOne K t (.ref D) = some false := by
  have e : (t == Value.ref D) = false := by
    cases h : (t == Value.ref D) with
    | false => rfl
    | true => exact absurd (eq_of_beq h) h4
  have e2 : ((PySem.W.clsIn K D).isSome && PySem.W.typeIn K (.ref D) == some (.type "type")) = true := by
    have h1' : (PySem.W.clsIn K D).isSome = true := h1
    rw [h1', h2] <;> rfl
  unfold PySem.W.kitOne
  rw [e, if_neg Bool.false_ne_true]
  show (if ((PySem.W.clsIn K D).isSome && PySem.W.typeIn K (.ref D) == some (.type "type")) = true then PySem.W.subIn K t (.ref D) else none) = some false
  rw [if_pos e2, h3]
end Ws

namespace Ws
open PySem PySem.Spec PyProof.Rows L2
/-! ### defs that are called where nothing is being shown: repr may be asked within them -/
/-- FnR for such calls alone -/
def FnG (P : Program) (w : World) (K : PySem.W.Frag) (mg : Str → Option Value) (base : Heap) (CX : CXT) (k : Nat) (f : Addr) (sp : Sp) : Prop :=
  ∀ (A : Around) (outer : List Env) (s : Shared) (H : Hp) (us : List Value) (vs : List V) (Q : VK) (E : XK), A.guards = some [] → Room k A → Env0 P w K mg base A outer s H → Vals vs us → sp vs H Q E →
    codeAny (model P w) A (.call (.ref f) ⟨us, []⟩) (CR CX outer P w H s Q E) s
theorem FnG.of {P : Program} {w : World} {K : PySem.W.Frag} {mg : Str → Option Value} {base : Heap} {CX : CXT} {k : Nat} {f : Addr} {sp : Sp} (F : FnR P w K mg base CX k f sp) : FnG P w K mg base CX k f sp :=
  fun A outer s H us vs Q E _ hr e0 r h => F A outer s H us vs Q E hr e0 r h
/-- such a def of the module, by its name -/
def CalG (P : Program) (w : World) (K : PySem.W.Frag) (mg : Str → Option Value) (base : Heap) (CX : CXT) (k : Nat) (x : Str) (sp : Sp) : Prop := ∃ f : Addr, FnG P w K mg base CX k f sp ∧ mg x = some (.ref f) ∧ PySem.W.keepIn K (.ref f) = true
section
variable {X : Cx} {k j : Nat} {f : Addr} {sp : Sp} {x : Str} {p pos : Pos} {e : Expr} {es : List Expr} {t : TA} {CX : CXT} {E : XK}
theorem run_G {pins : List (Addr × Obj)} {σ : L2.St} {H : Hp} {s : Shared} {Q : VK} {us : List Value} {vs : List V} (F : FnG X.prog X.w X.K X.mg X.base CX k f sp) (cl : X.A.guards = some []) (hr : Room k X.A) (hx : Passes CX X E)
    (I : Inv X pins σ H s) (r : Vals vs us) (h : sp vs H Q E) : wpAny (model X.prog X.w) X.A (call (.ref f) us) (EP X pins σ Q) X.xe s := by
  refine wpAny_call (codeAny_mono (F X.A X.stack s H us vs Q E cl hr I.env0 r h) fun out s' q => ?_)
  cases out with
  | error e => exact hx pins σ H s e s' I q
  | ok fl => cases fl with
    | ret u => exact I.after q
    | next => exact q.elim
    | brk => exact q.elim
    | cont => exact q.elim
def tFE (sp : Sp) (E : XK) (t : TA) : TE := fun σ H Q => t σ H fun vs H1 => sp vs H1 Q E
/-- f(e, ..) -/
theorem pe_gE (c : CalG X.prog X.w X.K X.mg X.base CX k x sp) (cl : X.A.guards = some []) (hr : Room j X.A) (hk : k ≤ j) (hx : Passes CX X E) (hg : Gl X x) (ha : PA X (e :: es) t) (hdb : (x == ("__debug__" : Str)) = false := by decide)
    (he : starEach (e :: es) X.env = (false, eval e X.env) :: starEach es X.env := by rfl) (hpl : (backTo pos (starEach es X.env)).any (·.1) = false := by rfl) : PE X (.Call (.Name x p) (e :: es) [] pos) (tFE sp E t) := by
  obtain ⟨f, F, hm, hkp⟩ := c
  refine ⟨fun pins s σ H Q I h => ?_⟩
  refine wpAny_Call_Name_kw (ld_glob I hg hm ?_ hdb)
  refine PySem.W.callWith_K (h₀ := X.base) I.ok.mod.kin hkp (thn (ha.run pos pins s σ H _ I h) fun us s1 ⟨vs, H1, I1, r, q⟩ => ⟨I1.kIn, ?_⟩) he hpl
  exact run_G F cl (hr.mono hk) hx I1 r q
theorem pe_g (c : CalG X.prog X.w X.K X.mg X.base CX0 k x sp) (cl : X.A.guards = some []) (hr : Room j X.A) (hk : k ≤ j) (hg : Gl X x) (ha : PA X (e :: es) t) (hdb : (x == ("__debug__" : Str)) = false := by decide)
    (he : starEach (e :: es) X.env = (false, eval e X.env) :: starEach es X.env := by rfl) (hpl : (backTo pos (starEach es X.env)).any (·.1) = false := by rfl) : PE X (.Call (.Name x p) (e :: es) [] pos) (tF sp t) :=
  pe_gE c cl hr hk pass0 hg ha hdb he hpl
end
section
variable {P : Program} {w : World} {K : PySem.W.Frag} {mg : Str → Option Value} {base : Heap}
/-- a def of the text: its body is read where nothing is being shown -/
theorem fnG_ofX {CX : CXT} {x qual : Str} {st : Stmt} {f : Addr} {fd : FuncData} {N ps : List Str} {k : Nat} {sp : Sp} (F : L2.Fun K x qual st f fd) (b : Binds K fd ps []) (S : FnScope N ps (defScope st)) (len : ∀ vs H Q E, sp vs H Q E → vs.length = ps.length)
    (hbody : ∀ (cdv : Value) (A : Around) (outer : List Env) (s : Shared) (H : Hp) (vs : List V) (Q : VK) (E : XK), A.guards = some [] → Room k (A.deeper (envOfC qual (defScope st) s.heap.objs.size f cdv)) → sp vs H Q E →
      ∃ t, PSs (cxOf CX P w K mg base N qual (defScope st) f cdv A outer s H E) (defBody st) t ∧ t { nx := fun _ H' => Q .non H', rt := Q } (start N vs) H) : FnG P w K mg base CX (k + 1) f sp := by
  obtain ⟨oc, od, kV, doc, pm, an, cdv, ct, osl, rfl, lk, hcd⟩ := F.ex
  intro A outer s H us vs Q E cl hr e0 r hsp
  have hn := len _ _ _ _ hsp
  have inS : K.In s.heap := e0.mod.kin.keeps fun b o e => (e0.bs b o e).1
  have free : s.heap.NoLimit := e0.mod.nolimit.keeps fun b o e => (e0.bs b o e).1
  have hl : us.length = ps.length := r.length ▸ hn
  have bd := b s us inS (by rw [List.append_nil]; exact hl)
  rw [List.append_nil] at bd
  have kinds : ∀ y ∈ ps.zip us, (defScope st).names.lookup y.1 = some .local ∨ ((defScope st).names.lookup y.1 = some .cell ∧ ((cellsFrom (s.heap.objs.size + 1) (defScope st).names []).lookup y.1).isSome = true) := by
    rintro ⟨n, v⟩ hy
    exact (S.par n (List.of_mem_zip hy).1).imp id fun q => ⟨q, PySem.W.cellsFrom_some _ _ _ (.inl q)⟩
  refine codeAny_call_function hr.depth (inS _ _ lk) rfl S.co S.gen rfl (PySem.W.codeRec_of inS hcd) (bd _ _ _ _ ?_)
  refine wpAny_newFunctionEnv_cells S.kind kinds fun env hE s1 z => ?_
  cases hE
  refine ⟨free.keeps z.toInCall.keep, codeAny_func ?_⟩
  obtain ⟨t, ht, q⟩ := hbody cdv A outer s H vs Q E cl (hr.deeper _) hsp
  have I : Inv (cxOf CX P w K mg base N qual (defScope st) f cdv A outer s H E) [] (start N vs) H s1 := inv_start S hr.hd e0 hn r z
  refine wpAny_mono (ht.run [] s1 (start N vs) H _ I q) (fun fl s2 out => ?_) fun _ _ out => out
  cases fl with
  | ret u => obtain ⟨v, _, H2, J, rv, q2⟩ := out; exact ⟨v, H2, J.os, J.bare, J.base, J.hok, rv, q2⟩
  | next => obtain ⟨_, H2, J, q2⟩ := out; exact ⟨.non, H2, J.os, J.bare, J.base, J.hok, rfl, q2⟩
  | brk => exact out.elim fun _ z => z.elim fun _ z => z.2.elim
  | cont => exact out.elim fun _ z => z.elim fun _ z => z.2.elim
theorem fnG_of {x qual : Str} {st : Stmt} {f : Addr} {fd : FuncData} {N ps : List Str} {k : Nat} {sp : Sp} (F : L2.Fun K x qual st f fd) (b : Binds K fd ps []) (S : FnScope N ps (defScope st)) (len : ∀ vs H Q E, sp vs H Q E → vs.length = ps.length)
    (hbody : ∀ (cdv : Value) (A : Around) (outer : List Env) (s : Shared) (H : Hp) (vs : List V) (Q : VK) (E : XK), A.guards = some [] → Room k (A.deeper (envOfC qual (defScope st) s.heap.objs.size f cdv)) → sp vs H Q E →
      ∃ t, PSs (cxOf CX0 P w K mg base N qual (defScope st) f cdv A outer s H E).nox (defBody st) t ∧ t { nx := fun _ H' => Q .non H', rt := Q } (start N vs) H) : FnG P w K mg base CX0 (k + 1) f sp :=
  fnG_ofX F b S len fun cdv A outer s H vs Q E cl hr h => let ⟨t, h1, h2⟩ := hbody cdv A outer s H vs Q E cl hr h; ⟨t, h1.nox, h2⟩
end
/-! ### the law's own call -/
/-- what is tracked when the law begins: its script, if the module doesn't have it -/
def only1 (K : PySem.W.Frag) (a : Addr) (o : Obj) (xs : List V) : Hp := fun b => if b = a then (match K.lookup a with | some _ => none | none => some (.frz o (.lst xs))) else none
theorem law_G {P : Program} {w : World} {K : PySem.W.Frag} {mg mb : Str → Option Value} {k : Nat} {fa a : Addr} {sp : Sp} {s : Shared} {vs : List Value} {ns : List Int}
    (inS : K.In s.heap) (hm : s.heap.Ns mainGlobals mg) (hb : s.heap.Ns builtinsNs mb) (bb : ∀ x : Str, x ≠ "__name__" → mb x = bootBuiltins x) (free : s.heap.NoLimit) (hg : s.gens = #[])
    (ha : s.heap.get? a = some { cls := .type "list", data := .seq vs.toArray }) (hi : IntsAre vs ns) (hl : ns.length ≤ sizeLine) (hr : Room k callerA)
    (F : ∀ base : Heap, K.In base → base.Ns mainGlobals mg → FnG P w K mg base CX0 k fa sp)
    (hsp : ∀ H : Hp, Only H → SqL K H a (ns.map V.int) → sp [.ref a] H (fun v _ => v = .bl true) fun _ _ _ => False) :
    codeAny (model P w) callerA (.call (.ref fa) ⟨[.ref a], []⟩) (fun r s' => r = .ok (.ret (.bool true)) ∧ OldK s.heap s'.heap ∧ s'.os = s.os ∧ AllBare s'.gens) s := by
  let ob : Obj := { cls := .type "list", data := .seq vs.toArray }
  let H : Hp := only1 K a ob (ns.map V.int)
  have hH : ∀ b u, H b = some u → b = a ∧ K.lookup a = none ∧ u = .frz ob (.lst (ns.map V.int)) := by
    intro b u e
    have e1 : (if b = a then (match K.lookup a with | some _ => none | none => some (HO.frz ob (.lst (ns.map V.int)))) else none) = some u := e
    by_cases hba : b = a
    · rw [if_pos hba] at e1
      cases hk : K.lookup a with
      | some _ => rw [hk] at e1; cases e1
      | none => rw [hk] at e1; exact ⟨hba, rfl, (Option.some.inj e1).symm⟩
    · rw [if_neg hba] at e1; cases e1
  have only : Only H := fun b => by
    cases e : H b with
    | none => exact .inl rfl
    | some u => obtain ⟨_, _, rfl⟩ := hH b u e; exact .inr ⟨_, _, rfl⟩
  have rv := vals_ints hi
  have here : SqL K H a (ns.map V.int) := by
    cases hk : K.lookup a with
    | none =>
      refine .inl (.inr ⟨ob, ?_⟩)
      show (if a = a then (match K.lookup a with | some _ => none | none => some (HO.frz ob (.lst (ns.map V.int)))) else none) = _
      rw [if_pos rfl, hk]
    | some o =>
      have e := inS a o hk
      rw [ha] at e
      cases e
      exact .inr ⟨_, vs.toArray, _, hk, rfl, rfl, rfl, by rw [List.size_toArray, hi.length]; exact hl, by simpa using rv⟩
  have ok : HOk P w H s.heap := fun b u e => by
    obtain ⟨rfl, _, rfl⟩ := hH b u e
    exact ⟨ha, by rw [List.length_map]; exact hl, vs, _, rv, ha⟩
  have low : ∀ {b : Addr} {o : Obj}, s.heap.get? b = some o → H b = none → (hidT s.heap H).get? b = some o := fun e n => hidT_get e n
  have lowD : ∀ {b : Addr} {m : Str → Option Value}, s.heap.Ns b m → (hidT s.heap H).Ns b m := fun {b m} ⟨o, es, ep, e, d, r⟩ => ⟨o, es, ep, low e (by
    cases q : H b with
    | none => rfl
    | some u =>
      obtain ⟨rfl, _, _⟩ := hH b u q
      rw [ha] at e
      cases e
      cases (show Data.seq vs.toArray _ = Data.dict es ep from d)), d, r⟩
  have inB : K.In (hidT s.heap H) := fun b o e => low (inS b o e) (by
    cases q : H b with
    | none => rfl
    | some u =>
      obtain ⟨rfl, n, _⟩ := hH b u q
      rw [n] at e
      cases e)
  have M : Mod K mg (hidT s.heap H) := ⟨inB, lowD hm, ⟨mb, lowD hb, bb⟩, let ⟨mc, h1, h2⟩ := free; ⟨mc, lowD h1, h2⟩⟩
  have e0 : Env0 P w K mg (hidT s.heap H) callerA [] s H := ⟨rfl, M, fun b o e => of_hidT e, Nat.le_of_eq (hidT_size _ _), trivial, fun b z => absurd (show b ∈ ([] : List Addr) from z) (by simp), ok, .of_eq hg⟩
  refine codeAny_mono (F _ inB (lowD hm) callerA [] s H [.ref a] [.ref a] _ _ rfl hr e0 (.cons rfl .nil) (hsp H only here)) fun r s' h => ?_
  cases r with
  | error e => exact h.elim
  | ok fl =>
    cases fl with
    | ret u =>
      obtain ⟨v, H', os, bare, un, ok', r', q⟩ := h
      cases (show v = V.bl true from q)
      cases (show u = Value.bool true from r')
      refine ⟨rfl, OldK.of_keep fun b o e => ?_, os, bare⟩
      cases z : H b with
      | none => exact un.keep b o e z (fun y => absurd (show b ∈ ([] : List Addr) from y) (by simp)) (by simp)
      | some u =>
        obtain ⟨rfl, _, rfl⟩ := hH b u z
        rw [ha] at e
        cases e
        exact (ok' b _ (un.frzs b _ _ z)).1
    | next => exact h.elim
    | brk => exact h.elim
    | cont => exact h.elim
/-- the goal behind the top, from the law's promise -/
theorem walk_G {l : PySem.W.OpenLaw} {n k : Nat} {q : Program} {loose : List Str} {XP : (Str → Option Value) → Heap → Prop} {YP : World → Heap → Prop} {d : DefRec} {K : Params → PySem.W.Frag} {sp : World → Sp}
    (hn : l.most = some n) (hn2 : n ≤ sizeLine) (hdf : d.params.defaults = []) (hr : Room k callerA) (hY : ∀ (w : World) (h : Heap), YP w h → (K w.params).In h)
    (F : ∀ (w : World) (mg : Str → Option Value) (fa : Addr) (h : Heap), (K w.params).In h → h.Ns mainGlobals mg → mg d.name = some (.ref fa) → ∀ base : Heap, (K w.params).In base → base.Ns mainGlobals mg → FnG l.prog w (K w.params) mg base CX0 k fa (sp w))
    (hsp : ∀ (w : World) (H : Hp) (a : Addr) (ns : List Int), ns.length ≤ n → Only H → SqL (K w.params) H a (ns.map V.int) → sp w [.ref a] H (fun v _ => v = .bl true) fun _ _ _ => False) :
    PySem.W.WalkO q loose XP YP l.row.toRowW d [] (fun f vs => PySem.call f vs) :=
  Att.attach_call hn hdf fun w s₀ s mg mb fa o pm cd doc a vs ns G Y ho hd hcd hmg hobj hints hlen hg =>
    law_G (hY w _ Y) G.T.g G.T.b G.T.builtins G.T.nolimit hg hobj hints (Nat.le_trans hlen hn2) hr (F w mg fa _ (hY w _ Y) G.T.g hmg) fun H hO hS => hsp w H a ns hlen hO hS
end Ws

namespace Ws
open PySem PySem.Spec PyProof.Rows L2
/-! ### repr of plain data -/
mutual
/-- data of short numbers and texts of real signs -/
def Tdy : PyData → Prop
  | .none => True
  | .bool _ => True
  | .int i => i.natAbs.log2 < 1900
  | .str x => ∀ c ∈ x.cps.toList, c < 16 ^ 8
  | .list xs => TdyA xs
  | .tuple xs => TdyA xs
  | .dict _ => False
def TdyA : List PyData → Prop
  | [] => True
  | x :: xs => Tdy x ∧ TdyA xs
end
mutual
theorem Tdy.get : ∀ {d : PyData}, Tdy d → d.showable = true ∧ d.hasDict = false ∧ d.leavesShort 1901 = true
  | .none, _ => ⟨rfl, rfl, rfl⟩
  | .bool _, _ => ⟨rfl, rfl, rfl⟩
  | .int i, h => by
    have h' : i.natAbs.log2 < 1900 := h
    refine ⟨?_, rfl, ?_⟩
    · simp only [PyData.showable, decide_eq_true_eq]; omega
    · show decide ((Str.ofString (toString i)).length ≤ 1901) = true
      rw [decide_eq_true_eq, PySem.ofString_length]
      exact int_text_length_le (by decide) h'
  | .str x, h => ⟨rfl, rfl, by simp only [PyData.leavesShort, List.all_eq_true, decide_eq_true_eq]; exact h⟩
  | .list xs, h => by
    obtain ⟨a, b, c⟩ := TdyA.get (xs := xs) h
    exact ⟨by simpa only [PyData.showable] using a, by simpa only [PyData.hasDict] using b, by simpa only [PyData.leavesShort] using c⟩
  | .tuple xs, h => by
    obtain ⟨a, b, c⟩ := TdyA.get (xs := xs) h
    exact ⟨by simpa only [PyData.showable] using a, by simpa only [PyData.hasDict] using b, by simpa only [PyData.leavesShort] using c⟩
  | .dict _, h => False.elim h
theorem TdyA.get : ∀ {xs : List PyData}, TdyA xs → PyData.showableAll xs = true ∧ PyData.hasDictAll xs = false ∧ PyData.leavesShortAll 1901 xs = true
  | [], _ => ⟨rfl, rfl, rfl⟩
  | x :: xs, h => by
    obtain ⟨h1, h2⟩ := (show Tdy x ∧ TdyA xs from h)
    obtain ⟨a, b, c⟩ := Tdy.get h1
    obtain ⟨d, e, f⟩ := TdyA.get h2
    exact ⟨by simp only [PyData.showableAll, a, d, Bool.and_self], by simp only [PyData.hasDictAll, b, e, Bool.or_self], by simp only [PyData.leavesShortAll, c, f, Bool.and_self]⟩
end
/-- a value that is shown -/
def Shw (K : PySem.W.Frag) (H : Hp) (x : V) (d : PyData) : Prop := Dp K H x d ∧ Tdy d ∧ d.bulk ≤ 8000 ∧ d.depth ≤ 60
section
variable {X : Cx}
def rRep (K : PySem.W.Frag) : List V → Hp → VK → Prop := fun xs H Q => ∃ a d, xs = [V.ref a] ∧ Shw K H (.ref a) d ∧ Q (.str d.shown) H
theorem call_rep {j : Nat} (cl : X.A.guards = some []) (hr : Room j X.A) : CallR X (.builtin "repr") (rRep X.K) := by
  intro pins s σ H xs us Q I r h
  obtain ⟨a, d, rfl, ⟨dp, ty, bk, de⟩, q⟩ := h
  obtain ⟨u, rfl, ru⟩ := vals1 r
  cases (show u = Value.ref a from ru)
  obtain ⟨as, rd⟩ := Dp.reads I d _ _ dp rfl
  obtain ⟨sh, nd, sl⟩ := ty.get
  have sz := PyData.shown_le_bulk 1901 (by decide) d sl
  have sz2 : d.shown.length ≤ sizeLine := by
    have : sizeLine = 16777216 := by decide
    have : (1901 + 2) * d.bulk ≤ 1903 * 8000 := Nat.mul_le_mul (by decide) bk
    omega
  refine repr_of_reads' rd sh (PyData.noDict_hsm nd) cl ?_ (fun _ _ e => e) (fun h' u tk hk => ⟨.str d.shown, H, I.kept hk, ⟨u, rfl⟩, q⟩) sz2
  have := hr.un
  omega
end
end Ws
namespace Ws
open PySem PySem.Spec PyProof.Rows L2
section
variable {X : Cx} {j k : Nat} {C : Addr} {sp : Sp}
/-- abs(a) by a's own __abs__ -/
theorem call_absO (c : OpnF X.prog X.w X.K X.mg X.base k C "__abs__" sp) (hr : Room j X.A) (hk : k + 1 ≤ j) : CallR X (.builtin "abs") (fun xs H Q => ∃ a dx fs, xs = [V.ref a] ∧ H a = some (.ins C dx fs) ∧ sp [.ref a] H Q E0) := by
  obtain ⟨f, h1, h2, F⟩ := c
  intro pins s σ H xs us Q I r h
  obtain ⟨a, dx, fs, rfl, ea, q⟩ := h
  obtain ⟨u, rfl, ru⟩ := vals1 r
  cases (show u = Value.ref a from ru)
  obtain ⟨ox, od, J⟩ := inst_of I ea
  refine Calls.call_function_entry kind_abs plain_abs entry_abs (args_abs _) ?_
  unfold Builtin.«abs»
  refine wpAny_bind (m := oneArg "abs" _) (wpAny_pure ?_)
  refine wpAny_bind (PySem.W.special_fn I.kIn J h1 (beq_iff_eq.mp h2) (wpAny_mono (run_in1 (us := [.ref a]) (vs := [.ref a]) F (hr.mono hk) I (.cons rfl .nil) q) (fun v s' hv => ?_) fun _ _ z => z))
  exact wpAny_pure ⟨_, rfl, hv⟩
end
end Ws
namespace Ws
open PySem PySem.Spec PyProof.Rows L2
section
variable {prog : Program} {w : World}
theorem bool_new_own {x : Addr} : MeetsIn prog w (Builtin.«bool.__new__» ⟨[.type "bool", .ref x], []⟩) (fun A R s => wpAny (model prog w) A.in1 (truthy (.ref x)) (fun b s' => R (.ok (.ret (.bool b))) s') (fun e s' => R (.error e) s') s) :=
  .of_wp fun A R s h => by
    have f1 := F.conv_sub_bool
    unfold Builtin.«bool.__new__»
    repeat (first
      | assumption
      | (refine wpAny_bind (m := truthy (.ref x)) (wpAny_mono h (fun b s' q => ?_) fun _ _ z => z))
      | wp_step)
    all_goals first | exact q | exact ⟨_, rfl, q⟩ | skip
theorem run_in2 {X : Cx} {k : Nat} {sp : Sp} {f : Addr} {pins : List (Addr × Obj)} {σ : L2.St} {H : Hp} {s : Shared} {Q : VK} {us : List Value} {vs : List V} {Ex : Value → Shared → Prop} (F : FnR X.prog X.w X.K X.mg X.base CX0 k f sp) (hr : Room (k + 2) X.A) (I : Inv X pins σ H s) (r : Vals vs us) (h : sp vs H Q E0) :
    wpAny (model X.prog X.w) X.A.in1.in1 (call (.ref f) us) (EP X pins σ Q) Ex s := by
  refine wpAny_call (codeAny_mono (F X.A.in1.in1 X.stack s H us vs Q E0 (Room.in1 (Room.in1 hr)) I.env0.in1.in1 r h) fun r s' hq => ?_)
  cases r with
  | error er => exact hq.elim
  | ok fl =>
    cases fl with
    | ret u => exact I.after hq
    | next => exact False.elim hq
    | brk => exact False.elim hq
    | cont => exact False.elim hq
section
variable {X : Cx} {j k : Nat} {C : Addr} {sp : Sp}
/-- bool(a) by a's own __bool__ -/
theorem call_boolO (c : OpnF X.prog X.w X.K X.mg X.base k C "__bool__" sp) (hr : Room j X.A) (hk : k + 2 ≤ j) : CallR X (.type "bool") (fun xs H Q => ∃ a dx fs, xs = [V.ref a] ∧ H a = some (.ins C dx fs) ∧ sp [.ref a] H (fun v H' => ∃ b, v = .bl b ∧ Q (.bl b) H') E0) := by
  obtain ⟨f, h1, h2, G⟩ := c
  intro pins s σ H xs us Q I r h
  obtain ⟨a, dx, fs, rfl, ea, q⟩ := h
  obtain ⟨u, rfl, ru⟩ := vals1 r
  cases (show u = Value.ref a from ru)
  obtain ⟨ox, od, J⟩ := inst_of I ea
  obtain ⟨m, hF⟩ := I.fr
  refine callType_newIn PySem.F.called_bool PySem.F.newNe_bool (PySem.F.typeCall_bool_1 _) (PySem.F.newCall_bool_1 _) (fun obj => PySem.F.args_object_init_2 obj _) PySem.F.entry_bool_new bool_new_own ?_
  refine PySem.W.truthy_K hF I.ok.mod.kin J h1 h2 (wpAny_mono (run_in2 (us := [.ref a]) (vs := [.ref a]) G (hr.mono hk) I (.cons rfl .nil) q) (fun r s' hv => ?_) fun _ _ z => z)
  obtain ⟨y, H', I', ry, b, rfl, qb⟩ := hv
  cases (show r = Value.bool b from ry)
  exact ⟨rfl, .bl b, H', I', rfl, qb⟩
end
end
end Ws

namespace Ws
open PySem PySem.Spec PyProof.Rows L2
/-! ### an own error, caught and kept in a variable behind the suite -/
/-- at a: an error of the class cls, its dict at d -/
def Kx (cls : Value) (d : Option Addr) (a : Addr) : HO := .ext fun h => ∃ (oe : Obj) (vs : Array Value), h.get? a = some oe ∧ Zc cls d oe ∧ oe.data = .fields vs
theorem kx_ok {P : Program} {w : World} {H : Hp} {h : Heap} {a : Addr} {cls : Value} {d : Option Addr} {oe : Obj} {vs : Array Value} (e : h.get? a = some oe) (z : Zc cls d oe) (hd : oe.data = .fields vs) : ObjOk P w H h a (Kx cls d a) :=
  ⟨⟨oe, vs, e, z, hd⟩, ⟨oe, e⟩, fun _ _ ⟨o, v, q, r⟩ k => ⟨o, v, k o q, r⟩⟩
theorem kx_at {P : Program} {w : World} {H : Hp} {h : Heap} {a : Addr} {cls : Value} {d : Option Addr} (ok : HOk P w H h) (e : H a = some (Kx cls d a)) : ∃ (oe : Obj) (vs : Array Value), h.get? a = some oe ∧ Zc cls d oe ∧ oe.data = .fields vs := by
  have x : ObjOk P w H h a (.ext fun h => ∃ (oe : Obj) (vs : Array Value), h.get? a = some oe ∧ Zc cls d oe ∧ oe.data = .fields vs) := ok a _ e
  exact x.1
section
variable {X : Cx} {pins : List (Addr × Obj)} {σ : L2.St} {H : Hp} {s : Shared}
/-- an object that is pinned, and new since the entry, is tracked from here on -/
theorem track {a : Addr} {oe : Obj} {vs : Array Value} {o : HO} (I : Inv X ((a, oe) :: pins) σ H s) (new : X.s_0.heap.get? a = none) (off : ∀ p ∈ X.pn ++ pins, p.1 ≠ a) (hd : oe.data = .fields vs) (ob : ObjOk X.prog X.w (upd H a o) s.heap a o) : Inv X pins σ (upd H a o) s := by
  obtain ⟨ha, na, nL, nF, _⟩ := I.pin (a, oe) (List.mem_append_right _ List.mem_cons_self)
  have was : ∀ {b : Addr} {u : HO}, H b = some u → b ≠ a := fun {b u} e z => by rw [z, na] at e; cases e
  have old : ∀ {b : Addr} {u : Obj}, X.s_0.heap.get? b = some u → b ≠ a := fun {b u} e z => by rw [z, new] at e; cases e
  refine ⟨I.ok, I.os, I.bare, ⟨I.base.keep, I.base.slot, fun b u e n x => (upd_ne (old e)).trans (I.base.free b u e n x), I.base.there, fun b xs e => ?_, fun b u v e => ?_, fun b ps e => ?_⟩, I.loc, I.cell, (upd_ne (Ne.symm nL)).trans I.free, fun x c e => ?_, fun p hp => ?_, fun b u e => ?_, I.len⟩
  · have q := I.base.tups b xs e
    exact (upd_ne (was q)).trans q
  · have q := I.base.frzs b u v e
    exact (upd_ne (was q)).trans q
  · obtain ⟨m, q⟩ := I.base.tbls b ps e
    exact ⟨m, (upd_ne (was q)).trans q⟩
  · refine (upd_ne fun z => ?_).trans (I.freeC x c e)
    obtain ⟨v, oc, e1, e2⟩ := I.cell x c e
    rw [z, ha] at e1
    cases e1
    rw [hd] at e2
    cases e2
  · have hp' : p ∈ X.pn ++ ((a, oe) :: pins) := by
      rcases List.mem_append.mp hp with h | h
      · exact List.mem_append_left _ h
      · exact List.mem_append_right _ (List.mem_cons_of_mem _ h)
    obtain ⟨q1, q2, q3⟩ := I.pin p hp'
    exact ⟨q1, (upd_ne (off p hp)).trans q2, q3⟩
  · by_cases hb : b = a
    · subst hb
      rw [upd_same] at e
      cases e
      exact ob
    · rw [upd_ne hb] at e
      exact (I.hok b u e).stay (fun c v _ q => q) (fun c q => (upd_ne (was q)).trans q) fun c xs q => (upd_ne (was q)).trans q
end
/-- the wish of a try whose clause keeps what it catches: slot i is the clause's name -/
def wKeep (K : PySem.W.Frag) (c : Value) (i : Nat) (ts : Addr → Value → Option Addr → TS) (D : Ends) : WX := fun cls d σ H =>
  PySem.W.exmOne K cls c = some true ∧ ∀ a, H a = none → ts a cls d { nx := fun σ' H' => D.nx (σ'.set i none) (upd H' a (Kx cls d a)), rt := fun _ _ => False } (σ.set i (some (.ref a))) H
section
variable {X : Cx} {x n : Str} {c : Value} {i : Nat} {body suite : List Stmt} {b0 : Stmt} {np pos pos' : Pos} {tb : WX → TS} {ts : Addr → Value → Option Addr → TS}
theorem ps_keep (hs : X.stack = X.env :: X.outer) (hf : X.env.frame = some X.env.locals) (hex : X.ex = []) (hN : X.N.Nodup) (hi : X.N[i]? = some n) (hln : X.env.kindOf n = some .local) (hc : Names X x c)
    (hb : ∀ (W : WX) (pn : List (Addr × Obj)) (xe : Value → Shared → Prop), Takes (X.tr pn xe) W → PassesOwn (model X.prog X.w) X.A X.env xe → PSs (X.tr pn xe) body (tb W))
    (hsu : ∀ (a : Addr) (oe : Obj) (cls : Value) (d : Option Addr) (pn : List (Addr × Obj)), Zc cls d oe → (∃ vs, oe.data = .fields vs) → PSs (X.suite a ((a, oe) :: pn)) (b0 :: suite) (ts a cls d)) :
    PS X (.Try body [.ExceptHandler (some (.Name x np)) (some n) (b0 :: suite) pos'] [] [] pos) (fun D σ H => tb (wKeep X.K c i ts D) D σ H) := by
  refine ⟨fun pins s σ H D I h => wpAny_Try_except ?_⟩
  have ok := I.ok
  have frames : X.A.frames = some (X.env :: X.outer) := ok.frames.trans (congrArg some hs)
  let Ex : Value → Shared → Prop := fun e s₁ => wpAny (model X.prog X.w) X.A (noteFrame e X.env) (fun _ s₂ => wpAny (model X.prog X.w) X.A (setFlight e none) (fun _ s₃ =>
    wpAny (model X.prog X.w) X.A (handleBy e X.env [.ExceptHandler (some (.Name x np)) (some n) (b0 :: suite) pos']) (SP X pins D) X.xe s₃) X.xe s₂) X.xe s₁
  have takes : Takes (X.tr (X.pn ++ pins) Ex) (wKeep X.K c i ts D) := by
    rintro u s' ⟨a, B, sI, pins1, σ1, H1, cls, d, rfl, J0, nb, up, sky, na, os, ag, hex1, suiteOk⟩
    have J : Inv X pins σ1 H1 sI := J0.ofTry ok
    have sky1 : Sky B (X.env :: X.outer) a (Zc cls d) X.env.locals s'.heap := hs ▸ sky
    show wpAny (model X.prog X.w) X.A (noteFrame (.ref a) X.env) _ _ _
    refine Sky.land Zc.steady frames hf sky1 fun hA flA upA => ?_
    have JA : Inv X pins σ1 H1 { s' with heap := hA } := J.landed nb flA.1 (up.trans upA) os ag
    obtain ⟨oA, vA, eA, zA, dA⟩ := flA.there
    have notFrame : a ∉ frs (X.env :: X.outer) := fun hm => by
      obtain ⟨_, o2, e2, hn⟩ := flA.2.2.1.mem hm
      rw [eA] at e2
      cases e2
      exact hn _ dA
    have nL : a ≠ X.env.locals := fun z => notFrame (List.mem_filterMap.mpr ⟨X.env, List.mem_cons_self, by rw [hf, z]⟩)
    have nF : a ∉ X.fs := fun hm => by
      obtain ⟨e, he, q⟩ := List.mem_filterMap.mp hm
      exact notFrame (List.mem_filterMap.mpr ⟨e, List.mem_cons_of_mem _ he, q⟩)
    have freshB : B.get? a = none := flA.2.1
    have freshI : sI.heap.get? a = none := by
      cases q : sI.heap.get? a with
      | none => rfl
      | some o =>
        have z := nb a o q (by rw [hs]; exact notFrame)
        rw [freshB] at z
        cases z
    have fresh0 : X.s_0.heap.get? a = none := by
      cases q : X.s_0.heap.get? a with
      | none => rfl
      | some o =>
        obtain ⟨o2, z⟩ := J.base.there a o q (by rw [hex]; exact fun y => nomatch y)
        rw [freshI] at z
        cases z
    have off : ∀ p ∈ X.pn ++ pins, p.1 ≠ a := fun p hp z => by
      have q := (J.pin p hp).1
      rw [z, freshI] at q
      cases q
    have SA := JA.suite eA dA na nL nF
    refine wpAny_handleBy_cons (codeAny_handlers_test ?_) (by intro q; cases q)
    have LT : PySem.W.Looks (model X.prog X.w) hA (typeOf (.ref a)) cls := fun A Q E s k q => wpAny_typeOf_ref (k _ _ eA) (by rw [zA.1]; exact q)
    have LM := PySem.W.exm_one (M := model X.prog X.w) JA.kIn LT hex1
    have named : ∀ {Q : Value → Shared → Prop} {E : Value → Shared → Prop}, Q c { s' with heap := hA } → wpAny (model X.prog X.w) (X.A.mark (some (.ref a))) (eval (.Name x np) X.env) Q E { s' with heap := hA } := fun {Q E} q => by
      obtain ⟨g1, g2, g3 | ⟨g3, g4, g5⟩⟩ := hc
      · exact ld_glob (X := X.suite a ((a, oA) :: (X.pn ++ pins))) SA g1 g3 q g2
      · exact ld_blt (X := X.suite a ((a, oA) :: (X.pn ++ pins))) SA g1 g3 g4 q g5 g2
    refine named (LM.here (codeAny_handlers_suite_as ?_))
    refine HandSPX.lands_againZ flA fun hB flB upB => ?_
    have JB : Inv X pins σ1 H1 { s' with heap := hB } := J.landed nb flB.1 ((up.trans upA).trans upB) os ag
    obtain ⟨oB, vB, eB, zB, dB⟩ := flB.there
    refine store_ok (X := X.suite a ((a, oB) :: (X.pn ++ pins))) (v := .ref a) (JB.suite eB dB na nL nF) hN hi (.inl hln) rfl (fun s5 S5 => ?_) (.inr hln)
    refine wpAny_mono ((hsu a oB cls d (X.pn ++ pins) zB ⟨_, dB⟩).run [] s5 _ H1 _ S5 (suiteOk a na)) (fun f s6 out => ?_) (fun _ _ z => z.elim)
    cases f with
    | next =>
      obtain ⟨σ6, H6, S6, q6⟩ := out
      have T6 : Inv X ((a, oB) :: pins) σ6 H6 s6 := ⟨ok, S6.os, S6.bare, S6.base, S6.loc, S6.cell, S6.free, S6.freeC, fun p hp => S6.pin p (by
        rw [List.append_nil]
        rcases List.mem_append.mp hp with z | z
        · exact List.mem_cons_of_mem _ (List.mem_append_left _ z)
        · rcases List.mem_cons.mp z with z | z
          · rw [z]; exact List.mem_cons_self
          · exact List.mem_cons_of_mem _ (List.mem_append_right _ z)), S6.hok, S6.len⟩
      refine gone_ok T6 hN hi hln fun s7 J7 => ?_
      have e7 := (J7.pin (a, oB) (List.mem_append_right _ List.mem_cons_self)).1
      exact ⟨_, _, track J7 fresh0 off dB (kx_ok e7 zB dB), q6⟩
    | ret u => obtain ⟨_, _, _, _, _, q6⟩ := out; exact q6.elim
    | brk => obtain ⟨_, _, _, q6⟩ := out; exact False.elim q6
    | cont => obtain ⟨_, _, _, q6⟩ := out; exact False.elim q6
  refine wpAny_mono ((hb (wKeep X.K c i ts D) (X.pn ++ pins) Ex takes PassesOwn.looking).run [] s σ H D (I.toTry _) h) (fun f s1 out => ?_) fun e s1 z => z
  cases f with
  | next => obtain ⟨σ1, H1, J1, q⟩ := out; exact wpAny_execs_nil ⟨σ1, H1, J1.ofTry ok, q⟩
  | ret u => obtain ⟨v, σ1, H1, J1, r, q⟩ := out; exact ⟨v, σ1, H1, J1.ofTry ok, r, q⟩
  | brk => obtain ⟨σ1, H1, J1, q⟩ := out; exact ⟨σ1, H1, J1.ofTry ok, q⟩
  | cont => obtain ⟨σ1, H1, J1, q⟩ := out; exact ⟨σ1, H1, J1.ofTry ok, q⟩
end
end Ws
namespace Ws
open PySem PySem.Spec PyProof.Rows L2
/-! ### calls that may raise, within a try or in a def that lets it out -/
/-- a method whose error is told -/
def MetE (P : Program) (w : World) (K : PySem.W.Frag) (mg : Str → Option Value) (base : Heap) (CX : CXT) (k : Nat) (C : Addr) (m : Str) (sp : Sp) : Prop := ∃ f : Addr, Cls K C ∧ Meth K C m f ∧ FnR P w K mg base CX k f sp
/-- a def whose error is told -/
def CalE (P : Program) (w : World) (K : PySem.W.Frag) (mg : Str → Option Value) (base : Heap) (CX : CXT) (k : Nat) (x : Str) (sp : Sp) : Prop := ∃ f : Addr, FnR P w K mg base CX k f sp ∧ mg x = some (.ref f) ∧ PySem.W.keepIn K (.ref f) = true
section
variable {X : Cx} {CX : CXT} {k j : Nat} {C f : Addr} {sp : Sp} {E : L2.St → XK} {x m : Str} {p pos apos : Pos} {e o : Expr} {es : List Expr} {ta : TE} {t : TA}
theorem run_S {pins : List (Addr × Obj)} {σ : L2.St} {H : Hp} {s : Shared} {Q : VK} {us : List Value} {vs : List V} (F : FnR X.prog X.w X.K X.mg X.base CX k f sp) (hr : Room k X.A) (hx : PassesAt CX X σ (E σ))
    (I : Inv X pins σ H s) (r : Vals vs us) (h : sp vs H Q (E σ)) : wpAny (model X.prog X.w) X.A (call (.ref f) us) (EP X pins σ Q) X.xe s := by
  refine wpAny_call (codeAny_mono (F X.A X.stack s H us vs Q (E σ) hr I.env0 r h) fun out s' q => ?_)
  cases out with
  | error e => exact hx pins H s e s' I q
  | ok fl => cases fl with
    | ret u => exact I.after q
    | next => exact q.elim
    | brk => exact q.elim
    | cont => exact q.elim
/-- f(e, ..) -/
def tFS (sp : Sp) (E : L2.St → XK) (t : TA) : TE := fun σ H Q => t σ H fun vs H1 => sp vs H1 Q (E σ)
theorem pe_fS (c : CalE X.prog X.w X.K X.mg X.base CX k x sp) (hr : Room j X.A) (hk : k ≤ j) (hx : ∀ σ, PassesAt CX X σ (E σ)) (hg : Gl X x) (ha : PA X (e :: es) t) (hdb : (x == ("__debug__" : Str)) = false := by decide)
    (he : starEach (e :: es) X.env = (false, eval e X.env) :: starEach es X.env := by rfl) (hpl : (backTo pos (starEach es X.env)).any (·.1) = false := by rfl) : PE X (.Call (.Name x p) (e :: es) [] pos) (tFS sp E t) := by
  obtain ⟨f, F, hm, hkp⟩ := c
  refine ⟨fun pins s σ H Q I h => ?_⟩
  refine wpAny_Call_Name_kw (ld_glob I hg hm ?_ hdb)
  refine PySem.W.callWith_K (h₀ := X.base) I.ok.mod.kin hkp (thn (ha.run pos pins s σ H _ I h) fun us s1 ⟨vs, H1, I1, r, q⟩ => ⟨I1.kIn, ?_⟩) he hpl
  exact run_S F (hr.mono hk) (hx σ) I1 r q
/-- o.m(e, ..) -/
def tMtS (C : Addr) (m : Str) (sp : Sp) (E : L2.St → XK) (ta : TE) (t : TA) : TE := fun σ H Q => ta σ H fun x H1 => ∃ a dx fs, x = .ref a ∧ H1 a = some (.ins C dx fs) ∧ fs.lookup m = none ∧ t σ H1 fun vs H2 => sp (x :: vs) H2 Q (E σ)
theorem pe_mtS {pl : Sem Bool} (c : MetE X.prog X.w X.K X.mg X.base CX k C m sp) (hr : Room j X.A) (hk : k ≤ j) (hx : ∀ σ, PassesAt CX X σ (E σ)) (he : PE X o ta) (ha : PA X (e :: es) t)
    (hst : starEach (e :: es) X.env = (false, eval e X.env) :: starEach es X.env := by rfl) (hpl : (backTo pos (starEach es X.env)).any (·.1) = false := by rfl)
    (ht : eval (.Call (.Attribute o m apos) (e :: es) [] pos) X.env = (do
      let ov ← eval o X.env
      standAt apos.atName
      let (f, first) ← holding [ov] (getMethod ov m pl)
      callWith pos f first (backTo pos (starEach (e :: es) X.env)) (backToKw pos (keywordEach [] X.env))) := by rfl) :
    PE X (.Call (.Attribute o m apos) (e :: es) [] pos) (tMtS C m sp E ta t) := by
  obtain ⟨f, hc, hm, F⟩ := c
  refine ⟨fun pins s σ H Q I h => ?_⟩
  refine PySem.W.methodCall_KW (pl := pl) (thn (he.run pins s σ H _ I h) fun u s1 ⟨x, H1, I1, rx, a, dx, fs, ex, ea, l, q⟩ => ?_) ht
  subst ex
  obtain rfl : u = Value.ref a := rx
  refine getmeth_ok I1 ea hc hm l ?_
  refine PySem.W.callWith_K (first := [.ref a]) (h₀ := X.base) I.ok.mod.kin hm.kp (thn (ha.run pos pins s1 σ H1 _ I1 q) fun us s2 ⟨vs, H2, I2, r, q2⟩ => ⟨I2.kIn, ?_⟩) hst hpl
  exact run_S (us := .ref a :: us) (vs := .ref a :: vs) F (hr.mono hk) (hx σ) I2 (.cons rfl r) q2
/-- C(e, ..), its __init__ may raise -/
def tMkS (C : Addr) (sp : Sp) (E : L2.St → XK) (t : TA) : TE := fun σ H Q => t σ H fun vs H1 => ∀ x dx, H1 x = Option.none → H1 dx = Option.none → dx ≠ x → sp (V.ref x :: vs) (upd (upd H1 dx (.own x)) x (.ins C dx [])) (fun v H2 => v = .non ∧ Q (.ref x) H2) (E σ)
end
/-! ### what a kept error is asked -/
/-- an own error class with its own __init__ -/
structure ErrC (K : PySem.W.Frag) (C : Addr) : Prop where
  ga : PySem.W.findIn K (.ref C) "__getattribute__" = some (some (.builtin "BaseException.__getattribute__"))
  gg : PySem.W.findIn K (.ref C) "__getattr__" = some none
  exC : PySem.W.subIn K (.ref C) (.type "BaseException") = some true
  hdC : PySem.W.hasDictIn K C = true
  ca : PySem.W.findIn K (.ref C) "__class__" = some (some (.builtin "object.__class__"))
  hn : PySem.W.specialIn K (.builtin "object.__class__") "__get__" = some (some (.builtin "getset_descriptor.__get__"))
  ht : PySem.W.takesIn K (.builtin "object.__class__") = some true
  hm : PySem.W.mroIn K C (.type "object") = some true
theorem ErrC.isc {K : PySem.W.Frag} {C : Addr} (T : ErrC K C) : (PySem.W.clsIn K C).isSome = true := by
  obtain ⟨cd, hc, _⟩ := PySem.W.any_some T.hdC
  rw [hc]
  rfl
section
variable {X : Cx} {C D : Addr}
theorem kx_inst {pins : List (Addr × Obj)} {σ : L2.St} {H : Hp} {s : Shared} {a d : Addr} {fs : List (Str × V)} (I : Inv X pins σ H s) (e : H a = some (Kx (.ref C) (some d) a)) (ed : H d = some (.xd fs)) :
    ∃ ox od, PySem.W.InstAt s.heap a ox C (some od) ∧ ∀ (f : Str) (v : V), fs.lookup f = some v → ∃ u, PySem.W.lookIn f od = some (some u) ∧ L2.RelV v u := by
  obtain ⟨oe, vs, e1, z, hd⟩ := kx_at I.hok e
  have hx : ObjOk X.prog X.w H s.heap d (.xd fs) := I.hok d _ ed
  obtain ⟨mA, hns, hr⟩ := hx
  obtain ⟨od, ho, hl⟩ := lookIn_ns hns
  refine ⟨oe, od, ⟨e1, z.1, by unfold PySem.W.notCls; rw [hd] <;> rfl, by rw [z.2]; exact ho⟩, fun f v l => ?_⟩
  obtain ⟨u, hu, ru⟩ := RelO.some_of (v := v) (o := mA f) (by rw [← l]; exact hr f)
  exact ⟨u, (hl f).trans (congrArg some hu), ru⟩
/-- caught.f -/
def tKx (C : Addr) (f : Str) (te : TE) : TE := fun σ H Q => te σ H fun x H1 => ∃ (a d : Addr) (fs : List (Str × V)) (v : V), x = .ref a ∧ H1 a = some (Kx (.ref C) (some d) a) ∧ H1 d = some (.xd fs) ∧ fs.lookup f = some v ∧ Q v H1
theorem pe_kx {e : Expr} {te : TE} {pos : Pos} {n : Str} (T : ErrC X.K C) (hno : PySem.W.findIn X.K (.ref C) n = some none) (he : PE X e te) (hb : attributeBase e n X.env (eval e X.env) = eval e X.env := by rfl) : PE X (.Attribute e n pos) (tKx C n te) := by
  refine ⟨fun pins s σ H Q I h => attr_of hb (thn (he.run pins s σ H _ I h) fun u s1 out => ?_)⟩
  obtain ⟨y, H1, I1, ry, a, d, fs, v, rfl, ea, ed, l, q⟩ := out
  obtain rfl : u = Value.ref a := ry
  obtain ⟨ox, od, J, look⟩ := kx_inst I1 ea ed
  obtain ⟨v', hv, rv⟩ := look n v l
  exact HandSPX.exc_get I1.kIn J T.ga T.gg T.exC (PySem.W.findObj_own T.hdC hno rfl hv) (handed_of rv) ⟨v, H1, I1.tok _, rv, q⟩
/-- isinstance(caught, D) -/
def rKis (K : PySem.W.Frag) : List V → Hp → VK → Prop := fun xs H Q => ∃ (a d C D : Addr) (fs : List (Str × V)) (b : Bool), xs = [.ref a, .ref D] ∧ H a = some (Kx (.ref C) (some d) a) ∧ H d = some (.xd fs) ∧ ErrC K C ∧ PySem.W.kitOne K (.ref C) (.ref D) = some b ∧ Q (.bl b) H
theorem call_kis : CallR X (.builtin "isinstance") (rKis X.K) := by
  intro pins s σ H xs us Q I r h
  obtain ⟨a, d, C, D, fs, b, rfl, ea, ed, T, kk, q⟩ := h
  cases r with
  | cons r1 r2 =>
    cases r2 with
    | cons r2 r3 =>
      cases r3
      cases r1
      cases r2
      obtain ⟨ox, od, J, _⟩ := kx_inst I ea ed
      exact PySem.W.kia_one (PySem.W.kitx_exc T.isc T.ga T.gg T.exC T.ca T.hn T.ht T.hm) I.kIn J kk (fun z => nomatch z) fun tk => ⟨.bl b, H, I.kept (t' := tk) fun _ _ z => z, rfl, q⟩
end
end Ws
namespace Ws
open PySem PySem.Spec PyProof.Rows L2
section
variable {X : Cx} {CX : CXT} {k j : Nat} {C f : Addr} {sp : Sp} {E : L2.St → XK} {x : Str} {p pos : Pos} {e : Expr} {es : List Expr} {t : TA} {fd : FuncData} {ps ks : List Str} {g : List Value → List Value → List Value} {gV : List V → List V → List V}
theorem run_mkS {pins : List (Addr × Obj)} {σ : L2.St} {H : Hp} {s : Shared} {Q : VK} {us : List Value} {vs : List V} (M : Mk X.K C f) (F : FnR X.prog X.w X.K X.mg X.base CX k f sp) (hr : Room (k + 1) X.A) (hx : PassesAt CX X σ (E σ)) (I : Inv X pins σ H s) (r : Vals vs us)
    (h : ∀ x dx, H x = Option.none → H dx = Option.none → dx ≠ x → sp (V.ref x :: vs) (upd (upd H dx (.own x)) x (.ins C dx [])) (fun v H2 => v = .non ∧ Q (.ref x) H2) (E σ)) : wpAny (model X.prog X.w) X.A (call (.ref C) us) (EP X pins σ Q) X.xe s := by
  have now := h (s.heap.objs.size + 1) s.heap.objs.size (I.hok.fresh (Nat.le_succ _)) (I.hok.fresh (Nat.le_refl _)) (Nat.ne_of_lt (Nat.lt_succ_self _))
  have I2 := Inv.made (C := C) I
  refine wpAny_call (make_map (f := f) I.kIn M.makes M.init (beq_iff_eq.mp M.fn) (codeAny_mono (F _ X.stack _ _ (Value.ref (s.heap.objs.size + 1) :: us) (V.ref (s.heap.objs.size + 1) :: vs) _ (E σ) (hr.make C us []) (I2.env0.make C us []) (.cons rfl r) now) fun out s' q => ?_))
  cases out with
  | error e => exact hx pins _ _ e s' I2 q
  | ok fl => cases fl with
    | ret u =>
      obtain ⟨v, H3, I3, rv, ev, q3⟩ := I2.after q
      cases ev
      exact ⟨rv, V.ref (s.heap.objs.size + 1), H3, I3, rfl, q3⟩
    | next => exact q.elim
    | brk => exact q.elim
    | cont => exact q.elim
/-- a class whose __init__ may raise -/
def MakE (P : Program) (w : World) (K : PySem.W.Frag) (mg : Str → Option Value) (base : Heap) (CX : CXT) (k : Nat) (x : Str) (C : Addr) (sp : Sp) : Prop := ∃ f : Addr, Mk K C f ∧ FnR P w K mg base CX k f sp ∧ mg x = some (.ref C)
theorem pe_mkS (c : MakE X.prog X.w X.K X.mg X.base CX k x C sp) (hr : Room j X.A) (hk : k + 1 ≤ j) (hx : ∀ σ, PassesAt CX X σ (E σ)) (hg : Gl X x) (ha : PA X (e :: es) t) (hdb : (x == ("__debug__" : Str)) = false := by decide)
    (he : starEach (e :: es) X.env = (false, eval e X.env) :: starEach es X.env := by rfl) (hpl : (backTo pos (starEach es X.env)).any (·.1) = false := by rfl) : PE X (.Call (.Name x p) (e :: es) [] pos) (tMkS C sp E t) := by
  obtain ⟨f, M, F, hm⟩ := c
  refine ⟨fun pins s σ H Q I h => wpAny_Call_Name_kw (ld_glob I hg hm ?_ hdb)⟩
  refine PySem.W.callWith_K (h₀ := X.base) I.ok.mod.kin M.kp (thn (ha.run pos pins s σ H _ I h) fun us s1 ⟨vs, H1, I1, r, q⟩ => ⟨I1.kIn, ?_⟩) he hpl
  exact run_mkS M F (hr.mono hk) (hx σ) I1 r q
/-- no error at all is let out -/
theorem passN {X : Cx} {E : XK} (h : ∀ c d H, ¬ E c d H) : Passes (L2.CX X.prog X.w) X E := fun _ _ _ _ _ _ _ c => by
  obtain ⟨_, _, _, _, _, _, _, _, _, _, _, _, z⟩ := c
  exact (h _ _ _ z).elim
theorem passNS {X : Cx} : ∀ σ, PassesAt (L2.CX X.prog X.w) X σ E0 := fun σ _ _ _ _ _ _ c => by
  obtain ⟨_, _, _, _, _, _, _, _, _, _, _, _, z⟩ := c
  exact z.elim
end
end Ws
namespace Ws
open PySem PySem.Spec PyProof.Rows L2
section
variable {X : Cx} {CX : CXT} {k n : Nat} {C f : Addr} {sp : Sp} {E : L2.St → XK} {x : Str} {p pos : Pos} {e : Expr} {es : List Expr} {kws : List Keyword} {t tk : TA} {fd : FuncData} {ps ks : List Str} {g : List Value → List Value → List Value} {gV : List V → List V → List V}
theorem run_mkKS {pins : List (Addr × Obj)} {σ : L2.St} {H : Hp} {s : Shared} {Q : VK} {us ws : List Value} {vs zs : List V} (M : Mk X.K C f) (F : FnOk X.prog X.w X.K X.mg X.base CX k f fd ps sp) (hr : Room (k + 1) X.A) (hb : KBn X.K fd ps (n + 1) ks g gV) (hx : PassesAt CX X σ (E σ))
    (I : Inv X pins σ H s) (r : Vals vs us) (rz : Vals zs ws) (l1 : vs.length = n) (l2 : zs.length = ks.length)
    (h : ∀ x dx, H x = Option.none → H dx = Option.none → dx ≠ x → sp (gV (.ref x :: vs) zs) (upd (upd H dx (.own x)) x (.ins C dx [])) (fun v H2 => v = .non ∧ Q (.ref x) H2) (E σ)) :
    wpAny (model X.prog X.w) X.A (call (.ref C) us (ks.zip ws)) (EP X pins σ Q) X.xe s := by
  have now := h (s.heap.objs.size + 1) s.heap.objs.size (I.hok.fresh (Nat.le_succ _)) (I.hok.fresh (Nat.le_refl _)) (Nat.ne_of_lt (Nat.lt_succ_self _))
  have I2 := Inv.made (C := C) I
  have all := hb.rel (Paired.cons (show L2.RelV (V.ref (s.heap.objs.size + 1)) (Value.ref (s.heap.objs.size + 1)) from rfl) r) rz
  have len : (Value.ref (s.heap.objs.size + 1) :: us).length = n + 1 := congrArg (· + 1) (r.length.symm.trans l1)
  refine wpAny_call (make_map (f := f) I.kIn M.makes M.init (beq_iff_eq.mp M.fn) (codeAny_mono (F.run _ X.stack _ _ ⟨Value.ref (s.heap.objs.size + 1) :: us, ks.zip ws⟩ (g (Value.ref (s.heap.objs.size + 1) :: us) ws) _ _ (E σ) (hr.make C us (ks.zip ws))
    (I2.env0.make C us (ks.zip ws)) (hb.to _ _ ws I2.kIn len (rz.length.symm.trans l2)) all now) fun out s' q => ?_))
  cases out with
  | error e => exact hx pins _ _ e s' I2 q
  | ok fl => cases fl with
    | ret u =>
      obtain ⟨v, H3, I3, rv, ev, q3⟩ := I2.after q
      cases ev
      exact ⟨rv, V.ref (s.heap.objs.size + 1), H3, I3, rfl, q3⟩
    | next => exact q.elim
    | brk => exact q.elim
    | cont => exact q.elim
/-- C(e, .., k = v, ..), its __init__ may raise -/
def tMkKS (C : Addr) (n m : Nat) (sp : Sp) (gV : List V → List V → List V) (E : L2.St → XK) (t tk : TA) : TE := fun σ H Q => t σ H fun vs H1 => tk σ H1 fun zs H2 => vs.length = n ∧ zs.length = m ∧ ∀ x dx, H2 x = Option.none → H2 dx = Option.none → dx ≠ x →
  sp (gV (.ref x :: vs) zs) (upd (upd H2 dx (.own x)) x (.ins C dx [])) (fun v H3 => v = .non ∧ Q (.ref x) H3) (E σ)
theorem pe_mkKS (M : Mk X.K C f) (F : FnOk X.prog X.w X.K X.mg X.base CX k f fd ps sp) (hr : Room (k + 1) X.A) (hg : Gl X x) (hm : X.mg x = some (.ref C)) (hb : KBn X.K fd ps (n + 1) ks g gV) (hx : ∀ σ, PassesAt CX X σ (E σ)) (ha : PA X (e :: es) t) (hkw : PK X kws tk)
    (hall : (backToKw pos (keywordEach kws X.env)).all (·.1.isSome) = true := by rfl) (hks : (backToKw pos (keywordEach kws X.env)).filterMap (·.1) = ks := by rfl) (hdb : (x == ("__debug__" : Str)) = false := by decide)
    (he : starEach (e :: es) X.env = (false, eval e X.env) :: starEach es X.env := by rfl) (hpl : ((backTo pos (starEach (e :: es) X.env)).any (·.1) || (backToKw pos (keywordEach kws X.env)).any (·.1.isNone)) = false := by rfl) :
    PE X (.Call (.Name x p) (e :: es) kws pos) (tMkKS C n ks.length sp gV E t tk) := by
  refine ⟨fun pins s σ H Q I h => wpAny_Call_Name_kw (ld_glob I hg hm ?_ hdb)⟩
  refine PySem.W.callWith_KW (h₀ := X.base) I.ok.mod.kin M.kp hall (thn (ha.run pos pins s σ H _ I h) fun us s1 ⟨vs, H1, I1, r, q⟩ => ?_) hpl he
  refine thn (hkw.run pos pins s1 σ H1 _ I1 q) fun ws s2 ⟨zs, H2, I2, rz, l1, l2, q2⟩ => ⟨I2.kIn, ?_⟩
  rw [hks]
  exact run_mkKS M F hr hb (hx σ) I2 r rz l1 l2 q2
end
/-! ### == of two tuples of the very same items -/
section
variable {X : Cx}
def rEqTI (K : PySem.W.Frag) : R2 := fun x y H Q => ∃ (a b : Addr) (xs : List V), x = .ref a ∧ y = .ref b ∧ SqT K H a xs ∧ SqT K H b xs ∧ (∀ v ∈ xs, flatB v = true ∨ ∃ c, v = .ref c) ∧ Q (.bl true) H
theorem eq_item {A : Around} {s : Shared} {v : V} {u u' : Value} (r : L2.RelV v u) (r' : L2.RelV v u') (f : flatB v = true ∨ ∃ c, v = .ref c) : SeqAt.EqAt A s u u' true := by
  rcases f with f | ⟨c, rfl⟩
  · exact eqAt_same r r' f
  · cases (show u = Value.ref c from r)
    cases (show u' = Value.ref c from r')
    exact SeqAt.EqAt.same _
theorem op_eqTI {j : Nat} (hr : Room j X.A) : OpR X (compareOp .Eq) (rEqTI X.K) := by
  intro pins s σ H x y v u Q I rx ry h
  obtain ⟨a, b, xs, rfl, rfl, ha, hb, hf, q⟩ := h
  cases (show v = Value.ref a from rx)
  cases (show u = Value.ref b from ry)
  obtain ⟨us, r1, ⟨o1, e1, c1, n1, d1⟩, _⟩ := I.tuple ha
  obtain ⟨ws, r2, ⟨o2, e2, c2, n2, d2⟩, _⟩ := I.tuple hb
  refine SeqAt.eq_tupleAt (items := us.toArray) (items2 := ws.toArray) (e := fun _ => true) ⟨o1, e1, c1, n1, d1⟩ ⟨o2, e2, c2, n2, d2⟩ hr.units0 (fun j h1 h2 => ?_) ?_
  · have g1 : j < us.length := by simpa using h1
    have g2 : j < ws.length := by simpa using h2
    have g0 : j < xs.length := by rw [r1.length]; exact g1
    obtain ⟨z1, y1, w1⟩ := r1.get (List.getElem?_eq_getElem g0)
    obtain ⟨z2, y2, w2⟩ := r2.get (List.getElem?_eq_getElem g0)
    rw [List.getElem?_eq_getElem g1] at y1
    rw [List.getElem?_eq_getElem g2] at y2
    have k : SeqAt.EqAt X.A.in1 s us[j] ws[j] true := by
      cases y1
      cases y2
      exact eq_item w1 w2 (hf _ (List.getElem_mem g0))
    simpa using k
  · have l : us.toArray.size = ws.toArray.size := by
      rw [List.size_toArray, List.size_toArray, ← r1.length, ← r2.length]
    have e : ((List.range (min us.toArray.size ws.toArray.size)).all (fun _ => true) && us.toArray.size == ws.toArray.size) = true := by
      rw [l, List.all_eq_true.mpr (fun _ _ => rfl)]
      simp
    rw [e]
    exact ⟨.bl true, H, I, rfl, q⟩
/-- isinstance with a built-in class, of an instance of one's own -/
theorem kit_tyb {K : PySem.W.Frag} {t : Value} {T : String} {b : Bool} (h0 : (t == Value.type T) = false) (h1 : PySem.W.kitMeta T = true) (h2 : PySem.W.subIn K t (.type T) = some b) : PySem.W.kitOne K t (.type T) = some b := by
  unfold PySem.W.kitOne
  rw [h0, if_neg Bool.false_ne_true]
  show (if PySem.W.kitMeta T = true then PySem.W.subIn K t (.type T) else none) = some b
  rw [if_pos h1, h2]
end
end Ws
namespace Ws
open PySem PySem.Spec PyProof.Rows L2
section
variable {X : Cx} {k j : Nat} {sp : Sp} {x : Str} {p pos : Pos}
/-- f() -/
theorem pe_f0 (c : CalF X.prog X.w X.K X.mg X.base k x sp) (hr : Room j X.A) (hk : k ≤ j) (hg : Gl X x) (hdb : (x == ("__debug__" : Str)) = false := by decide) : PE X (.Call (.Name x p) [] [] pos) (tF sp tNil) := by
  obtain ⟨f, F, hm, hkp⟩ := c
  refine ⟨fun pins s σ H Q I h => wpAny_Call_Name_kw (ld_glob I hg hm ?_ hdb)⟩
  exact PySem.W.callWith_K0 I.kIn hkp (run_R (us := []) F (hr.mono hk) pass0 I .nil h)
end
end Ws

namespace Ws
open PySem PySem.W PySem.Calls PyProof.Rows
section
variable {prog : Program} {w : World} {A : Around} {E : Value → Shared → Prop} {s : Shared} {K : Frag} {c C L f : Addr} {x : Value} {h₀ : Heap} {m : Str → Option Value} {oc : Obj} {od : Option Obj}
theorem in_K {Q : Value → Shared → Prop} (X : K.In s.heap) (I : InstAt s.heap c oc C od) (hs : findIn K (.ref C) "__contains__" = some (some (.ref f))) (hf : isFn K (.ref f) = true)
    (h : wpAny (model prog w) A (call (.ref f) [.ref c, x]) (fun v s' => ∃ b, v = .bool b ∧ Q (.bool b) s') E s) : wpAny (model prog w) A (compareOp .In x (.ref c)) Q E s := by
  show wpAny _ _ (do return .bool (← contains (.ref c) x)) Q E s
  refine wpAny_bind ?_
  unfold contains
  refine wpAny_holding ?_
  have e0 : stdlibNamesSay? (.ref c) x = none := by cases x <;> rfl
  rw [e0]
  refine wpAny_bind (wpAny_bind (I.type.here ((looks_findIn X hs).here ?_)))
  rw [if_neg (by simp)]
  refine wpAny_bind ?_
  unfold callSpecialUnlessNone?
  refine wpAny_bind (wpAny_bind (I.type.here ((looks_findIn X hs).here (wpAny_holding (wpAny_bind ((bind_fn X _ (beq_iff_eq.mp hf)).here ?_))))))
  dsimp only
  rw [if_neg (by simp)]
  refine wpAny_bind (wpAny_mono h (fun v s' hv => ?_) fun _ _ z => z)
  obtain ⟨b, rfl, q⟩ := hv
  exact wpAny_pure (wpAny_truthy_bool (wpAny_pure q))
end
end Ws
namespace Ws
open PySem PySem.Spec PyProof.Rows L2
section
variable {X : Cx} {k j : Nat} {C : Addr} {sp : Sp}
/-- v in a, by a's own __contains__ -/
def rInO (C : Addr) (sp : Sp) : R2 := fun x y H Q => ∃ a dx fs, y = .ref a ∧ H a = some (.ins C dx fs) ∧ sp [.ref a, x] H (fun v H' => ∃ b, v = .bl b ∧ Q (.bl b) H') E0
theorem op_inO (c : OpnF X.prog X.w X.K X.mg X.base k C "__contains__" sp) (hr : Room j X.A) (hk : k ≤ j) : OpR X (compareOp .In) (rInO C sp) := by
  obtain ⟨f, h1, h2, F⟩ := c
  intro pins s σ H x y v u Q I rx ry h
  obtain ⟨a, dx, fs, rfl, ea, q⟩ := h
  cases (show u = Value.ref a from ry)
  obtain ⟨ox, od, J⟩ := inst_of I ea
  refine in_K I.kIn J h1 h2 (wpAny_mono (run_R (us := [.ref a, v]) (vs := [.ref a, x]) F (hr.mono hk) pass0 I (.cons rfl (.cons rx .nil)) q) (fun r s' hv => ?_) fun _ _ z => z)
  obtain ⟨z, H', I', rz, b, rfl, q'⟩ := hv
  cases (show r = Value.bool b from rz)
  exact ⟨b, rfl, .bl b, H', I', rfl, q'⟩
/-- one of several ways of an operator -/
theorem OpR.or {op : Value → Value → Sem Value} {r r' : R2} (h : OpR X op r) (h' : OpR X op r') : OpR X op (fun x y H Q => r x y H Q ∨ r' x y H Q) := by
  intro pins s σ H x y v u Q I rx ry q
  rcases q with q | q
  · exact h pins s σ H x y v u Q I rx ry q
  · exact h' pins s σ H x y v u Q I rx ry q
end
end Ws
namespace Ws
open PySem PySem.Spec PyProof.Rows L2
section
variable {X : Cx}
/-- xs.count(c), xs and c truths -/
def isB (c : Bool) : Value → Bool
  | .bool b => b == c
  | _ => false
theorem bools_of : ∀ {bs : List Bool} {us : List Value}, Vals (bs.map V.bl) us → us = bs.map Value.bool
  | [], _, .nil => rfl
  | b :: bs, _, .cons h t => by
    cases (show _ = Value.bool b from h)
    rw [bools_of t]
    rfl
def rCntB (K : PySem.W.Frag) : V → List V → Hp → VK → Prop := fun x xs H Q => ∃ (p : Addr) (bs : List Bool) (c : Bool), x = .ref p ∧ xs = [.bl c] ∧ SqL K H p (bs.map V.bl) ∧ Q (.int ((bs.countP (· == c) : Nat) : Int)) H
theorem mt_countB : MtR X "list.count" (rCntB X.K) := by
  intro pins s σ H x xs v us Q I rx rxs h
  obtain ⟨p, bs, c, rfl, rfl, hs, q⟩ := h
  cases rx
  obtain ⟨u, rfl, ru⟩ := rxs.one
  cases (show u = Value.bool c from ru)
  obtain ⟨its, rv, ⟨⟨cls, dd, data, sl⟩, n, ho, hc, hdn, hd⟩, hlen⟩ := I.list hs
  dsimp only at hc hd
  subst hc hd
  have hb := bools_of rv
  subst hb
  refine call_meets PySem.F.slot_list_count ⟨_, ho, rfl⟩ PySem.F.entry_list_count (PySem.F.args_list_count_2 _ _) (SeqAt.list_countAt p _ n dd sl (.bool c) (isB c)) ⟨ho, fun y hy => ?_, ?_⟩
  · have hy' : y ∈ bs.map Value.bool := by simpa using hy
    obtain ⟨b, _, rfl⟩ := List.mem_map.mp hy'
    exact SeqAt.EqAt.bool_bool b c
  · refine ⟨.int _, H, I.tok _, ⟨s.toks, ?_⟩, q⟩
    have e : (bs.map Value.bool).toArray.toList.countP (isB c) = bs.countP (· == c) := by
      rw [List.toList_toArray, List.countP_map]
      rfl
    rw [e]
end
end Ws

namespace Ws
open PySem PySem.Spec PyProof.Rows L2
abbrev sWhole : Stmt := (PySem.Challenge.pw_whatspeed_k08_whole_what_lies_in_a_stret.main.body.getD 7 (.Pass ⟨0, 0, 0, 0⟩))
abbrev NWhole : List Str := ["value"]
abbrev PWhole : List Str := ["value"]
theorem scWhole : FnScope NWhole PWhole (defScope sWhole) := ⟨rfl, rfl, rfl, by decide +kernel, rfl, by decide +kernel, by decide +kernel⟩
abbrev sNum : Stmt := (inClass (PySem.Challenge.pw_whatspeed_k08_whole_what_lies_in_a_stret.main.body.getD 8 (.Pass ⟨0, 0, 0, 0⟩)) 0)
abbrev NNum : List Str := ["self", "top", "bottom", "shared"]
abbrev PNum : List Str := ["self", "top", "bottom"]
theorem scNum : FnScope NNum PNum (defScope sNum) := ⟨rfl, rfl, rfl, by decide +kernel, rfl, by decide +kernel, by decide +kernel⟩
abbrev sNTop : Stmt := (inClass (PySem.Challenge.pw_whatspeed_k08_whole_what_lies_in_a_stret.main.body.getD 8 (.Pass ⟨0, 0, 0, 0⟩)) 1)
abbrev NNTop : List Str := ["self"]
abbrev PNTop : List Str := ["self"]
theorem scNTop : FnScope NNTop PNTop (defScope sNTop) := ⟨rfl, rfl, rfl, by decide +kernel, rfl, by decide +kernel, by decide +kernel⟩
abbrev sNBot : Stmt := (inClass (PySem.Challenge.pw_whatspeed_k08_whole_what_lies_in_a_stret.main.body.getD 8 (.Pass ⟨0, 0, 0, 0⟩)) 2)
abbrev NNBot : List Str := ["self"]
abbrev PNBot : List Str := ["self"]
theorem scNBot : FnScope NNBot PNBot (defScope sNBot) := ⟨rfl, rfl, rfl, by decide +kernel, rfl, by decide +kernel, by decide +kernel⟩
abbrev sNEq : Stmt := (inClass (PySem.Challenge.pw_whatspeed_k08_whole_what_lies_in_a_stret.main.body.getD 8 (.Pass ⟨0, 0, 0, 0⟩)) 3)
abbrev NNEq : List Str := ["self", "other"]
abbrev PNEq : List Str := ["self", "other"]
theorem scNEq : FnScope NNEq PNEq (defScope sNEq) := ⟨rfl, rfl, rfl, by decide +kernel, rfl, by decide +kernel, by decide +kernel⟩
abbrev sNBool : Stmt := (inClass (PySem.Challenge.pw_whatspeed_k08_whole_what_lies_in_a_stret.main.body.getD 8 (.Pass ⟨0, 0, 0, 0⟩)) 4)
abbrev NNBool : List Str := ["self"]
abbrev PNBool : List Str := ["self"]
theorem scNBool : FnScope NNBool PNBool (defScope sNBool) := ⟨rfl, rfl, rfl, by decide +kernel, rfl, by decide +kernel, by decide +kernel⟩
abbrev sNAdd : Stmt := (inClass (PySem.Challenge.pw_whatspeed_k08_whole_what_lies_in_a_stret.main.body.getD 8 (.Pass ⟨0, 0, 0, 0⟩)) 5)
abbrev NNAdd : List Str := ["self", "other"]
abbrev PNAdd : List Str := ["self", "other"]
theorem scNAdd : FnScope NNAdd PNAdd (defScope sNAdd) := ⟨rfl, rfl, rfl, by decide +kernel, rfl, by decide +kernel, by decide +kernel⟩
abbrev sNSub : Stmt := (inClass (PySem.Challenge.pw_whatspeed_k08_whole_what_lies_in_a_stret.main.body.getD 8 (.Pass ⟨0, 0, 0, 0⟩)) 6)
abbrev NNSub : List Str := ["self", "other"]
abbrev PNSub : List Str := ["self", "other"]
theorem scNSub : FnScope NNSub PNSub (defScope sNSub) := ⟨rfl, rfl, rfl, by decide +kernel, rfl, by decide +kernel, by decide +kernel⟩
abbrev sNMul : Stmt := (inClass (PySem.Challenge.pw_whatspeed_k08_whole_what_lies_in_a_stret.main.body.getD 8 (.Pass ⟨0, 0, 0, 0⟩)) 7)
abbrev NNMul : List Str := ["self", "other"]
abbrev PNMul : List Str := ["self", "other"]
theorem scNMul : FnScope NNMul PNMul (defScope sNMul) := ⟨rfl, rfl, rfl, by decide +kernel, rfl, by decide +kernel, by decide +kernel⟩
/-! ### a Number, a Line in the heap -/
def nF (t b : Int) : List (Str × V) := [("_top", .int t), ("_bottom", .int b)]
def NumAt (C : Addr) (H : Hp) (a : Addr) (t b : Int) : Prop := ∃ dx, H a = some (.ins C dx (nF t b))
theorem nF_top (t b : Int) : (nF t b).lookup ("_top" : Str) = some (.int t) := lk_here
theorem nF_bot (t b : Int) : (nF t b).lookup ("_bottom" : Str) = some (.int b) := (lk_past (by decide +kernel)).trans lk_here
theorem NumAt.same {C : Addr} {H H' : Hp} {a : Addr} {t b : Int} (h : NumAt C H a t b) (s : Same H H') : NumAt C H' a t b := let ⟨dx, e⟩ := h; ⟨dx, s _ _ e⟩
theorem NumAt.ch {C : Addr} {H H' : Hp} {p a : Addr} {t b : Int} (h : NumAt C H a t b) (s : Ch p H H') (n : a ≠ p) : NumAt C H' a t b := let ⟨dx, e⟩ := h; ⟨dx, s _ _ n e⟩
/-- what the class Number must be -/
structure NumC (K : PySem.W.Frag) (C : Addr) : Prop where
  cl : Cls K C
  nT : NoAttr K C "_top"
  nB : NoAttr K C "_bottom"
  ha : PySem.W.findIn K (.ref C) "__class__" = some (some (.builtin "object.__class__"))
  hn : PySem.W.specialIn K (.builtin "object.__class__") "__get__" = some (some (.builtin "getset_descriptor.__get__"))
  htk : PySem.W.takesIn K (.builtin "object.__class__") = some true
  hm : PySem.W.mroIn K C (.type "object") = some true
  kk : PySem.W.kitOne K (.ref C) (.ref C) = some true
  sf : PySem.W.selfFirst K C = true
  nf : PySem.W.notFirst K C (.ref C) = true
theorem NumC.ty {K : PySem.W.Frag} {C : Addr} (c : NumC K C) {H : Hp} {a dx : Addr} {fs : List (Str × V)} (e : H a = some (.ins C dx fs)) : TyX K H (.ref a) (.ref C) := .base (.ins e c.cl c.ha c.hn c.htk c.hm)
/-! ### promises -/
def spWhole : Sp := fun vs H Q _ => ∃ i : Int, vs = [.int i] ∧ Q (.bl true) H
def spNum (C : Addr) : Sp := fun vs H Q _ => ∃ (x dx : Addr) (t b : Int), vs = [.ref x, .int t, .int b] ∧ b ≠ 0 ∧ Sz 8000 b ∧ H x = some (.ins C dx []) ∧
  ∀ H', NumAt C H' x (nT t b) (nB t b) → (∀ a o, H a = some o → a ≠ x → H' a = some o) → Q .non H'
def spTop (C : Addr) : Sp := fun vs H Q _ => ∃ (a : Addr) (t b : Int), vs = [.ref a] ∧ NumAt C H a t b ∧ Q (.int t) H
def spBot (C : Addr) : Sp := fun vs H Q _ => ∃ (a : Addr) (t b : Int), vs = [.ref a] ∧ NumAt C H a t b ∧ Q (.int b) H
def spNEq (C : Addr) : Sp := fun vs H Q _ => ∃ (a c : Addr) (t b p q : Int), vs = [.ref a, .ref c] ∧ NumAt C H a t b ∧ NumAt C H c p q ∧ Q (.bl (decide (t = p ∧ b = q))) H
def spNBool (C : Addr) : Sp := fun vs H Q _ => ∃ (a : Addr) (t b : Int), vs = [.ref a] ∧ NumAt C H a t b ∧ Q (.bl (t != 0)) H
/-- a new Number at a place that was free -/
def spOp2 (C : Addr) (f g : Int → Int → Int → Int → Int) : Sp := fun vs H Q _ => ∃ (a c : Addr) (t b p q : Int), vs = [.ref a, .ref c] ∧ NumAt C H a t b ∧ NumAt C H c p q ∧ Sz 2000 t ∧ Sz 2000 b ∧ Sz 2000 p ∧ Sz 2000 q ∧ g t b p q ≠ 0 ∧
  ∀ x H', H x = none → NumAt C H' x (nT (f t b p q) (g t b p q)) (nB (f t b p q) (g t b p q)) → Same H H' → Q (.ref x) H'
abbrev spAdd (C : Addr) : Sp := spOp2 C (fun t b p q => t * q + p * b) (fun _ b _ q => b * q)
abbrev spSub (C : Addr) : Sp := spOp2 C (fun t b p q => t * q - p * b) (fun _ b _ q => b * q)
abbrev spMul (C : Addr) : Sp := spOp2 C (fun t b p q => t * p) (fun _ b _ q => b * q)
section
variable {P : Program} {w : World} {K : PySem.W.Frag} {mg : Str → Option Value} {base : Heap} {C f : Addr} {fd : FuncData}
theorem ok_whole (F : L2.Fun K "is_whole" "is_whole" sWhole f fd) (b : Binds K fd PWhole []) (B : Bi mg) : FnR P w K mg base CX0 1 f spWhole := by
  refine fnR_of F b scWhole (fun vs H Q E h => ?_) (fun cdv A outer s H vs Q E hr h => ?_)
  · obtain ⟨i, rfl, _⟩ := h
    rfl
  · have sc := scWhole
    obtain ⟨i, rfl, k⟩ := h
    refine ⟨_, (pss_one (ps_ret (pe_and (pe_callB call_isi (by rfl) B.isinstance (by decide +kernel) (pa_cons (pv 0) (pa_cons (pe_bltn (v := .ty "int") (by rfl) B.int (by decide +kernel) rfl) pa_nil))) (pe_one (pe_not (pe_callB call_isi (by rfl) B.isinstance (by decide +kernel) (pa_cons (pv 0) (pa_cons (pe_bltn (v := .ty "bool") (by rfl) B.bool (by decide +kernel) rfl) pa_nil)))))))), ?_⟩
    refine ⟨_, rfl, _, _, _, _, true, rfl, .ty _, .base (.int i), kit_ty (by decide +kernel), true, rfl, iteT ?_⟩
    exact ⟨_, rfl, _, _, _, _, false, rfl, .ty _, .base (.int i), kit_ty (by decide +kernel), false, rfl, k⟩
theorem ok_num {dvs' : List V} {ds : List Value} {dvs : List V} {sp' : Sp} (F : FunD K "__init__" "Number.__init__" (defArgs sNum) (defBody sNum) (defScope sNum) dvs [] f fd) (b : Binds K fd PNum ds) (d : Vals dvs' ds) (imp : ∀ vs H Q E, sp' vs H Q E → spNum C (vs ++ dvs') H Q E)
    (B : Bi mg) (NC : NumC K C) (hgcd : mg "gcd" = some (.builtin "math.gcd")) (cW : CalF P w K mg base 1 "is_whole" spWhole) : FnR P w K mg base CX0 2 f sp' := by
  refine fnD_of F b d scNum (sp := spNum C) (fun vs H Q E h => ?_) imp (fun cdv A outer s H vs Q E hr h => ?_)
  · obtain ⟨x, dx, t, b, rfl, _⟩ := h
    rfl
  · have sc := scNum
    obtain ⟨x, dx, t, b, rfl, hb, hz, hx, k⟩ := h
    refine ⟨_, (pss_cons (ps_if (PW.pt (pw_or (pt_not (pt_val (pe_f cW hr (by decide) rfl (pa_cons (pv 1) pa_nil)))) (pw_or (pt_not (pt_val (pe_f cW hr (by decide) rfl (pa_cons (pv 2) pa_nil)))) (pw_or1 (pt_cmpR op_eq (pv 2) pe_int (nomark _)))))) (pss_one ps_never) pss_nil) (pss_cons (ps_set (i := 3) sc.nd rfl (Or.inl rfl) (pe_callBfun cr_gcd (by rfl) hgcd (pa_cons (pv 1) (pa_cons (pv 2) pa_nil)))) (pss_cons (ps_if (pt_cmpR op_lt (pv 2) pe_int (nomark _)) (pss_one (ps_set (i := 3) sc.nd rfl (Or.inl rfl) (pe_un un_neg (pv 3)))) pss_nil) (pss_cons (ps_fld (pv 0) (pe_op op_fdivZ (pv 1) (pv 3)) rfl) (pss_one (ps_fld (pv 0) (pe_op op_fdivZ (pv 2) (pv 3)) rfl)))))), ?_⟩
    refine ⟨_, rfl, t, rfl, true, rfl, iteF ?_⟩
    refine ⟨_, rfl, b, rfl, true, rfl, iteF ?_⟩
    refine ⟨_, rfl, rfl, _, rfl, ?_⟩
    refine ifF (by simpa using hb) ?_
    refine ⟨_, rfl, _, rfl, _, _, rfl, ?_⟩
    refine ⟨_, rfl, _, _, rfl, rfl, _, rfl, ?_⟩
    have hs : Sz 8000 (gS t b) := by
      have := Sz.gI (t := t) hb hz
      unfold gS
      split
      · exact this.neg
      · exact this
    have fin : ∀ {Qn : Ends} {y : Int}, y = gS t b → tSeq (sFld K (tVar 0) (tOp (rI (fun _ j => j ≠ 0 ∧ j.natAbs.log2 < 9000) fun i j => .int (i.fdiv j)) (tVar 1) (tVar 3)) "_top") (sFld K (tVar 0) (tOp (rI (fun _ j => j ≠ 0 ∧ j.natAbs.log2 < 9000) fun i j => .int (i.fdiv j)) (tVar 2) (tVar 3)) "_bottom")
        { nx := fun _ H' => Q .non H', rt := Q } [some (.ref x), some (.int t), some (.int b), some (.int y)] H := by
      rintro Qn y rfl
      have h9 : (gS t b).natAbs.log2 < 9000 := Nat.lt_of_lt_of_le (PySem.Flt.log2_lt_of (by decide) hs) (by decide)
      refine ⟨_, rfl, _, rfl, _, _, rfl, rfl, ⟨gS_ne hb, h9⟩, _, rfl, x, C, dx, [], rfl, hx, NC.cl, NC.nT, (by show 0 < 1000; decide), ?_⟩
      refine ⟨_, rfl, _, rfl, _, _, rfl, rfl, ⟨gS_ne hb, h9⟩, _, rfl, x, C, dx, _, rfl, upd_same, NC.cl, NC.nB, (by show 1 < 1000; decide), ?_⟩
      refine k _ ⟨dx, upd_same.trans (congrArg some (congrArg (HO.ins C dx) ?_))⟩ fun a o e n => ?_
      · exact (put_past (by decide +kernel)).trans rfl
      · rw [upd_ne n, upd_ne n]
        exact e
    by_cases hn : b < 0
    · refine ifT (by simpa using hn) ?_
      refine ⟨_, rfl, _, rfl, ?_⟩
      refine fin (Qn := { nx := fun _ H' => Q .non H', rt := Q }) ?_
      unfold gS gI
      rw [if_pos hn]
    · refine ifF (by simpa using hn) ?_
      refine fin (Qn := { nx := fun _ H' => Q .non H', rt := Q }) ?_
      unfold gS gI
      rw [if_neg hn]
theorem ok_top (F : L2.Fun K "top" "Number.top" sNTop f fd) (b : Binds K fd PNTop []) (NC : NumC K C) : FnR P w K mg base CX0 1 f (spTop C) := by
  refine fnR_of F b scNTop (fun vs H Q E h => ?_) (fun cdv A outer s H vs Q E hr h => ?_)
  · obtain ⟨a, t, b, rfl, _⟩ := h
    rfl
  · have sc := scNTop
    obtain ⟨a, t, b, rfl, ⟨dx, e⟩, k⟩ := h
    refine ⟨_, (pss_one (ps_ret (pe_fld (pv 0) rfl))), ?_⟩
    exact ⟨_, rfl, a, C, dx, _, _, rfl, e, NC.cl, NC.nT, nF_top _ _, k⟩
theorem ok_bot (F : L2.Fun K "bottom" "Number.bottom" sNBot f fd) (b : Binds K fd PNBot []) (NC : NumC K C) : FnR P w K mg base CX0 1 f (spBot C) := by
  refine fnR_of F b scNBot (fun vs H Q E h => ?_) (fun cdv A outer s H vs Q E hr h => ?_)
  · obtain ⟨a, t, b, rfl, _⟩ := h
    rfl
  · have sc := scNBot
    obtain ⟨a, t, b, rfl, ⟨dx, e⟩, k⟩ := h
    refine ⟨_, (pss_one (ps_ret (pe_fld (pv 0) rfl))), ?_⟩
    exact ⟨_, rfl, a, C, dx, _, _, rfl, e, NC.cl, NC.nB, nF_bot _ _, k⟩
theorem ok_neq (F : L2.Fun K "__eq__" "Number.__eq__" sNEq f fd) (b : Binds K fd PNEq []) (B : Bi mg) (NC : NumC K C) (gN : mg "Number" = some (.ref C)) : FnR P w K mg base CX0 1 f (spNEq C) := by
  refine fnR_of F b scNEq (fun vs H Q E h => ?_) (fun cdv A outer s H vs Q E hr h => ?_)
  · obtain ⟨a, c, t, b, p, q, rfl, _⟩ := h
    rfl
  · have sc := scNEq
    obtain ⟨a, c, t, b, p, q, rfl, ⟨dx, ea⟩, ⟨dy, ec⟩, k⟩ := h
    refine ⟨_, (pss_one (ps_ret (pe_and (pe_callB call_isi (by rfl) B.isinstance (by decide +kernel) (pa_cons (pv 1) (pa_cons (pe_glob (v := .ref C) rfl gN rfl) pa_nil))) (pe_and (pe_cmpR op_eq (pe_fld (pv 0) rfl) (pe_fld (pv 1) rfl) (nomark _)) (pe_one (pe_cmpR op_eq (pe_fld (pv 0) rfl) (pe_fld (pv 1) rfl) (nomark _))))))), ?_⟩
    refine ⟨_, rfl, _, _, _, _, true, rfl, .own C, NC.ty ec, NC.kk, true, rfl, iteT ?_⟩
    refine ⟨_, rfl, a, C, dx, _, _, rfl, ea, NC.cl, NC.nT, nF_top _ _, _, rfl, c, C, dy, _, _, rfl, ec, NC.cl, NC.nT, nF_top _ _, rfl, _, rfl, ?_⟩
    by_cases h1 : t = p
    · subst h1
      refine ifT (by simp) ?_
      refine ⟨_, rfl, a, C, dx, _, _, rfl, ea, NC.cl, NC.nB, nF_bot _ _, _, rfl, c, C, dy, _, _, rfl, ec, NC.cl, NC.nB, nF_bot _ _, rfl, ?_⟩
      simpa using k
    · refine ifF (by simpa using h1) ?_
      simpa [h1] using k
theorem ok_nbool (F : L2.Fun K "__bool__" "Number.__bool__" sNBool f fd) (b : Binds K fd PNBool []) (B : Bi mg) (NC : NumC K C) : FnR P w K mg base CX0 1 f (spNBool C) := by
  refine fnR_of F b scNBool (fun vs H Q E h => ?_) (fun cdv A outer s H vs Q E hr h => ?_)
  · obtain ⟨a, t, b, rfl, _⟩ := h
    rfl
  · have sc := scNBool
    obtain ⟨a, t, b, rfl, ⟨dx, ea⟩, k⟩ := h
    refine ⟨_, (pss_one (ps_ret (pe_callTy call_bool1 (by rfl) B.bool (by decide +kernel) (pa_cons (pe_fld (pv 0) rfl) pa_nil)))), ?_⟩
    exact ⟨_, rfl, a, C, dx, _, _, rfl, ea, NC.cl, NC.nT, nF_top _ _, .inl ⟨t, rfl, k⟩⟩
theorem ok_nadd (F : L2.Fun K "__add__" "Number.__add__" sNAdd f fd) (b : Binds K fd PNAdd []) (NC : NumC K C) (mN : MakF P w K mg base 2 "Number" C (spNum C)) : FnR P w K mg base CX0 4 f (spAdd C) := by
  refine fnR_of F b scNAdd (fun vs H Q E h => ?_) (fun cdv A outer s H vs Q E hr h => ?_)
  · obtain ⟨a, c, t, b, p, q, rfl, _⟩ := h
    rfl
  · have sc := scNAdd
    obtain ⟨a, c, t, b, p, q, rfl, ⟨dx, ea⟩, ⟨dy, ec⟩, z1, z2, z3, z4, h0, k⟩ := h
    refine ⟨_, (pss_one (ps_ret (pe_mk mN hr (by decide) rfl (pa_cons (pe_op op_add (pe_op op_mulW (pe_fld (pv 0) rfl) (pe_fld (pv 1) rfl)) (pe_op op_mulW (pe_fld (pv 1) rfl) (pe_fld (pv 0) rfl))) (pa_cons (pe_op op_mulW (pe_fld (pv 0) rfl) (pe_fld (pv 1) rfl)) pa_nil))))), ?_⟩
    refine ⟨_, rfl, a, C, dx, _, _, rfl, ea, NC.cl, NC.nT, nF_top _ _, _, rfl, c, C, dy, _, _, rfl, ec, NC.cl, NC.nB, nF_bot _ _, _, _, rfl, rfl, wide_mul z1 z4 (by decide) (by decide) (by decide), ?_⟩
    refine ⟨_, rfl, c, C, dy, _, _, rfl, ec, NC.cl, NC.nT, nF_top _ _, _, rfl, a, C, dx, _, _, rfl, ea, NC.cl, NC.nB, nF_bot _ _, _, _, rfl, rfl, wide_mul z3 z2 (by decide) (by decide) (by decide), _, _, rfl, rfl, ?_⟩
    refine ⟨_, rfl, a, C, dx, _, _, rfl, ea, NC.cl, NC.nB, nF_bot _ _, _, rfl, c, C, dy, _, _, rfl, ec, NC.cl, NC.nB, nF_bot _ _, _, _, rfl, rfl, wide_mul z2 z4 (by decide) (by decide) (by decide), ?_⟩
    intro x d nx nd ne
    refine ⟨x, d, _, _, rfl, h0, (z2.mul z4).mono (by decide), upd_same, fun H1 h1 k1 => ⟨rfl, ?_⟩⟩
    exact k x H1 nx h1 (Same.mk nx nd k1)
theorem ok_nsub (F : L2.Fun K "__sub__" "Number.__sub__" sNSub f fd) (b : Binds K fd PNSub []) (NC : NumC K C) (mN : MakF P w K mg base 2 "Number" C (spNum C)) : FnR P w K mg base CX0 4 f (spSub C) := by
  refine fnR_of F b scNSub (fun vs H Q E h => ?_) (fun cdv A outer s H vs Q E hr h => ?_)
  · obtain ⟨a, c, t, b, p, q, rfl, _⟩ := h
    rfl
  · have sc := scNSub
    obtain ⟨a, c, t, b, p, q, rfl, ⟨dx, ea⟩, ⟨dy, ec⟩, z1, z2, z3, z4, h0, k⟩ := h
    refine ⟨_, (pss_one (ps_ret (pe_mk mN hr (by decide) rfl (pa_cons (pe_op op_sub (pe_op op_mulW (pe_fld (pv 0) rfl) (pe_fld (pv 1) rfl)) (pe_op op_mulW (pe_fld (pv 1) rfl) (pe_fld (pv 0) rfl))) (pa_cons (pe_op op_mulW (pe_fld (pv 0) rfl) (pe_fld (pv 1) rfl)) pa_nil))))), ?_⟩
    refine ⟨_, rfl, a, C, dx, _, _, rfl, ea, NC.cl, NC.nT, nF_top _ _, _, rfl, c, C, dy, _, _, rfl, ec, NC.cl, NC.nB, nF_bot _ _, _, _, rfl, rfl, wide_mul z1 z4 (by decide) (by decide) (by decide), ?_⟩
    refine ⟨_, rfl, c, C, dy, _, _, rfl, ec, NC.cl, NC.nT, nF_top _ _, _, rfl, a, C, dx, _, _, rfl, ea, NC.cl, NC.nB, nF_bot _ _, _, _, rfl, rfl, wide_mul z3 z2 (by decide) (by decide) (by decide), _, _, rfl, rfl, ?_⟩
    refine ⟨_, rfl, a, C, dx, _, _, rfl, ea, NC.cl, NC.nB, nF_bot _ _, _, rfl, c, C, dy, _, _, rfl, ec, NC.cl, NC.nB, nF_bot _ _, _, _, rfl, rfl, wide_mul z2 z4 (by decide) (by decide) (by decide), ?_⟩
    intro x d nx nd ne
    refine ⟨x, d, _, _, rfl, h0, (z2.mul z4).mono (by decide), upd_same, fun H1 h1 k1 => ⟨rfl, ?_⟩⟩
    exact k x H1 nx h1 (Same.mk nx nd k1)
theorem ok_nmul (F : L2.Fun K "__mul__" "Number.__mul__" sNMul f fd) (b : Binds K fd PNMul []) (NC : NumC K C) (mN : MakF P w K mg base 2 "Number" C (spNum C)) : FnR P w K mg base CX0 4 f (spMul C) := by
  refine fnR_of F b scNMul (fun vs H Q E h => ?_) (fun cdv A outer s H vs Q E hr h => ?_)
  · obtain ⟨a, c, t, b, p, q, rfl, _⟩ := h
    rfl
  · have sc := scNMul
    obtain ⟨a, c, t, b, p, q, rfl, ⟨dx, ea⟩, ⟨dy, ec⟩, z1, z2, z3, z4, h0, k⟩ := h
    refine ⟨_, (pss_one (ps_ret (pe_mk mN hr (by decide) rfl (pa_cons (pe_op op_mulW (pe_fld (pv 0) rfl) (pe_fld (pv 1) rfl)) (pa_cons (pe_op op_mulW (pe_fld (pv 0) rfl) (pe_fld (pv 1) rfl)) pa_nil))))), ?_⟩
    refine ⟨_, rfl, a, C, dx, _, _, rfl, ea, NC.cl, NC.nT, nF_top _ _, _, rfl, c, C, dy, _, _, rfl, ec, NC.cl, NC.nT, nF_top _ _, _, _, rfl, rfl, wide_mul z1 z3 (by decide) (by decide) (by decide), ?_⟩
    refine ⟨_, rfl, a, C, dx, _, _, rfl, ea, NC.cl, NC.nB, nF_bot _ _, _, rfl, c, C, dy, _, _, rfl, ec, NC.cl, NC.nB, nF_bot _ _, _, _, rfl, rfl, wide_mul z2 z4 (by decide) (by decide) (by decide), ?_⟩
    intro x d nx nd ne
    refine ⟨x, d, _, _, rfl, h0, (z2.mul z4).mono (by decide), upd_same, fun H1 h1 k1 => ⟨rfl, ?_⟩⟩
    exact k x H1 nx h1 (Same.mk nx nd k1)
end
end Ws

namespace Ws
open PySem PySem.Spec PyProof.Rows L2
abbrev sPot : Stmt := (PySem.Challenge.pw_whatspeed_k08_whole_what_lies_in_a_stret.main.body.getD 12 (.Pass ⟨0, 0, 0, 0⟩))
abbrev NPot : List Str := ["script", "k", "cell", "own"]
abbrev PPot : List Str := ["script", "k"]
theorem scPot : FnScope NPot PPot (defScope sPot) := ⟨rfl, rfl, rfl, by decide +kernel, rfl, by decide +kernel, by decide +kernel⟩
abbrev sTake : Stmt := (PySem.Challenge.pw_whatspeed_k08_whole_what_lies_in_a_stret.main.body.getD 13 (.Pass ⟨0, 0, 0, 0⟩))
abbrev NTake : List Str := ["pot", "upto", "digit", "prime", "mixed"]
abbrev PTake : List Str := ["pot", "upto"]
theorem scTake : FnScope NTake PTake (defScope sTake) := ⟨rfl, rfl, rfl, by decide +kernel, rfl, by decide +kernel, by decide +kernel⟩
abbrev sOf : Stmt := (PySem.Challenge.pw_whatspeed_k08_whole_what_lies_in_a_stret.main.body.getD 14 (.Pass ⟨0, 0, 0, 0⟩))
abbrev NOf : List Str := ["pot", "some"]
abbrev POf : List Str := ["pot", "some"]
theorem scOf : FnScope NOf POf (defScope sOf) := ⟨rfl, rfl, rfl, by decide +kernel, rfl, by decide +kernel, by decide +kernel⟩
/-! ### the pot of drawn numbers -/
def PotAt (H : Hp) (p : Addr) (m : Int) : Prop := ∃ own seed n : Int, H p = some (.lst [.int own, .int seed, .int n]) ∧ 0 ≤ own ∧ 0 ≤ seed ∧ seed < 2305843009213693921 ∧ 0 ≤ n ∧ n ≤ m
theorem PotAt.mono {H : Hp} {p : Addr} {m m' : Int} (h : PotAt H p m) (l : m ≤ m') : PotAt H p m' := let ⟨a, b, c, e, h1, h2, h3, h4, h5⟩ := h; ⟨a, b, c, e, h1, h2, h3, h4, Int.le_trans h5 l⟩
theorem PotAt.same {H H' : Hp} {p : Addr} {m : Int} (h : PotAt H p m) (s : Same H H') : PotAt H' p m := let ⟨a, b, c, e, r⟩ := h; ⟨a, b, c, s _ _ e, r⟩
def spPot (K : PySem.W.Frag) : Sp := fun vs H Q _ => ∃ (s : Addr) (ns : List Int) (k : Nat), vs = [.ref s, .int k] ∧ SqL K H s (ns.map V.int) ∧ k < 100 ∧ ∀ p H', H p = none → PotAt H' p 0 → Same H H' → Q (.ref p) H'
def spTake : Sp := fun vs H Q _ => ∃ (p : Addr) (u m : Int), vs = [.ref p, .int u] ∧ PotAt H p m ∧ m ≤ 1000000 ∧ 1 ≤ u ∧ u < 1073741824 ∧ ∀ d H', 0 ≤ d → d < u → PotAt H' p (m + 1) → Ch p H H' → Q (.int d) H'
def spOf : Sp := fun vs H Q _ => ∃ (p l : Addr) (xs : List V) (m : Int), vs = [.ref p, .ref l] ∧ PotAt H p m ∧ m ≤ 1000000 ∧ H l = some (.lst xs) ∧ l ≠ p ∧ 1 ≤ xs.length ∧ xs.length ≤ 1000 ∧ ∀ v H', v ∈ xs → PotAt H' p (m + 1) → Ch p H H' → Q v H'
section
variable {P : Program} {w : World} {K : PySem.W.Frag} {mg : Str → Option Value} {base : Heap} {f : Addr} {fd : FuncData}
theorem at_map {ns : List Int} {k : Nat} (h : k < ns.length) : atI (ns.map V.int) (k : Int) = some (.int ns[k]) := atI_nat (by rw [List.getElem?_map, List.getElem?_eq_getElem h]; rfl)
theorem emod_lt {a b : Int} (h : 0 < b) : a % b < b := Int.emod_lt_of_pos a h
theorem emod_nn {a b : Int} (h : 0 < b) : 0 ≤ a % b := Int.emod_nonneg a (by omega)
theorem ok_pot (F : L2.Fun K "_law_pot" "_law_pot" sPot f fd) (b : Binds K fd PPot []) (B : Bi mg) : FnR P w K mg base CX0 1 f (spPot K) := by
  refine fnR_of F b scPot (fun vs H Q E h => ?_) (fun cdv A outer s H vs Q E hr h => ?_)
  · obtain ⟨s, ns, k, rfl, _⟩ := h
    rfl
  · have sc := scPot
    obtain ⟨s, ns, k, rfl, hS, hk, q⟩ := h
    refine ⟨_, (pss_cons (ps_set (i := 2) sc.nd rfl (Or.inl rfl) (pe_ifExp (pt_cmpR op_lt (pv 1) (pe_callB call_len_seq (by rfl) B.len PySem.boot_len (pa_cons (pv 0) pa_nil)) (nomark _)) (pe_callTy call_int1 (by rfl) B.int (by decide +kernel) (pa_cons (pe_ix ix_list (pv 0) (pv 1) (fun _ _ => rfl)) pa_nil)) (pe_op op_add (pe_op op_mul pe_int (pv 1)) pe_int))) (pss_cons (ps_set (i := 3) sc.nd rfl (Or.inl rfl) (pe_op op_mul (pe_op op_mod (pe_callTy call_int1 (by rfl) B.int (by decide +kernel) (pa_cons (pe_callB call_abs (by rfl) B.abs (by decide +kernel) (pa_cons (pv 2) pa_nil)) pa_nil)) (pe_op op_powW (pe_op op_pow pe_int pe_int) pe_int)) (pe_callTy call_int1 (by rfl) B.int (by decide +kernel) (pa_cons (pe_cmpR op_ge (pe_callB call_abs (by rfl) B.abs (by decide +kernel) (pa_cons (pv 2) pa_nil)) (pe_op op_pow pe_int pe_int) (nomark _)) pa_nil)))) (pss_one (ps_ret (pe_lst (pa_cons (pv 3) (pa_cons (pe_op op_mod (pe_callTy call_int1 (by rfl) B.int (by decide +kernel) (pa_cons (pe_op op_add (pe_op op_add (pe_op op_mul (pe_op op_mod (pe_callTy call_int1 (by rfl) B.int (by decide +kernel) (pa_cons (pv 2) pa_nil)) pe_int) pe_int) (pe_op op_mul (pe_op op_mul pe_int (pv 1)) (pv 1))) pe_int) pa_nil)) pe_int) (pa_cons pe_int pa_nil)))))))), ?_⟩
    refine ⟨_, rfl, _, rfl, s, _, rfl, .inl hS, _, _, rfl, rfl, _, rfl, ?_⟩
    have hA : ∀ z : Int, (if z < 0 then -z else z) = (if z < 0 then -z else z) := fun _ => rfl
    refine if2 (fun hc => ?_) (fun hc => ?_)
    · have hlt : k < ns.length := by
        have := of_decide_eq_true hc
        rw [List.length_map] at this
        omega
      refine ⟨_, rfl, _, rfl, s, _, _, _, rfl, rfl, hS, at_map hlt, .inl ⟨_, rfl, ?_⟩⟩
      generalize ns[k] = z
      refine ⟨_, rfl, _, rfl, .inl ⟨_, rfl, _, _, rfl, rfl, ⟨by decide, by decide, by decide⟩, _, _, rfl, rfl, ⟨by decide, by decide +kernel⟩, _, _, rfl, rfl, by show (0 : Int) < _; decide +kernel, ?_⟩⟩
      refine ⟨_, rfl, _, rfl, _, _, rfl, rfl, ⟨by decide, by decide, by decide⟩, _, _, rfl, rfl, .inr ⟨_, rfl, _, _, rfl, rfl, .inr (bit_lo _), ?_⟩⟩
      refine ⟨_, rfl, _, rfl, .inl ⟨_, rfl, _, _, rfl, rfl, by show (0 : Int) < _; decide +kernel, _, _, rfl, rfl, .inr ⟨by decide, by decide⟩, _, rfl, _, _, rfl, rfl, .inl ⟨by decide, by decide⟩, _, rfl, _, _, rfl, rfl, .inr ⟨by omega, by omega⟩, _, _, rfl, rfl, _, _, rfl, rfl, .inl ⟨_, rfl, _, _, rfl, rfl, by show (0 : Int) < _; decide +kernel, ?_⟩⟩⟩
      refine ⟨by show 3 ≤ sizeLine; decide, fun p hp => q p _ hp ⟨_, _, _, upd_same, ?_, emod_nn (by decide), emod_lt (by decide), by decide, by decide⟩ (Same.new hp)⟩
      exact Int.mul_nonneg (emod_nn (by decide +kernel)) (bit_nn _)
    · refine ⟨_, rfl, _, _, rfl, rfl, .inl ⟨by decide, by decide⟩, _, _, rfl, rfl, ?_⟩
      generalize (41 * (k : Int) + 19) = z
      refine ⟨_, rfl, _, rfl, .inl ⟨_, rfl, _, _, rfl, rfl, ⟨by decide, by decide, by decide⟩, _, _, rfl, rfl, ⟨by decide, by decide +kernel⟩, _, _, rfl, rfl, by show (0 : Int) < _; decide +kernel, ?_⟩⟩
      refine ⟨_, rfl, _, rfl, _, _, rfl, rfl, ⟨by decide, by decide, by decide⟩, _, _, rfl, rfl, .inr ⟨_, rfl, _, _, rfl, rfl, .inr (bit_lo _), ?_⟩⟩
      refine ⟨_, rfl, _, rfl, .inl ⟨_, rfl, _, _, rfl, rfl, by show (0 : Int) < _; decide +kernel, _, _, rfl, rfl, .inr ⟨by decide, by decide⟩, _, rfl, _, _, rfl, rfl, .inl ⟨by decide, by decide⟩, _, rfl, _, _, rfl, rfl, .inr ⟨by omega, by omega⟩, _, _, rfl, rfl, _, _, rfl, rfl, .inl ⟨_, rfl, _, _, rfl, rfl, by show (0 : Int) < _; decide +kernel, ?_⟩⟩⟩
      refine ⟨by show 3 ≤ sizeLine; decide, fun p hp => q p _ hp ⟨_, _, _, upd_same, ?_, emod_nn (by decide), emod_lt (by decide), by decide, by decide⟩ (Same.new hp)⟩
      exact Int.mul_nonneg (emod_nn (by decide +kernel)) (bit_nn _)
theorem ok_take (F : L2.Fun K "_law_take" "_law_take" sTake f fd) (b : Binds K fd PTake []) (B : Bi mg) : FnR P w K mg base CX0 1 f spTake := by
  refine fnR_of F b scTake (fun vs H Q E h => ?_) (fun cdv A outer s H vs Q E hr h => ?_)
  · obtain ⟨p, u, m, rfl, _⟩ := h
    rfl
  · have sc := scTake
    obtain ⟨p, u, m, rfl, ⟨own, seed, n, hp, h1, h2, h3, h4, h5⟩, hm, hu, hu2, q⟩ := h
    refine ⟨_, (pss_cons (ps_if (pt_cmpR op_gt (pe_ix ix_list (pv 0) pe_int (fun _ _ => rfl)) pe_int (nomark _)) (pss_cons (ps_set (i := 2) sc.nd rfl (Or.inl rfl) (pe_op op_mod (pe_callTy call_int1 (by rfl) B.int (by decide +kernel) (pa_cons (pe_ix ix_list (pv 0) pe_int (fun _ _ => rfl)) pa_nil)) (pv 1))) (pss_cons (ps_asg (pe_op op_fdiv (pe_ix ix_list (pv 0) pe_int (fun _ _ => rfl)) (pv 1)) (pg_sub (pv 0) pe_int set_list)) (pss_one (ps_ret (pv 2))))) pss_nil) (pss_cons (ps_asg (pe_op op_add (pe_ix ix_list (pv 0) pe_int (fun _ _ => rfl)) pe_int) (pg_sub (pv 0) pe_int set_list)) (pss_cons (ps_set (i := 3) sc.nd rfl (Or.inl rfl) (pe_ix ix_list (pe_lst (pa_cons pe_int (pa_cons pe_int (pa_cons pe_int (pa_cons pe_int (pa_cons pe_int pa_nil)))))) (pe_op op_mod (pe_callTy call_int1 (by rfl) B.int (by decide +kernel) (pa_cons (pe_ix ix_list (pv 0) pe_int (fun _ _ => rfl)) pa_nil)) pe_int) (fun _ _ => rfl))) (pss_cons (ps_set (i := 4) sc.nd rfl (Or.inl rfl) (pe_op op_mod (pe_callTy call_int1 (by rfl) B.int (by decide +kernel) (pa_cons (pe_op op_pow (pe_op op_add (pe_op op_add (pe_ix ix_list (pv 0) pe_int (fun _ _ => rfl)) (pe_op op_mul (pe_op op_mul pe_int (pe_ix ix_list (pv 0) pe_int (fun _ _ => rfl))) (pe_ix ix_list (pv 0) pe_int (fun _ _ => rfl)))) pe_int) pe_int) pa_nil)) (pv 3))) (pss_one (ps_ret (pe_op op_mod (pe_callTy call_int1 (by rfl) B.int (by decide +kernel) (pa_cons (pe_op op_fdiv (pe_op op_mul (pv 4) (pe_op op_add (pe_op op_mod (pe_callTy call_int1 (by rfl) B.int (by decide +kernel) (pa_cons (pv 4) pa_nil)) pe_int) (pe_op op_mul pe_int (pe_ix ix_list (pv 0) pe_int (fun _ _ => rfl))))) pe_int) pa_nil)) (pv 1)))))))), ?_⟩
    refine ⟨_, rfl, p, _, _, _, rfl, rfl, SqL.of hp, rfl, _, _, rfl, rfl, _, rfl, ?_⟩
    refine if2 (fun hc => ?_) (fun hc => ?_)
    · refine ⟨_, rfl, p, _, _, _, rfl, rfl, SqL.of hp, rfl, .inl ⟨_, rfl, _, rfl, _, _, rfl, rfl, by omega, ?_⟩⟩
      refine ⟨_, rfl, p, _, _, _, rfl, rfl, SqL.of hp, rfl, _, rfl, _, _, rfl, rfl, ⟨by omega, by omega⟩, ?_⟩
      refine ⟨_, rfl, p, _, _, _, rfl, rfl, hp, rfl, ?_⟩
      refine ⟨_, rfl, ?_⟩
      refine q _ _ (emod_nn (by omega)) (emod_lt (by omega)) ⟨_, _, _, upd_same, Int.ediv_nonneg h1 (by omega), h2, h3, h4, by omega⟩ Ch.upd
    · refine ⟨_, rfl, p, _, _, _, rfl, rfl, SqL.of hp, rfl, _, _, rfl, rfl, ?_⟩
      refine ⟨_, rfl, p, _, _, _, rfl, rfl, hp, rfl, ?_⟩
      refine ⟨by show 5 ≤ sizeLine; decide, fun l hl => ?_⟩
      have npl : p ≠ l := ne_of_none upd_same hl
      refine ⟨_, rfl, p, _, _, _, rfl, rfl, SqL.of ((upd_ne npl).trans upd_same), rfl, .inl ⟨_, rfl, _, _, rfl, rfl, by show (0 : Int) < _; decide +kernel, ?_⟩⟩
      have hi : ∃ (j : Nat) (pr : Int), (n + 1) % 5 = (j : Int) ∧ [V.int 2147483647, V.int 2147483629, V.int 2147483587, V.int 2147483579, V.int 2147483563][j]? = some (.int pr) ∧ 0 < pr ∧ pr ≤ 2147483647 := by
        have e1 : 0 ≤ (n + 1) % 5 := emod_nn (by decide)
        have e2 : (n + 1) % 5 < 5 := emod_lt (by decide)
        have : (n + 1) % 5 = 0 ∨ (n + 1) % 5 = 1 ∨ (n + 1) % 5 = 2 ∨ (n + 1) % 5 = 3 ∨ (n + 1) % 5 = 4 := by omega
        rcases this with e | e | e | e | e
        · exact ⟨0, _, e, rfl, by decide, by decide⟩
        · exact ⟨1, _, e, rfl, by decide, by decide⟩
        · exact ⟨2, _, e, rfl, by decide, by decide⟩
        · exact ⟨3, _, e, rfl, by decide, by decide⟩
        · exact ⟨4, _, e, rfl, by decide, by decide⟩
      obtain ⟨j, pr, ej, hj, hpr, hpr2⟩ := hi
      refine ⟨l, _, _, _, rfl, rfl, SqL.of upd_same, at_of ej hj, ?_⟩
      refine ⟨_, rfl, p, _, _, _, rfl, rfl, SqL.of ((upd_ne npl).trans upd_same), rfl, ?_⟩
      refine ⟨_, rfl, p, _, _, _, rfl, rfl, SqL.of ((upd_ne npl).trans upd_same), rfl, _, _, rfl, rfl, .inl ⟨by decide, by decide⟩, ?_⟩
      refine ⟨_, rfl, p, _, _, _, rfl, rfl, SqL.of ((upd_ne npl).trans upd_same), rfl, _, _, rfl, rfl, .inr ⟨by omega, by omega⟩, _, _, rfl, rfl, _, _, rfl, rfl, ?_⟩
      have hsq : 0 ≤ (n + 1) * (n + 1) ∧ (n + 1) * (n + 1) ≤ 1000001 * 1000001 := ⟨Int.mul_nonneg (by omega) (by omega), Int.mul_le_mul (by omega) (by omega) (by omega) (by decide)⟩
      have hb0 : 99961 * (n + 1) * (n + 1) = 99961 * ((n + 1) * (n + 1)) := Int.mul_assoc _ _ _
      refine ⟨_, _, rfl, rfl, ⟨by decide, by decide, ?_⟩, .inl ⟨_, rfl, _, rfl, _, _, rfl, rfl, hpr, ?_⟩⟩
      · rw [hb0]
        omega
      · generalize hmx : ((seed + 99961 * (n + 1) * (n + 1) + 47) ^ (3 : Int).toNat) % pr = mx
        have m1 : 0 ≤ mx := by rw [← hmx]; exact emod_nn hpr
        have m2 : mx < pr := by rw [← hmx]; exact emod_lt hpr
        refine ⟨_, rfl, _, rfl, .inl ⟨_, rfl, _, _, rfl, rfl, by show (0 : Int) < _; decide +kernel, ?_⟩⟩
        refine ⟨_, rfl, p, _, _, _, rfl, rfl, SqL.of ((upd_ne npl).trans upd_same), rfl, _, _, rfl, rfl, .inl ⟨by decide, by decide⟩, _, _, rfl, rfl, _, _, rfl, rfl, .inl ⟨by omega, by omega⟩, _, _, rfl, rfl, ⟨by decide, by decide⟩, .inl ⟨_, rfl, _, rfl, _, _, rfl, rfl, by omega, ?_⟩⟩
        exact q _ _ (emod_nn (by omega)) (emod_lt (by omega)) ⟨_, _, _, (upd_ne npl).trans upd_same, h1, h2, h3, by omega, by omega⟩ (Ch.upd.trans (Ch.new hl))
theorem ok_of (F : L2.Fun K "_law_of" "_law_of" sOf f fd) (b : Binds K fd POf []) (B : Bi mg) (cT : CalF P w K mg base 1 "_law_take" spTake) : FnR P w K mg base CX0 2 f spOf := by
  refine fnR_of F b scOf (fun vs H Q E h => ?_) (fun cdv A outer s H vs Q E hr h => ?_)
  · obtain ⟨p, l, xs, m, rfl, _⟩ := h
    rfl
  · have sc := scOf
    obtain ⟨p, l, xs, m, rfl, hp, hm, hl, n, h1, h2, q⟩ := h
    refine ⟨_, (pss_one (ps_ret (pe_ix ix_list (pv 1) (pe_f cT hr (by decide) rfl (pa_cons (pv 0) (pa_cons (pe_callB call_len_seq (by rfl) B.len PySem.boot_len (pa_cons (pv 1) pa_nil)) pa_nil))) (fun _ _ => rfl)))), ?_⟩
    refine ⟨_, rfl, _, rfl, _, rfl, l, xs, rfl, .inl (SqL.of hl), p, _, m, rfl, hp, hm, by omega, by omega, fun d H1 d0 d1 hp1 c1 => ?_⟩
    have hj : d.toNat < xs.length := by omega
    exact ⟨l, xs, _, _, rfl, rfl, SqL.of (c1 _ _ n hl), at_of (j := d.toNat) (by omega) (List.getElem?_eq_getElem hj), q _ _ (List.getElem_mem hj) hp1 c1⟩
end
end Ws

namespace Ws
open PySem PySem.Spec PyProof.Rows L2
abbrev sNNeg : Stmt := (inClass (PySem.Challenge.pw_whatspeed_k08_whole_what_lies_in_a_stret.main.body.getD 8 (.Pass ⟨0, 0, 0, 0⟩)) 8)
abbrev NNNeg : List Str := ["self"]
abbrev PNNeg : List Str := ["self"]
theorem scNNeg : FnScope NNNeg PNNeg (defScope sNNeg) := ⟨rfl, rfl, rfl, by decide +kernel, rfl, by decide +kernel, by decide +kernel⟩
abbrev sNAbs : Stmt := (inClass (PySem.Challenge.pw_whatspeed_k08_whole_what_lies_in_a_stret.main.body.getD 8 (.Pass ⟨0, 0, 0, 0⟩)) 9)
abbrev NNAbs : List Str := ["self"]
abbrev PNAbs : List Str := ["self"]
theorem scNAbs : FnScope NNAbs PNAbs (defScope sNAbs) := ⟨rfl, rfl, rfl, by decide +kernel, rfl, by decide +kernel, by decide +kernel⟩
abbrev sNLess : Stmt := (inClass (PySem.Challenge.pw_whatspeed_k08_whole_what_lies_in_a_stret.main.body.getD 8 (.Pass ⟨0, 0, 0, 0⟩)) 10)
abbrev NNLess : List Str := ["self", "other"]
abbrev PNLess : List Str := ["self", "other"]
theorem scNLess : FnScope NNLess PNLess (defScope sNLess) := ⟨rfl, rfl, rfl, by decide +kernel, rfl, by decide +kernel, by decide +kernel⟩
def absI (t : Int) : Int := if t < 0 then -t else t
def spOp1 (C : Addr) (f : Int → Int) : Sp := fun vs H Q _ => ∃ (a : Addr) (t b : Int), vs = [.ref a] ∧ NumAt C H a t b ∧ b ≠ 0 ∧ Sz 2000 b ∧ ∀ x H', H x = none → NumAt C H' x (nT (f t) b) (nB (f t) b) → Same H H' → Q (.ref x) H'
abbrev spNeg (C : Addr) : Sp := spOp1 C fun t => -t
abbrev spAbs (C : Addr) : Sp := spOp1 C absI
def spLess (C : Addr) : Sp := fun vs H Q _ => ∃ (a c : Addr) (t b p q : Int), vs = [.ref a, .ref c] ∧ NumAt C H a t b ∧ NumAt C H c p q ∧ Sz 2000 t ∧ Sz 2000 b ∧ Sz 2000 p ∧ Sz 2000 q ∧ Q (.bl (decide (t * q < p * b))) H
section
variable {P : Program} {w : World} {K : PySem.W.Frag} {mg : Str → Option Value} {base : Heap} {C f : Addr} {fd : FuncData}
theorem ok_nneg (F : L2.Fun K "__neg__" "Number.__neg__" sNNeg f fd) (b : Binds K fd PNNeg []) (NC : NumC K C) (mN : MakF P w K mg base 2 "Number" C (spNum C)) : FnR P w K mg base CX0 4 f (spNeg C) := by
  refine fnR_of F b scNNeg (fun vs H Q E h => ?_) (fun cdv A outer s H vs Q E hr h => ?_)
  · obtain ⟨a, t, b, rfl, _⟩ := h
    rfl
  · have sc := scNNeg
    obtain ⟨a, t, b, rfl, ⟨dx, ea⟩, hb, zb, k⟩ := h
    refine ⟨_, (pss_one (ps_ret (pe_mk mN hr (by decide) rfl (pa_cons (pe_un un_neg (pe_fld (pv 0) rfl)) (pa_cons (pe_fld (pv 0) rfl) pa_nil))))), ?_⟩
    refine ⟨_, rfl, a, C, dx, _, _, rfl, ea, NC.cl, NC.nT, nF_top _ _, _, rfl, ?_⟩
    refine ⟨_, rfl, a, C, dx, _, _, rfl, ea, NC.cl, NC.nB, nF_bot _ _, ?_⟩
    intro x d nx nd ne
    refine ⟨x, d, _, _, rfl, hb, zb.mono (by decide), upd_same, fun H1 h1 k1 => ⟨rfl, ?_⟩⟩
    exact k x H1 nx h1 (Same.mk nx nd k1)
theorem ok_nabs (F : L2.Fun K "__abs__" "Number.__abs__" sNAbs f fd) (b : Binds K fd PNAbs []) (B : Bi mg) (NC : NumC K C) (mN : MakF P w K mg base 2 "Number" C (spNum C)) : FnR P w K mg base CX0 4 f (spAbs C) := by
  refine fnR_of F b scNAbs (fun vs H Q E h => ?_) (fun cdv A outer s H vs Q E hr h => ?_)
  · obtain ⟨a, t, b, rfl, _⟩ := h
    rfl
  · have sc := scNAbs
    obtain ⟨a, t, b, rfl, ⟨dx, ea⟩, hb, zb, k⟩ := h
    refine ⟨_, (pss_one (ps_ret (pe_mk mN hr (by decide) rfl (pa_cons (pe_callB call_abs (by rfl) B.abs (by decide +kernel) (pa_cons (pe_fld (pv 0) rfl) pa_nil)) (pa_cons (pe_fld (pv 0) rfl) pa_nil))))), ?_⟩
    refine ⟨_, rfl, a, C, dx, _, _, rfl, ea, NC.cl, NC.nT, nF_top _ _, _, rfl, ?_⟩
    refine ⟨_, rfl, a, C, dx, _, _, rfl, ea, NC.cl, NC.nB, nF_bot _ _, ?_⟩
    intro x d nx nd ne
    refine ⟨x, d, _, _, rfl, hb, zb.mono (by decide), upd_same, fun H1 h1 k1 => ⟨rfl, ?_⟩⟩
    exact k x H1 nx h1 (Same.mk nx nd k1)
theorem ok_nless (F : L2.Fun K "is_less" "Number.is_less" sNLess f fd) (b : Binds K fd PNLess []) (NC : NumC K C) : FnR P w K mg base CX0 1 f (spLess C) := by
  refine fnR_of F b scNLess (fun vs H Q E h => ?_) (fun cdv A outer s H vs Q E hr h => ?_)
  · obtain ⟨a, c, t, b, p, q, rfl, _⟩ := h
    rfl
  · have sc := scNLess
    obtain ⟨a, c, t, b, p, q, rfl, ⟨dx, ea⟩, ⟨dy, ec⟩, z1, z2, z3, z4, k⟩ := h
    refine ⟨_, (pss_one (ps_ret (pe_cmpR op_lt (pe_op op_mulW (pe_fld (pv 0) rfl) (pe_fld (pv 1) rfl)) (pe_op op_mulW (pe_fld (pv 1) rfl) (pe_fld (pv 0) rfl)) (nomark _)))), ?_⟩
    refine ⟨_, rfl, a, C, dx, _, _, rfl, ea, NC.cl, NC.nT, nF_top _ _, _, rfl, c, C, dy, _, _, rfl, ec, NC.cl, NC.nB, nF_bot _ _, _, _, rfl, rfl, wide_mul z1 z4 (by decide) (by decide) (by decide), ?_⟩
    refine ⟨_, rfl, c, C, dy, _, _, rfl, ec, NC.cl, NC.nT, nF_top _ _, _, rfl, a, C, dx, _, _, rfl, ea, NC.cl, NC.nB, nF_bot _ _, _, _, rfl, rfl, wide_mul z3 z2 (by decide) (by decide) (by decide), _, _, rfl, rfl, k⟩
end
end Ws

namespace Ws
open PySem PySem.Spec PyProof.Rows L2
abbrev sErrN : Stmt := (inClass (PySem.Challenge.pw_whatspeed_k08_whole_what_lies_in_a_stret.main.body.getD 5 (.Pass ⟨0, 0, 0, 0⟩)) 0)
abbrev NErrN : List Str := ["self", "value"]
abbrev PErrN : List Str := ["self", "value"]
theorem scErrN : FnScope NErrN PErrN (defScope sErrN) := ⟨rfl, rfl, rfl, by decide +kernel, rfl, by decide +kernel, by decide +kernel⟩
/-! ### an own error's __init__ -/
def spErr (C : Addr) : Sp := fun vs H Q _ => ∃ (a : Addr) (v : V), vs = [.ref a, v] ∧ H a = some (exo a C none) ∧ ∀ d, H d = none → d ≠ a → Q .non (upd (upd H d (exd d [("value", v)])) a (exo a C (some d)))
section
variable {P : Program} {w : World} {K : PySem.W.Frag} {mg : Str → Option Value} {base : Heap} {C f : Addr} {fd : FuncData}
theorem ok_errn (F : L2.Fun K "__init__" "BadStretch.__init__" sErrN f fd) (T : OexC K C) (hno : PySem.W.findIn K (.ref C) "value" = some none) : FnOk P w K mg base CX0 1 f fd PErrN (spErr C) := by
  refine F.ok scErrN (fun vs H Q E h => ?_) (fun cdv A outer s H vs Q E hr h => ?_)
  · obtain ⟨a, v, rfl, _⟩ := h
    rfl
  · have sc := scErrN
    obtain ⟨a, v, rfl, e, k⟩ := h
    refine ⟨_, (pss_one (ps_ost (pv 0) (pv 1))), ?_⟩
    refine ⟨_, rfl, _, rfl, a, C, rfl, T, hno, .inl ⟨e, fun d nd ne => ?_⟩⟩
    exact k d nd ne
end
/-- what raising one leaves -/
theorem err_same {H : Hp} {a d C : Addr} {v : V} (na : H a = none) (nd : H d = none) : Same H (upd (del (upd (upd (upd H a (exo a C none)) d (exd d [("value", v)])) a (exo a C (some d))) a) d (.xd [("value", v)])) := fun b o e => by
  have h1 := ne_of_none e na
  have h2 := ne_of_none e nd
  rw [upd_ne h2, del_ne h1, upd_ne h1, upd_ne h2, upd_ne h1]
  exact e
end Ws

namespace Ws
open PySem PySem.Spec PyProof.Rows L2
abbrev sSInit : Stmt := (inClass (PySem.Challenge.pw_whatspeed_k08_whole_what_lies_in_a_stret.main.body.getD 10 (.Pass ⟨0, 0, 0, 0⟩)) 0)
abbrev NSInit : List Str := ["self", "low", "high", "has_low", "has_high"]
abbrev PSInit : List Str := ["self", "low", "high", "has_low", "has_high"]
theorem scSInit : FnScope NSInit PSInit (defScope sSInit) := ⟨rfl, rfl, rfl, by decide +kernel, rfl, by decide +kernel, by decide +kernel⟩
abbrev sSLow : Stmt := (inClass (PySem.Challenge.pw_whatspeed_k08_whole_what_lies_in_a_stret.main.body.getD 10 (.Pass ⟨0, 0, 0, 0⟩)) 1)
abbrev NSLow : List Str := ["self"]
abbrev PSLow : List Str := ["self"]
theorem scSLow : FnScope NSLow PSLow (defScope sSLow) := ⟨rfl, rfl, rfl, by decide +kernel, rfl, by decide +kernel, by decide +kernel⟩
abbrev sSHigh : Stmt := (inClass (PySem.Challenge.pw_whatspeed_k08_whole_what_lies_in_a_stret.main.body.getD 10 (.Pass ⟨0, 0, 0, 0⟩)) 2)
abbrev NSHigh : List Str := ["self"]
abbrev PSHigh : List Str := ["self"]
theorem scSHigh : FnScope NSHigh PSHigh (defScope sSHigh) := ⟨rfl, rfl, rfl, by decide +kernel, rfl, by decide +kernel, by decide +kernel⟩
abbrev sSHl : Stmt := (inClass (PySem.Challenge.pw_whatspeed_k08_whole_what_lies_in_a_stret.main.body.getD 10 (.Pass ⟨0, 0, 0, 0⟩)) 3)
abbrev NSHl : List Str := ["self"]
abbrev PSHl : List Str := ["self"]
theorem scSHl : FnScope NSHl PSHl (defScope sSHl) := ⟨rfl, rfl, rfl, by decide +kernel, rfl, by decide +kernel, by decide +kernel⟩
abbrev sSHh : Stmt := (inClass (PySem.Challenge.pw_whatspeed_k08_whole_what_lies_in_a_stret.main.body.getD 10 (.Pass ⟨0, 0, 0, 0⟩)) 4)
abbrev NSHh : List Str := ["self"]
abbrev PSHh : List Str := ["self"]
theorem scSHh : FnScope NSHh PSHh (defScope sSHh) := ⟨rfl, rfl, rfl, by decide +kernel, rfl, by decide +kernel, by decide +kernel⟩
abbrev sSMid : Stmt := (inClass (PySem.Challenge.pw_whatspeed_k08_whole_what_lies_in_a_stret.main.body.getD 10 (.Pass ⟨0, 0, 0, 0⟩)) 5)
abbrev NSMid : List Str := ["self"]
abbrev PSMid : List Str := ["self"]
theorem scSMid : FnScope NSMid PSMid (defScope sSMid) := ⟨rfl, rfl, rfl, by decide +kernel, rfl, by decide +kernel, by decide +kernel⟩
/-! ### what may stand at an end, what may say that it is included -/
inductive EndK where
  | num (p q : Int)
  | odd
inductive FlagK where
  | flag (b : Bool)
  | odd
def EndK.isNum : EndK → Bool
  | .num _ _ => true
  | .odd => false
def FlagK.isFlag : FlagK → Bool
  | .flag _ => true
  | .odd => false
def fineB : EndK → EndK → FlagK → FlagK → Bool
  | .num p q, .num r s, .flag b, .flag c => decide (p * s < r * q) || (decide (p * s = r * q) && (b && c))
  | _, _, _, _ => false
/-- a value that is neither a Number nor a truth -/
def OddV (K : PySem.W.Frag) (C : Addr) (H : Hp) (v : V) : Prop := (∃ t, TyX K H v t ∧ PySem.W.kitOne K t (.ref C) = some false ∧ PySem.W.kitOne K t (.type "bool") = some false) ∧ (flatB v = true ∨ ∃ a o, v = .ref a ∧ H a = some o)
def EndIs (K : PySem.W.Frag) (C : Addr) (H : Hp) (v : V) : EndK → Prop
  | .num p q => ∃ a, v = .ref a ∧ NumAt C H a p q ∧ Low p q p q ∧ Sz 40 p ∧ Sz 40 q
  | .odd => OddV K C H v
def FlagIs (K : PySem.W.Frag) (C : Addr) (H : Hp) (v : V) : FlagK → Prop
  | .flag b => v = .bl b
  | .odd => OddV K C H v
theorem EndIs.ty {K : PySem.W.Frag} {C : Addr} {H : Hp} {v : V} (NC : NumC K C) : ∀ {A : EndK}, EndIs K C H v A → ∃ t, TyX K H v t ∧ PySem.W.kitOne K t (.ref C) = some A.isNum
  | .num p q, ⟨a, e, ⟨dx, h⟩, _⟩ => by subst e; exact ⟨_, NC.ty h, NC.kk⟩
  | .odd, ⟨⟨t, h1, h2, _⟩, _⟩ => ⟨t, h1, h2⟩
theorem FlagIs.ty {K : PySem.W.Frag} {C : Addr} {H : Hp} {v : V} : ∀ {A : FlagK}, FlagIs K C H v A → ∃ t, TyX K H v t ∧ PySem.W.kitOne K t (.type "bool") = some A.isFlag
  | .flag b, e => by cases (show v = V.bl b from e); exact ⟨_, .base (.bl b), kit_self _⟩
  | .odd, ⟨⟨t, h1, _, h2⟩, _⟩ => ⟨t, h1, h2⟩
theorem tyx_same {K : PySem.W.Frag} {H H' : Hp} {v : V} {t : Value} (h : TyX K H v t) (s : ∀ a o, v = .ref a → H a = some o → H' a = some o) : TyX K H' v t := by
  cases h with
  | base h => cases h with
    | non => exact .base .non
    | bl x => exact .base (.bl x)
    | int i => exact .base (.int i)
    | str x => exact .base (.str x)
    | flt x => exact .base (.flt x)
    | lst e => exact .base (.lst (s _ _ rfl e))
    | frz e => exact .base (.frz (s _ _ rfl e))
    | tup e => exact .base (.tup (s _ _ rfl e))
    | dK e => exact .base (.dK (s _ _ rfl e))
    | dT e => exact .base (.dT (s _ _ rfl e))
    | ins e cl ha hn htk hm => exact .base (.ins (s _ _ rfl e) cl ha hn htk hm)
  | byt b => exact .byt b
  | set e => exact .set (s _ _ rfl e)
  | kList e c => exact .kList e c
  | kTuple e c => exact .kTuple e c
  | kDict e c => exact .kDict e c
  | fTuple e => exact .fTuple (s _ _ rfl e)
  | fDict e => exact .fDict (s _ _ rfl e)
theorem OddV.at {K : PySem.W.Frag} {C : Addr} {H H' : Hp} {v : V} (h : OddV K C H v) (s : ∀ a o, v = .ref a → H a = some o → H' a = some o) : OddV K C H' v := let ⟨⟨t, h1, h2⟩, h3⟩ := h; ⟨⟨t, tyx_same h1 s, h2⟩, h3.imp id fun ⟨a, o, e, q⟩ => ⟨a, o, e, s a o e q⟩⟩
theorem EndIs.at {K : PySem.W.Frag} {C : Addr} {H H' : Hp} {v : V} (s : ∀ a o, v = .ref a → H a = some o → H' a = some o) : ∀ {A : EndK}, EndIs K C H v A → EndIs K C H' v A
  | .num p q, ⟨a, e, ⟨dx, h⟩, r⟩ => ⟨a, e, ⟨dx, s _ _ e h⟩, r⟩
  | .odd, h => OddV.at h s
theorem FlagIs.at {K : PySem.W.Frag} {C : Addr} {H H' : Hp} {v : V} (s : ∀ a o, v = .ref a → H a = some o → H' a = some o) : ∀ {A : FlagK}, FlagIs K C H v A → FlagIs K C H' v A
  | .flag b, e => e
  | .odd, h => OddV.at h s
theorem EndIs.same {K : PySem.W.Frag} {C : Addr} {H H' : Hp} {v : V} {A : EndK} (h : EndIs K C H v A) (s : Same H H') : EndIs K C H' v A := EndIs.at (fun a o _ e => s a o e) h
theorem FlagIs.same {K : PySem.W.Frag} {C : Addr} {H H' : Hp} {v : V} {A : FlagK} (h : FlagIs K C H v A) (s : Same H H') : FlagIs K C H' v A := FlagIs.at (fun a o _ e => s a o e) h
/-! ### a Stretch in the heap -/
def sF (l h hl hh m : V) : List (Str × V) := [("_low", l), ("_high", h), ("_has_low", hl), ("_has_high", hh), ("_middle", m)]
def StrAt (D : Addr) (H : Hp) (a : Addr) (l h hl hh m : V) : Prop := ∃ dx, H a = some (.ins D dx (sF l h hl hh m))
theorem StrAt.same {D : Addr} {H H' : Hp} {a : Addr} {l h hl hh m : V} (z : StrAt D H a l h hl hh m) (s : Same H H') : StrAt D H' a l h hl hh m := let ⟨dx, e⟩ := z; ⟨dx, s _ _ e⟩
structure StrC (K : PySem.W.Frag) (D : Addr) : Prop where
  cl : Cls K D
  n1 : NoAttr K D "_low"
  n2 : NoAttr K D "_high"
  n3 : NoAttr K D "_has_low"
  n4 : NoAttr K D "_has_high"
  n5 : NoAttr K D "_middle"
/-- the middle -/
def MidAt (C : Addr) (H : Hp) (m : V) (A B : EndK) : Prop := ∃ a p q r s, m = .ref a ∧ A = .num p q ∧ B = .num r s ∧ NumAt C H a (nT (p * s + r * q) (2 * q * s)) (nB (p * s + r * q) (2 * q * s))
def spStr (K : PySem.W.Frag) (C D Cs : Addr) : Sp := fun vs H Q E => ∃ (x dx : Addr) (l h hl hh : V) (A B : EndK) (F G : FlagK), vs = [.ref x, l, h, hl, hh] ∧ H x = some (.ins D dx []) ∧ l ≠ .ref x ∧ h ≠ .ref x ∧ hl ≠ .ref x ∧ hh ≠ .ref x ∧ EndIs K C H l A ∧ EndIs K C H h B ∧ FlagIs K C H hl F ∧ FlagIs K C H hh G ∧
  (fineB A B F G = true → ∀ m H', StrAt D H' x l h hl hh m → MidAt C H' m A B → (∀ a o, H a = some o → a ≠ x → H' a = some o) → Q .non H') ∧
  (fineB A B F G = false → ∀ y d H', H' y = some (.tup [l, h]) → H' d = some (.xd [("value", .ref y)]) → Same H H' → E (.ref Cs) (some d) H')
def spFld (D : Addr) (g : V → V → V → V → V → V) : Sp := fun vs H Q _ => ∃ (a : Addr) (l h hl hh m : V), vs = [.ref a] ∧ StrAt D H a l h hl hh m ∧ Q (g l h hl hh m) H
section
variable {P : Program} {w : World} {K : PySem.W.Frag} {mg : Str → Option Value} {base : Heap} {C D Cs f fB : Addr} {fd fdB : FuncData}
theorem sF_1 (l h hl hh m : V) : (sF l h hl hh m).lookup ("_low" : Str) = some l := lk_here
theorem sF_2 (l h hl hh m : V) : (sF l h hl hh m).lookup ("_high" : Str) = some h := (lk_past (by decide +kernel)).trans lk_here
theorem sF_3 (l h hl hh m : V) : (sF l h hl hh m).lookup ("_has_low" : Str) = some hl := (lk_past (by decide +kernel)).trans ((lk_past (by decide +kernel)).trans lk_here)
theorem sF_4 (l h hl hh m : V) : (sF l h hl hh m).lookup ("_has_high" : Str) = some hh := (lk_past (by decide +kernel)).trans ((lk_past (by decide +kernel)).trans ((lk_past (by decide +kernel)).trans lk_here))
theorem sF_5 (l h hl hh m : V) : (sF l h hl hh m).lookup ("_middle" : Str) = some m := (lk_past (by decide +kernel)).trans ((lk_past (by decide +kernel)).trans ((lk_past (by decide +kernel)).trans ((lk_past (by decide +kernel)).trans lk_here)))
theorem ok_slow (F : L2.Fun K "low" "Stretch.low" sSLow f fd) (b : Binds K fd PSLow []) (SC : StrC K D) : FnR P w K mg base CX0 1 f (spFld D fun l _ _ _ _ => l) := by
  refine fnR_of F b scSLow (fun vs H Q E h => ?_) (fun cdv A outer s H vs Q E hr h => ?_)
  · obtain ⟨a, l, h, hl, hh, m, rfl, _⟩ := h
    rfl
  · have sc := scSLow
    obtain ⟨a, l, h, hl, hh, m, rfl, ⟨dx, e⟩, k⟩ := h
    refine ⟨_, (pss_one (ps_ret (pe_fld (pv 0) rfl))), ?_⟩
    exact ⟨_, rfl, a, D, dx, _, _, rfl, e, SC.cl, SC.n1, sF_1 _ _ _ _ _, k⟩
theorem ok_shigh (F : L2.Fun K "high" "Stretch.high" sSHigh f fd) (b : Binds K fd PSHigh []) (SC : StrC K D) : FnR P w K mg base CX0 1 f (spFld D fun _ h _ _ _ => h) := by
  refine fnR_of F b scSHigh (fun vs H Q E h => ?_) (fun cdv A outer s H vs Q E hr h => ?_)
  · obtain ⟨a, l, h, hl, hh, m, rfl, _⟩ := h
    rfl
  · have sc := scSHigh
    obtain ⟨a, l, h, hl, hh, m, rfl, ⟨dx, e⟩, k⟩ := h
    refine ⟨_, (pss_one (ps_ret (pe_fld (pv 0) rfl))), ?_⟩
    exact ⟨_, rfl, a, D, dx, _, _, rfl, e, SC.cl, SC.n2, sF_2 _ _ _ _ _, k⟩
theorem ok_shl (F : L2.Fun K "has_low" "Stretch.has_low" sSHl f fd) (b : Binds K fd PSHl []) (SC : StrC K D) : FnR P w K mg base CX0 1 f (spFld D fun _ _ hl _ _ => hl) := by
  refine fnR_of F b scSHl (fun vs H Q E h => ?_) (fun cdv A outer s H vs Q E hr h => ?_)
  · obtain ⟨a, l, h, hl, hh, m, rfl, _⟩ := h
    rfl
  · have sc := scSHl
    obtain ⟨a, l, h, hl, hh, m, rfl, ⟨dx, e⟩, k⟩ := h
    refine ⟨_, (pss_one (ps_ret (pe_fld (pv 0) rfl))), ?_⟩
    exact ⟨_, rfl, a, D, dx, _, _, rfl, e, SC.cl, SC.n3, sF_3 _ _ _ _ _, k⟩
theorem ok_shh (F : L2.Fun K "has_high" "Stretch.has_high" sSHh f fd) (b : Binds K fd PSHh []) (SC : StrC K D) : FnR P w K mg base CX0 1 f (spFld D fun _ _ _ hh _ => hh) := by
  refine fnR_of F b scSHh (fun vs H Q E h => ?_) (fun cdv A outer s H vs Q E hr h => ?_)
  · obtain ⟨a, l, h, hl, hh, m, rfl, _⟩ := h
    rfl
  · have sc := scSHh
    obtain ⟨a, l, h, hl, hh, m, rfl, ⟨dx, e⟩, k⟩ := h
    refine ⟨_, (pss_one (ps_ret (pe_fld (pv 0) rfl))), ?_⟩
    exact ⟨_, rfl, a, D, dx, _, _, rfl, e, SC.cl, SC.n4, sF_4 _ _ _ _ _, k⟩
theorem ok_smid (F : L2.Fun K "middle" "Stretch.middle" sSMid f fd) (b : Binds K fd PSMid []) (SC : StrC K D) : FnR P w K mg base CX0 1 f (spFld D fun _ _ _ _ m => m) := by
  refine fnR_of F b scSMid (fun vs H Q E h => ?_) (fun cdv A outer s H vs Q E hr h => ?_)
  · obtain ⟨a, l, h, hl, hh, m, rfl, _⟩ := h
    rfl
  · have sc := scSMid
    obtain ⟨a, l, h, hl, hh, m, rfl, ⟨dx, e⟩, k⟩ := h
    refine ⟨_, (pss_one (ps_ret (pe_fld (pv 0) rfl))), ?_⟩
    exact ⟨_, rfl, a, D, dx, _, _, rfl, e, SC.cl, SC.n5, sF_5 _ _ _ _ _, k⟩
theorem put4 {H : Hp} {x a : Addr} {o o1 o2 o3 o4 : HO} (n : a ≠ x) (e : H a = some o) : upd (upd (upd (upd H x o1) x o2) x o3) x o4 a = some o := (upd_ne n).trans ((upd_ne n).trans ((upd_ne n).trans ((upd_ne n).trans e)))
theorem sF_put {l h hl hh m : V} : putF "_middle" m (putF "_has_high" hh (putF "_has_low" hl (putF "_high" h (putF "_low" l [])))) = sF l h hl hh m := by
  have p0 : putF "_low" l [] = [(("_low" : Str), l)] := rfl
  have p1 : putF "_high" h [(("_low" : Str), l)] = [(("_low" : Str), l), (("_high" : Str), h)] := (put_past (by decide +kernel)).trans rfl
  have p2 : putF "_has_low" hl [(("_low" : Str), l), (("_high" : Str), h)] = [(("_low" : Str), l), (("_high" : Str), h), (("_has_low" : Str), hl)] := (put_past (by decide +kernel)).trans (congrArg (List.cons _) ((put_past (by decide +kernel)).trans rfl))
  have p3 : putF "_has_high" hh [(("_low" : Str), l), (("_high" : Str), h), (("_has_low" : Str), hl)] = [(("_low" : Str), l), (("_high" : Str), h), (("_has_low" : Str), hl), (("_has_high" : Str), hh)] := (put_past (by decide +kernel)).trans (congrArg (List.cons _) ((put_past (by decide +kernel)).trans (congrArg (List.cons _) ((put_past (by decide +kernel)).trans rfl))))
  have p4 : putF "_middle" m [(("_low" : Str), l), (("_high" : Str), h), (("_has_low" : Str), hl), (("_has_high" : Str), hh)] = sF l h hl hh m := (put_past (by decide +kernel)).trans (congrArg (List.cons _) ((put_past (by decide +kernel)).trans (congrArg (List.cons _) ((put_past (by decide +kernel)).trans (congrArg (List.cons _) ((put_past (by decide +kernel)).trans rfl))))))
  rw [p0, p1, p2, p3, p4]
theorem mid_eq {u v p q r s : Int} (hq : 0 < q) (hs : 0 < s) (h : Low (p * s + r * q) (q * s) u v) : nT (u * nT 1 2) (v * nB 1 2) = nT (p * s + r * q) (2 * q * s) ∧ nB (u * nT 1 2) (v * nB 1 2) = nB (p * s + r * q) (2 * q * s) := by
  have e1 : nT 1 2 = 1 := by decide
  have e2 : nB 1 2 = 2 := by decide
  have c := h.cross
  have v0 := h.pos
  have qs : q * s ≠ 0 := Int.mul_ne_zero (by omega) (by omega)
  rw [e1, e2]
  refine nf_eq (by omega) (by rw [Int.mul_assoc]; omega) ?_
  grind
theorem ok_str {dvs : List V} {kvs : List (Str × V)} (F : FunD K "__init__" "Stretch.__init__" (defArgs sSInit) (defBody sSInit) (defScope sSInit) dvs kvs f fd) (B : Bi mg) (NC : NumC K C) (SC : StrC K D) (gN : mg "Number" = some (.ref C)) (gS : mg "BadStretch" = some (.ref Cs))
    (mN : MakF P w K mg base 2 "Number" C (spNum C)) (oA : OpnF P w K mg base 4 C (PySem.dunder Operator.Add.info.2) (spAdd C)) (oM : OpnF P w K mg base 4 C (PySem.dunder Operator.Mult.info.2) (spMul C)) (oE : OpnF P w K mg base 1 C "__eq__" (spNEq C)) (tL : MetF P w K mg base 1 C "is_less" (spLess C))
    (TE : OexC K Cs) (iB : PySem.W.findIn K (.ref Cs) "__init__" = some (some (.ref fB))) (tB : PySem.W.typeIn K (.ref fB) = some (.type "function")) (GB : FnOk P w K mg base CX0 1 fB fdB PErrN (spErr Cs)) (bB : Binds K fdB PErrN []) :
    FnOk P w K mg base (L2.CX P w) 5 f fd PSInit (spStr K C D Cs) := by
  refine F.ok scSInit (fun vs H Q E h => ?_) (fun cdv A0 outer s H vs Q E hr h => ?_)
  · obtain ⟨x, dx, l, h, hl, hh, A, B, F, G, rfl, _⟩ := h
    rfl
  · have sc := scSInit
    obtain ⟨x, dx, l, h, hl, hh, A, B', F, G, rfl, hx, nl, nh, nhl, nhh, iA, iB', iF, iG, k1, k2⟩ := h
    have rest : ∃ t, PSs (cxOf (L2.CX P w) P w K mg base NSInit "Stretch.__init__" (defScope sSInit) f cdv A0 outer s H E) (List.drop 3 (defBody sSInit)) t ∧ ∀ (a1 a2 : Addr) (p q r s' : Int) (b1 b2 : Bool), l = .ref a1 → h = .ref a2 → A = .num p q → B' = .num r s' → F = .flag b1 → G = .flag b2 →
        NumAt C H a1 p q → NumAt C H a2 r s' → Low p q p q → Low r s' r s' → Sz 40 p → Sz 40 q → Sz 40 r → Sz 40 s' → fineB A B' F G = true →
        t { nx := fun _ H' => Q .non H', rt := Q } [some (.ref x), some l, some h, some hl, some hh] H := by
      refine ⟨_, (pss_cons (ps_fld (pv 0) (pv 1) rfl) (pss_cons (ps_fld (pv 0) (pv 2) rfl) (pss_cons (ps_fld (pv 0) (pv 3) rfl) (pss_cons (ps_fld (pv 0) (pv 4) rfl) (pss_one (ps_fld (pv 0) (pe_op (op_own oM NC.sf hr (by decide)) (pe_op (op_own oA NC.sf hr (by decide)) (pv 1) (pv 2)) (pe_mk mN hr (by decide) rfl (pa_cons pe_int (pa_cons pe_int pa_nil)))) rfl)))))), ?_⟩
      rintro a1 a2 p q r s' b1 b2 rfl rfl rfl rfl rfl rfl N1 N2 l1 l2 zp zq zr zs fine
      obtain ⟨d1, e1⟩ := N1
      obtain ⟨d2, e2⟩ := N2
      have n1 : a1 ≠ x := fun z => nl (by rw [z])
      have n2 : a2 ≠ x := fun z => nh (by rw [z])
      have q0 := l1.pos
      have s0 := l2.pos
      have qs : q * s' ≠ 0 := Int.mul_ne_zero (by omega) (by omega)
      refine ⟨_, rfl, _, rfl, x, D, dx, [], rfl, hx, SC.cl, SC.n1, (by show 0 < 1000; decide), ?_⟩
      refine ⟨_, rfl, _, rfl, x, D, dx, _, rfl, upd_same, SC.cl, SC.n2, (by show 1 < 1000; decide), ?_⟩
      refine ⟨_, rfl, _, rfl, x, D, dx, _, rfl, upd_same, SC.cl, SC.n3, (by show 2 < 1000; decide), ?_⟩
      refine ⟨_, rfl, _, rfl, x, D, dx, _, rfl, upd_same, SC.cl, SC.n4, (by show 3 < 1000; decide), ?_⟩
      refine ⟨_, rfl, _, rfl, a1, d1, _, a2, d2, _, rfl, put4 n1 e1, rfl, put4 n2 e2, a1, a2, p, q, r, s', rfl, ⟨d1, put4 n1 e1⟩, ⟨d2, put4 n2 e2⟩, zp.mono (by decide), zq.mono (by decide), zr.mono (by decide), zs.mono (by decide), qs, fun u H6 nu hu j6 => ?_⟩
      intro y dy ny ndy ne
      refine ⟨y, dy, 1, 2, rfl, by decide, (show Sz 2 2 from by unfold Sz; decide).mono (by decide), upd_same, fun H7 h7 k7 => ⟨rfl, ?_⟩⟩
      have j7 : Same H6 H7 := Same.mk ny ndy k7
      have lu := nf_low (t := p * s' + r * q) qs
      have zu : Sz 100 (nT (p * s' + r * q) (q * s')) := (Sz.nT qs ((zp.mul zs).add (zr.mul zq))).mono (by decide)
      have zv : Sz 100 (nB (p * s' + r * q) (q * s')) := (Sz.nB qs (zq.mul zs)).mono (by decide)
      have em := mid_eq q0 s0 lu
      have hv : nB (p * s' + r * q) (q * s') * nB 1 2 ≠ 0 := Int.mul_ne_zero (by have := lu.pos; omega) (by decide)
      obtain ⟨du, eu⟩ := hu
      obtain ⟨dy', ey⟩ := h7
      refine ⟨u, du, _, y, dy', _, rfl, j7 _ _ eu, rfl, ey, u, y, _, _, _, _, rfl, ⟨du, j7 _ _ eu⟩, ⟨dy', ey⟩, zu.mono (by decide), zv.mono (by decide), (show Sz 2 (nT 1 2) from by unfold Sz; decide).mono (by decide), (show Sz 2 (nB 1 2) from by unfold Sz; decide).mono (by decide), hv, fun m H8 nm hm j8 => ?_⟩
      have j68 := (j6.trans j7).trans j8
      refine ⟨_, rfl, x, D, dx, _, rfl, j68 _ _ upd_same, SC.cl, SC.n5, (by show 4 < 1000; decide), ?_⟩
      rw [em.1, em.2] at hm
      have nmx : m ≠ x := fun z => by have := j68 _ _ upd_same; rw [z] at nm; rw [(j6.trans j7) _ _ upd_same] at nm; cases nm
      refine k1 fine (.ref m) _ ⟨dx, upd_same.trans ?_⟩ ⟨m, p, q, r, s', rfl, rfl, rfl, ?_⟩ fun a o e n => (upd_ne n).trans (j68 _ _ (put4 n e))
      · rw [sF_put]
      · obtain ⟨dm, em'⟩ := hm
        exact ⟨dm, (upd_ne nmx).trans em'⟩
    obtain ⟨t, hbody, ht⟩ := rest
    refine ⟨_, (pss_cons (ps_if (PW.pt (pw_or (pt_not (pt_val (pe_callB call_isi (by rfl) B.isinstance (by decide +kernel) (pa_cons (pv 1) (pa_cons (pe_glob (v := .ref C) rfl gN rfl) pa_nil))))) (pw_or1 (pt_not (pt_val (pe_callB call_isi (by rfl) B.isinstance (by decide +kernel) (pa_cons (pv 2) (pa_cons (pe_glob (v := .ref C) rfl gN rfl) pa_nil)))))))) (pss_one (ps_raise rfl (takes_of rfl rfl rfl rfl) (pmk_oex TE iB tB GB (hr.mono (by decide)) bB .nil pass0 rfl gS (pa_cons (pe_tup (pa_cons (pv 1) (pa_cons (pv 2) pa_nil))) pa_nil)))) pss_nil) (pss_cons (ps_if (PW.pt (pw_or (pt_not (pt_val (pe_callB call_isi (by rfl) B.isinstance (by decide +kernel) (pa_cons (pv 3) (pa_cons (pe_bltn (v := .ty "bool") (by rfl) B.bool (by decide +kernel) rfl) pa_nil))))) (pw_or1 (pt_not (pt_val (pe_callB call_isi (by rfl) B.isinstance (by decide +kernel) (pa_cons (pv 4) (pa_cons (pe_bltn (v := .ty "bool") (by rfl) B.bool (by decide +kernel) rfl) pa_nil)))))))) (pss_one (ps_raise rfl (takes_of rfl rfl rfl rfl) (pmk_oex TE iB tB GB (hr.mono (by decide)) bB .nil pass0 rfl gS (pa_cons (pe_tup (pa_cons (pv 1) (pa_cons (pv 2) pa_nil))) pa_nil)))) pss_nil) (pss_cons (ps_if (PW.pt (pw_or (pt_val (pe_mt tL hr (by decide) (pv 2) (pa_cons (pv 1) pa_nil))) (pw_or1 (PW.pt (pw_and (pt_cmpR (show OpR _ _ (rEqO K C (spNEq C)) from op_eqO oE hr (by decide)) (pv 1) (pv 2) (nomark _)) (pw_and1 (pt_not (PW.pt (pw_and (pt_val (pv 3)) (pw_and1 (pt_val (pv 4)))))))))))) (pss_one (ps_raise rfl (takes_of rfl rfl rfl rfl) (pmk_oex TE iB tB GB (hr.mono (by decide)) bB .nil pass0 rfl gS (pa_cons (pe_tup (pa_cons (pv 1) (pa_cons (pv 2) pa_nil))) pa_nil)))) pss_nil) hbody))), ?_⟩
    obtain ⟨tA, yA, kA⟩ := iA.ty NC
    obtain ⟨tB', yB, kB⟩ := iB'.ty NC
    obtain ⟨tF, yF, kF⟩ := iF.ty
    obtain ⟨tG, yG, kG⟩ := iG.ty
    cases A with
    | odd =>
      refine ⟨_, rfl, _, _, _, _, false, rfl, .own C, yA, kA, false, rfl, iteT ?_⟩
      (refine ⟨_, rfl, _, rfl, by show 2 ≤ sizeLine; decide, fun y ny => ⟨by show 1 ≤ 1000; decide, fun e ne => ⟨e, _, rfl, upd_same, fun d nd hde => ?_⟩⟩⟩; have j := Same.new (o := .tup [l, h]) ny; have ey := upd_same (H := H) (a := y) (o := .tup [l, h]); generalize upd H y (.tup [l, h]) = H1 at *; have nd1 : H1 d = none := (by rw [upd_ne hde] at nd; exact nd); have sm := err_same (C := Cs) (v := .ref y) ne nd1; refine ⟨rfl, d, _, upd_same, (upd_ne hde).trans upd_same, nd1, ?_⟩; exact k2 rfl y d _ (sm _ _ ey) upd_same (j.trans sm))
    | num p q =>
      refine ⟨_, rfl, _, _, _, _, true, rfl, .own C, yA, kA, true, rfl, iteF ?_⟩
      cases B' with
      | odd =>
        refine ⟨_, rfl, _, _, _, _, false, rfl, .own C, yB, kB, false, rfl, iteT ?_⟩
        (refine ⟨_, rfl, _, rfl, by show 2 ≤ sizeLine; decide, fun y ny => ⟨by show 1 ≤ 1000; decide, fun e ne => ⟨e, _, rfl, upd_same, fun d nd hde => ?_⟩⟩⟩; have j := Same.new (o := .tup [l, h]) ny; have ey := upd_same (H := H) (a := y) (o := .tup [l, h]); generalize upd H y (.tup [l, h]) = H1 at *; have nd1 : H1 d = none := (by rw [upd_ne hde] at nd; exact nd); have sm := err_same (C := Cs) (v := .ref y) ne nd1; refine ⟨rfl, d, _, upd_same, (upd_ne hde).trans upd_same, nd1, ?_⟩; exact k2 rfl y d _ (sm _ _ ey) upd_same (j.trans sm))
      | num r s' =>
        refine ⟨_, rfl, _, _, _, _, true, rfl, .own C, yB, kB, true, rfl, iteF ?_⟩
        cases F with
        | odd =>
          refine ⟨_, rfl, _, _, _, _, false, rfl, .ty _, yF, kF, false, rfl, iteT ?_⟩
          (refine ⟨_, rfl, _, rfl, by show 2 ≤ sizeLine; decide, fun y ny => ⟨by show 1 ≤ 1000; decide, fun e ne => ⟨e, _, rfl, upd_same, fun d nd hde => ?_⟩⟩⟩; have j := Same.new (o := .tup [l, h]) ny; have ey := upd_same (H := H) (a := y) (o := .tup [l, h]); generalize upd H y (.tup [l, h]) = H1 at *; have nd1 : H1 d = none := (by rw [upd_ne hde] at nd; exact nd); have sm := err_same (C := Cs) (v := .ref y) ne nd1; refine ⟨rfl, d, _, upd_same, (upd_ne hde).trans upd_same, nd1, ?_⟩; exact k2 rfl y d _ (sm _ _ ey) upd_same (j.trans sm))
        | flag b1 =>
          refine ⟨_, rfl, _, _, _, _, true, rfl, .ty _, yF, kF, true, rfl, iteF ?_⟩
          cases G with
          | odd =>
            refine ⟨_, rfl, _, _, _, _, false, rfl, .ty _, yG, kG, false, rfl, iteT ?_⟩
            (refine ⟨_, rfl, _, rfl, by show 2 ≤ sizeLine; decide, fun y ny => ⟨by show 1 ≤ 1000; decide, fun e ne => ⟨e, _, rfl, upd_same, fun d nd hde => ?_⟩⟩⟩; have j := Same.new (o := .tup [l, h]) ny; have ey := upd_same (H := H) (a := y) (o := .tup [l, h]); generalize upd H y (.tup [l, h]) = H1 at *; have nd1 : H1 d = none := (by rw [upd_ne hde] at nd; exact nd); have sm := err_same (C := Cs) (v := .ref y) ne nd1; refine ⟨rfl, d, _, upd_same, (upd_ne hde).trans upd_same, nd1, ?_⟩; exact k2 rfl y d _ (sm _ _ ey) upd_same (j.trans sm))
          | flag b2 =>
            refine ⟨_, rfl, _, _, _, _, true, rfl, .ty _, yG, kG, true, rfl, iteF ?_⟩
            obtain ⟨a1, rfl, N1, l1, zp, zq⟩ := iA
            obtain ⟨a2, rfl, N2, l2, zr, zs⟩ := iB'
            obtain ⟨d1, e1⟩ := N1
            obtain ⟨d2, e2⟩ := N2
            have N1 : NumAt C H a1 p q := ⟨d1, e1⟩
            have N2 : NumAt C H a2 r s' := ⟨d2, e2⟩
            refine ⟨_, rfl, a2, d2, _, rfl, e2, rfl, _, rfl, a2, a1, r, s', p, q, rfl, N2, N1, zr.mono (by decide), zs.mono (by decide), zp.mono (by decide), zq.mono (by decide), _, rfl, ?_⟩
            have iF : hl = .bl b1 := iF
            have iG : hh = .bl b2 := iG
            subst iF iG
            have fine0 : fineB (.num p q) (.num r s') (.flag b1) (.flag b2) = (decide (p * s' < r * q) || (decide (p * s' = r * q) && (b1 && b2))) := rfl
            refine if2 (fun hlt => ?_) (fun hlt => ?_)
            · have hlt := of_decide_eq_true hlt
              have ff : fineB (.num p q) (.num r s') (.flag b1) (.flag b2) = false := by
                rw [fine0, decide_eq_false (by omega), decide_eq_false (by omega)]
                rfl
              (refine ⟨_, rfl, _, rfl, by show 2 ≤ sizeLine; decide, fun y ny => ⟨by show 1 ≤ 1000; decide, fun e ne => ⟨e, _, rfl, upd_same, fun d nd hde => ?_⟩⟩⟩; have j := Same.new (o := .tup [.ref a1, .ref a2]) ny; have ey := upd_same (H := H) (a := y) (o := .tup [.ref a1, .ref a2]); generalize upd H y (.tup [.ref a1, .ref a2]) = H1 at *; have nd1 : H1 d = none := (by rw [upd_ne hde] at nd; exact nd); have sm := err_same (C := Cs) (v := .ref y) ne nd1; refine ⟨rfl, d, _, upd_same, (upd_ne hde).trans upd_same, nd1, ?_⟩; exact k2 ff y d _ (sm _ _ ey) upd_same (j.trans sm))
            · have hlt := of_decide_eq_false hlt
              refine ⟨_, rfl, _, rfl, a1, d1, _, _, rfl, e1, .ins e2, NC.nf, a1, a2, p, q, r, s', rfl, N1, N2, _, rfl, ?_⟩
              refine if2 (fun heq => ?_) (fun hne => ?_)
              · obtain ⟨rfl, rfl⟩ := of_decide_eq_true heq
                cases b1 with
                | false =>
                  refine ⟨_, rfl, _, rfl, ifF rfl (ifT rfl ?_)⟩
                  have ff : fineB (.num p q) (.num p q) (.flag false) (.flag b2) = false := by
                    rw [fine0, decide_eq_false (by omega)]
                    simp
                  (refine ⟨_, rfl, _, rfl, by show 2 ≤ sizeLine; decide, fun y ny => ⟨by show 1 ≤ 1000; decide, fun e ne => ⟨e, _, rfl, upd_same, fun d nd hde => ?_⟩⟩⟩; have j := Same.new (o := .tup [.ref a1, .ref a2]) ny; have ey := upd_same (H := H) (a := y) (o := .tup [.ref a1, .ref a2]); generalize upd H y (.tup [.ref a1, .ref a2]) = H1 at *; have nd1 : H1 d = none := (by rw [upd_ne hde] at nd; exact nd); have sm := err_same (C := Cs) (v := .ref y) ne nd1; refine ⟨rfl, d, _, upd_same, (upd_ne hde).trans upd_same, nd1, ?_⟩; exact k2 ff y d _ (sm _ _ ey) upd_same (j.trans sm))
                | true =>
                  refine ⟨_, rfl, _, rfl, ifT rfl ⟨_, rfl, _, rfl, ?_⟩⟩
                  cases b2 with
                  | false =>
                    refine ifT rfl ?_
                    have ff : fineB (.num p q) (.num p q) (.flag true) (.flag false) = false := by
                      rw [fine0, decide_eq_false (by omega)]
                      simp
                    (refine ⟨_, rfl, _, rfl, by show 2 ≤ sizeLine; decide, fun y ny => ⟨by show 1 ≤ 1000; decide, fun e ne => ⟨e, _, rfl, upd_same, fun d nd hde => ?_⟩⟩⟩; have j := Same.new (o := .tup [.ref a1, .ref a2]) ny; have ey := upd_same (H := H) (a := y) (o := .tup [.ref a1, .ref a2]); generalize upd H y (.tup [.ref a1, .ref a2]) = H1 at *; have nd1 : H1 d = none := (by rw [upd_ne hde] at nd; exact nd); have sm := err_same (C := Cs) (v := .ref y) ne nd1; refine ⟨rfl, d, _, upd_same, (upd_ne hde).trans upd_same, nd1, ?_⟩; exact k2 ff y d _ (sm _ _ ey) upd_same (j.trans sm))
                  | true =>
                    refine ifF rfl ?_
                    exact ht a1 a2 p q p q true true rfl rfl rfl rfl rfl rfl N1 N2 l1 l2 zp zq zr zs (by rw [fine0]; simp)
              · refine ifF rfl ?_
                refine ht a1 a2 p q r s' b1 b2 rfl rfl rfl rfl rfl rfl N1 N2 l1 l2 zp zq zr zs ?_
                have hne := of_decide_eq_false hne
                have : p * s' ≠ r * q := fun z => hne (low_uniq z l1.pos l2.pos l1.cop l2.cop)
                rw [fine0, decide_eq_true (by omega)]
                rfl
end
end Ws

namespace Ws
open PySem PySem.Spec PyProof.Rows L2
abbrev sLine : Stmt := (inClass (PySem.Challenge.pw_whatspeed_k08_whole_what_lies_in_a_stret.main.body.getD 9 (.Pass ⟨0, 0, 0, 0⟩)) 0)
abbrev NLine : List Str := ["self", "base", "slope"]
abbrev PLine : List Str := ["self", "base", "slope"]
theorem scLine : FnScope NLine PLine (defScope sLine) := ⟨rfl, rfl, rfl, by decide +kernel, rfl, by decide +kernel, by decide +kernel⟩
abbrev sLCall : Stmt := (inClass (PySem.Challenge.pw_whatspeed_k08_whole_what_lies_in_a_stret.main.body.getD 9 (.Pass ⟨0, 0, 0, 0⟩)) 3)
abbrev NLCall : List Str := ["self", "s"]
abbrev PLCall : List Str := ["self", "s"]
theorem scLCall : FnScope NLCall PLCall (defScope sLCall) := ⟨rfl, rfl, rfl, by decide +kernel, rfl, by decide +kernel, by decide +kernel⟩
abbrev sLBase : Stmt := (inClass (PySem.Challenge.pw_whatspeed_k08_whole_what_lies_in_a_stret.main.body.getD 9 (.Pass ⟨0, 0, 0, 0⟩)) 1)
abbrev NLBase : List Str := ["self"]
abbrev PLBase : List Str := ["self"]
theorem scLBase : FnScope NLBase PLBase (defScope sLBase) := ⟨rfl, rfl, rfl, by decide +kernel, rfl, by decide +kernel, by decide +kernel⟩
abbrev sLSlope : Stmt := (inClass (PySem.Challenge.pw_whatspeed_k08_whole_what_lies_in_a_stret.main.body.getD 9 (.Pass ⟨0, 0, 0, 0⟩)) 2)
abbrev NLSlope : List Str := ["self"]
abbrev PLSlope : List Str := ["self"]
theorem scLSlope : FnScope NLSlope PLSlope (defScope sLSlope) := ⟨rfl, rfl, rfl, by decide +kernel, rfl, by decide +kernel, by decide +kernel⟩
abbrev sLEq : Stmt := (inClass (PySem.Challenge.pw_whatspeed_k08_whole_what_lies_in_a_stret.main.body.getD 9 (.Pass ⟨0, 0, 0, 0⟩)) 4)
abbrev NLEq : List Str := ["self", "other"]
abbrev PLEq : List Str := ["self", "other"]
theorem scLEq : FnScope NLEq PLEq (defScope sLEq) := ⟨rfl, rfl, rfl, by decide +kernel, rfl, by decide +kernel, by decide +kernel⟩
abbrev sLAdd : Stmt := (inClass (PySem.Challenge.pw_whatspeed_k08_whole_what_lies_in_a_stret.main.body.getD 9 (.Pass ⟨0, 0, 0, 0⟩)) 5)
abbrev NLAdd : List Str := ["self", "other"]
abbrev PLAdd : List Str := ["self", "other"]
theorem scLAdd : FnScope NLAdd PLAdd (defScope sLAdd) := ⟨rfl, rfl, rfl, by decide +kernel, rfl, by decide +kernel, by decide +kernel⟩
abbrev sLSub : Stmt := (inClass (PySem.Challenge.pw_whatspeed_k08_whole_what_lies_in_a_stret.main.body.getD 9 (.Pass ⟨0, 0, 0, 0⟩)) 6)
abbrev NLSub : List Str := ["self", "other"]
abbrev PLSub : List Str := ["self", "other"]
theorem scLSub : FnScope NLSub PLSub (defScope sLSub) := ⟨rfl, rfl, rfl, by decide +kernel, rfl, by decide +kernel, by decide +kernel⟩
def lF (a c : Addr) : List (Str × V) := [("_base", .ref a), ("_slope", .ref c)]
def LineAt (D : Addr) (H : Hp) (l a c : Addr) : Prop := ∃ dx, H l = some (.ins D dx (lF a c))
theorem lF_base (a c : Addr) : (lF a c).lookup ("_base" : Str) = some (.ref a) := lk_here
theorem lF_slope (a c : Addr) : (lF a c).lookup ("_slope" : Str) = some (.ref c) := (lk_past (by decide +kernel)).trans lk_here
theorem LineAt.same {D : Addr} {H H' : Hp} {l a c : Addr} (h : LineAt D H l a c) (s : Same H H') : LineAt D H' l a c := let ⟨dx, e⟩ := h; ⟨dx, s _ _ e⟩
structure LineC (K : PySem.W.Frag) (D : Addr) : Prop where
  cl : Cls K D
  nA : NoAttr K D "_base"
  nS : NoAttr K D "_slope"
/-- a Number that is the fraction t / b, reduced, of less than n bits -/
def NumV (C : Addr) (H : Hp) (a : Addr) (n : Nat) (t b : Int) : Prop := ∃ p q, NumAt C H a p q ∧ Low t b p q ∧ Sz n p ∧ Sz n q
theorem NumV.same {C : Addr} {H H' : Hp} {a : Addr} {n : Nat} {t b : Int} (h : NumV C H a n t b) (s : Same H H') : NumV C H' a n t b := let ⟨p, q, e, r⟩ := h; ⟨p, q, e.same s, r⟩
theorem NumV.mono {C : Addr} {H : Hp} {a : Addr} {n m : Nat} {t b : Int} (h : NumV C H a n t b) (l : n ≤ m) : NumV C H a m t b := let ⟨p, q, e, r, z1, z2⟩ := h; ⟨p, q, e, r, z1.mono l, z2.mono l⟩
theorem NumV.ins {C : Addr} {H : Hp} {a : Addr} {n : Nat} {t b : Int} (h : NumV C H a n t b) : ∃ dx fs, H a = some (.ins C dx fs) := let ⟨_, _, ⟨dx, e⟩, _⟩ := h; ⟨dx, _, e⟩
def spLine (D : Addr) : Sp := fun vs H Q _ => ∃ (x dx a c : Addr), vs = [.ref x, .ref a, .ref c] ∧ H x = some (.ins D dx []) ∧ ∀ H', LineAt D H' x a c → (∀ u o, H u = some o → u ≠ x → H' u = some o) → Q .non H'
def spLCall (C D : Addr) : Sp := fun vs H Q _ => ∃ (l a c z : Addr) (t b p q m n : Int), vs = [.ref l, .ref z] ∧ LineAt D H l a c ∧ NumV C H a 400 t b ∧ NumV C H c 400 p q ∧ NumV C H z 400 m n ∧ b ≠ 0 ∧ q ≠ 0 ∧ n ≠ 0 ∧
  ∀ x H', H x = none → NumV C H' x 2000 (t * (q * n) + p * m * b) (b * (q * n)) → Same H H' → Q (.ref x) H'
/-- an operator over two fractions in lowest terms -/
theorem op2_of {C : Addr} {f g : Int → Int → Int → Int → Int} {H : Hp} {a c : Addr} {Q : VK} {E : XK} {na nc : Nat} {t b p q : Int} (h1 : NumV C H a na t b) (h2 : NumV C H c nc p q) (za : na ≤ 2000) (zc : nc ≤ 2000) (hg : ∀ t' b' p' q', Low t b t' b' → Low p q p' q' → g t' b' p' q' ≠ 0)
    (k : ∀ t' b' p' q' x H', Low t b t' b' → Low p q p' q' → Sz na t' → Sz na b' → Sz nc p' → Sz nc q' → H x = none → NumAt C H' x (nT (f t' b' p' q') (g t' b' p' q')) (nB (f t' b' p' q') (g t' b' p' q')) → Same H H' → Q (.ref x) H') : spOp2 C f g [.ref a, .ref c] H Q E := by
  obtain ⟨t', b', e1, l1, z1, z2⟩ := h1
  obtain ⟨p', q', e2, l2, z3, z4⟩ := h2
  exact ⟨a, c, t', b', p', q', rfl, e1, e2, z1.mono za, z2.mono za, z3.mono zc, z4.mono zc, hg _ _ _ _ l1 l2, fun x H' nx hx s => k t' b' p' q' x H' l1 l2 z1 z2 z3 z4 nx hx s⟩
/-- the fields' getters -/
def spLBase (D : Addr) : Sp := fun vs H Q _ => ∃ l a c : Addr, vs = [.ref l] ∧ LineAt D H l a c ∧ Q (.ref a) H
def spLSlope (D : Addr) : Sp := fun vs H Q _ => ∃ l a c : Addr, vs = [.ref l] ∧ LineAt D H l a c ∧ Q (.ref c) H
/-- == of lines; with what is no line it is False -/
def spLEq (K : PySem.W.Frag) (C D : Addr) : Sp := fun vs H Q _ => ∃ (l a c : Addr) (y : V) (t b p q : Int), vs = [.ref l, y] ∧ LineAt D H l a c ∧ NumAt C H a t b ∧ NumAt C H c p q ∧
  ((∃ (m a' c' : Addr) (t' b' p' q' : Int), y = .ref m ∧ LineAt D H m a' c' ∧ NumAt C H a' t' b' ∧ NumAt C H c' p' q' ∧ Q (.bl (decide ((t = t' ∧ b = b') ∧ (p = p' ∧ q = q')))) H) ∨ (∃ ty : Value, TyX K H y ty ∧ PySem.W.kitOne K ty (.ref D) = some false ∧ Q (.bl false) H))
def spLOp (C D : Addr) (sg : Int) : Sp := fun vs H Q _ => ∃ (l m a c a' c' : Addr) (t b p q t' b' p' q' : Int), vs = [.ref l, .ref m] ∧ LineAt D H l a c ∧ LineAt D H m a' c' ∧ NumV C H a 180 t b ∧ NumV C H c 180 p q ∧ NumV C H a' 180 t' b' ∧ NumV C H c' 180 p' q' ∧ b ≠ 0 ∧ q ≠ 0 ∧ b' ≠ 0 ∧ q' ≠ 0 ∧
  ∀ x u v H', H x = none → LineAt D H' x u v → NumV C H' u 400 (t * b' + sg * t' * b) (b * b') → NumV C H' v 400 (p * q' + sg * p' * q) (q * q') → Same H H' → Q (.ref x) H'
/-- what the class Line must be, to be told from others -/
structure LineT (K : PySem.W.Frag) (D : Addr) : Prop where
  ha : PySem.W.findIn K (.ref D) "__class__" = some (some (.builtin "object.__class__"))
  hn : PySem.W.specialIn K (.builtin "object.__class__") "__get__" = some (some (.builtin "getset_descriptor.__get__"))
  htk : PySem.W.takesIn K (.builtin "object.__class__") = some true
  hm : PySem.W.mroIn K D (.type "object") = some true
  sf : PySem.W.selfFirst K D = true
  nf : PySem.W.notFirst K D (.ref D) = true
theorem LineC.ty {K : PySem.W.Frag} {D : Addr} (c : LineC K D) (t : LineT K D) {H : Hp} {a dx : Addr} {fs : List (Str × V)} (e : H a = some (.ins D dx fs)) : TyX K H (.ref a) (.ref D) := .base (.ins e c.cl t.ha t.hn t.htk t.hm)
section
variable {P : Program} {w : World} {K : PySem.W.Frag} {mg : Str → Option Value} {base : Heap} {C D f : Addr} {fd : FuncData}
theorem ok_lineF (F : L2.Fun K "__init__" "Line.__init__" sLine f fd) (LC : LineC K D) : FnOk P w K mg base CX0 1 f fd PLine (spLine D) := by
  refine F.ok scLine (fun vs H Q E h => ?_) (fun cdv A outer s H vs Q E hr h => ?_)
  · obtain ⟨x, dx, a, c, rfl, _⟩ := h
    rfl
  · have sc := scLine
    obtain ⟨x, dx, a, c, rfl, hx, k⟩ := h
    refine ⟨_, (pss_cons (ps_fld (pv 0) (pv 1) rfl) (pss_one (ps_fld (pv 0) (pv 2) rfl))), ?_⟩
    refine ⟨_, rfl, _, rfl, x, D, dx, [], rfl, hx, LC.cl, LC.nA, (by show 0 < 1000; decide), ?_⟩
    refine ⟨_, rfl, _, rfl, x, D, dx, _, rfl, upd_same, LC.cl, LC.nS, (by show 1 < 1000; decide), ?_⟩
    refine k _ ⟨dx, upd_same.trans (congrArg some (congrArg (HO.ins D dx) ?_))⟩ fun a o e n => ?_
    · exact (put_past (by decide +kernel)).trans rfl
    · rw [upd_ne n, upd_ne n]
      exact e
theorem ok_lcall (F : L2.Fun K "__call__" "Line.__call__" sLCall f fd) (b : Binds K fd PLCall []) (NC : NumC K C) (LC : LineC K D) (oA : OpnF P w K mg base 4 C (PySem.dunder Operator.Add.info.2) (spAdd C)) (oM : OpnF P w K mg base 4 C (PySem.dunder Operator.Mult.info.2) (spMul C)) : FnR P w K mg base CX0 5 f (spLCall C D) := by
  refine fnR_of F b scLCall (fun vs H Q E h => ?_) (fun cdv A outer s H vs Q E hr h => ?_)
  · obtain ⟨l, a, c, z, t, b, p, q, m, n, rfl, _⟩ := h
    rfl
  · have sc := scLCall
    obtain ⟨l, a, c, z, t, b, p, q, m, n, rfl, ⟨dl, el⟩, ha, hc, hz, b0, q0, n0, k⟩ := h
    refine ⟨_, (pss_one (ps_ret (pe_op (op_own oA NC.sf hr (by decide)) (pe_fld (pv 0) rfl) (pe_op (op_own oM NC.sf hr (by decide)) (pe_fld (pv 0) rfl) (pv 1))))), ?_⟩
    refine ⟨_, rfl, l, D, dl, _, _, rfl, el, LC.cl, LC.nA, lF_base _ _, _, rfl, l, D, dl, _, _, rfl, el, LC.cl, LC.nS, lF_slope _ _, _, rfl, ?_⟩
    obtain ⟨dc, fc, ec⟩ := hc.ins
    obtain ⟨dz, fz, ez⟩ := hz.ins
    refine ⟨c, dc, fc, z, dz, fz, rfl, ec, rfl, ez, op2_of hc hz (by decide) (by decide) (fun t' b' p' q' l1 l2 => Int.mul_ne_zero (by have := l1.pos; omega) (by have := l2.pos; omega)) ?_⟩
    intro p1 q1 m1 n1 x H1 l1 l2 y1 y2 y3 y4 nx hx s1
    have hq1 := l1.pos
    have hn1 := l2.pos
    have qn : q1 * n1 ≠ 0 := Int.mul_ne_zero (by omega) (by omega)
    have lx : Low (p * m) (q * n) (nT (p1 * m1) (q1 * n1)) (nB (p1 * m1) (q1 * n1)) := by
      refine (nf_low qn).base qn ?_
      have e1 := l1.cross
      have e2 := l2.cross
      grind
    have hx' : NumV C H1 x 800 (p * m) (q * n) := ⟨_, _, hx, lx, ((y1.mul y3).nT qn).mono (by decide), ((y2.mul y4).nB qn).mono (by decide)⟩
    have ha1 := ha.same s1
    obtain ⟨da, fa, ea⟩ := ha1.ins
    obtain ⟨dx, fx, ex⟩ := hx'.ins
    refine ⟨a, da, fa, x, dx, fx, rfl, ea, rfl, ex, op2_of ha1 hx' (by decide) (by decide) (fun t' b' p' q' l1 l2 => Int.mul_ne_zero (by have := l1.pos; omega) (by have := l2.pos; omega)) ?_⟩
    intro t2 b2 p2 q2 y H2 l3 l4 w1 w2 w3 w4 ny hy s2
    have bq : b2 * q2 ≠ 0 := Int.mul_ne_zero (by have := l3.pos; omega) (by have := l4.pos; omega)
    refine k y H2 (s1.free ny) ⟨_, _, hy, (nf_low bq).base bq ?_, Sz.nT bq (((w1.mul w4).mono (by decide : 400 + 800 ≤ 1999)).add ((w3.mul w2).mono (by decide : 800 + 400 ≤ 1999))), (Sz.nB bq (w2.mul w4)).mono (by decide)⟩ (s1.trans s2)
    have e1 := l3.cross
    have e2 := l4.cross
    grind
theorem ok_lbase (F : L2.Fun K "base" "Line.base" sLBase f fd) (b : Binds K fd PLBase []) (LC : LineC K D) : FnR P w K mg base CX0 1 f (spLBase D) := by
  refine fnR_of F b scLBase (fun vs H Q E h => ?_) (fun cdv A outer s H vs Q E hr h => ?_)
  · obtain ⟨l, a, c, rfl, _⟩ := h
    rfl
  · have sc := scLBase
    obtain ⟨l, a, c, rfl, ⟨dx, e⟩, k⟩ := h
    refine ⟨_, (pss_one (ps_ret (pe_fld (pv 0) rfl))), ?_⟩
    exact ⟨_, rfl, l, D, dx, _, _, rfl, e, LC.cl, LC.nA, lF_base _ _, k⟩
theorem ok_lslope (F : L2.Fun K "slope" "Line.slope" sLSlope f fd) (b : Binds K fd PLSlope []) (LC : LineC K D) : FnR P w K mg base CX0 1 f (spLSlope D) := by
  refine fnR_of F b scLSlope (fun vs H Q E h => ?_) (fun cdv A outer s H vs Q E hr h => ?_)
  · obtain ⟨l, a, c, rfl, _⟩ := h
    rfl
  · have sc := scLSlope
    obtain ⟨l, a, c, rfl, ⟨dx, e⟩, k⟩ := h
    refine ⟨_, (pss_one (ps_ret (pe_fld (pv 0) rfl))), ?_⟩
    exact ⟨_, rfl, l, D, dx, _, _, rfl, e, LC.cl, LC.nS, lF_slope _ _, k⟩
theorem ok_leq (F : L2.Fun K "__eq__" "Line.__eq__" sLEq f fd) (b : Binds K fd PLEq []) (B : Bi mg) (NC : NumC K C) (LC : LineC K D) (LT : LineT K D) (gL : mg "Line" = some (.ref D)) (oE : OpnF P w K mg base 1 C "__eq__" (spNEq C)) : FnR P w K mg base CX0 2 f (spLEq K C D) := by
  refine fnR_of F b scLEq (fun vs H Q E h => ?_) (fun cdv A outer s H vs Q E hr h => ?_)
  · obtain ⟨l, a, c, y, t, b, p, q, rfl, _⟩ := h
    rfl
  · have sc := scLEq
    obtain ⟨l, a, c, y, t, b, p, q, rfl, ⟨dl, el⟩, ha, hc, k⟩ := h
    refine ⟨_, (pss_one (ps_ret (pe_and (pe_callB call_isi (by rfl) B.isinstance (by decide +kernel) (pa_cons (pv 1) (pa_cons (pe_glob (v := .ref D) rfl gL rfl) pa_nil))) (pe_and (pe_cmpR (op_eqO oE hr (by decide)) (pe_fld (pv 0) rfl) (pe_fld (pv 1) rfl) (nomark _)) (pe_one (pe_cmpR (op_eqO oE hr (by decide)) (pe_fld (pv 0) rfl) (pe_fld (pv 1) rfl) (nomark _))))))), ?_⟩
    rcases k with ⟨m, a', c', t', b', p', q', rfl, ⟨dm, em⟩, ha', hc', k⟩ | ⟨ty, hty, hk, k⟩
    · refine ⟨_, rfl, _, _, _, _, true, rfl, .own D, LC.ty LT em, kit_self _, true, rfl, iteT ?_⟩
      obtain ⟨da, ea⟩ := id ha
      obtain ⟨da', ea'⟩ := id ha'
      refine ⟨_, rfl, l, D, dl, _, _, rfl, el, LC.cl, LC.nA, lF_base _ _, _, rfl, m, D, dm, _, _, rfl, em, LC.cl, LC.nA, lF_base _ _, a, da, _, _, rfl, ea, .ins ea', NC.nf, a, a', t, b, t', b', rfl, ha, ha', _, rfl, ?_⟩
      by_cases h1 : t = t' ∧ b = b'
      · refine ifT (decide_eq_true h1) ?_
        obtain ⟨dc, ec⟩ := id hc
        obtain ⟨dc', ec'⟩ := id hc'
        refine ⟨_, rfl, l, D, dl, _, _, rfl, el, LC.cl, LC.nS, lF_slope _ _, _, rfl, m, D, dm, _, _, rfl, em, LC.cl, LC.nS, lF_slope _ _, c, dc, _, _, rfl, ec, .ins ec', NC.nf, c, c', p, q, p', q', rfl, hc, hc', ?_⟩
        have e : decide ((t = t' ∧ b = b') ∧ (p = p' ∧ q = q')) = decide (p = p' ∧ q = q') := by simp [h1]
        rw [← e]
        exact k
      · refine ifF (decide_eq_false h1) ?_
        have e : decide ((t = t' ∧ b = b') ∧ (p = p' ∧ q = q')) = false := decide_eq_false fun z => h1 z.1
        rw [← e]
        exact k
    · exact ⟨_, rfl, _, _, _, _, false, rfl, .own D, hty, hk, false, rfl, iteF k⟩
theorem ok_ladd (F : L2.Fun K "__add__" "Line.__add__" sLAdd f fd) (b : Binds K fd PLAdd []) (NC : NumC K C) (LC : LineC K D) (oA : OpnF P w K mg base 4 C (PySem.dunder Operator.Add.info.2) (spAdd C)) (mL : MakF P w K mg base 1 "Line" D (spLine D)) : FnR P w K mg base CX0 5 f (spLOp C D 1) := by
  refine fnR_of F b scLAdd (fun vs H Q E h => ?_) (fun cdv A outer s H vs Q E hr h => ?_)
  · obtain ⟨l, m, a, c, a', c', t, b, p, q, t', b', p', q', rfl, _⟩ := h
    rfl
  · have sc := scLAdd
    obtain ⟨l, m, a, c, a', c', t, b, p, q, t', b', p', q', rfl, ⟨dl, el⟩, ⟨dm, em⟩, ha, hc, ha', hc', b0, q0, b0', q0', k⟩ := h
    refine ⟨_, (pss_one (ps_ret (pe_mk mL hr (by decide) rfl (pa_cons (pe_op (op_own oA NC.sf hr (by decide)) (pe_fld (pv 0) rfl) (pe_fld (pv 1) rfl)) (pa_cons (pe_op (op_own oA NC.sf hr (by decide)) (pe_fld (pv 0) rfl) (pe_fld (pv 1) rfl)) pa_nil))))), ?_⟩
    obtain ⟨da, fa, ea⟩ := ha.ins
    obtain ⟨da', fa', ea'⟩ := ha'.ins
    refine ⟨_, rfl, l, D, dl, _, _, rfl, el, LC.cl, LC.nA, lF_base _ _, _, rfl, m, D, dm, _, _, rfl, em, LC.cl, LC.nA, lF_base _ _, a, da, fa, a', da', fa', rfl, ea, rfl, ea', op2_of ha ha' (by decide) (by decide) (fun t' b' p' q' l1 l2 => Int.mul_ne_zero (by have := l1.pos; omega) (by have := l2.pos; omega)) ?_⟩
    intro t1 b1 t2 b2 x H1 l1 l2 y1 y2 y3 y4 nx hx s1
    have n1 : b1 * b2 ≠ 0 := Int.mul_ne_zero (by have := l1.pos; omega) (by have := l2.pos; omega)
    have vx : NumV C H1 x 400 (t * b' + 1 * t' * b) (b * b') := ⟨_, _, hx, (nf_low n1).base n1 (by have e1 := l1.cross; have e2 := l2.cross; grind), (Sz.nT n1 (Sz.add (y1.mul y4) (y3.mul y2))).mono (by decide), (Sz.nB n1 (y2.mul y4)).mono (by decide)⟩
    have hc1 := hc.same s1
    have hc1' := hc'.same s1
    obtain ⟨dc, fc, ec⟩ := hc1.ins
    obtain ⟨dc', fc', ec'⟩ := hc1'.ins
    refine ⟨_, rfl, l, D, dl, _, _, rfl, s1 _ _ el, LC.cl, LC.nS, lF_slope _ _, _, rfl, m, D, dm, _, _, rfl, s1 _ _ em, LC.cl, LC.nS, lF_slope _ _, c, dc, fc, c', dc', fc', rfl, ec, rfl, ec', op2_of hc1 hc1' (by decide) (by decide) (fun t' b' p' q' l1 l2 => Int.mul_ne_zero (by have := l1.pos; omega) (by have := l2.pos; omega)) ?_⟩
    intro t3 b3 t4 b4 y H2 l3 l4 w1 w2 w3 w4 ny hy s2
    have n2 : b3 * b4 ≠ 0 := Int.mul_ne_zero (by have := l3.pos; omega) (by have := l4.pos; omega)
    have vy : NumV C H2 y 400 (p * q' + 1 * p' * q) (q * q') := ⟨_, _, hy, (nf_low n2).base n2 (by have e1 := l3.cross; have e2 := l4.cross; grind), (Sz.nT n2 (Sz.add (w1.mul w4) (w3.mul w2))).mono (by decide), (Sz.nB n2 (w2.mul w4)).mono (by decide)⟩
    intro z dz nz nd ne
    refine ⟨z, dz, x, y, rfl, upd_same, fun H3 h3 k3 => ⟨rfl, ?_⟩⟩
    have s3 : Same H2 H3 := Same.mk nz nd k3
    exact k z x y H3 ((s1.trans s2).free nz) h3 ((vx.same s2).same s3) (vy.same s3) ((s1.trans s2).trans s3)
theorem ok_lsub (F : L2.Fun K "__sub__" "Line.__sub__" sLSub f fd) (b : Binds K fd PLSub []) (NC : NumC K C) (LC : LineC K D) (oA : OpnF P w K mg base 4 C (PySem.dunder Operator.Sub.info.2) (spSub C)) (mL : MakF P w K mg base 1 "Line" D (spLine D)) : FnR P w K mg base CX0 5 f (spLOp C D (-1)) := by
  refine fnR_of F b scLSub (fun vs H Q E h => ?_) (fun cdv A outer s H vs Q E hr h => ?_)
  · obtain ⟨l, m, a, c, a', c', t, b, p, q, t', b', p', q', rfl, _⟩ := h
    rfl
  · have sc := scLSub
    obtain ⟨l, m, a, c, a', c', t, b, p, q, t', b', p', q', rfl, ⟨dl, el⟩, ⟨dm, em⟩, ha, hc, ha', hc', b0, q0, b0', q0', k⟩ := h
    refine ⟨_, (pss_one (ps_ret (pe_mk mL hr (by decide) rfl (pa_cons (pe_op (op_own oA NC.sf hr (by decide)) (pe_fld (pv 0) rfl) (pe_fld (pv 1) rfl)) (pa_cons (pe_op (op_own oA NC.sf hr (by decide)) (pe_fld (pv 0) rfl) (pe_fld (pv 1) rfl)) pa_nil))))), ?_⟩
    obtain ⟨da, fa, ea⟩ := ha.ins
    obtain ⟨da', fa', ea'⟩ := ha'.ins
    refine ⟨_, rfl, l, D, dl, _, _, rfl, el, LC.cl, LC.nA, lF_base _ _, _, rfl, m, D, dm, _, _, rfl, em, LC.cl, LC.nA, lF_base _ _, a, da, fa, a', da', fa', rfl, ea, rfl, ea', op2_of ha ha' (by decide) (by decide) (fun t' b' p' q' l1 l2 => Int.mul_ne_zero (by have := l1.pos; omega) (by have := l2.pos; omega)) ?_⟩
    intro t1 b1 t2 b2 x H1 l1 l2 y1 y2 y3 y4 nx hx s1
    have n1 : b1 * b2 ≠ 0 := Int.mul_ne_zero (by have := l1.pos; omega) (by have := l2.pos; omega)
    have vx : NumV C H1 x 400 (t * b' + -1 * t' * b) (b * b') := ⟨_, _, hx, (nf_low n1).base n1 (by have e1 := l1.cross; have e2 := l2.cross; grind), (Sz.nT n1 (Sz.sub (y1.mul y4) (y3.mul y2))).mono (by decide), (Sz.nB n1 (y2.mul y4)).mono (by decide)⟩
    have hc1 := hc.same s1
    have hc1' := hc'.same s1
    obtain ⟨dc, fc, ec⟩ := hc1.ins
    obtain ⟨dc', fc', ec'⟩ := hc1'.ins
    refine ⟨_, rfl, l, D, dl, _, _, rfl, s1 _ _ el, LC.cl, LC.nS, lF_slope _ _, _, rfl, m, D, dm, _, _, rfl, s1 _ _ em, LC.cl, LC.nS, lF_slope _ _, c, dc, fc, c', dc', fc', rfl, ec, rfl, ec', op2_of hc1 hc1' (by decide) (by decide) (fun t' b' p' q' l1 l2 => Int.mul_ne_zero (by have := l1.pos; omega) (by have := l2.pos; omega)) ?_⟩
    intro t3 b3 t4 b4 y H2 l3 l4 w1 w2 w3 w4 ny hy s2
    have n2 : b3 * b4 ≠ 0 := Int.mul_ne_zero (by have := l3.pos; omega) (by have := l4.pos; omega)
    have vy : NumV C H2 y 400 (p * q' + -1 * p' * q) (q * q') := ⟨_, _, hy, (nf_low n2).base n2 (by have e1 := l3.cross; have e2 := l4.cross; grind), (Sz.nT n2 (Sz.sub (w1.mul w4) (w3.mul w2))).mono (by decide), (Sz.nB n2 (w2.mul w4)).mono (by decide)⟩
    intro z dz nz nd ne
    refine ⟨z, dz, x, y, rfl, upd_same, fun H3 h3 k3 => ⟨rfl, ?_⟩⟩
    have s3 : Same H2 H3 := Same.mk nz nd k3
    exact k z x y H3 ((s1.trans s2).free nz) h3 ((vx.same s2).same s3) (vy.same s3) ((s1.trans s2).trans s3)
end
end Ws

namespace Ws
open PySem PySem.Spec PyProof.Rows L2
abbrev sSEq : Stmt := (inClass (PySem.Challenge.pw_whatspeed_k08_whole_what_lies_in_a_stret.main.body.getD 10 (.Pass ⟨0, 0, 0, 0⟩)) 6)
abbrev NSEq : List Str := ["self", "other"]
abbrev PSEq : List Str := ["self", "other"]
theorem scSEq : FnScope NSEq PSEq (defScope sSEq) := ⟨rfl, rfl, rfl, by decide +kernel, rfl, by decide +kernel, by decide +kernel⟩
abbrev sSCont : Stmt := (inClass (PySem.Challenge.pw_whatspeed_k08_whole_what_lies_in_a_stret.main.body.getD 10 (.Pass ⟨0, 0, 0, 0⟩)) 7)
abbrev NSCont : List Str := ["self", "s"]
abbrev PSCont : List Str := ["self", "s"]
theorem scSCont : FnScope NSCont PSCont (defScope sSCont) := ⟨rfl, rfl, rfl, by decide +kernel, rfl, by decide +kernel, by decide +kernel⟩
structure StrT (K : PySem.W.Frag) (D : Addr) : Prop where
  ha : PySem.W.findIn K (.ref D) "__class__" = some (some (.builtin "object.__class__"))
  hn : PySem.W.specialIn K (.builtin "object.__class__") "__get__" = some (some (.builtin "getset_descriptor.__get__"))
  htk : PySem.W.takesIn K (.builtin "object.__class__") = some true
  hm : PySem.W.mroIn K D (.type "object") = some true
theorem StrC.ty {K : PySem.W.Frag} {D : Addr} (c : StrC K D) (t : StrT K D) {H : Hp} {a dx : Addr} {fs : List (Str × V)} (e : H a = some (.ins D dx fs)) : TyX K H (.ref a) (.ref D) := .base (.ins e c.cl t.ha t.hn t.htk t.hm)
def spNEqG (K : PySem.W.Frag) (C : Addr) : Sp := fun vs H Q _ => ∃ (a : Addr) (y : V) (t b : Int), vs = [.ref a, y] ∧ NumAt C H a t b ∧
  ((∃ (c : Addr) (p q : Int), y = .ref c ∧ NumAt C H c p q ∧ Q (.bl (decide (t = p ∧ b = q))) H) ∨ (∃ ty : Value, TyX K H y ty ∧ PySem.W.kitOne K ty (.ref C) = some false ∧ Q (.bl false) H))
/-- a Stretch of two Numbers and two truths -/
def StrV (C D : Addr) (H : Hp) (a : Addr) (p q r s : Int) (b1 b2 : Bool) (m : V) : Prop := ∃ l h : Addr, StrAt D H a (.ref l) (.ref h) (.bl b1) (.bl b2) m ∧ NumAt C H l p q ∧ NumAt C H h r s
theorem StrV.same {C D : Addr} {H H' : Hp} {a : Addr} {p q r s : Int} {b1 b2 : Bool} {m : V} (z : StrV C D H a p q r s b1 b2 m) (j : Same H H') : StrV C D H' a p q r s b1 b2 m := let ⟨l, h, e, e1, e2⟩ := z; ⟨l, h, e.same j, e1.same j, e2.same j⟩
theorem StrV.ch {C D o : Addr} {H H' : Hp} {a : Addr} {p q r s : Int} {b1 b2 : Bool} {m : V} {xs : List V} (z : StrV C D H a p q r s b1 b2 m) (j : Ch o H H') (e : H o = some (.lst xs)) : StrV C D H' a p q r s b1 b2 m := by
  obtain ⟨l, h, ⟨d, e0⟩, ⟨d1, e1⟩, ⟨d2, e2⟩⟩ := z
  exact ⟨l, h, ⟨d, j _ _ (ne_of e0 e (fun z => by cases z)) e0⟩, ⟨d1, j _ _ (ne_of e1 e (fun z => by cases z)) e1⟩, ⟨d2, j _ _ (ne_of e2 e (fun z => by cases z)) e2⟩⟩
def spSEqG (K : PySem.W.Frag) (C D : Addr) : Sp := fun vs H Q _ => ∃ (a : Addr) (y : V) (p q r s : Int) (b1 b2 : Bool) (m : V), vs = [.ref a, y] ∧ StrV C D H a p q r s b1 b2 m ∧
  ((∃ (c : Addr) (p' q' r' s' : Int) (c1 c2 : Bool) (m' : V), y = .ref c ∧ StrV C D H c p' q' r' s' c1 c2 m' ∧ Q (.bl (decide (p = p' ∧ q = q') && (decide (r = r' ∧ s = s') && (b1 == c1 && b2 == c2)))) H) ∨ (∃ ty : Value, TyX K H y ty ∧ PySem.W.kitOne K ty (.ref D) = some false ∧ Q (.bl false) H))
def contN (p q r s u v : Int) (b1 b2 : Bool) : Bool := if decide (u = p ∧ v = q) = true then b1 else if decide (u = r ∧ v = s) = true then b2 else (decide (p * v < u * q) && decide (u * s < r * v))
def spCont (C D : Addr) : Sp := fun vs H Q _ => ∃ (a c : Addr) (p q r s u v : Int) (b1 b2 : Bool) (m : V), vs = [.ref a, .ref c] ∧ StrV C D H a p q r s b1 b2 m ∧ NumAt C H c u v ∧ Sz 2000 p ∧ Sz 2000 q ∧ Sz 2000 r ∧ Sz 2000 s ∧ Sz 2000 u ∧ Sz 2000 v ∧ Q (.bl (contN p q r s u v b1 b2)) H
section
variable {P : Program} {w : World} {K : PySem.W.Frag} {mg : Str → Option Value} {base : Heap} {C D f : Addr} {fd : FuncData}
theorem ok_neqg (F : L2.Fun K "__eq__" "Number.__eq__" sNEq f fd) (b : Binds K fd PNEq []) (B : Bi mg) (NC : NumC K C) (gN : mg "Number" = some (.ref C)) : FnR P w K mg base CX0 1 f (spNEqG K C) := by
  refine fnR_of F b scNEq (fun vs H Q E h => ?_) (fun cdv A outer s H vs Q E hr h => ?_)
  · obtain ⟨a, y, t, b, rfl, _⟩ := h
    rfl
  · have sc := scNEq
    obtain ⟨a, y, t, b, rfl, ⟨dx, ea⟩, k⟩ := h
    refine ⟨_, (pss_one (ps_ret (pe_and (pe_callB call_isi (by rfl) B.isinstance (by decide +kernel) (pa_cons (pv 1) (pa_cons (pe_glob (v := .ref C) rfl gN rfl) pa_nil))) (pe_and (pe_cmpR op_eq (pe_fld (pv 0) rfl) (pe_fld (pv 1) rfl) (nomark _)) (pe_one (pe_cmpR op_eq (pe_fld (pv 0) rfl) (pe_fld (pv 1) rfl) (nomark _))))))), ?_⟩
    rcases k with ⟨c, p, q, rfl, ⟨dy, ec⟩, k⟩ | ⟨ty, hty, hk, k⟩
    · refine ⟨_, rfl, _, _, _, _, true, rfl, .own C, NC.ty ec, NC.kk, true, rfl, iteT ?_⟩
      refine ⟨_, rfl, a, C, dx, _, _, rfl, ea, NC.cl, NC.nT, nF_top _ _, _, rfl, c, C, dy, _, _, rfl, ec, NC.cl, NC.nT, nF_top _ _, rfl, _, rfl, ?_⟩
      by_cases h1 : t = p
      · subst h1
        refine ifT (by simp) ?_
        refine ⟨_, rfl, a, C, dx, _, _, rfl, ea, NC.cl, NC.nB, nF_bot _ _, _, rfl, c, C, dy, _, _, rfl, ec, NC.cl, NC.nB, nF_bot _ _, rfl, ?_⟩
        simpa using k
      · refine ifF (by simpa using h1) ?_
        simpa [h1] using k
    · exact ⟨_, rfl, _, _, _, _, false, rfl, .own C, hty, hk, false, rfl, iteF k⟩
theorem ok_seq (F : L2.Fun K "__eq__" "Stretch.__eq__" sSEq f fd) (b : Binds K fd PSEq []) (B : Bi mg) (NC : NumC K C) (SC : StrC K D) (ST : StrT K D) (gD : mg "Stretch" = some (.ref D)) (oE : OpnF P w K mg base 1 C "__eq__" (spNEq C)) : FnR P w K mg base CX0 2 f (spSEqG K C D) := by
  refine fnR_of F b scSEq (fun vs H Q E h => ?_) (fun cdv A outer s H vs Q E hr h => ?_)
  · obtain ⟨a, y, p, q, r, s', b1, b2, m, rfl, _⟩ := h
    rfl
  · have sc := scSEq
    obtain ⟨a, y, p, q, r, s', b1, b2, m, rfl, ⟨l, h, ⟨da, ea⟩, N1, N2⟩, k⟩ := h
    refine ⟨_, (pss_one (ps_ret (pe_and (pe_callB call_isi (by rfl) B.isinstance (by decide +kernel) (pa_cons (pv 1) (pa_cons (pe_glob (v := .ref D) rfl gD rfl) pa_nil))) (pe_and (pe_cmpR (show OpR _ _ (rEqO K C (spNEq C)) from op_eqO oE hr (by decide)) (pe_fld (pv 0) rfl) (pe_fld (pv 1) rfl) (nomark _)) (pe_and (pe_cmpR (show OpR _ _ (rEqO K C (spNEq C)) from op_eqO oE hr (by decide)) (pe_fld (pv 0) rfl) (pe_fld (pv 1) rfl) (nomark _)) (pe_and (pe_cmpR op_eq (pe_fld (pv 0) rfl) (pe_fld (pv 1) rfl) (nomark _)) (pe_one (pe_cmpR op_eq (pe_fld (pv 0) rfl) (pe_fld (pv 1) rfl) (nomark _))))))))), ?_⟩
    rcases k with ⟨c, p', q', r', s'', c1, c2, m', rfl, ⟨l', h', ⟨dc, ec⟩, N1', N2'⟩, k⟩ | ⟨ty, hty, hk, k⟩
    · refine ⟨_, rfl, _, _, _, _, true, rfl, .own D, SC.ty ST ec, kit_self _, true, rfl, iteT ?_⟩
      obtain ⟨d1, e1⟩ := id N1
      obtain ⟨d2, e2⟩ := id N2
      obtain ⟨d1', e1'⟩ := id N1'
      obtain ⟨d2', e2'⟩ := id N2'
      refine ⟨_, rfl, a, D, da, _, _, rfl, ea, SC.cl, SC.n1, sF_1 _ _ _ _ _, _, rfl, c, D, dc, _, _, rfl, ec, SC.cl, SC.n1, sF_1 _ _ _ _ _, l, d1, _, _, rfl, e1, .ins e1', NC.nf, l, l', p, q, p', q', rfl, N1, N1', _, rfl, ?_⟩
      refine if2 (fun h1 => ?_) (fun h1 => ?_)
      · rw [h1] at k
        refine ⟨_, rfl, a, D, da, _, _, rfl, ea, SC.cl, SC.n2, sF_2 _ _ _ _ _, _, rfl, c, D, dc, _, _, rfl, ec, SC.cl, SC.n2, sF_2 _ _ _ _ _, h, d2, _, _, rfl, e2, .ins e2', NC.nf, h, h', r, s', r', s'', rfl, N2, N2', _, rfl, ?_⟩
        refine if2 (fun h2 => ?_) (fun h2 => ?_)
        · rw [h2] at k
          refine ⟨_, rfl, a, D, da, _, _, rfl, ea, SC.cl, SC.n3, sF_3 _ _ _ _ _, _, rfl, c, D, dc, _, _, rfl, ec, SC.cl, SC.n3, sF_3 _ _ _ _ _, rfl, _, rfl, ?_⟩
          by_cases h3 : b1 = c1
          · subst h3
            refine ifT (by simp) ?_
            refine ⟨_, rfl, a, D, da, _, _, rfl, ea, SC.cl, SC.n4, sF_4 _ _ _ _ _, _, rfl, c, D, dc, _, _, rfl, ec, SC.cl, SC.n4, sF_4 _ _ _ _ _, rfl, ?_⟩
            have e : (true && (true && (b1 == b1 && b2 == c2))) = decide (V.bl b2 = V.bl c2) := by cases b1 <;> cases b2 <;> cases c2 <;> rfl
            rw [e] at k
            exact k
          · have e : (decide (V.bl b1 = V.bl c1)) = false := decide_eq_false fun z => h3 (by injection z)
            refine ifF e ?_
            have e2 : (true && (true && (b1 == c1 && b2 == c2))) = false := by
              rw [show (b1 == c1) = false from by simpa using h3]
              rfl
            rw [e2] at k
            first | (rw [e]; exact k) | exact k
        · rw [h2] at k
          first | (rw [h2]; exact k) | exact k
      · rw [h1] at k
        first | (rw [h1]; exact k) | exact k
    · exact ⟨_, rfl, _, _, _, _, false, rfl, .own D, hty, hk, false, rfl, iteF k⟩
theorem ok_scont (F : L2.Fun K "__contains__" "Stretch.__contains__" sSCont f fd) (b : Binds K fd PSCont []) (NC : NumC K C) (SC : StrC K D) (oE : OpnF P w K mg base 1 C "__eq__" (spNEq C)) (tL : MetF P w K mg base 1 C "is_less" (spLess C)) : FnR P w K mg base CX0 2 f (spCont C D) := by
  refine fnR_of F b scSCont (fun vs H Q E h => ?_) (fun cdv A outer s H vs Q E hr h => ?_)
  · obtain ⟨a, c, p, q, r, s', u, v, b1, b2, m, rfl, _⟩ := h
    rfl
  · have sc := scSCont
    obtain ⟨a, c, p, q, r, s', u, v, b1, b2, m, rfl, ⟨l, h, ⟨da, ea⟩, N1, N2⟩, N3, z1, z2, z3, z4, z5, z6, k⟩ := h
    obtain ⟨d1, e1⟩ := id N1
    obtain ⟨d2, e2⟩ := id N2
    obtain ⟨d3, e3⟩ := id N3
    refine ⟨_, (pss_cons (ps_if (pt_cmpR (show OpR _ _ (rEqO K C (spNEq C)) from op_eqO oE hr (by decide)) (pv 1) (pe_fld (pv 0) rfl) (nomark _)) (pss_one (ps_ret (pe_fld (pv 0) rfl))) pss_nil) (pss_cons (ps_if (pt_cmpR (show OpR _ _ (rEqO K C (spNEq C)) from op_eqO oE hr (by decide)) (pv 1) (pe_fld (pv 0) rfl) (nomark _)) (pss_one (ps_ret (pe_fld (pv 0) rfl))) pss_nil) (pss_one (ps_ret (pe_and (pe_mt tL hr (by decide) (pe_fld (pv 0) rfl) (pa_cons (pv 1) pa_nil)) (pe_one (pe_mt tL hr (by decide) (pv 1) (pa_cons (pe_fld (pv 0) rfl) pa_nil)))))))), ?_⟩
    unfold contN at k
    refine ⟨_, rfl, _, rfl, a, D, da, _, _, rfl, ea, SC.cl, SC.n1, sF_1 _ _ _ _ _, c, d3, _, _, rfl, e3, .ins e1, NC.nf, c, l, u, v, p, q, rfl, N3, N1, _, rfl, ?_⟩
    refine if2 (fun h1 => ?_) (fun h1 => ?_)
    · rw [if_pos h1] at k
      exact ⟨_, rfl, a, D, da, _, _, rfl, ea, SC.cl, SC.n3, sF_3 _ _ _ _ _, k⟩
    · rw [if_neg (by rw [h1]; exact Bool.false_ne_true)] at k
      refine ⟨_, rfl, _, rfl, a, D, da, _, _, rfl, ea, SC.cl, SC.n2, sF_2 _ _ _ _ _, c, d3, _, _, rfl, e3, .ins e2, NC.nf, c, h, u, v, r, s', rfl, N3, N2, _, rfl, ?_⟩
      refine if2 (fun h2 => ?_) (fun h2 => ?_)
      · rw [if_pos h2] at k
        exact ⟨_, rfl, a, D, da, _, _, rfl, ea, SC.cl, SC.n4, sF_4 _ _ _ _ _, k⟩
      · rw [if_neg (by rw [h2]; exact Bool.false_ne_true)] at k
        refine ⟨_, rfl, a, D, da, _, _, rfl, ea, SC.cl, SC.n1, sF_1 _ _ _ _ _, l, d1, _, rfl, e1, rfl, _, rfl, l, c, p, q, u, v, rfl, N1, N3, z1, z2, z5, z6, _, rfl, ?_⟩
        refine if2 (fun h3 => ?_) (fun h3 => ?_)
        · rw [h3] at k
          exact ⟨_, rfl, c, d3, _, rfl, e3, rfl, _, rfl, a, D, da, _, _, rfl, ea, SC.cl, SC.n2, sF_2 _ _ _ _ _, c, h, u, v, r, s', rfl, N3, N2, z5, z6, z3, z4, k⟩
        · rw [h3] at k
          first | (rw [h3]; exact k) | exact k
end
end Ws

namespace Ws
open PySem PySem.Spec PyProof.Rows L2
abbrev sEnds : Stmt := (PySem.Challenge.pw_whatspeed_k08_whole_what_lies_in_a_stret.main.body.getD 15 (.Pass ⟨0, 0, 0, 0⟩))
abbrev NEnds : List Str := ["pot", "a", "b", "left", "right", "turn"]
abbrev PEnds : List Str := ["pot"]
theorem scEnds : FnScope NEnds PEnds (defScope sEnds) := ⟨rfl, rfl, rfl, by decide +kernel, rfl, by decide +kernel, by decide +kernel⟩
abbrev sMade : Stmt := (PySem.Challenge.pw_whatspeed_k08_whole_what_lies_in_a_stret.main.body.getD 16 (.Pass ⟨0, 0, 0, 0⟩))
abbrev NMade : List Str := ["ends"]
abbrev PMade : List Str := ["ends"]
theorem scMade : FnScope NMade PMade (defScope sMade) := ⟨rfl, rfl, rfl, by decide +kernel, rfl, by decide +kernel, by decide +kernel⟩
abbrev sLies : Stmt := (PySem.Challenge.pw_whatspeed_k08_whole_what_lies_in_a_stret.main.body.getD 17 (.Pass ⟨0, 0, 0, 0⟩))
abbrev NLies : List Str := ["ends", "s", "left", "here", "there", "right"]
abbrev PLies : List Str := ["ends", "s"]
theorem scLies : FnScope NLies PLies (defScope sLies) := ⟨rfl, rfl, rfl, by decide +kernel, rfl, by decide +kernel, by decide +kernel⟩
/-! ### Numbers by their six hundredths -/
structure VzN (n : Nat) (C : Addr) (H : Hp) (v : V) (z : Int) : Prop where
  is : ∃ a p q, v = .ref a ∧ NumAt C H a p q ∧ Low p q p q ∧ p * 600 = z * q ∧ Sz n p ∧ Sz n q
abbrev Vz := VzN 200
theorem VzN.same {n : Nat} {C : Addr} {H H' : Hp} {v : V} {z : Int} (h : VzN n C H v z) (s : Same H H') : VzN n C H' v z := let ⟨a, p, q, e, k, r⟩ := h.is; ⟨a, p, q, e, k.same s, r⟩
theorem VzN.mono {n m : Nat} {C : Addr} {H : Hp} {v : V} {z : Int} (h : VzN n C H v z) (hm : n ≤ m) : VzN m C H v z := let ⟨a, p, q, e, k, l, c, z1, z2⟩ := h.is; ⟨a, p, q, e, k, l, c, z1.mono hm, z2.mono hm⟩
theorem VzN.ch {n : Nat} {C o : Addr} {H H' : Hp} {v : V} {z : Int} {xs : List V} (h : VzN n C H v z) (c : Ch o H H') (e : H o = some (.lst xs)) : VzN n C H' v z := by
  obtain ⟨a, p, q, e1, ⟨d, k⟩, r⟩ := h.is
  exact ⟨a, p, q, e1, ⟨d, c _ _ (ne_of k e (fun z => by cases z)) k⟩, r⟩
theorem vz_eq {p q r s z1 z2 : Int} (l1 : Low p q p q) (l2 : Low r s r s) (h1 : p * 600 = z1 * q) (h2 : r * 600 = z2 * s) : (p = r ∧ q = s) ↔ z1 = z2 := by
  have q0 := l1.pos
  have s0 := l2.pos
  constructor
  · rintro ⟨rfl, rfl⟩
    exact Int.eq_of_mul_eq_mul_right (by omega) (h1.symm.trans h2)
  · rintro rfl
    refine low_uniq ?_ q0 s0 l1.cop l2.cop
    have e : (p * s) * 600 = (r * q) * 600 := by grind
    omega
theorem vz_lt {p q r s z1 z2 : Int} (q0 : 0 < q) (s0 : 0 < s) (h1 : p * 600 = z1 * q) (h2 : r * 600 = z2 * s) : (p * s < r * q) ↔ z1 < z2 := by
  have qs : 0 < q * s := Int.mul_pos q0 s0
  have e1 : (p * s) * 600 = z1 * (q * s) := by grind
  have e2 : (r * q) * 600 = z2 * (q * s) := by grind
  constructor
  · intro h
    have : z1 * (q * s) < z2 * (q * s) := by omega
    exact Int.lt_of_mul_lt_mul_right this (by omega)
  · intro h
    have : z1 * (q * s) < z2 * (q * s) := Int.mul_lt_mul_of_pos_right h qs
    omega
theorem vz_ee {p q r s z1 z2 : Int} (q0 : 0 < q) (s0 : 0 < s) (h1 : p * 600 = z1 * q) (h2 : r * 600 = z2 * s) : (p * s = r * q) ↔ z1 = z2 := by
  have qs : 0 < q * s := Int.mul_pos q0 s0
  have e1 : (p * s) * 600 = z1 * (q * s) := by grind
  have e2 : (r * q) * 600 = z2 * (q * s) := by grind
  constructor
  · intro h
    exact Int.eq_of_mul_eq_mul_right (Int.ne_of_gt qs) (by rw [← e1, ← e2, h])
  · intro h
    have : z1 * (q * s) = z2 * (q * s) := by rw [h]
    omega
/-- a Number made of t / b, whose value is z six hundredths -/
theorem vz_of {n : Nat} {C : Addr} {H : Hp} {a : Addr} {t b z : Int} (h : NumAt C H a (nT t b) (nB t b)) (hb : b ≠ 0) (zt : Sz n t) (zb : Sz n b) (e : t * 600 = z * b) : VzN n C H (.ref a) z := by
  have l := nf_low (t := t) hb
  refine ⟨a, _, _, rfl, h, l.self hb, ?_, zt.nT hb, zb.nB hb⟩
  have c := l.cross
  generalize nT t b = p at *
  generalize nB t b = q at *
  refine Int.eq_of_mul_eq_mul_right hb ?_
  have e1 : (p * 600) * b = (t * 600) * q := by grind
  rw [e1, e]
  grind
/-- two ends -/
structure Zs (z1 z2 : Int) (b1 b2 : Bool) : Prop where
  g1 : z1 % 100 = 0
  g2 : z2 % 100 = 0
  le : z1 ≤ z2
  both : z1 = z2 → b1 = true ∧ b2 = true
def EndsAt (C : Addr) (H : Hp) (r : Addr) (a b : Addr) (z1 z2 : Int) (b1 b2 : Bool) : Prop := H r = some (.tup [.ref a, .ref b, .bl b1, .bl b2]) ∧ VzN 20 C H (.ref a) z1 ∧ VzN 20 C H (.ref b) z2 ∧ Zs z1 z2 b1 b2
theorem EndsAt.same {C : Addr} {H H' : Hp} {r a b : Addr} {z1 z2 : Int} {b1 b2 : Bool} (h : EndsAt C H r a b z1 z2 b1 b2) (s : Same H H') : EndsAt C H' r a b z1 z2 b1 b2 := ⟨s _ _ h.1, h.2.1.same s, h.2.2.1.same s, h.2.2.2⟩
theorem EndsAt.ch {C o : Addr} {H H' : Hp} {r a b : Addr} {z1 z2 : Int} {b1 b2 : Bool} {xs : List V} (h : EndsAt C H r a b z1 z2 b1 b2) (c : Ch o H H') (e : H o = some (.lst xs)) : EndsAt C H' r a b z1 z2 b1 b2 := ⟨c _ _ (ne_of h.1 e (fun z => by cases z)) h.1, h.2.1.ch c e, h.2.2.1.ch c e, h.2.2.2⟩
def contZ (z1 z2 : Int) (b1 b2 : Bool) (z : Int) : Bool := if z = z1 then b1 else if z = z2 then b2 else decide (z1 < z) && decide (z < z2)
theorem lies_eq {z1 z2 z : Int} {b1 b2 : Bool} (zz : Zs z1 z2 b1 b2) (n1 : ¬(z1 = z ∧ b1 = false)) (n2 : ¬(z = z2 ∧ b2 = false)) : contZ z1 z2 b1 b2 z = (decide (z1 ≤ z) && decide (z ≤ z2)) := by
  have le := zz.le
  unfold contZ
  by_cases y1 : z = z1
  · rw [if_pos y1, decide_eq_true (by omega : z1 ≤ z), decide_eq_true (by omega : z ≤ z2)]
    cases b1 with
    | true => rfl
    | false => exact absurd ⟨y1.symm, rfl⟩ n1
  · rw [if_neg y1]
    by_cases y2 : z = z2
    · rw [if_pos y2, decide_eq_true (by omega : z1 ≤ z), decide_eq_true (by omega : z ≤ z2)]
      cases b2 with
      | true => rfl
      | false => exact absurd ⟨y2, rfl⟩ n2
    · rw [if_neg y2, show decide (z1 < z) = decide (z1 ≤ z) from decide_eq_decide.mpr (by omega), show decide (z < z2) = decide (z ≤ z2) from decide_eq_decide.mpr (by omega)]
theorem lies_no {z1 z2 z : Int} {b1 b2 : Bool} (zz : Zs z1 z2 b1 b2) (h : (z1 = z ∧ b1 = false) ∨ (z = z2 ∧ b2 = false)) : contZ z1 z2 b1 b2 z = false := by
  unfold contZ
  rcases h with ⟨y, e⟩ | ⟨y, e⟩
  · rw [if_pos y.symm, e]
  · by_cases y1 : z = z1
    · have := (zz.both (by omega)).2
      rw [e] at this
      cases this
    · rw [if_neg y1, if_pos y, e]
/-- a Stretch of these ends -/
def StrZ (C D : Addr) (H : Hp) (a : Addr) (z1 z2 : Int) (b1 b2 : Bool) (m : V) : Prop := ∃ l h : Addr, StrAt D H a (.ref l) (.ref h) (.bl b1) (.bl b2) m ∧ Vz C H (.ref l) z1 ∧ Vz C H (.ref h) z2 ∧ ∃ zm, Vz C H m zm ∧ 2 * zm = z1 + z2
theorem StrZ.same {C D : Addr} {H H' : Hp} {a : Addr} {z1 z2 : Int} {b1 b2 : Bool} {m : V} (h : StrZ C D H a z1 z2 b1 b2 m) (s : Same H H') : StrZ C D H' a z1 z2 b1 b2 m := let ⟨l, u, e, v1, v2, zm, v3, e3⟩ := h; ⟨l, u, e.same s, v1.same s, v2.same s, zm, v3.same s, e3⟩
def spEnds (C : Addr) : Sp := fun vs H Q _ => ∃ (p : Addr) (m : Int), vs = [.ref p] ∧ PotAt H p m ∧ m ≤ 100000 ∧ ∀ r a b z1 z2 b1 b2 H', H r = none → EndsAt C H' r a b z1 z2 b1 b2 → PotAt H' p (m + 6) → Ch p H H' → Q (.ref r) H'
def spMade (C D : Addr) : Sp := fun vs H Q _ => ∃ (r a b : Addr) (z1 z2 : Int) (b1 b2 : Bool), vs = [.ref r] ∧ EndsAt C H r a b z1 z2 b1 b2 ∧ ∀ x m H', H x = none → StrZ C D H' x z1 z2 b1 b2 m → Same H H' → Q (.ref x) H'
def spLies (C : Addr) : Sp := fun vs H Q _ => ∃ (r a b : Addr) (s : V) (z1 z2 z : Int) (b1 b2 : Bool), vs = [.ref r, s] ∧ EndsAt C H r a b z1 z2 b1 b2 ∧ Vz C H s z ∧ Q (.bl (contZ z1 z2 b1 b2 z)) H
section
variable {P : Program} {w : World} {K : PySem.W.Frag} {mg : Str → Option Value} {base : Heap} {C D Cs f fI : Addr} {fd fdI : FuncData}
theorem ok_made (F : L2.Fun K "_law_made" "_law_made" sMade f fd) (b : Binds K fd PMade []) (NC : NumC K C) (MI : Mk K D fI) (GI : FnOk P w K mg base (L2.CX P w) 5 fI fdI PSInit (spStr K C D Cs)) (bK : KBn K fdI PSInit 3 ["has_low", "has_high"] (fun us ws => us ++ ws) (fun vs zs => vs ++ zs)) (gD : mg "Stretch" = some (.ref D)) : FnR P w K mg base CX0 7 f (spMade C D) := by
  refine fnR_of F b scMade (fun vs H Q E h => ?_) (fun cdv A0 outer s H vs Q E hr h => ?_)
  · obtain ⟨r, a, b, z1, z2, b1, b2, rfl, _⟩ := h
    rfl
  · have sc := scMade
    obtain ⟨r, a, b, z1, z2, b1, b2, rfl, ⟨e, v1, v2, zz⟩, k⟩ := h
    refine ⟨_, (pss_one (ps_ret (pe_mkKS MI GI (hr.mono (by decide)) rfl gD bK passNS (pa_cons (pe_ix ix_tup (pv 0) pe_int (fun _ _ => rfl)) (pa_cons (pe_ix ix_tup (pv 0) pe_int (fun _ _ => rfl)) pa_nil)) (pk_cons (pe_ix ix_tup (pv 0) pe_int (fun _ _ => rfl)) (pk_cons (pe_ix ix_tup (pv 0) pe_int (fun _ _ => rfl)) pk_nil))))), ?_⟩
    refine ⟨_, rfl, r, _, _, _, rfl, rfl, SqT.of e, rfl, _, rfl, r, _, _, _, rfl, rfl, SqT.of e, rfl, _, rfl, r, _, _, _, rfl, rfl, SqT.of e, rfl, _, rfl, r, _, _, _, rfl, rfl, SqT.of e, rfl, rfl, rfl, fun x dx nx nd ne => ?_⟩
    have j0 : Same H (upd (upd H dx (.own x)) x (.ins D dx [])) := fun b o e => (upd_ne (ne_of_none e nx)).trans ((upd_ne (ne_of_none e nd)).trans e)
    obtain ⟨a', p, q, ea, N1, l1, h1, zp, zq⟩ := v1.is
    obtain ⟨b', r', s', eb, N2, l2, h2, zr, zs⟩ := v2.is
    cases ea
    cases eb
    have i1 : EndIs K C H (.ref a) (.num p q) := ⟨a, rfl, N1, l1, zp.mono (by decide), zq.mono (by decide)⟩
    have i2 : EndIs K C H (.ref b) (.num r' s') := ⟨b, rfl, N2, l2, zr.mono (by decide), zs.mono (by decide)⟩
    have n1 : (V.ref a) ≠ .ref x := fun z => by injection z with z; obtain ⟨d, e⟩ := N1; exact ne_of_none e nx z
    have n2 : (V.ref b) ≠ .ref x := fun z => by injection z with z; obtain ⟨d, e⟩ := N2; exact ne_of_none e nx z
    have q0 := l1.pos
    have s0 := l2.pos
    have hf : fineB (.num p q) (.num r' s') (.flag b1) (.flag b2) = true := by
      show (decide (p * s' < r' * q) || (decide (p * s' = r' * q) && (b1 && b2))) = true
      by_cases h : z1 = z2
      · obtain ⟨rfl, rfl⟩ := zz.both h
        rw [decide_eq_true ((vz_ee q0 s0 h1 h2).mpr h)]
        simp
      · rw [decide_eq_true ((vz_lt q0 s0 h1 h2).mpr (by have := zz.le; omega))]
        rfl
    refine ⟨x, dx, .ref a, .ref b, .bl b1, .bl b2, .num p q, .num r' s', .flag b1, .flag b2, rfl, upd_same, n1, n2, (fun z => nomatch z), (fun z => nomatch z), i1.same j0, i2.same j0, rfl, rfl, fun _ m H' st mid kp => ⟨rfl, ?_⟩, fun z => by rw [hf] at z; cases z⟩
    have j1 : Same H H' := Same.mk nx nd kp
    obtain ⟨am, p', q', r'', s'', rfl, hA, hB, hm⟩ := mid
    cases hA
    cases hB
    have g1 := zz.g1
    have g2 := zz.g2
    refine k x _ H' nx ⟨a, b, st, (v1.mono (by decide)).same j1, (v2.mono (by decide)).same j1, (z1 + z2) / 2, ?_, by omega⟩ j1
    refine vz_of hm (Int.mul_ne_zero (by omega) (by omega)) (((zp.mul zs).add (zr.mul zq)).mono (by decide : 41 ≤ 200)) ((((show Sz 2 2 from by unfold Sz; decide).mul zq).mul zs).mono (by decide)) ?_
    have e2 : ((z1 + z2) / 2) * 2 = z1 + z2 := by omega
    generalize (z1 + z2) / 2 = w at e2
    have e1 : (p * s' + r' * q) * 600 = (z1 + z2) * (q * s') := by grind
    rw [e1, ← e2]
    grind
theorem ok_lies (F : L2.Fun K "_law_lies" "_law_lies" sLies f fd) (b : Binds K fd PLies []) (NC : NumC K C) (pT : PrpF P w K mg base 1 C "top" (spTop C)) (pB : PrpF P w K mg base 1 C "bottom" (spBot C)) : FnR P w K mg base CX0 3 f (spLies C) := by
  refine fnR_of F b scLies (fun vs H Q E h => ?_) (fun cdv A0 outer s H vs Q E hr h => ?_)
  · obtain ⟨r, a, b, sv, z1, z2, z, b1, b2, rfl, _⟩ := h
    rfl
  · have sc := scLies
    obtain ⟨r, a, b, sv, z1, z2, z, b1, b2, rfl, ⟨e, v1, v2, zz⟩, v3, k⟩ := h
    obtain ⟨a', p, q, ea, ⟨d1, e1⟩, l1, h1, zp, zq⟩ := v1.is
    obtain ⟨b', r', s', eb, ⟨d2, e2⟩, l2, h2, zr, zs⟩ := v2.is
    obtain ⟨c, u, v, ec, ⟨d3, e3⟩, l3, h3, zu, zv⟩ := v3.is
    cases ea
    cases eb
    cases ec
    have N1 : NumAt C H a p q := ⟨d1, e1⟩
    have N2 : NumAt C H b r' s' := ⟨d2, e2⟩
    have N3 : NumAt C H c u v := ⟨d3, e3⟩
    have q0 := l1.pos
    have s0 := l2.pos
    have w0 := l3.pos
    have E1 : decide (V.int (p * v) = V.int (u * q)) = decide (z1 = z) := decide_eq_decide.mpr ⟨fun h => (vz_ee q0 w0 h1 h3).mp (by injection h), fun h => congrArg V.int ((vz_ee q0 w0 h1 h3).mpr h)⟩
    have E2 : decide (V.int (u * s') = V.int (r' * v)) = decide (z = z2) := decide_eq_decide.mpr ⟨fun h => (vz_ee w0 s0 h3 h2).mp (by injection h), fun h => congrArg V.int ((vz_ee w0 s0 h3 h2).mpr h)⟩
    have L1 : (p * v ≤ u * q) ↔ z1 ≤ z := by
      have := vz_lt w0 q0 h3 h1
      omega
    have L2 : (u * s' ≤ r' * v) ↔ z ≤ z2 := by
      have := vz_lt s0 w0 h2 h3
      omega
    have rest : ∃ t, PSs (cxOf CX0 P w K mg base NLies "_law_lies" (defScope sLies) f cdv A0 outer s H E).nox (List.drop 3 (defBody sLies)) t ∧ (contZ z1 z2 b1 b2 z = (decide (z1 ≤ z) && decide (z ≤ z2)) →
        t { nx := fun _ H' => Q .non H', rt := Q } [some (.ref r), some (.ref c), some (.int (p * v)), some (.int (u * q)), some (.int (u * s')), some (.int (r' * v))] H) := by
      refine ⟨_, (pss_one (ps_ret (pe_and (pe_cmpR op_le (pv 2) (pv 3) (nomark _)) (pe_one (pe_cmpR op_le (pv 4) (pv 5) (nomark _)))))), fun hc => ?_⟩
      rw [hc] at k
      refine ⟨_, rfl, _, rfl, _, _, rfl, rfl, _, rfl, if2 (fun h => ?_) (fun h => ?_)⟩
      · have g : decide (z1 ≤ z) = true := decide_eq_true (L1.mp (of_decide_eq_true h))
        rw [g] at k
        refine ⟨_, rfl, _, rfl, _, _, rfl, rfl, ?_⟩
        have g2 : decide (z ≤ z2) = decide (u * s' ≤ r' * v) := decide_eq_decide.mpr L2.symm
        rw [g2] at k
        exact k
      · have g : decide (z1 ≤ z) = false := decide_eq_false fun y => of_decide_eq_false h (L1.mpr y)
        rw [g] at k
        first | (rw [h]; exact k) | exact k
    obtain ⟨t, hbody, ht⟩ := rest
    refine ⟨_, (pss_cons (ps_par (i := 2) (j := 3) (by rfl) sc.nd rfl rfl (by decide) rfl rfl (pa_cons (pe_op op_mulW (pe_pr pT hr (by decide) (pe_ix ix_tup (pv 0) pe_int (fun _ _ => rfl))) (pe_pr pB hr (by decide) (pv 1))) (pa_cons (pe_op op_mulW (pe_pr pT hr (by decide) (pv 1)) (pe_pr pB hr (by decide) (pe_ix ix_tup (pv 0) pe_int (fun _ _ => rfl)))) pa_nil)) (by rfl)) (pss_cons (ps_par (i := 4) (j := 5) (by rfl) sc.nd rfl rfl (by decide) rfl rfl (pa_cons (pe_op op_mulW (pe_pr pT hr (by decide) (pv 1)) (pe_pr pB hr (by decide) (pe_ix ix_tup (pv 0) pe_int (fun _ _ => rfl)))) (pa_cons (pe_op op_mulW (pe_pr pT hr (by decide) (pe_ix ix_tup (pv 0) pe_int (fun _ _ => rfl))) (pe_pr pB hr (by decide) (pv 1))) pa_nil)) (by rfl)) (pss_cons (ps_if (PW.pt (pw_or (PW.pt (pw_and (pt_cmpR op_eq (pv 2) (pv 3) (nomark _)) (pw_and1 (pt_not (pt_val (pe_ix ix_tup (pv 0) pe_int (fun _ _ => rfl))))))) (pw_or1 (PW.pt (pw_and (pt_cmpR op_eq (pv 4) (pv 5) (nomark _)) (pw_and1 (pt_not (pt_val (pe_ix ix_tup (pv 0) pe_int (fun _ _ => rfl)))))))))) (pss_one (ps_ret pe_bl)) pss_nil) hbody))), ?_⟩
    refine ⟨_, rfl, r, _, _, _, rfl, rfl, SqT.of e, rfl, a, d1, _, rfl, e1, a, p, q, rfl, N1, _, rfl, c, d3, _, rfl, e3, c, u, v, rfl, N3, _, _, rfl, rfl, wide_mul zp zv (by decide) (by decide) (by decide), ?_⟩
    refine ⟨_, rfl, c, d3, _, rfl, e3, c, u, v, rfl, N3, _, rfl, r, _, _, _, rfl, rfl, SqT.of e, rfl, a, d1, _, rfl, e1, a, p, q, rfl, N1, _, _, rfl, rfl, wide_mul zu zq (by decide) (by decide) (by decide), _, _, rfl, ?_⟩
    refine ⟨_, rfl, c, d3, _, rfl, e3, c, u, v, rfl, N3, _, rfl, r, _, _, _, rfl, rfl, SqT.of e, rfl, b, d2, _, rfl, e2, b, r', s', rfl, N2, _, _, rfl, rfl, wide_mul zu zs (by decide) (by decide) (by decide), ?_⟩
    refine ⟨_, rfl, r, _, _, _, rfl, rfl, SqT.of e, rfl, b, d2, _, rfl, e2, b, r', s', rfl, N2, _, rfl, c, d3, _, rfl, e3, c, u, v, rfl, N3, _, _, rfl, rfl, wide_mul zr zv (by decide) (by decide) (by decide), _, _, rfl, ?_⟩
    refine ⟨_, rfl, _, rfl, rfl, _, rfl, if2 (fun h => ?_) (fun h => ?_)⟩
    · have h := of_decide_eq_true (E1.symm.trans h)
      refine ⟨_, rfl, r, _, _, _, rfl, rfl, SqT.of e, rfl, _, rfl, ?_⟩
      cases b1 with
      | false =>
        refine ifT rfl ?_
        rw [lies_no zz (.inl ⟨h, rfl⟩)] at k
        exact k
      | true =>
        refine ifF rfl ?_
        refine ⟨_, rfl, _, rfl, rfl, _, rfl, if2 (fun g => ?_) (fun g => ?_)⟩
        · have g := of_decide_eq_true (E2.symm.trans g)
          refine ⟨_, rfl, r, _, _, _, rfl, rfl, SqT.of e, rfl, _, rfl, ?_⟩
          cases b2 with
          | false =>
            refine ifT rfl ?_
            rw [lies_no zz (.inr ⟨g, rfl⟩)] at k
            exact k
          | true =>
            refine ifF rfl ?_
            exact ht (lies_eq zz (fun y => by cases y.2) (fun y => by cases y.2))
        · have g := of_decide_eq_false (E2.symm.trans g)
          refine ifF rfl ?_
          exact ht (lies_eq zz (fun y => by cases y.2) (fun y => g y.1))
    · have h := of_decide_eq_false (E1.symm.trans h)
      refine ⟨_, rfl, _, rfl, rfl, _, rfl, if2 (fun g => ?_) (fun g => ?_)⟩
      · have g := of_decide_eq_true (E2.symm.trans g)
        refine ⟨_, rfl, r, _, _, _, rfl, rfl, SqT.of e, rfl, _, rfl, ?_⟩
        cases b2 with
        | false =>
          refine ifT rfl ?_
          rw [lies_no zz (.inr ⟨g, rfl⟩)] at k
          exact k
        | true =>
          refine ifF rfl ?_
          exact ht (lies_eq zz (fun y => h y.1) (fun y => by cases y.2))
      · have g := of_decide_eq_false (E2.symm.trans g)
        refine ifF rfl ?_
        exact ht (lies_eq zz (fun y => h y.1) (fun y => g y.1))
end
end Ws

namespace Ws
open PySem PySem.Spec PyProof.Rows L2
section
variable {P : Program} {w : World} {K : PySem.W.Frag} {mg : Str → Option Value} {base : Heap} {C D f : Addr} {fd : FuncData}
theorem pot_off {H : Hp} {p a : Addr} {m : Int} (hp : PotAt H p m) (na : H a = none) : a ≠ p := by
  rintro rfl
  obtain ⟨_, _, _, e, _⟩ := hp
  rw [e] at na
  cases na
theorem PotAt.lst {H : Hp} {p : Addr} {m : Int} (hp : PotAt H p m) : ∃ xs, H p = some (.lst xs) := let ⟨_, _, _, e, _⟩ := hp; ⟨_, e⟩
theorem VzN.pot {n : Nat} {p : Addr} {H H' : Hp} {v : V} {z m : Int} (h : VzN n C H v z) (c : Ch p H H') (hp : PotAt H p m) : VzN n C H' v z := let ⟨_, e⟩ := hp.lst; h.ch c e
theorem EndsAt.pot {p : Addr} {H H' : Hp} {r a b : Addr} {z1 z2 m : Int} {b1 b2 : Bool} (h : EndsAt C H r a b z1 z2 b1 b2) (c : Ch p H H') (hp : PotAt H p m) : EndsAt C H' r a b z1 z2 b1 b2 := let ⟨_, e⟩ := hp.lst; h.ch c e
theorem ok_ends (F : L2.Fun K "_law_ends" "_law_ends" sEnds f fd) (b : Binds K fd PEnds []) (B : Bi mg) (NC : NumC K C) (mN : MakF P w K mg base 2 "Number" C (spNum C)) (pT : PrpF P w K mg base 1 C "top" (spTop C)) (pB : PrpF P w K mg base 1 C "bottom" (spBot C)) (cT : CalF P w K mg base 1 "_law_take" spTake) (cO : CalF P w K mg base 2 "_law_of" spOf) : FnR P w K mg base CX0 5 f (spEnds C) := by
  refine fnR_of F b scEnds (fun vs H Q E h => ?_) (fun cdv A0 outer s H vs Q E hr h => ?_)
  · obtain ⟨p, m, rfl, _⟩ := h
    rfl
  · have sc := scEnds
    obtain ⟨p, m, rfl, hp, hm, k⟩ := h
    refine ⟨_, (pss_cons (ps_asg (pe_lc (own := [("turn", 5)]) rfl sc.nd (pi_range1 (by rfl) B.range (pa_cons pe_int pa_nil)) (blkOk_by (N := NEnds) (sc := defScope sEnds) (by decide +kernel)) (fun _ _ _ _ _ => by exact (pg_name (i := 5) sc.nd rfl (Or.inl rfl))) (fun _ _ _ _ _ => by exact pts_nil) (fun _ _ _ _ _ => by exact (pe_mk mN hr (by decide) rfl (pa_cons (pe_op op_sub (pe_f cT hr (by decide) rfl (pa_cons (pv 0) (pa_cons pe_int pa_nil))) pe_int) (pa_cons (pe_f cO hr (by decide) rfl (pa_cons (pv 0) (pa_cons (pe_lst (pa_cons pe_int (pa_cons pe_int (pa_cons pe_int pa_nil)))) pa_nil))) pa_nil))))) (pg_lst rfl (pgs_cons (pg_name (i := 1) sc.nd rfl (Or.inl rfl)) (pgs_cons (pg_name (i := 2) sc.nd rfl (Or.inl rfl)) pgs_nil)))) (pss_cons (ps_par (i := 3) (j := 4) (by rfl) sc.nd rfl rfl (by decide) rfl rfl (pa_cons (pe_op op_mulW (pe_pr pT hr (by decide) (pv 1)) (pe_pr pB hr (by decide) (pv 2))) (pa_cons (pe_op op_mulW (pe_pr pT hr (by decide) (pv 2)) (pe_pr pB hr (by decide) (pv 1))) pa_nil)) (by rfl)) (pss_cons (ps_if (pt_cmpR op_eq (pv 3) (pv 4) (nomark _)) (pss_one (ps_ret (pe_tup (pa_cons (pv 1) (pa_cons (pv 2) (pa_cons pe_bl (pa_cons pe_bl pa_nil))))))) pss_nil) (pss_one (ps_ret (pe_tup (pa_cons (pe_ifExp (pt_cmpR op_lt (pv 3) (pv 4) (nomark _)) (pv 1) (pv 2)) (pa_cons (pe_ifExp (pt_cmpR op_lt (pv 3) (pv 4) (nomark _)) (pv 2) (pv 1)) (pa_cons (pe_cmpR op_eq (pe_f cT hr (by decide) rfl (pa_cons (pv 0) (pa_cons pe_int pa_nil))) pe_int (nomark _)) (pa_cons (pe_cmpR op_eq (pe_f cT hr (by decide) rfl (pa_cons (pv 0) (pa_cons pe_int pa_nil))) pe_int (nomark _)) pa_nil)))))))))), ?_⟩
    refine ⟨2, rfl, by decide, by decide, fun D hD => ?_⟩
    have npD : p ≠ D := by obtain ⟨_, e⟩ := hp.lst; exact ne_of_none e hD
    refine lcR (lo := 0) (n := 2) (fun j acc H' => (∀ v ∈ acc, ∃ z, VzN 20 C H' v z ∧ z % 100 = 0) ∧ PotAt H' p (m + 2 * j) ∧ Ch p H H') ⟨(fun v hv => by cases hv), (hp.same (Same.new hD)).mono (by omega), Ch.new hD⟩ (by decide) ?_ ?_
    · rintro j H1 acc hj ⟨ha, hp1, c1⟩ hDj hl Qn kQ
      refine ⟨rfl, _, rfl, p, 9, _, rfl, hp1, by omega, by decide, by decide, fun d H2 d0 d1 hp2 c2 => ?_⟩
      refine ⟨_, _, rfl, rfl, _, rfl, by show 3 ≤ sizeLine; decide, fun l hl => ?_⟩
      have npl : p ≠ l := by obtain ⟨_, e⟩ := hp2.lst; exact ne_of_none e hl
      refine ⟨p, l, _, _, rfl, hp2.same (Same.new hl), by omega, upd_same, fun z => npl z.symm, by show 1 ≤ 3; decide, by show 3 ≤ 1000; decide, fun v H3 hv hp3 c3 => ?_⟩
      have hv' : ∃ b : Int, v = .int b ∧ (b = 1 ∨ b = 2 ∨ b = 3) := by
        simp only [List.mem_cons, List.not_mem_nil, or_false] at hv
        rcases hv with rfl | rfl | rfl
        · exact ⟨1, rfl, .inl rfl⟩
        · exact ⟨2, rfl, .inr (.inl rfl)⟩
        · exact ⟨3, rfl, .inr (.inr rfl)⟩
      obtain ⟨b, rfl, hb⟩ := hv'
      have b0 : b ≠ 0 := by omega
      have zb : Sz 20 b := by show b.natAbs < 2 ^ 20; omega
      have zt : Sz 20 (d - 4) := by show (d - 4).natAbs < 2 ^ 20; omega
      have c13 : Ch p H1 H3 := (c2.trans (Ch.new hl)).trans c3
      intro x dx nx nd ne
      refine ⟨x, dx, _, _, rfl, b0, zb.mono (by decide), upd_same, fun H4 h4 k4 => ⟨rfl, ?_⟩⟩
      have j4 : Same H3 H4 := Same.mk nx nd k4
      have hD4 : H4 D = some (.lst acc) := j4 _ _ (c13 _ _ npD.symm hDj)
      have key : ∃ z, VzN 20 C H4 (.ref x) z ∧ z % 100 = 0 := by
        rcases hb with rfl | rfl | rfl
        · exact ⟨(d - 4) * 600, vz_of h4 b0 zt zb (by omega), by omega⟩
        · exact ⟨(d - 4) * 300, vz_of h4 b0 zt zb (by omega), by omega⟩
        · exact ⟨(d - 4) * 200, vz_of h4 b0 zt zb (by omega), by omega⟩
      have c5 : Ch D H4 (upd H4 D (.lst (acc ++ [.ref x]))) := Ch.upd
      refine kQ _ _ hD4 ⟨fun v hv => ?_, ?_, fun b' o n e => ?_⟩
      · rcases List.mem_append.mp hv with hv | hv
        · obtain ⟨z, vz, g⟩ := ha v hv
          exact ⟨z, ((vz.pot c13 hp1).same j4).ch c5 hD4, g⟩
        · rw [List.mem_singleton.mp hv]
          obtain ⟨z, vz, g⟩ := key
          exact ⟨z, vz.ch c5 hD4, g⟩
      · obtain ⟨x1, x2, x3, e, r1, r2, r3, r4, r5⟩ := hp3.same j4
        exact ⟨x1, x2, x3, (upd_ne npD).trans e, r1, r2, r3, r4, by omega⟩
      · exact (upd_ne (ne_of_none e hD)).trans (j4 _ _ (c13 _ _ n (c1 _ _ n e)))
    · rintro ys H2 ⟨hy, hp2, c2⟩ hD2 hl
      match ys, hl with
      | [y1, y2], _ =>
        obtain ⟨z1, v1, g1⟩ := hy y1 (by simp)
        obtain ⟨z2, v2, g2⟩ := hy y2 (by simp)
        obtain ⟨a, p1, q1, ea, ⟨d1, e1⟩, l1, h1, zp, zq⟩ := v1.is
        obtain ⟨b, r1, s1, eb, ⟨d2, e2⟩, l2, h2, zr, zs⟩ := v2.is
        cases ea
        cases eb
        have N1 : NumAt C H2 a p1 q1 := ⟨d1, e1⟩
        have N2 : NumAt C H2 b r1 s1 := ⟨d2, e2⟩
        have q0 := l1.pos
        have s0 := l2.pos
        refine ⟨D, _, rfl, SqL.of hD2, rfl, _, _, rfl, _, _, rfl, rfl, ?_⟩
        refine ⟨_, rfl, a, d1, _, rfl, e1, a, p1, q1, rfl, N1, _, rfl, b, d2, _, rfl, e2, b, r1, s1, rfl, N2, _, _, rfl, rfl, wide_mul zp zs (by decide) (by decide) (by decide), ?_⟩
        refine ⟨_, rfl, b, d2, _, rfl, e2, b, r1, s1, rfl, N2, _, rfl, a, d1, _, rfl, e1, a, p1, q1, rfl, N1, _, _, rfl, rfl, wide_mul zr zq (by decide) (by decide) (by decide), _, _, rfl, ?_⟩
        have E1 : decide (V.int (p1 * s1) = V.int (r1 * q1)) = decide (z1 = z2) := decide_eq_decide.mpr ⟨fun h => (vz_ee q0 s0 h1 h2).mp (by injection h), fun h => congrArg V.int ((vz_ee q0 s0 h1 h2).mpr h)⟩
        have L1 : decide (p1 * s1 < r1 * q1) = decide (z1 < z2) := decide_eq_decide.mpr (vz_lt q0 s0 h1 h2)
        have done : ∀ (a b : Addr) (z1 z2 : Int) (b1 b2 : Bool) (G : Hp) (r : Addr), VzN 20 C G (.ref a) z1 → VzN 20 C G (.ref b) z2 → Zs z1 z2 b1 b2 → PotAt G p (m + 6) → Ch p H G → G r = none → Q (.ref r) (upd G r (.tup [.ref a, .ref b, .bl b1, .bl b2])) := fun a b z1 z2 b1 b2 G r u1 u2 zz hpG cG nr =>
          k r a b z1 z2 b1 b2 _ (cG.free (pot_off hpG nr) nr) ⟨upd_same, u1.same (Same.new nr), u2.same (Same.new nr), zz⟩ (hpG.same (Same.new nr)) (cG.trans (Ch.new nr))
        refine ⟨_, rfl, _, rfl, rfl, _, rfl, if2 (fun h => ?_) (fun h => ?_)⟩
        · have h := of_decide_eq_true (E1.symm.trans h)
          refine ⟨_, rfl, _, rfl, by show 4 ≤ sizeLine; decide, fun r nr => ?_⟩
          exact done a b z1 z2 true true H2 r v1 v2 ⟨g1, g2, by omega, fun _ => ⟨rfl, rfl⟩⟩ (hp2.mono (by omega)) c2 nr
        · have h := of_decide_eq_false (E1.symm.trans h)
          refine ⟨_, rfl, _, rfl, _, _, rfl, rfl, _, rfl, ?_⟩
          by_cases lt : z1 < z2
          · have t1 : decide (p1 * s1 < r1 * q1) = true := L1.trans (decide_eq_true lt)
            refine ifT t1 ⟨_, rfl, _, rfl, _, rfl, _, _, rfl, rfl, _, rfl, ifT t1 ⟨_, rfl, ?_⟩⟩
            refine ⟨_, rfl, p, 2, _, rfl, hp2, by omega, by decide, by decide, fun w1 H3 _ _ hp3 c3 => ⟨rfl, ?_⟩⟩
            refine ⟨_, rfl, p, 2, _, rfl, hp3, by omega, by decide, by decide, fun w2 H4 _ _ hp4 c4 => ⟨rfl, ?_⟩⟩
            refine ⟨by show 4 ≤ sizeLine; decide, fun r nr => ?_⟩
            exact done a b z1 z2 _ _ H4 r ((v1.pot c3 hp2).pot c4 hp3) ((v2.pot c3 hp2).pot c4 hp3) ⟨g1, g2, by omega, fun z => absurd z h⟩ (hp4.mono (by omega)) ((c2.trans c3).trans c4) nr
          · have t1 : decide (p1 * s1 < r1 * q1) = false := L1.trans (decide_eq_false lt)
            refine ifF t1 ⟨_, rfl, _, rfl, _, rfl, _, _, rfl, rfl, _, rfl, ifF t1 ⟨_, rfl, ?_⟩⟩
            refine ⟨_, rfl, p, 2, _, rfl, hp2, by omega, by decide, by decide, fun w1 H3 _ _ hp3 c3 => ⟨rfl, ?_⟩⟩
            refine ⟨_, rfl, p, 2, _, rfl, hp3, by omega, by decide, by decide, fun w2 H4 _ _ hp4 c4 => ⟨rfl, ?_⟩⟩
            refine ⟨by show 4 ≤ sizeLine; decide, fun r nr => ?_⟩
            exact done b a z2 z1 _ _ H4 r ((v2.pot c3 hp2).pot c4 hp3) ((v1.pot c3 hp2).pot c4 hp3) ⟨g2, g1, by omega, fun z => absurd z.symm h⟩ (hp4.mono (by omega)) ((c2.trans c3).trans c4) nr
end
end Ws

namespace Ws
open PySem PySem.Spec PyProof.Rows L2
abbrev sSpots : Stmt := (PySem.Challenge.pw_whatspeed_k08_whole_what_lies_in_a_stret.main.body.getD 18 (.Pass ⟨0, 0, 0, 0⟩))
abbrev NSpots : List Str := ["one", "other", "found", "end", "a", "b", "k"]
abbrev PSpots : List Str := ["one", "other"]
theorem scSpots : FnScope NSpots PSpots (defScope sSpots) := ⟨rfl, rfl, rfl, by decide +kernel, rfl, by decide +kernel, by decide +kernel⟩
def VzL (C : Addr) (H : Hp) : List V → List Int → Prop
  | [], [] => True
  | v :: vs, z :: zs => Vz C H v z ∧ VzL C H vs zs
  | _, _ => False
theorem VzL.imp {C : Addr} {H H' : Hp} (f : ∀ v z, Vz C H v z → Vz C H' v z) : ∀ {vs : List V} {zs : List Int}, VzL C H vs zs → VzL C H' vs zs
  | [], [], _ => trivial
  | v :: vs, z :: zs, h => ⟨f _ _ h.1, VzL.imp f h.2⟩
  | [], _ :: _, h => h.elim
  | _ :: _, [], h => h.elim
theorem VzL.same {C : Addr} {H H' : Hp} {vs : List V} {zs : List Int} (h : VzL C H vs zs) (s : Same H H') : VzL C H' vs zs := h.imp fun _ _ q => q.same s
theorem VzL.ch {C o : Addr} {H H' : Hp} {vs xs : List V} {zs : List Int} (h : VzL C H vs zs) (c : Ch o H H') (e : H o = some (.lst xs)) : VzL C H' vs zs := h.imp fun _ _ q => q.ch c e
theorem VzL.length {C : Addr} {H : Hp} : ∀ {vs : List V} {zs : List Int}, VzL C H vs zs → vs.length = zs.length
  | [], [], _ => rfl
  | v :: vs, z :: zs, h => congrArg (· + 1) (VzL.length h.2)
  | [], _ :: _, h => h.elim
  | _ :: _, [], h => h.elim
theorem VzL.app {C : Addr} {H : Hp} {us : List V} {ys : List Int} (h2 : VzL C H us ys) : ∀ {vs : List V} {zs : List Int}, VzL C H vs zs → VzL C H (vs ++ us) (zs ++ ys)
  | [], [], _ => h2
  | v :: vs, z :: zs, h => ⟨h.1, VzL.app h2 h.2⟩
  | [], _ :: _, h => h.elim
  | _ :: _, [], h => h.elim
theorem VzL.get {C : Addr} {H : Hp} : ∀ {vs : List V} {zs : List Int} {i : Nat} {v : V}, VzL C H vs zs → vs[i]? = some v → ∃ z, zs[i]? = some z ∧ Vz C H v z
  | [], [], _, _, _, e => by simp at e
  | v :: vs, z :: zs, 0, _, h, e => by cases e; exact ⟨z, rfl, h.1⟩
  | v :: vs, z :: zs, i + 1, _, h, e => VzL.get (i := i) h.2 (by simpa using e)
  | [], _ :: _, _, _, h, _ => h.elim
  | _ :: _, [], _, _, h, _ => h.elim
def trip (z : Int) : List Int := [z + 6 * (-1), z + 6 * 0, z + 6 * 1]
def spotZ (z1 z2 z3 z4 : Int) : List Int := [0, 600 * 10 ^ 20] ++ [z1, z2, z3, z4].flatMap trip ++ [(z1 + z2) / 2] ++ [(z3 + z4) / 2]
def spNum1 (C : Addr) : Sp := fun vs H Q _ => ∃ (x dx : Addr) (t : Int), vs = [.ref x, .int t] ∧ H x = some (.ins C dx []) ∧ ∀ H', NumAt C H' x (nT t 1) (nB t 1) → (∀ a o, H a = some o → a ≠ x → H' a = some o) → Q .non H'
def spSpots (C : Addr) : Sp := fun vs H Q _ => ∃ (r1 r2 a b c d : Addr) (z1 z2 z3 z4 : Int) (b1 b2 b3 b4 : Bool), vs = [.ref r1, .ref r2] ∧ EndsAt C H r1 a b z1 z2 b1 b2 ∧ EndsAt C H r2 c d z3 z4 b3 b4 ∧ ∀ L vs' H', H L = none → H' L = some (.lst vs') → VzL C H' vs' (spotZ z1 z2 z3 z4) → Same H H' → Q (.ref L) H'
section
variable {P : Program} {w : World} {K : PySem.W.Frag} {mg : Str → Option Value} {base : Heap} {C D f : Addr} {fd : FuncData}
theorem take_trip {zs : List Int} {i : Nat} {z : Int} (h : zs[i]? = some z) : (zs.take (i + 1)).flatMap trip = (zs.take i).flatMap trip ++ trip z := by
  rw [List.take_add_one, h, List.flatMap_append]
  simp
theorem ok_spots (F : L2.Fun K "_law_spots" "_law_spots" sSpots f fd) (b : Binds K fd PSpots []) (B : Bi mg) (NC : NumC K C) (mN : MakF P w K mg base 2 "Number" C (spNum C)) (mN1 : MakF P w K mg base 2 "Number" C (spNum1 C)) (pT : PrpF P w K mg base 1 C "top" (spTop C)) (pB : PrpF P w K mg base 1 C "bottom" (spBot C)) : FnR P w K mg base CX0 4 f (spSpots C) := by
  refine fnR_of F b scSpots (fun vs H Q E h => ?_) (fun cdv A0 outer s H vs Q E hr h => ?_)
  · obtain ⟨r1, r2, a, b, c, d, z1, z2, z3, z4, b1, b2, b3, b4, rfl, _⟩ := h
    rfl
  · have sc := scSpots
    obtain ⟨r1, r2, a, b, c, d, z1, z2, z3, z4, b1, b2, b3, b4, rfl, en1, en2, k⟩ := h
    refine ⟨_, (pss_cons (ps_set (i := 2) sc.nd rfl (Or.inl rfl) (pe_lst (pa_cons (pe_mk mN1 hr (by decide) rfl (pa_cons pe_int pa_nil)) (pa_cons (pe_mk mN1 hr (by decide) rfl (pa_cons (pe_op op_pow pe_int pe_int) pa_nil)) pa_nil)))) (pss_cons (ps_for PassesOwn.never rfl (pi_tup (pe_op op_catT (pe_slice sl_tup (pv 0) po_none (po_some pe_int)) (pe_slice sl_tup (pv 1) po_none (po_some pe_int)))) (pg_name (i := 3) sc.nd rfl (Or.inr rfl)) (pss_one (ps_expr (pe_bm PySem.F.plainAttrs_list PySem.F.slot_list_extend PySem.F.type_list_extend mt_extend (pv 2) (pa_cons (pe_lc (own := [("k", 6)]) rfl sc.nd (pi_tup (pe_tup (pa_cons (pe_un un_neg pe_int) (pa_cons pe_int (pa_cons pe_int pa_nil))))) (blkOk_by (N := NSpots) (sc := defScope sSpots) (by decide +kernel)) (fun _ _ _ _ _ => by exact (pg_name (i := 6) sc.nd rfl (Or.inl rfl))) (fun _ _ _ _ _ => by exact pts_nil) (fun _ _ _ _ _ => by exact (pe_mk mN hr (by decide) rfl (pa_cons (pe_op op_add (pe_op op_mulW (pe_pr pT hr (by decide) (pv 3)) pe_int) (pe_op op_mulW (pe_pr pB hr (by decide) (pv 3)) (pv 6))) (pa_cons (pe_op op_mulW (pe_pr pB hr (by decide) (pv 3)) pe_int) pa_nil))))) pa_nil))))) (pss_cons (ps_for PassesOwn.never rfl (pi_list (pe_lst (pa_cons (pe_slice sl_tup (pv 0) po_none (po_some pe_int)) (pa_cons (pe_slice sl_tup (pv 1) po_none (po_some pe_int)) pa_nil)))) (pg_tup rfl (pgs_cons (pg_name (i := 4) sc.nd rfl (Or.inl rfl)) (pgs_cons (pg_name (i := 5) sc.nd rfl (Or.inl rfl)) pgs_nil))) (pss_one (ps_expr (pe_bm PySem.F.plainAttrs_list PySem.F.slot_list_append PySem.F.type_list_append mt_append (pv 2) (pa_cons (pe_mk mN hr (by decide) rfl (pa_cons (pe_op op_add (pe_op op_mulW (pe_pr pT hr (by decide) (pv 4)) (pe_pr pB hr (by decide) (pv 5))) (pe_op op_mulW (pe_pr pT hr (by decide) (pv 5)) (pe_pr pB hr (by decide) (pv 4)))) (pa_cons (pe_op op_mulW (pe_op op_mulW pe_int (pe_pr pB hr (by decide) (pv 4))) (pe_pr pB hr (by decide) (pv 5))) pa_nil))) pa_nil))))) (pss_one (ps_ret (pv 2)))))), ?_⟩
    -- found
    intro x1 dx1 nx1 nd1 ne1
    refine ⟨x1, dx1, _, rfl, upd_same, fun H1 h1 k1 => ⟨rfl, ?_⟩⟩
    have g1 : Same H H1 := Same.mk nx1 nd1 k1
    refine ⟨_, _, rfl, rfl, ⟨by decide, by decide, by decide⟩, ?_⟩
    intro x2 dx2 nx2 nd2 ne2
    refine ⟨x2, dx2, _, rfl, upd_same, fun H2 h2 k2 => ⟨rfl, ?_⟩⟩
    have g2 : Same H1 H2 := Same.mk nx2 nd2 k2
    refine ⟨by show 2 ≤ sizeLine; decide, fun L nL => ?_⟩
    have v1 : Vz C H2 (.ref x1) 0 := (vz_of h1 (by decide) (show Sz 200 0 from (show Sz 1 0 from by unfold Sz; decide).mono (by decide)) (show Sz 200 1 from (show Sz 1 1 from by unfold Sz; decide).mono (by decide)) (by decide)).same g2
    have v2 : Vz C H2 (.ref x2) (600 * 10 ^ 20) := vz_of h2 (by decide) ((show Sz 70 ((10 : Int) ^ (20 : Int).toNat) from by unfold Sz; decide).mono (by decide)) ((show Sz 1 1 from by unfold Sz; decide).mono (by decide)) (by decide)
    have g3 := Same.new (o := .lst [.ref x1, .ref x2]) nL
    have eL := upd_same (H := H2) (a := L) (o := .lst [.ref x1, .ref x2])
    have v1 := v1.same g3
    have v2 := v2.same g3
    have g03 := (g1.trans g2).trans g3
    have nLH : H L = none := by
      cases e : H L with
      | none => rfl
      | some o => rw [(g1.trans g2) _ _ e] at nL; cases nL
    generalize upd H2 L (.lst [.ref x1, .ref x2]) = H3 at g3 eL v1 v2 g03
    have en1 := en1.same g03
    have en2 := en2.same g03
    -- for end in one[:2] + other[:2]
    refine ⟨_, rfl, _, rfl, r1, _, rfl, SqT.of en1.1, (by show ¬(HT.sIx 4 0 none = 0 ∧ HT.sIx 4 4 (some 2) = 4); decide), fun t1 nt1 => ?_⟩
    rw [show cutV [V.ref a, V.ref b, V.bl b1, V.bl b2] none (some 2) = [V.ref a, V.ref b] from rfl]
    have j1 := Same.new (o := .tup [.ref a, .ref b]) nt1
    have et1 : (upd H3 t1 (.tup [.ref a, .ref b])) t1 = some (.tup [.ref a, .ref b]) := upd_same
    refine ⟨_, rfl, _, rfl, r2, _, rfl, SqT.of (j1 _ _ en2.1), (by show ¬(HT.sIx 4 0 none = 0 ∧ HT.sIx 4 4 (some 2) = 4); decide), fun t2 nt2 => ?_⟩
    rw [show cutV [V.ref c, V.ref d, V.bl b3, V.bl b4] none (some 2) = [V.ref c, V.ref d] from rfl]
    have j2 := Same.new (o := .tup [.ref c, .ref d]) nt2
    refine ⟨t1, t2, [.ref a, .ref b], [.ref c, .ref d], rfl, rfl, SqT.of (j2 _ _ et1), SqT.of upd_same, (fun z => nomatch z), by show 4 ≤ sizeLine; decide, (fun z => nomatch z), fun _ T nT => ?_⟩
    have j3 := Same.new (o := .tup ([.ref a, .ref b] ++ [.ref c, .ref d])) nT
    have eT : (upd (upd (upd H3 t1 (.tup [.ref a, .ref b])) t2 (.tup [.ref c, .ref d])) T (.tup ([.ref a, .ref b] ++ [.ref c, .ref d]))) T = some (.tup [.ref a, .ref b, .ref c, .ref d]) := upd_same
    have j13 : Same H3 (upd (upd (upd H3 t1 (.tup [.ref a, .ref b])) t2 (.tup [.ref c, .ref d])) T (.tup ([.ref a, .ref b] ++ [.ref c, .ref d]))) := (j1.trans j2).trans j3
    refine ⟨T, rfl, ⟨_, SqT.of eT⟩, ?_⟩
    have en1 := en1.same j13
    have en2 := en2.same j13
    have v1 := v1.same j13
    have v2 := v2.same j13
    have eL := j13 _ _ eL
    have g04 := g03.trans j13
    generalize upd (upd (upd H3 t1 (.tup [.ref a, .ref b])) t2 (.tup [.ref c, .ref d])) T (.tup ([.ref a, .ref b] ++ [.ref c, .ref d])) = H4 at eT j13 en1 en2 v1 v2 eL g04
    have nLb : ∀ {o : HO} {b : Addr}, H4 b = some o → (∀ xs, o ≠ .lst xs) → b ≠ L := fun e n => ne_of e eL (n _)
    have ends : ∀ {i : Nat} {x : V}, [V.ref a, V.ref b, V.ref c, V.ref d][i]? = some x → ∃ z, [z1, z2, z3, z4][i]? = some z ∧ VzN 20 C H4 x z := fun {i x} h => by
      match i, h with
      | 0, h => cases h; exact ⟨z1, rfl, en1.2.1⟩
      | 1, h => cases h; exact ⟨z2, rfl, en1.2.2.1⟩
      | 2, h => cases h; exact ⟨z3, rfl, en2.2.1⟩
      | 3, h => cases h; exact ⟨z4, rfl, en2.2.2.1⟩
      | n + 4, h => simp at h
    refine for_tup (xs := [.ref a, .ref b, .ref c, .ref d]) (fun i σ H' => ∃ e, σ = [some (.ref r1), some (.ref r2), some (.ref L), e, none, none, none] ∧ Ch L H4 H' ∧ ∃ vs, H' L = some (.lst vs) ∧ VzL C H' vs ([0, 600 * 10 ^ 20] ++ ([z1, z2, z3, z4].take i).flatMap trip)) ⟨_, rfl, Ch.refl, _, eL, (show VzL C H4 [.ref x1, .ref x2] [0, 600 * 10 ^ 20] from ⟨v1, v2, trivial⟩)⟩ (fun i σ H' _ ⟨_, _, c, _⟩ => SqT.of (c _ _ (nLb eT (fun _ z => by cases z)) eT)) ?_ ?_
    · rintro i x σ H5 hx ⟨_, rfl, c5, vs, eL5, hv⟩
      obtain ⟨z, hz, vz⟩ := ends hx
      have vz := vz.ch c5 eL
      obtain ⟨u, p, q, rfl, ⟨du, eu⟩, lu, hu, zp, zq⟩ := vz.is
      refine ⟨_, rfl, .inl ⟨rfl, _, SqL.of eL5⟩, ?_⟩
      refine ⟨_, rfl, by show 3 ≤ sizeLine; decide, fun tp htp => ⟨tp, rfl, ⟨_, SqT.of upd_same⟩, fun D1 hD1 => ?_⟩⟩
      have w1 := Same.new (o := .tup [.int (-1), .int 0, .int 1]) htp
      have eP : (upd H5 tp (.tup [.int (-1), .int 0, .int 1])) tp = some (.tup [.int (-1), .int 0, .int 1]) := upd_same
      have eL6 := w1 _ _ eL5
      have hv6 := hv.same w1
      have eu6 := w1 _ _ eu
      generalize upd H5 tp (.tup [.int (-1), .int 0, .int 1]) = H6 at w1 eP hD1 eL6 hv6 eu6
      have q0 := lu.pos
      refine lcT (K := K) (a := tp) (xs := [.int (-1), .int 0, .int 1]) (fun j acc H' => VzL C H' acc ((trip z).take j) ∧ Ch D1 H6 H') ⟨trivial, Ch.new hD1⟩ (fun i acc H' ⟨_, c⟩ => SqT.of (c _ _ (ne_of_none eP hD1) eP)) (by show 3 < sizeLine; decide) ?_ ?_
      · rintro j x H7 acc hx ⟨hacc, c7⟩ hD hl Qn kQ
        have nu : u ≠ D1 := ne_of_none eu6 hD1
        have eu7 := c7 _ _ nu eu6
        have N7 : NumAt C H7 u p q := ⟨du, eu7⟩
        have hk : ∃ kk : Int, x = .int kk ∧ (trip z)[j]? = some (z + 6 * kk) ∧ Sz 1 kk := by
          match j, hx with
          | 0, h => cases h; exact ⟨-1, rfl, rfl, by unfold Sz; decide⟩
          | 1, h => cases h; exact ⟨0, rfl, rfl, by unfold Sz; decide⟩
          | 2, h => cases h; exact ⟨1, rfl, rfl, by unfold Sz; decide⟩
          | n + 3, h => simp at h
        obtain ⟨kk, rfl, ht, zk⟩ := hk
        have z100 : Sz 7 100 := by unfold Sz; decide
        refine ⟨rfl, ?_⟩
        refine ⟨_, rfl, u, du, _, rfl, eu7, u, p, q, rfl, N7, _, _, rfl, rfl, wide_mul zp z100 (by decide) (by decide) (by decide), _, rfl, u, du, _, rfl, eu7, u, p, q, rfl, N7, _, rfl, _, _, rfl, rfl, wide_mul zq zk (by decide) (by decide) (by decide), _, _, rfl, rfl, ?_⟩
        refine ⟨_, rfl, u, du, _, rfl, eu7, u, p, q, rfl, N7, _, _, rfl, rfl, wide_mul zq z100 (by decide) (by decide) (by decide), ?_⟩
        intro xn dn nxn ndn nne
        have h0 : q * 100 ≠ 0 := by omega
        refine ⟨xn, dn, _, _, rfl, h0, (zq.mul z100).mono (by decide), upd_same, fun H8 h8 k8 => ⟨rfl, ?_⟩⟩
        have w8 : Same H7 H8 := Same.mk nxn ndn k8
        have hD8 := w8 _ _ hD
        have vn : Vz C H8 (.ref xn) (z + 6 * kk) := by
          refine vz_of h8 h0 ((((zp.mul z100).mono (by decide : 27 ≤ 199)).add ((zq.mul zk).mono (by decide : 21 ≤ 199))).mono (by decide)) ((zq.mul z100).mono (by decide)) ?_
          have e1 : (p * 100 + q * kk) * 600 = (p * 600) * 100 + 600 * q * kk := by grind
          rw [e1, hu]
          grind
        refine kQ _ _ hD8 ⟨?_, (c7.trans (Ch.of w8)).trans Ch.upd⟩
        have e2 : (trip z).take (j + 1) = (trip z).take j ++ [z + 6 * kk] := by rw [List.take_add_one, ht]; rfl
        rw [e2]
        exact VzL.app (show VzL C _ [.ref xn] [z + 6 * kk] from ⟨vn.ch Ch.upd hD8, trivial⟩) ((hacc.same w8).ch Ch.upd hD8)
      · rintro ys H7 ⟨hys, c7⟩ hD7 hl
        have nL : L ≠ D1 := ne_of_none eL6 hD1
        have eL7 := c7 _ _ nL eL6
        have hv7 : VzL C H7 vs _ := hv6.imp fun v zz q => by
          obtain ⟨a', p', q', e1, ⟨d', e2⟩, r⟩ := q.is
          exact ⟨a', p', q', e1, ⟨d', c7 _ _ (ne_of_none e2 hD1) e2⟩, r⟩
        have ln := hv7.length
        have lm : ([0, 600 * 10 ^ 20] ++ List.flatMap trip (List.take i [z1, z2, z3, z4])).length ≤ 14 := by
          match i, hx with
          | 0, _ => show 2 ≤ 14; decide
          | 1, _ => show 5 ≤ 14; decide
          | 2, _ => show 8 ≤ 14; decide
          | 3, _ => show 11 ≤ 14; decide
          | n + 4, h => simp at h
        have l3 : ys.length = 3 := hl
        refine ⟨L, D1, vs, ys, rfl, rfl, eL7, hD7, by rw [l3, ln]; exact Nat.le_trans (Nat.add_le_add_right lm 3) (by decide), ?_⟩
        have cL : Ch L H7 (upd H7 L (.lst (vs ++ ys))) := Ch.upd
        have c47 : Ch L H4 H7 := fun b o n e => by
          have e6 := w1 _ _ (c5 _ _ n e)
          exact c7 _ _ (ne_of_none e6 hD1) e6
        refine ⟨_, rfl, c47.trans cL, _, upd_same, ?_⟩
        rw [take_trip hz, ← List.append_assoc]
        have hys' : VzL C H7 ys (trip z) := hys
        exact VzL.app (hys'.ch cL eL7) (hv7.ch cL eL7)
    · rintro σ H5 ⟨_, rfl, c5, vs, eL5, hv⟩
      have en1 := en1.ch c5 eL
      have en2 := en2.ch c5 eL
      refine ⟨_, rfl, _, rfl, r1, _, rfl, SqT.of en1.1, (by show ¬(HT.sIx 4 0 none = 0 ∧ HT.sIx 4 4 (some 2) = 4); decide), fun t3 nt3 => ?_⟩
      rw [show cutV [V.ref a, V.ref b, V.bl b1, V.bl b2] none (some 2) = [V.ref a, V.ref b] from rfl]
      have m1 := Same.new (o := .tup [.ref a, .ref b]) nt3
      have et3 : (upd H5 t3 (.tup [.ref a, .ref b])) t3 = some (.tup [.ref a, .ref b]) := upd_same
      refine ⟨_, rfl, _, rfl, r2, _, rfl, SqT.of (m1 _ _ en2.1), (by show ¬(HT.sIx 4 0 none = 0 ∧ HT.sIx 4 4 (some 2) = 4); decide), fun t4 nt4 => ?_⟩
      rw [show cutV [V.ref c, V.ref d, V.bl b3, V.bl b4] none (some 2) = [V.ref c, V.ref d] from rfl]
      have m2 := Same.new (o := .tup [.ref c, .ref d]) nt4
      have et4 : (upd (upd H5 t3 (.tup [.ref a, .ref b])) t4 (.tup [.ref c, .ref d])) t4 = some (.tup [.ref c, .ref d]) := upd_same
      have et3 := m2 _ _ et3
      refine ⟨by show 2 ≤ sizeLine; decide, fun LL nLL => ⟨LL, rfl, ⟨_, SqL.of upd_same⟩, ?_⟩⟩
      have m3 := Same.new (o := .lst [.ref t3, .ref t4]) nLL
      have eLL : (upd (upd (upd H5 t3 (.tup [.ref a, .ref b])) t4 (.tup [.ref c, .ref d])) LL (.lst [.ref t3, .ref t4])) LL = some (.lst [.ref t3, .ref t4]) := upd_same
      have m13 := (m1.trans m2).trans m3
      have et3 := m3 _ _ et3
      have et4 := m3 _ _ et4
      have eL5 := m13 _ _ eL5
      have hv := hv.same m13
      have en1 := en1.same m13
      have en2 := en2.same m13
      have nLL' : LL ≠ L := fun z => by rw [z] at nLL; rw [(m1.trans m2) _ _ (by assumption)] at nLL; cases nLL
      generalize upd (upd (upd H5 t3 (.tup [.ref a, .ref b])) t4 (.tup [.ref c, .ref d])) LL (.lst [.ref t3, .ref t4]) = H6 at m13 et3 et4 eLL eL5 hv en1 en2
      have pairs : ∀ {i : Nat} {x : V}, [V.ref t3, V.ref t4][i]? = some x → ∃ t a b za zb, x = .ref t ∧ H6 t = some (.tup [.ref a, .ref b]) ∧ VzN 20 C H6 (.ref a) za ∧ VzN 20 C H6 (.ref b) zb ∧ za % 100 = 0 ∧ zb % 100 = 0 ∧ [(z1 + z2) / 2, (z3 + z4) / 2][i]? = some ((za + zb) / 2) := fun {i x} h => by
        match i, h with
        | 0, h => cases h; exact ⟨t3, a, b, z1, z2, rfl, et3, en1.2.1, en1.2.2.1, en1.2.2.2.g1, en1.2.2.2.g2, rfl⟩
        | 1, h => cases h; exact ⟨t4, c, d, z3, z4, rfl, et4, en2.2.1, en2.2.2.1, en2.2.2.2.g1, en2.2.2.2.g2, rfl⟩
        | n + 2, h => simp at h
      have nL6 : ∀ {o : HO} {b : Addr}, H6 b = some o → (∀ xs, o ≠ .lst xs) → b ≠ L := fun e n => ne_of e eL5 (n _)
      refine for_list (xs := [.ref t3, .ref t4]) (fun i σ H' => ∃ e x y, σ = [some (.ref r1), some (.ref r2), some (.ref L), e, x, y, none] ∧ Ch L H6 H' ∧ ∃ vs, H' L = some (.lst vs) ∧ VzL C H' vs ([0, 600 * 10 ^ 20] ++ [z1, z2, z3, z4].flatMap trip ++ [(z1 + z2) / 2, (z3 + z4) / 2].take i)) ⟨_, _, _, rfl, Ch.refl, _, eL5, ?_⟩ (fun i σ H' _ ⟨_, _, _, _, c, _⟩ => SqL.of (c _ _ nLL' eLL)) ?_ ?_
      · show VzL C H6 vs (([0, 600 * 10 ^ 20] ++ [z1, z2, z3, z4].flatMap trip) ++ [])
        rw [List.append_nil]
        exact hv
      · rintro i x σ H7 hx ⟨_, _, _, rfl, c7, vs7, eL7, hv7⟩
        obtain ⟨t, a', b', za, zb, rfl, et, va, vb, ga, gb, hm⟩ := pairs hx
        have et := c7 _ _ (nL6 et (fun _ z => by cases z)) et
        have va := va.ch c7 eL5
        have vb := vb.ch c7 eL5
        obtain ⟨a2, p, q, ea, ⟨da, ea'⟩, la, ha, zp, zq⟩ := va.is
        obtain ⟨b2', r, s', eb, ⟨db, eb'⟩, lb, hb, zr, zs⟩ := vb.is
        cases ea
        cases eb
        have Na : NumAt C H7 a' p q := ⟨da, ea'⟩
        have Nb : NumAt C H7 b' r s' := ⟨db, eb'⟩
        have q0 := la.pos
        have s0 := lb.pos
        have S2 : Sz 2 2 := by unfold Sz; decide
        refine ⟨t, _, rfl, SqT.of et, rfl, _, _, rfl, _, _, rfl, rfl, ?_⟩
        refine ⟨_, rfl, .inl ⟨rfl, _, SqL.of eL7⟩, ?_⟩
        refine ⟨_, rfl, a', da, _, rfl, ea', a', p, q, rfl, Na, _, rfl, b', db, _, rfl, eb', b', r, s', rfl, Nb, _, _, rfl, rfl, wide_mul zp zs (by decide) (by decide) (by decide), _, rfl, b', db, _, rfl, eb', b', r, s', rfl, Nb, _, rfl, a', da, _, rfl, ea', a', p, q, rfl, Na, _, _, rfl, rfl, wide_mul zr zq (by decide) (by decide) (by decide), _, _, rfl, rfl, ?_⟩
        refine ⟨_, rfl, a', da, _, rfl, ea', a', p, q, rfl, Na, _, _, rfl, rfl, wide_mul S2 zq (by decide) (by decide) (by decide), _, rfl, b', db, _, rfl, eb', b', r, s', rfl, Nb, _, _, rfl, rfl, wide_mul (S2.mul zq) zs (by decide) (by decide) (by decide), ?_⟩
        intro xn dn nxn ndn nne
        have h0 : 2 * q * s' ≠ 0 := Int.mul_ne_zero (by omega) (by omega)
        refine ⟨xn, dn, _, _, rfl, h0, ((S2.mul zq).mul zs).mono (by decide), upd_same, fun H8 h8 k8 => ⟨rfl, ?_⟩⟩
        have w8 : Same H7 H8 := Same.mk nxn ndn k8
        have eL8 := w8 _ _ eL7
        have vn : Vz C H8 (.ref xn) ((za + zb) / 2) := by
          refine vz_of h8 h0 (((zp.mul zs).add (zr.mul zq)).mono (by decide : 41 ≤ 200)) (((S2.mul zq).mul zs).mono (by decide)) ?_
          have e2 : ((za + zb) / 2) * 2 = za + zb := by omega
          generalize (za + zb) / 2 = w at e2
          have e1 : (p * s' + r * q) * 600 = (za + zb) * (q * s') := by grind
          rw [e1, ← e2]
          grind
        have ln := hv7.length
        have lm : ([0, 600 * 10 ^ 20] ++ [z1, z2, z3, z4].flatMap trip ++ [(z1 + z2) / 2, (z3 + z4) / 2].take i).length ≤ 16 := by
          rw [List.length_append]
          have : ([(z1 + z2) / 2, (z3 + z4) / 2].take i).length ≤ 2 := by rw [List.length_take]; exact Nat.min_le_right _ _
          have e14 : ([0, 600 * 10 ^ 20] ++ [z1, z2, z3, z4].flatMap trip).length = 14 := rfl
          omega
        refine ⟨L, _, _, rfl, rfl, eL8, Nat.lt_of_le_of_lt (by rw [ln]; exact lm) (by decide : 16 < sizeLine), ?_⟩
        refine ⟨_, _, _, rfl, (c7.trans (Ch.of w8)).trans Ch.upd, _, upd_same, ?_⟩
        rw [List.take_add_one, hm, ← List.append_assoc]
        exact VzL.app (show VzL C _ [.ref xn] [(za + zb) / 2] from ⟨vn.ch Ch.upd eL8, trivial⟩) ((hv7.same w8).ch Ch.upd eL8)
      · rintro σ H7 ⟨_, _, _, rfl, c7, vs7, eL7, hv7⟩
        refine ⟨_, rfl, k L vs7 H7 nLH eL7 ?_ fun b' o e => ?_⟩
        · have e : spotZ z1 z2 z3 z4 = [0, 600 * 10 ^ 20] ++ [z1, z2, z3, z4].flatMap trip ++ [(z1 + z2) / 2, (z3 + z4) / 2] := by
            unfold spotZ
            rw [List.append_assoc]
            rfl
          rw [e]
          exact hv7
        · have n : b' ≠ L := ne_of_none e nLH
          exact c7 _ _ n (m13 _ _ (c5 _ _ n (g04 _ _ e)))
end
end Ws

namespace Ws
open PySem PySem.Spec PyProof.Rows L2
abbrev sRight : Stmt := (PySem.Challenge.pw_whatspeed_k08_whole_what_lies_in_a_stret.main.body.getD 19 (.Pass ⟨0, 0, 0, 0⟩))
abbrev NRight : List Str := ["pot", "one", "other", "first", "second", "spots", "ahead", "behind", "alike", "s"]
abbrev PRight : List Str := ["pot"]
theorem scRight : FnScope NRight PRight (defScope sRight) := ⟨rfl, rfl, rfl, by decide +kernel, rfl, by decide +kernel, by decide +kernel⟩
theorem cont1 {z1 z2 : Int} {b1 b2 : Bool} : contZ z1 z2 b1 b2 z1 = b1 := if_pos rfl
theorem cont2 {z1 z2 : Int} {b1 b2 : Bool} (h : z2 ≠ z1) : contZ z1 z2 b1 b2 z2 = b2 := by
  unfold contZ
  rw [if_neg h, if_pos rfl]
theorem contI {z1 z2 z : Int} {b1 b2 : Bool} (h1 : z1 < z) (h2 : z < z2) : contZ z1 z2 b1 b2 z = true := by
  unfold contZ
  rw [if_neg (by omega), if_neg (by omega), decide_eq_true h1, decide_eq_true h2]
  rfl
theorem contO {z1 z2 z : Int} {b1 b2 : Bool} (le : z1 ≤ z2) (h : z < z1 ∨ z2 < z) : contZ z1 z2 b1 b2 z = false := by
  unfold contZ
  rw [if_neg (by omega), if_neg (by omega)]
  rcases h with h | h
  · rw [decide_eq_false (by omega : ¬ z1 < z)]
    rfl
  · rw [decide_eq_false (by omega : ¬ z < z2)]
    simp
theorem low_less {z1 z2 z3 z4 : Int} {b1 b2 b3 b4 : Bool} (zz : Zs z1 z2 b1 b2) (zz' : Zs z3 z4 b3 b4) (h1 : contZ z1 z2 b1 b2 z1 = contZ z3 z4 b3 b4 z1) (h2 : contZ z1 z2 b1 b2 (z1 + 6) = contZ z3 z4 b3 b4 (z1 + 6)) : ¬ z1 < z3 := fun lt => by
  have a1 := zz.g1
  have a2 := zz.g2
  have a3 := zz'.g1
  have l1 := zz.le
  have l2 := zz'.le
  by_cases e : z1 = z2
  · rw [cont1, contO l2 (.inl lt), (zz.both e).1] at h1
    cases h1
  · rw [contI (by omega) (by omega), contO l2 (.inl (by omega))] at h2
    cases h2
theorem high_less {z1 z2 z4 : Int} {b1 b2 b3 b4 : Bool} (zz : Zs z1 z2 b1 b2) (zz' : Zs z1 z4 b3 b4) (h2 : contZ z1 z2 b1 b2 (z4 - 6) = contZ z1 z4 b3 b4 (z4 - 6)) : ¬ z2 < z4 := fun lt => by
  have a1 := zz.g1
  have a2 := zz.g2
  have a3 := zz'.g2
  have l1 := zz.le
  have l2 := zz'.le
  rw [contO l1 (.inr (by omega)), contI (by omega) (by omega)] at h2
  cases h2
theorem cont_sep {z1 z2 z3 z4 : Int} {b1 b2 b3 b4 : Bool} (zz : Zs z1 z2 b1 b2) (zz' : Zs z3 z4 b3 b4) (h : ∀ z ∈ spotZ z1 z2 z3 z4, contZ z1 z2 b1 b2 z = contZ z3 z4 b3 b4 z) : (z1 = z3 ∧ z2 = z4) ∧ b1 = b3 ∧ b2 = b4 := by
  have m : ∀ z, z ∈ [z1 + 6 * 0, z1 + 6 * 1, z2 + 6 * (-1), z2 + 6 * 0, z3 + 6 * 0, z3 + 6 * 1, z4 + 6 * (-1), z4 + 6 * 0] → contZ z1 z2 b1 b2 z = contZ z3 z4 b3 b4 z := fun z hz => h z (by
    simp only [List.mem_cons, List.not_mem_nil, or_false] at hz
    unfold spotZ trip
    simp only [List.flatMap_cons, List.flatMap_nil, List.mem_append, List.mem_cons, List.not_mem_nil, or_false]
    rcases hz with hz | hz | hz | hz | hz | hz | hz | hz <;> simp [hz])
  have p1 := m (z1 + 6 * 0) (by simp)
  have p2 := m (z1 + 6 * 1) (by simp)
  have p3 := m (z2 + 6 * (-1)) (by simp)
  have p4 := m (z2 + 6 * 0) (by simp)
  have p5 := m (z3 + 6 * 0) (by simp)
  have p6 := m (z3 + 6 * 1) (by simp)
  have p7 := m (z4 + 6 * (-1)) (by simp)
  rw [show z1 + 6 * 0 = z1 by omega] at p1
  rw [show z1 + 6 * 1 = z1 + 6 by omega] at p2
  rw [show z2 + 6 * (-1) = z2 - 6 by omega] at p3
  rw [show z2 + 6 * 0 = z2 by omega] at p4
  rw [show z3 + 6 * 0 = z3 by omega] at p5
  rw [show z3 + 6 * 1 = z3 + 6 by omega] at p6
  rw [show z4 + 6 * (-1) = z4 - 6 by omega] at p7
  have q1 := low_less zz zz' p1 p2
  have q2 := low_less zz' zz p5.symm p6.symm
  have e1 : z1 = z3 := by omega
  subst e1
  have q3 := high_less zz zz' p7
  have q4 := high_less zz' zz p3.symm
  have e2 : z2 = z4 := by omega
  subst e2
  refine ⟨⟨rfl, rfl⟩, ?_⟩
  by_cases e : z1 = z2
  · obtain ⟨x1, x2⟩ := zz.both e
    obtain ⟨x3, x4⟩ := zz'.both e
    rw [x1, x2, x3, x4]
    exact ⟨rfl, rfl⟩
  · rw [cont1, cont1] at p1
    rw [cont2 (Ne.symm e), cont2 (Ne.symm e)] at p4
    exact ⟨p1, p4⟩
theorem maps_eq {z1 z2 z3 z4 : Int} {b1 b2 b3 b4 : Bool} (zz : Zs z1 z2 b1 b2) (zz' : Zs z3 z4 b3 b4) : decide ((spotZ z1 z2 z3 z4).map (contZ z1 z2 b1 b2) = (spotZ z1 z2 z3 z4).map (contZ z3 z4 b3 b4)) = (decide (z1 = z3) && (decide (z2 = z4) && (b1 == b3 && b2 == b4))) := by
  by_cases h : (z1 = z3 ∧ z2 = z4) ∧ b1 = b3 ∧ b2 = b4
  · obtain ⟨⟨rfl, rfl⟩, rfl, rfl⟩ := h
    simp
  · have n : ¬ ((spotZ z1 z2 z3 z4).map (contZ z1 z2 b1 b2) = (spotZ z1 z2 z3 z4).map (contZ z3 z4 b3 b4)) := fun e => h (cont_sep zz zz' fun z hz => List.map_inj_left.mp e z hz)
    rw [decide_eq_false n]
    by_cases e1 : z1 = z3
    · by_cases e2 : z2 = z4
      · by_cases e3 : b1 = b3
        · have e4 : ¬ b2 = b4 := fun e4 => h ⟨⟨e1, e2⟩, e3, e4⟩
          simp [e4]
        · simp [e3]
      · simp [e2]
    · simp [e1]
end Ws

namespace Ws
open PySem PySem.Spec PyProof.Rows L2
theorem contN_eq {p q r s u v z1 z2 z : Int} {b1 b2 : Bool} (l1 : Low p q p q) (l2 : Low r s r s) (l3 : Low u v u v) (h1 : p * 600 = z1 * q) (h2 : r * 600 = z2 * s) (h3 : u * 600 = z * v) : contN p q r s u v b1 b2 = contZ z1 z2 b1 b2 z := by
  unfold contN contZ
  rw [decide_eq_decide.mpr (vz_eq l3 l1 h3 h1), decide_eq_decide.mpr (vz_eq l3 l2 h3 h2), decide_eq_decide.mpr (vz_lt l1.pos l3.pos h1 h3), decide_eq_decide.mpr (vz_lt l3.pos l2.pos h3 h2)]
  by_cases e1 : z = z1
  · rw [if_pos (decide_eq_true e1), if_pos e1]
  · rw [if_neg (by rw [decide_eq_false e1]; exact Bool.false_ne_true), if_neg e1]
    by_cases e2 : z = z2
    · rw [if_pos (decide_eq_true e2), if_pos e2]
    · rw [if_neg (by rw [decide_eq_false e2]; exact Bool.false_ne_true), if_neg e2]
theorem cont_mid {z1 z2 zm : Int} {b1 b2 : Bool} (zz : Zs z1 z2 b1 b2) (h : 2 * zm = z1 + z2) : contZ z1 z2 b1 b2 zm = true := by
  have le := zz.le
  by_cases e : z1 = z2
  · have : zm = z1 := by omega
    rw [this, cont1]
    exact (zz.both e).1
  · exact contI (by omega) (by omega)
/-- lists of truths are shown -/
theorem tdyBs : ∀ bs : List Bool, TdyA (bs.map PyData.bool)
  | [] => trivial
  | b :: bs => ⟨trivial, tdyBs bs⟩
theorem dpBs {K : PySem.W.Frag} {H : Hp} : ∀ bs : List Bool, DpAll K H (bs.map V.bl) (bs.map PyData.bool)
  | [] => .nil
  | b :: bs => .cons (.bl b) (dpBs bs)
theorem bulkBs : ∀ bs : List Bool, PyData.bulkAll (bs.map PyData.bool) = bs.length
  | [] => rfl
  | b :: bs => by
    show PyData.bulk (.bool b) + 1 + PyData.bulkAll (bs.map PyData.bool) = _
    rw [bulkBs bs]
    show 0 + 1 + bs.length = bs.length + 1
    omega
theorem depBs : ∀ bs : List Bool, PyData.depthAll (bs.map PyData.bool) = 0
  | [] => rfl
  | b :: bs => by
    show max (PyData.depth (.bool b)) (PyData.depthAll (bs.map PyData.bool)) = 0
    rw [depBs bs]
    rfl
theorem shwBs {K : PySem.W.Frag} {H : Hp} {L : Addr} {bs : List Bool} (e : H L = some (.lst (bs.map V.bl))) (h : bs.length ≤ 100) : Shw K H (.ref L) (.list (bs.map PyData.bool)) :=
  ⟨.lst (SqL.of e) (dpBs bs), tdyBs bs, by show PyData.bulkAll _ ≤ 8000; rw [bulkBs]; omega, by show PyData.depthAll (bs.map PyData.bool) + 1 ≤ 60; rw [depBs]; decide⟩
theorem canBs : ∀ bs : List Bool, PyData.canLayAll0 (bs.map PyData.bool) = true
  | [] => rfl
  | b :: bs => by
    show (PyData.canLay0 (.bool b) && PyData.canLayAll0 (bs.map PyData.bool)) = true
    rw [canBs bs]
    rfl
theorem eqvBs : ∀ bs cs : List Bool, PyData.eqvAll (bs.map PyData.bool) (cs.map PyData.bool) = decide (bs = cs)
  | [], [] => rfl
  | [], c :: cs => rfl
  | b :: bs, [] => rfl
  | b :: bs, c :: cs => by
    show (PyData.eqv (.bool b) (.bool c) && PyData.eqvAll (bs.map PyData.bool) (cs.map PyData.bool)) = _
    rw [eqvBs bs cs]
    by_cases h1 : b = c
    · subst h1
      cases b <;> simp [PyData.eqv]
    · cases b <;> cases c <;> first | exact absurd rfl h1 | simp [PyData.eqv]
theorem shBs (bs : List Bool) : SeqAt.shaped (.list (bs.map PyData.bool)) = true := by
  show (PyData.canLayAll0 (bs.map PyData.bool) && decide (PyData.depthAll (bs.map PyData.bool) + 1 ≤ 64)) = true
  rw [canBs, depBs]
  rfl
theorem eqvL (bs cs : List Bool) : PyData.eqv (.list (bs.map PyData.bool)) (.list (cs.map PyData.bool)) = decide (bs = cs) := eqvBs bs cs
theorem dp_ne (x y : Str) (h : x = y) : (!decide (V.str x = V.str y)) = false := by subst h; simp
section
variable {P : Program} {w : World} {K : PySem.W.Frag} {mg : Str → Option Value} {base : Heap} {C D f : Addr} {fd : FuncData}
theorem StrZ.v {H : Hp} {a : Addr} {z1 z2 : Int} {b1 b2 : Bool} {m : V} (h : StrZ C D H a z1 z2 b1 b2 m) : ∃ p q r s, StrV C D H a p q r s b1 b2 m ∧ Low p q p q ∧ Low r s r s ∧ p * 600 = z1 * q ∧ r * 600 = z2 * s ∧ Sz 2000 p ∧ Sz 2000 q ∧ Sz 2000 r ∧ Sz 2000 s := by
  obtain ⟨l, u, e, v1, v2, _⟩ := h
  obtain ⟨a1, p, q, e1, N1, l1, h1, zp, zq⟩ := v1.is
  obtain ⟨a2, r, s, e2, N2, l2, h2, zr, zs⟩ := v2.is
  cases e1
  cases e2
  exact ⟨p, q, r, s, ⟨_, _, e, N1, N2⟩, l1, l2, h1, h2, zp.mono (by decide), zq.mono (by decide), zr.mono (by decide), zs.mono (by decide)⟩
theorem StrZ.ins {H : Hp} {a : Addr} {z1 z2 : Int} {b1 b2 : Bool} {m : V} (h : StrZ C D H a z1 z2 b1 b2 m) : ∃ dx fs, H a = some (.ins D dx fs) := let ⟨_, _, ⟨dx, e⟩, _⟩ := h; ⟨dx, _, e⟩
theorem cont_of {H : Hp} {a : Addr} {z1 z2 z : Int} {b1 b2 : Bool} {m s : V} {Q : VK} {E : XK} (h : StrZ C D H a z1 z2 b1 b2 m) (v : Vz C H s z) (k : Q (.bl (contZ z1 z2 b1 b2 z)) H) : spCont C D [.ref a, s] H Q E := by
  obtain ⟨p, q, r, s', st, l1, l2, h1, h2, zp, zq, zr, zs⟩ := h.v
  obtain ⟨c, u, w, e3, N3, l3, h3, zu, zw⟩ := v.is
  subst e3
  refine ⟨a, c, p, q, r, s', u, w, b1, b2, m, rfl, st, N3, zp, zq, zr, zs, zu.mono (by decide), zw.mono (by decide), ?_⟩
  rw [contN_eq l1 l2 l3 h1 h2 h3]
  exact k
theorem seq_of {H : Hp} {a c : Addr} {z1 z2 z3 z4 : Int} {b1 b2 b3 b4 : Bool} {m m' : V} {Q : VK} {E : XK} (h : StrZ C D H a z1 z2 b1 b2 m) (h' : StrZ C D H c z3 z4 b3 b4 m') (k : Q (.bl (decide (z1 = z3) && (decide (z2 = z4) && (b1 == b3 && b2 == b4)))) H) : spSEqG K C D [.ref a, .ref c] H Q E := by
  obtain ⟨p, q, r, s', st, l1, l2, h1, h2, _⟩ := h.v
  obtain ⟨p', q', r', s'', st', l1', l2', h1', h2', _⟩ := h'.v
  refine ⟨a, .ref c, p, q, r, s', b1, b2, m, rfl, st, .inl ⟨c, p', q', r', s'', b3, b4, m', rfl, st', ?_⟩⟩
  rw [decide_eq_decide.mpr (vz_eq l1 l1' h1 h1'), decide_eq_decide.mpr (vz_eq l2 l2' h2 h2')]
  exact k
def spRight : Sp := fun vs H Q _ => ∃ (p : Addr) (m : Int), vs = [.ref p] ∧ PotAt H p m ∧ m ≤ 10000 ∧ ∀ H', PotAt H' p (m + 15) → Ch p H H' → Q (.bl true) H'
theorem StrZ.ch {o : Addr} {H H' : Hp} {a : Addr} {z1 z2 : Int} {b1 b2 : Bool} {m : V} (h : StrZ C D H a z1 z2 b1 b2 m) (c : Ch o H H') (e : H o = none) : StrZ C D H' a z1 z2 b1 b2 m := by
  have j : Same H H' := fun b u q => c _ _ (ne_of_none q e) q
  exact h.same j
/-- the law's comprehension over the spots, told by what it says of each -/
theorem step_bl {zs : List Int} {g : Int → Bool} {j : Nat} {z : Int} (h : zs[j]? = some z) : ((zs.map g).map V.bl).take (j + 1) = ((zs.map g).map V.bl).take j ++ [V.bl (g z)] := by
  rw [List.take_add_one, List.getElem?_map, List.getElem?_map, h]
  rfl
theorem spot_len (z1 z2 z3 z4 : Int) : (spotZ z1 z2 z3 z4).length = 16 := rfl
theorem ok_right (F : L2.Fun K "_law_is_right" "_law_is_right" sRight f fd) (b : Binds K fd PRight []) (B : Bi mg) (gR : mg "repr" = none) (NC : NumC K C) (SC : StrC K D) (ST : StrT K D) (NE : NeC K D) (nfD : PySem.W.notFirst K D (.ref D) = true) (gN : mg "Number" = some (.ref C))
    (cT : CalF P w K mg base 1 "_law_take" spTake) (cE : CalF P w K mg base 5 "_law_ends" (spEnds C)) (cM : CalF P w K mg base 7 "_law_made" (spMade C D)) (cL : CalF P w K mg base 3 "_law_lies" (spLies C)) (cS : CalF P w K mg base 4 "_law_spots" (spSpots C))
    (oE : OpnF P w K mg base 1 C "__eq__" (spNEq C)) (sE : OpnF P w K mg base 2 D "__eq__" (spSEqG K C D)) (sI : OpnF P w K mg base 2 D "__contains__" (spCont C D)) (p5 : PrpF P w K mg base 1 D "middle" (spFld D fun _ _ _ _ m => m)) : FnG P w K mg base CX0 8 f spRight := by
  refine fnG_of F b scRight (fun vs H Q E h => ?_) (fun cdv A0 outer s H vs Q E cl hr h => ?_)
  · obtain ⟨p, m, rfl, _⟩ := h
    rfl
  · have sc := scRight
    obtain ⟨p, m, rfl, hp, hm, k⟩ := h
    have rest2 : ∃ t, PSs (cxOf CX0 P w K mg base NRight "_law_is_right" (defScope sRight) f cdv A0 outer s H E).nox (List.drop 7 (defBody sRight)) t ∧ ∀ (G : Hp) (r1 r2 a b c d f1 f2 L LA LB : Addr) (z1 z2 z3 z4 : Int) (b1 b2 b3 b4 : Bool) (m1 m2 : V),
        EndsAt C G r1 a b z1 z2 b1 b2 → EndsAt C G r2 c d z3 z4 b3 b4 → StrZ C D G f1 z1 z2 b1 b2 m1 → StrZ C D G f2 z3 z4 b3 b4 m2 → G LA = some (.lst (((spotZ z1 z2 z3 z4).map (contZ z1 z2 b1 b2)).map V.bl)) → G LB = some (.lst (((spotZ z1 z2 z3 z4).map (contZ z3 z4 b3 b4)).map V.bl)) → PotAt G p (m + 15) → Ch p H G →
        t { nx := fun _ H' => Q .non H', rt := Q } [some (.ref p), some (.ref r1), some (.ref r2), some (.ref f1), some (.ref f2), some (.ref L), some (.ref LA), some (.ref LB), some (.bl (decide (z1 = z3) && (decide (z2 = z4) && (b1 == b3 && b2 == b4)))), none] G := by
      refine ⟨_, (pss_cons (ps_if (PW.pt (pw_or (pt_cmpR op_ne (pe_cmpR (show OpR _ _ (rEqO K D (spSEqG K C D)) from op_eqO sE hr (by decide)) (pv 3) (pv 4) (nomark _)) (pv 8) (nomark _)) (pw_or (pt_cmpR op_eq (pe_cmpR (show OpR _ _ (rNeO K D (spSEqG K C D)) from op_neO NE sE hr (by decide)) (pv 3) (pv 4) (nomark _)) (pv 8) (nomark _)) (pw_or1 (pt_cmpR op_ne (pv 8) (pe_cmpR (op_eqD hr.units) (pv 6) (pv 7) (nomark _)) (nomark _)))))) (pss_one (ps_ret pe_bl)) pss_nil) (pss_cons (ps_if (PW.pt (pw_or (pt_cmpR (show OpR _ _ (rNeO K D (spSEqG K C D)) from op_neO NE sE hr (by decide)) (pv 3) (pe_f cM hr (by decide) rfl (pa_cons (pv 1) pa_nil)) (nomark _)) (pw_or (pt_not (pt_val (pe_callB call_isi (by rfl) B.isinstance (by decide +kernel) (pa_cons (pe_pr p5 hr (by decide) (pv 3)) (pa_cons (pe_glob (v := .ref C) rfl gN rfl) pa_nil))))) (pw_or1 (pt_not (pt_val (pe_callB call_isi (by rfl) B.isinstance (by decide +kernel) (pa_cons (pe_pr p5 hr (by decide) (pv 4)) (pa_cons (pe_glob (v := .ref C) rfl gN rfl) pa_nil))))))))) (pss_one (ps_ret pe_bl)) pss_nil) (pss_one (ps_ret (pe_and (pe_cmpR (op_inO sI hr (by decide)) (pe_pr p5 hr (by decide) (pv 3)) (pv 3) rfl) (pe_one (pe_cmpR (op_inO sI hr (by decide)) (pe_pr p5 hr (by decide) (pv 4)) (pv 4) rfl))))))), ?_⟩
      intro G r1 r2 a b c d f1 f2 L LA LB z1 z2 z3 z4 b1 b2 b3 b4 m1 m2 en1 en2 st1 st2 eA eB hpG cG
      have zz := en1.2.2.2
      have zz' := en2.2.2.2
      have me := maps_eq zz zz'
      obtain ⟨dx1, fs1, e1⟩ := st1.ins
      obtain ⟨dx2, fs2, e2⟩ := st2.ins
      generalize hAL : (decide (z1 = z3) && (decide (z2 = z4) && (b1 == b3 && b2 == b4))) = AL at me
      refine ⟨_, rfl, _, rfl, f1, dx1, _, _, rfl, e1, .ins e2, nfD, seq_of st1 st2 ?_⟩
      rw [hAL]
      refine ⟨_, rfl, rfl, _, rfl, ifF (by simp) ?_⟩
      refine ⟨_, rfl, _, rfl, f1, dx1, _, _, rfl, e1, .ins e2, nfD, seq_of st1 st2 ?_⟩
      rw [hAL]
      refine ⟨_, rfl, _, rfl, rfl, _, rfl, ifF (by cases AL <;> rfl) ?_⟩
      refine ⟨_, rfl, _, rfl, _, rfl, _, _, .lst (SqL.of eA) (dpBs _), .lst (SqL.of eB) (dpBs _), shBs _, shBs _, ?_⟩
      rw [eqvL, me]
      refine ⟨rfl, _, rfl, ifF (by simp) ?_⟩
      -- first != made(one)
      refine ⟨_, rfl, _, rfl, r1, a, b, z1, z2, b1, b2, rfl, en1, fun f3 m3 G1 nf3 st3 j1 => ?_⟩
      obtain ⟨dx3, fs3, e3⟩ := st3.ins
      refine ⟨f1, dx1, _, _, rfl, j1 _ _ e1, .ins e3, nfD, seq_of (st1.same j1) st3 ?_⟩
      refine ⟨_, rfl, _, rfl, ifF (by simp) ?_⟩
      have st1 := st1.same j1
      have st2 := st2.same j1
      have e1 := j1 _ _ e1
      have e2 := j1 _ _ e2
      obtain ⟨l, u, ⟨d1, s1⟩, w1, w2, zm, vm, hm⟩ := id st1
      obtain ⟨l', u', ⟨d2, s2⟩, w1', w2', zm', vm', hm'⟩ := id st2
      have S1 : StrAt D G1 f1 (.ref l) (.ref u) (.bl b1) (.bl b2) m1 := ⟨d1, s1⟩
      have S2 : StrAt D G1 f2 (.ref l') (.ref u') (.bl b3) (.bl b4) m2 := ⟨d2, s2⟩
      obtain ⟨am, _, _, em, ⟨dm, im⟩, _⟩ := id vm.is
      obtain ⟨am', _, _, em', ⟨dm', im'⟩, _⟩ := id vm'.is
      cases em
      cases em'
      refine ⟨_, rfl, f1, d1, _, rfl, s1, f1, _, _, _, _, _, rfl, S1, _, _, _, _, true, rfl, .own C, NC.ty im, NC.kk, true, rfl, iteF ?_⟩
      refine ⟨_, rfl, f2, d2, _, rfl, s2, f2, _, _, _, _, _, rfl, S2, _, _, _, _, true, rfl, .own C, NC.ty im', NC.kk, true, rfl, ifF rfl ?_⟩
      -- the middles
      refine ⟨_, rfl, f1, d1, _, rfl, s1, f1, _, _, _, _, _, rfl, S1, _, rfl, f1, d1, _, rfl, s1, cont_of st1 vm ⟨_, rfl, ?_⟩⟩
      rw [cont_mid zz hm]
      refine ⟨_, rfl, ifT rfl ?_⟩
      refine ⟨_, rfl, f2, d2, _, rfl, s2, f2, _, _, _, _, _, rfl, S2, _, rfl, f2, d2, _, rfl, s2, cont_of st2 vm' ⟨_, rfl, ?_⟩⟩
      rw [cont_mid zz' hm']
      exact k G1 (hpG.same j1) (cG.trans (Ch.of j1))
    obtain ⟨t2, hbody2, ht2⟩ := rest2
    have rest1 : ∃ t, PSs (cxOf CX0 P w K mg base NRight "_law_is_right" (defScope sRight) f cdv A0 outer s H E).nox (List.drop 2 (defBody sRight)) t ∧ ∀ (G : Hp) (r1 r2 a b c d : Addr) (z1 z2 z3 z4 : Int) (b1 b2 b3 b4 : Bool),
        EndsAt C G r1 a b z1 z2 b1 b2 → EndsAt C G r2 c d z3 z4 b3 b4 → PotAt G p (m + 15) → Ch p H G →
        t { nx := fun _ H' => Q .non H', rt := Q } [some (.ref p), some (.ref r1), some (.ref r2), none, none, none, none, none, none, none] G := by
      refine ⟨_, (pss_cons (ps_asg (pe_tup (pa_cons (pe_f cM hr (by decide) rfl (pa_cons (pv 1) pa_nil)) (pa_cons (pe_f cM hr (by decide) rfl (pa_cons (pv 2) pa_nil)) (pa_cons (pe_f cS hr (by decide) rfl (pa_cons (pv 1) (pa_cons (pv 2) pa_nil))) pa_nil)))) (pg_tup rfl (pgs_cons (pg_name (i := 3) sc.nd rfl (Or.inr rfl)) (pgs_cons (pg_name (i := 4) sc.nd rfl (Or.inr rfl)) (pgs_cons (pg_name (i := 5) sc.nd rfl (Or.inl rfl)) pgs_nil))))) (pss_cons (ps_par (i := 6) (j := 7) (by rfl) sc.nd rfl rfl (by decide) rfl rfl (pa_cons (pe_lc (own := [("s", 9)]) rfl sc.nd (pi_list (pv 5)) (blkOk_by (N := NRight) (sc := defScope sRight) (by decide +kernel)) (fun _ _ _ _ _ => by exact (pg_name (i := 9) sc.nd rfl (Or.inl rfl))) (fun _ _ _ _ _ => by exact pts_nil) (fun _ _ _ _ _ => by exact (pe_cmpR (op_inO sI hr (by decide)) (pv 9) (pv 3) rfl))) (pa_cons (pe_lc (own := [("s", 9)]) rfl sc.nd (pi_list (pv 5)) (blkOk_by (N := NRight) (sc := defScope sRight) (by decide +kernel)) (fun _ _ _ _ _ => by exact (pg_name (i := 9) sc.nd rfl (Or.inl rfl))) (fun _ _ _ _ _ => by exact pts_nil) (fun _ _ _ _ _ => by exact (pe_cmpR (op_inO sI hr (by decide)) (pv 9) (pv 4) rfl))) pa_nil)) (by rfl)) (pss_cons (ps_if (pt_cmpR op_ne (pe_callB (call_rep cl hr) (by rfl) gR (by decide +kernel) (pa_cons (pv 6) pa_nil)) (pe_callB (call_rep cl hr) (by rfl) gR (by decide +kernel) (pa_cons (pe_lc (own := [("s", 9)]) rfl sc.nd (pi_list (pv 5)) (blkOk_by (N := NRight) (sc := defScope sRight) (by decide +kernel)) (fun _ _ _ _ _ => by exact (pg_name (i := 9) sc.nd rfl (Or.inl rfl))) (fun _ _ _ _ _ => by exact pts_nil) (fun _ _ _ _ _ => by exact (pe_f cL hr (by decide) rfl (pa_cons (pv 1) (pa_cons (pv 9) pa_nil))))) pa_nil)) (nomark _)) (pss_one (ps_ret pe_bl)) pss_nil) (pss_cons (ps_if (pt_cmpR op_ne (pe_callB (call_rep cl hr) (by rfl) gR (by decide +kernel) (pa_cons (pv 7) pa_nil)) (pe_callB (call_rep cl hr) (by rfl) gR (by decide +kernel) (pa_cons (pe_lc (own := [("s", 9)]) rfl sc.nd (pi_list (pv 5)) (blkOk_by (N := NRight) (sc := defScope sRight) (by decide +kernel)) (fun _ _ _ _ _ => by exact (pg_name (i := 9) sc.nd rfl (Or.inl rfl))) (fun _ _ _ _ _ => by exact pts_nil) (fun _ _ _ _ _ => by exact (pe_f cL hr (by decide) rfl (pa_cons (pv 2) (pa_cons (pv 9) pa_nil))))) pa_nil)) (nomark _)) (pss_one (ps_ret pe_bl)) pss_nil) (pss_cons (ps_set (i := 8) sc.nd rfl (Or.inl rfl) (pe_and (pe_cmpR (show OpR _ _ (rEqO K C (spNEq C)) from op_eqO oE hr (by decide)) (pe_ix ix_tup (pv 1) pe_int (fun _ _ => rfl)) (pe_ix ix_tup (pv 2) pe_int (fun _ _ => rfl)) (nomark _)) (pe_and (pe_cmpR (show OpR _ _ (rEqO K C (spNEq C)) from op_eqO oE hr (by decide)) (pe_ix ix_tup (pv 1) pe_int (fun _ _ => rfl)) (pe_ix ix_tup (pv 2) pe_int (fun _ _ => rfl)) (nomark _)) (pe_one (pe_cmpR (op_eqD hr.units) (pe_slice sl_tup (pv 1) (po_some pe_int) po_none) (pe_slice sl_tup (pv 2) (po_some pe_int) po_none) (nomark _)))))) hbody2))))), ?_⟩
      intro G r1 r2 a b c d z1 z2 z3 z4 b1 b2 b3 b4 en1 en2 hpG cG
      have zz := en1.2.2.2
      have zz' := en2.2.2.2
      refine ⟨_, rfl, r1, a, b, z1, z2, b1, b2, rfl, en1, fun f1 m1 H1 nf1 st1 j1 => ?_⟩
      refine ⟨_, rfl, r2, c, d, z3, z4, b3, b4, rfl, en2.same j1, fun f2 m2 H2 nf2 st2 j2 => ?_⟩
      have j02 := j1.trans j2
      refine ⟨_, rfl, _, rfl, r1, r2, a, b, c, d, z1, z2, z3, z4, b1, b2, b3, b4, rfl, en1.same j02, en2.same j02, fun L vs H3 nL eL hv j3 => ?_⟩
      refine ⟨by show 3 ≤ sizeLine; decide, fun T nT => ⟨T, _, rfl, SqT.of upd_same, rfl, _, _, rfl, _, _, rfl, _, _, rfl, rfl, ?_⟩⟩
      have j4 := Same.new (o := .tup [.ref f1, .ref f2, .ref L]) nT
      have j04 := (j02.trans j3).trans j4
      have en1 := en1.same j04
      have en2 := en2.same j04
      have st1 := ((st1.same j2).same j3).same j4
      have st2 := (st2.same j3).same j4
      have eL := j4 _ _ eL
      have hv := hv.same j4
      have hpG := hpG.same j04
      have cG := cG.trans (Ch.of j04)
      generalize upd H3 T (.tup [.ref f1, .ref f2, .ref L]) = G1 at j04 en1 en2 st1 st2 eL hv hpG cG
      have ln : vs.length = 16 := hv.length.trans (spot_len _ _ _ _)
      have lz : vs.length < sizeLine := by rw [ln]; decide
      -- ahead
      refine ⟨_, rfl, L, rfl, ⟨_, SqL.of eL⟩, fun D1 hD1 => ?_⟩
      refine lcL (K := K) (a := L) (xs := vs) (fun j acc H' => acc = (((spotZ z1 z2 z3 z4).map (contZ z1 z2 b1 b2)).map V.bl).take j ∧ Ch D1 G1 H') ⟨rfl, Ch.new hD1⟩ (fun i acc H' ⟨_, c⟩ => SqL.of (c _ _ (ne_of_none eL hD1) eL)) lz ?_ ?_
      · rintro j x H7 acc hx ⟨rfl, c7⟩ hD hl Qn kQ
        obtain ⟨z, hz, vz⟩ := hv.get hx
        have st7 := st1.ch c7 hD1
        obtain ⟨dx, fs, e7⟩ := st7.ins
        have vz7 : Vz C H7 x z := by
          obtain ⟨a', p', q', e1, ⟨d', e2⟩, r⟩ := vz.is
          exact ⟨a', p', q', e1, ⟨d', c7 _ _ (ne_of_none e2 hD1) e2⟩, r⟩
        refine ⟨rfl, _, rfl, _, rfl, f1, dx, _, rfl, e7, cont_of st7 vz7 ⟨_, rfl, ?_⟩⟩
        refine kQ _ _ hD ⟨(step_bl hz).symm, c7.trans Ch.upd⟩
      rintro ys G2 ⟨hys, c2⟩ hDa hla
      have hys : ys = ((spotZ z1 z2 z3 z4).map (contZ z1 z2 b1 b2)).map V.bl := by rw [hys, List.take_of_length_le (by rw [List.length_map, List.length_map, spot_len, ln]; exact Nat.le_refl _)]
      subst hys
      have k2 : Same G1 G2 := fun b' o e => c2 _ _ (ne_of_none e hD1) e
      have en1 := en1.same k2
      have en2 := en2.same k2
      have st1 := st1.same k2
      have st2 := st2.same k2
      have eL := k2 _ _ eL
      have hv := hv.same k2
      have hpG := hpG.same k2
      have cG := cG.trans (Ch.of k2)
      -- behind
      refine ⟨_, rfl, L, rfl, ⟨_, SqL.of eL⟩, fun D2 hD2 => ?_⟩
      refine lcL (K := K) (a := L) (xs := vs) (fun j acc H' => acc = (((spotZ z1 z2 z3 z4).map (contZ z3 z4 b3 b4)).map V.bl).take j ∧ Ch D2 G2 H') ⟨rfl, Ch.new hD2⟩ (fun i acc H' ⟨_, c⟩ => SqL.of (c _ _ (ne_of_none eL hD2) eL)) lz ?_ ?_
      · rintro j x H7 acc hx ⟨rfl, c7⟩ hD hl Qn kQ
        obtain ⟨z, hz, vz⟩ := hv.get hx
        have st7 := st2.ch c7 hD2
        obtain ⟨dx, fs, e7⟩ := st7.ins
        have vz7 : Vz C H7 x z := by
          obtain ⟨a', p', q', e1, ⟨d', e2⟩, r⟩ := vz.is
          exact ⟨a', p', q', e1, ⟨d', c7 _ _ (ne_of_none e2 hD2) e2⟩, r⟩
        refine ⟨rfl, _, rfl, _, rfl, f2, dx, _, rfl, e7, cont_of st7 vz7 ⟨_, rfl, ?_⟩⟩
        refine kQ _ _ hD ⟨(step_bl hz).symm, c7.trans Ch.upd⟩
      rintro ys G3 ⟨hys, c3⟩ hDb hlb
      have hys : ys = ((spotZ z1 z2 z3 z4).map (contZ z3 z4 b3 b4)).map V.bl := by rw [hys, List.take_of_length_le (by rw [List.length_map, List.length_map, spot_len, ln]; exact Nat.le_refl _)]
      subst hys
      have k3 : Same G2 G3 := fun b' o e => c3 _ _ (ne_of_none e hD2) e
      have en1 := en1.same k3
      have en2 := en2.same k3
      have st1 := st1.same k3
      have st2 := st2.same k3
      have eL := k3 _ _ eL
      have hv := hv.same k3
      have hpG := hpG.same k3
      have cG := cG.trans (Ch.of k3)
      have hDa := k3 _ _ hDa
      refine ⟨_, _, rfl, ?_⟩
      have len1 : ((spotZ z1 z2 z3 z4).map (contZ z1 z2 b1 b2)).length ≤ 100 := by rw [List.length_map, spot_len]; decide
      have len2 : ((spotZ z1 z2 z3 z4).map (contZ z3 z4 b3 b4)).length ≤ 100 := by rw [List.length_map, spot_len]; decide
      -- repr(ahead)
      refine ⟨_, rfl, D1, _, rfl, shwBs hDa len1, ?_⟩
      refine ⟨_, rfl, L, rfl, ⟨_, SqL.of eL⟩, fun D3 hD3 => ?_⟩
      refine lcL (K := K) (a := L) (xs := vs) (fun j acc H' => acc = (((spotZ z1 z2 z3 z4).map (contZ z1 z2 b1 b2)).map V.bl).take j ∧ Ch D3 G3 H') ⟨rfl, Ch.new hD3⟩ (fun i acc H' ⟨_, c⟩ => SqL.of (c _ _ (ne_of_none eL hD3) eL)) lz ?_ ?_
      · rintro j x H7 acc hx ⟨rfl, c7⟩ hD hl Qn kQ
        obtain ⟨z, hz, vz⟩ := hv.get hx
        have s7 : Same G3 H7 := fun b' o e => c7 _ _ (ne_of_none e hD3) e
        refine ⟨rfl, _, rfl, _, rfl, r1, a, b, x, z1, z2, z, b1, b2, rfl, en1.same s7, vz.same s7, ?_⟩
        refine kQ _ _ hD ⟨(step_bl hz).symm, c7.trans Ch.upd⟩
      rintro ys G4 ⟨hys, c4⟩ hDc hlc
      have hys : ys = ((spotZ z1 z2 z3 z4).map (contZ z1 z2 b1 b2)).map V.bl := by rw [hys, List.take_of_length_le (by rw [List.length_map, List.length_map, spot_len, ln]; exact Nat.le_refl _)]
      subst hys
      have k4 : Same G3 G4 := fun b' o e => c4 _ _ (ne_of_none e hD3) e
      refine ⟨D3, _, rfl, shwBs hDc len1, rfl, _, rfl, ifF (dp_ne _ _ rfl) ?_⟩
      have en1 := en1.same k4
      have en2 := en2.same k4
      have st1 := st1.same k4
      have st2 := st2.same k4
      have eL := k4 _ _ eL
      have hv := hv.same k4
      have hpG := hpG.same k4
      have cG := cG.trans (Ch.of k4)
      have hDa := k4 _ _ hDa
      have hDb := k4 _ _ hDb
      -- repr(behind)
      refine ⟨_, rfl, D2, _, rfl, shwBs hDb len2, ?_⟩
      refine ⟨_, rfl, L, rfl, ⟨_, SqL.of eL⟩, fun D4 hD4 => ?_⟩
      refine lcL (K := K) (a := L) (xs := vs) (fun j acc H' => acc = (((spotZ z1 z2 z3 z4).map (contZ z3 z4 b3 b4)).map V.bl).take j ∧ Ch D4 G4 H') ⟨rfl, Ch.new hD4⟩ (fun i acc H' ⟨_, c⟩ => SqL.of (c _ _ (ne_of_none eL hD4) eL)) lz ?_ ?_
      · rintro j x H7 acc hx ⟨rfl, c7⟩ hD hl Qn kQ
        obtain ⟨z, hz, vz⟩ := hv.get hx
        have s7 : Same G4 H7 := fun b' o e => c7 _ _ (ne_of_none e hD4) e
        refine ⟨rfl, _, rfl, _, rfl, r2, c, d, x, z3, z4, z, b3, b4, rfl, en2.same s7, vz.same s7, ?_⟩
        refine kQ _ _ hD ⟨(step_bl hz).symm, c7.trans Ch.upd⟩
      rintro ys G5 ⟨hys, c5⟩ hDd hld
      have hys : ys = ((spotZ z1 z2 z3 z4).map (contZ z3 z4 b3 b4)).map V.bl := by rw [hys, List.take_of_length_le (by rw [List.length_map, List.length_map, spot_len, ln]; exact Nat.le_refl _)]
      subst hys
      have k5 : Same G4 G5 := fun b' o e => c5 _ _ (ne_of_none e hD4) e
      refine ⟨D4, _, rfl, shwBs hDd len2, rfl, _, rfl, ifF (dp_ne _ _ rfl) ?_⟩
      have en1 := en1.same k5
      have en2 := en2.same k5
      have st1 := st1.same k5
      have st2 := st2.same k5
      have hpG := hpG.same k5
      have cG := cG.trans (Ch.of k5)
      have hDa := k5 _ _ hDa
      have hDb := k5 _ _ hDb
      have go := ht2 G5 r1 r2 a b c d f1 f2 L D1 D2 z1 z2 z3 z4 b1 b2 b3 b4 m1 m2 en1 en2 st1 st2 hDa hDb hpG cG
      -- alike
      obtain ⟨e1, v1, v2, _⟩ := en1
      obtain ⟨e2, v3, v4, _⟩ := en2
      obtain ⟨a', p1, q1, ha, ⟨d1, i1⟩, l1, h1, _⟩ := v1.is
      obtain ⟨b', p2, q2, hb, ⟨d2, i2⟩, l2, h2, _⟩ := v2.is
      obtain ⟨c', p3, q3, hc, ⟨d3, i3⟩, l3, h3, _⟩ := v3.is
      obtain ⟨d', p4, q4, hd, ⟨d4, i4⟩, l4, h4, _⟩ := v4.is
      cases ha
      cases hb
      cases hc
      cases hd
      refine ⟨_, rfl, r1, _, _, _, rfl, rfl, SqT.of e1, rfl, _, rfl, r2, _, _, _, rfl, rfl, SqT.of e2, rfl, a, d1, _, _, rfl, i1, .ins i3, NC.nf, a, c, p1, q1, p3, q3, rfl, ⟨d1, i1⟩, ⟨d3, i3⟩, _, rfl, ?_⟩
      have E1 : decide (p1 = p3 ∧ q1 = q3) = decide (z1 = z3) := decide_eq_decide.mpr (vz_eq l1 l3 h1 h3)
      have E2 : decide (p2 = p4 ∧ q2 = q4) = decide (z2 = z4) := decide_eq_decide.mpr (vz_eq l2 l4 h2 h4)
      have en1 : EndsAt C G5 r1 a b z1 z2 b1 b2 := ⟨e1, v1, v2, zz⟩
      have en2 : EndsAt C G5 r2 c d z3 z4 b3 b4 := ⟨e2, v3, v4, zz'⟩
      refine if2 (fun h => ?_) (fun h => ?_)
      · rw [E1.symm.trans h] at go
        refine ⟨_, rfl, r1, _, _, _, rfl, rfl, SqT.of e1, rfl, _, rfl, r2, _, _, _, rfl, rfl, SqT.of e2, rfl, b, d2, _, _, rfl, i2, .ins i4, NC.nf, b, d, p2, q2, p4, q4, rfl, ⟨d2, i2⟩, ⟨d4, i4⟩, _, rfl, ?_⟩
        refine if2 (fun h' => ?_) (fun h' => ?_)
        · rw [E2.symm.trans h'] at go
          refine ⟨_, rfl, _, rfl, r1, _, rfl, SqT.of e1, (by show ¬(HT.sIx 4 0 (some 2) = 0 ∧ HT.sIx 4 4 none = 4); decide), fun t nt => ?_⟩
          have m1 := Same.new (o := .tup [.bl b1, .bl b2]) nt
          rw [show cutV [V.ref a, V.ref b, V.bl b1, V.bl b2] (some 2) none = [V.bl b1, V.bl b2] from rfl]
          refine ⟨_, rfl, _, rfl, r2, _, rfl, SqT.of (m1 _ _ e2), (by show ¬(HT.sIx 4 0 (some 2) = 0 ∧ HT.sIx 4 4 none = 4); decide), fun t' nt' => ?_⟩
          have m2 := Same.new (o := .tup [.bl b3, .bl b4]) nt'
          rw [show cutV [V.ref c, V.ref d, V.bl b3, V.bl b4] (some 2) none = [V.bl b3, V.bl b4] from rfl]
          have m12 := m1.trans m2
          refine ⟨_, _, .tup (SqT.of (m2 _ _ upd_same)) (.cons (.bl _) (.cons (.bl _) .nil)), .tup (SqT.of upd_same) (.cons (.bl _) (.cons (.bl _) .nil)), rfl, rfl, ?_⟩
          have ev : PyData.eqv (.tuple [.bool b1, .bool b2]) (.tuple [.bool b3, .bool b4]) = (true && (true && (b1 == b3 && b2 == b4))) := by
            cases b1 <;> cases b2 <;> cases b3 <;> cases b4 <;> rfl
          have go := ht2 _ r1 r2 a b c d f1 f2 L D1 D2 z1 z2 z3 z4 b1 b2 b3 b4 _ _ (en1.same m12) (en2.same m12) (st1.same m12) (st2.same m12) (m12 _ _ hDa) (m12 _ _ hDb) (hpG.same m12) (cG.trans (Ch.of m12))
          rw [E1.symm.trans h, E2.symm.trans h', ← ev] at go
          exact go
        · rw [E2.symm.trans h'] at go
          first | exact go | (rw [h']; exact go)
      · rw [E1.symm.trans h] at go
        first | exact go | (rw [h]; exact go)
    obtain ⟨t1, hbody1, ht1⟩ := rest1
    refine ⟨_, (pss_cons (ps_asg (pe_tup (pa_cons (pe_f cE hr (by decide) rfl (pa_cons (pv 0) pa_nil)) (pa_cons (pe_f cE hr (by decide) rfl (pa_cons (pv 0) pa_nil)) pa_nil))) (pg_tup rfl (pgs_cons (pg_name (i := 1) sc.nd rfl (Or.inr rfl)) (pgs_cons (pg_name (i := 2) sc.nd rfl (Or.inr rfl)) pgs_nil)))) (pss_cons (ps_if (PW.pt (pw_and (pt_cmpR op_eq (pe_f cT hr (by decide) rfl (pa_cons (pv 0) (pa_cons pe_int pa_nil))) pe_int (nomark _)) (pw_and1 (pt_not (pt_cmpR (show OpR _ _ (rEqO K C (spNEq C)) from op_eqO oE hr (by decide)) (pe_ix ix_tup (pv 1) pe_int (fun _ _ => rfl)) (pe_ix ix_tup (pv 1) pe_int (fun _ _ => rfl)) (nomark _)))))) (pss_one (ps_set (i := 2) sc.nd rfl (Or.inr rfl) (pe_op op_catT (pe_slice sl_tup (pv 1) po_none (po_some pe_int)) (pe_tup (pa_cons (pe_cmpR op_eq (pe_f cT hr (by decide) rfl (pa_cons (pv 0) (pa_cons pe_int pa_nil))) pe_int (nomark _)) (pa_cons (pe_cmpR op_eq (pe_f cT hr (by decide) rfl (pa_cons (pv 0) (pa_cons pe_int pa_nil))) pe_int (nomark _)) pa_nil)))))) pss_nil) hbody1)), ?_⟩
    refine ⟨_, rfl, p, m, rfl, hp, by omega, fun r1 a b z1 z2 b1 b2 H1 nr1 en1 hp1 c1 => ?_⟩
    refine ⟨_, rfl, p, _, rfl, hp1, by omega, fun r2 c d z3 z4 b3 b4 H2 nr2 en2 hp2 c2 => ?_⟩
    have en1 := en1.pot c2 hp1
    have c02 := c1.trans c2
    refine ⟨by show 2 ≤ sizeLine; decide, fun T nT => ⟨T, _, rfl, SqT.of upd_same, rfl, _, _, rfl, _, _, rfl, rfl, ?_⟩⟩
    have j1 := Same.new (o := .tup [.ref r1, .ref r2]) nT
    have en1 := en1.same j1
    have en2 := en2.same j1
    have hp2 := hp2.same j1
    have c02 := c02.trans (Ch.of j1)
    generalize upd H2 T (.tup [.ref r1, .ref r2]) = G at j1 en1 en2 hp2 c02
    refine ⟨_, rfl, p, 3, _, rfl, hp2, by omega, by decide, by decide, fun w3 H3 _ _ hp3 c3 => ⟨rfl, _, rfl, ?_⟩⟩
    have en1 := en1.pot c3 hp2
    have en2 := en2.pot c3 hp2
    have c03 := c02.trans c3
    refine if2 (fun _ => ?_) (fun _ => ?_)
    · obtain ⟨e1, v1, v2, zz⟩ := id en1
      obtain ⟨a', p1, q1, ha, ⟨d1, i1⟩, l1, h1, _⟩ := v1.is
      obtain ⟨b', p2, q2, hb, ⟨d2, i2⟩, l2, h2, _⟩ := v2.is
      cases ha
      cases hb
      refine ⟨_, rfl, r1, _, _, _, rfl, rfl, SqT.of e1, rfl, _, rfl, r1, _, _, _, rfl, rfl, SqT.of e1, rfl, a, d1, _, _, rfl, i1, .ins i2, NC.nf, a, b, p1, q1, p2, q2, rfl, ⟨d1, i1⟩, ⟨d2, i2⟩, _, rfl, ?_⟩
      have E1 : decide (p1 = p2 ∧ q1 = q2) = decide (z1 = z2) := decide_eq_decide.mpr (vz_eq l1 l2 h1 h2)
      by_cases h : z1 = z2
      · refine ifF (by rw [E1, decide_eq_true h]; rfl) ?_
        exact ht1 H3 r1 r2 a b c d z1 z2 z3 z4 b1 b2 b3 b4 en1 en2 (hp3.mono (by omega)) c03
      · refine ifT (by rw [E1, decide_eq_false h]; rfl) ?_
        refine ⟨_, rfl, _, rfl, r1, _, rfl, SqT.of e1, (by show ¬(HT.sIx 4 0 none = 0 ∧ HT.sIx 4 4 (some 2) = 4); decide), fun t nt => ?_⟩
        rw [show cutV [V.ref a, V.ref b, V.bl b1, V.bl b2] none (some 2) = [V.ref a, V.ref b] from rfl]
        have m1 := Same.new (o := .tup [.ref a, .ref b]) nt
        have et : (upd H3 t (.tup [.ref a, .ref b])) t = some (.tup [.ref a, .ref b]) := upd_same
        have hp4 := hp3.same m1
        have en1 := en1.same m1
        have c04 := c03.trans (Ch.of m1)
        generalize upd H3 t (.tup [.ref a, .ref b]) = G4 at m1 et hp4 en1 c04
        refine ⟨_, rfl, p, 2, _, rfl, hp4, by omega, by decide, by decide, fun w1 H5 _ _ hp5 c5 => ⟨rfl, ?_⟩⟩
        refine ⟨_, rfl, p, 2, _, rfl, hp5, by omega, by decide, by decide, fun w2 H6 _ _ hp6 c6 => ⟨rfl, ?_⟩⟩
        have c56 := c5.trans c6
        have npt : t ≠ p := fun z => by rw [z] at et; obtain ⟨_, e⟩ := hp4.lst; rw [e] at et; cases et
        have et := c56 _ _ npt et
        have en1 := en1.pot c56 hp4
        refine ⟨by show 2 ≤ sizeLine; decide, fun u nu => ?_⟩
        have m2 := Same.new (o := .tup [.bl (decide (V.int w1 = V.int 0)), .bl (decide (V.int w2 = V.int 0))]) nu
        refine ⟨t, u, [.ref a, .ref b], _, rfl, rfl, SqT.of (m2 _ _ et), SqT.of upd_same, (fun z => nomatch z), by show 4 ≤ sizeLine; decide, (fun z => nomatch z), fun _ R nR => ?_⟩
        have m3 := Same.new (o := .tup ([.ref a, .ref b] ++ [.bl (decide (V.int w1 = V.int 0)), .bl (decide (V.int w2 = V.int 0))])) nR
        have en1 := (en1.same m2).same m3
        exact ht1 _ r1 R a b a b z1 z2 z1 z2 b1 b2 _ _ en1 ⟨upd_same, en1.2.1, en1.2.2.1, ⟨zz.g1, zz.g2, zz.le, fun z => absurd z h⟩⟩ (((hp6.same m2).same m3).mono (by omega)) (((c04.trans c56).trans (Ch.of m2)).trans (Ch.of m3))
    · exact ht1 H3 r1 r2 a b c d z1 z2 z3 z4 b1 b2 b3 b4 en1 en2 (hp3.mono (by omega)) c03
end
end Ws

namespace Ws
open PySem PySem.Spec PyProof.Rows L2
abbrev sOddR : Stmt := (PySem.Challenge.pw_whatspeed_k08_whole_what_lies_in_a_stret.main.body.getD 20 (.Pass ⟨0, 0, 0, 0⟩))
abbrev NOddR : List Str := ["things", "odd", "thing", "one", "other"]
abbrev POddR : List Str := []
theorem scOddR : FnScope NOddR POddR (defScope sOddR) := ⟨rfl, rfl, rfl, by decide +kernel, rfl, by decide +kernel, by decide +kernel⟩
/-- a value of the type t is none of the class C -/
structure NotC (K : PySem.W.Frag) (t : Value) (C : Addr) : Prop where
  k : PySem.W.kitOne K t (.ref C) = some false
  n : PySem.W.notFirst K C t = true
/-- what the three classes are to one another, and to the built-in ones -/
structure Apart (K : PySem.W.Frag) (C L D : Addr) : Prop where
  ty : ∀ T ∈ ["NoneType", "bool", "int", "str", "tuple", "list", "dict"], NotC K (.type T) C ∧ NotC K (.type T) L ∧ NotC K (.type T) D
  cl : NotC K (.ref C) L
  cd : NotC K (.ref C) D
  lc : NotC K (.ref L) C
  ld : NotC K (.ref L) D
  dc : NotC K (.ref D) C
  dl : NotC K (.ref D) L
  nfC : PySem.W.notFirst K C (.ref C) = true
  nfL : PySem.W.notFirst K L (.ref L) = true
  nfD : PySem.W.notFirst K D (.ref D) = true
def OddY (K : PySem.W.Frag) (C L D : Addr) (H : Hp) (y : V) : Prop := ∃ t, TyX K H y t ∧ TyL H y t ∧ NotC K t C ∧ NotC K t L ∧ NotC K t D
abbrev R3 (K : PySem.W.Frag) (C L D : Addr) : R2 := fun x y H Q => rEqO K C (spNEqG K C) x y H Q ∨ rEqO K L (spLEq K C L) x y H Q ∨ rEqO K D (spSEqG K C D) x y H Q
structure Three (K : PySem.W.Frag) (C L D : Addr) (H : Hp) (x1 x2 x3 : Addr) : Prop where
  n : NumAt C H x1 1 1
  l : ∃ a c p q, LineAt L H x2 a c ∧ NumAt C H a 1 1 ∧ NumAt C H c p q
  s : ∃ p q r s b1 b2 m, StrV C D H x3 p q r s b1 b2 m
theorem Three.same {K : PySem.W.Frag} {C L D : Addr} {H H' : Hp} {x1 x2 x3 : Addr} (h : Three K C L D H x1 x2 x3) (j : Same H H') : Three K C L D H' x1 x2 x3 :=
  ⟨h.n.same j, let ⟨a, c, p, q, ⟨d, e⟩, n1, n2⟩ := h.l; ⟨a, c, p, q, ⟨d, j _ _ e⟩, n1.same j, n2.same j⟩, let ⟨p, q, r, s, b1, b2, m, e⟩ := h.s; ⟨p, q, r, s, b1, b2, m, e.same j⟩⟩
section
variable {P : Program} {w : World} {K : PySem.W.Frag} {mg : Str → Option Value} {base : Heap} {C L D f : Addr} {fd : FuncData}
theorem eq1 {H : Hp} {x1 x2 x3 : Addr} {y : V} {t : Value} {Q : VK} (h : Three K C L D H x1 x2 x3) (t1 : TyX K H y t) (t2 : TyL H y t) (n : NotC K t C) (k : Q (.bl false) H) : R3 K C L D (.ref x1) y H Q := by
  obtain ⟨dx, e⟩ := h.n
  exact .inl ⟨x1, dx, _, t, rfl, e, t2, n.n, x1, y, 1, 1, rfl, ⟨dx, e⟩, .inr ⟨t, t1, n.k, k⟩⟩
theorem eq2 {H : Hp} {x1 x2 x3 : Addr} {y : V} {t : Value} {Q : VK} (h : Three K C L D H x1 x2 x3) (t1 : TyX K H y t) (t2 : TyL H y t) (n : NotC K t L) (k : Q (.bl false) H) : R3 K C L D (.ref x2) y H Q := by
  obtain ⟨a, c, p, q, ⟨dx, e⟩, n1, n2⟩ := h.l
  exact .inr (.inl ⟨x2, dx, _, t, rfl, e, t2, n.n, x2, a, c, y, 1, 1, p, q, rfl, ⟨dx, e⟩, n1, n2, .inr ⟨t, t1, n.k, k⟩⟩)
theorem eq3 {H : Hp} {x1 x2 x3 : Addr} {y : V} {t : Value} {Q : VK} (h : Three K C L D H x1 x2 x3) (t1 : TyX K H y t) (t2 : TyL H y t) (n : NotC K t D) (k : Q (.bl false) H) : R3 K C L D (.ref x3) y H Q := by
  obtain ⟨p, q, r, s, b1, b2, m, st⟩ := h.s
  obtain ⟨l, u, ⟨dx, e⟩, n1, n2⟩ := id st
  exact .inr (.inr ⟨x3, dx, _, t, rfl, e, t2, n.n, x3, y, p, q, r, s, b1, b2, m, rfl, st, .inr ⟨t, t1, n.k, k⟩⟩)
/-- one of three things against another one -/
theorem eq_things (A : Apart K C L D) (NC : NumC K C) (LC : LineC K L) (LT : LineT K L) (SC : StrC K D) (ST : StrT K D) {H : Hp} {x1 x2 x3 : Addr} (h : Three K C L D H x1 x2 x3) {Q : VK} : ∀ {i j : Nat} {x y : V}, [V.ref x1, V.ref x2, V.ref x3][i]? = some x → [V.ref x1, V.ref x2, V.ref x3][j]? = some y → Q (.bl (decide (i = j))) H → R3 K C L D x y H Q := by
  obtain ⟨d1, e1⟩ := id h.n
  obtain ⟨a, c, p, q, ⟨d2, e2⟩, n1, n2⟩ := id h.l
  obtain ⟨p', q', r', s', b1, b2, m, st⟩ := id h.s
  obtain ⟨l, u, ⟨d3, e3⟩, n3, n4⟩ := id st
  intro i j x y hi hj k
  match i, hi, j, hj, k with
  | 0, hi, 0, hj, k => cases hi; cases hj; exact .inl ⟨x1, d1, _, _, rfl, e1, .ins e1, A.nfC, x1, .ref x1, 1, 1, rfl, ⟨d1, e1⟩, .inl ⟨x1, 1, 1, rfl, ⟨d1, e1⟩, k⟩⟩
  | 0, hi, 1, hj, k => cases hi; cases hj; exact eq1 h (LC.ty LT e2) (.ins e2) A.lc k
  | 0, hi, 2, hj, k => cases hi; cases hj; exact eq1 h (SC.ty ST e3) (.ins e3) A.dc k
  | 1, hi, 0, hj, k => cases hi; cases hj; exact eq2 h (NC.ty e1) (.ins e1) A.cl k
  | 1, hi, 1, hj, k =>
    cases hi; cases hj
    exact .inr (.inl ⟨x2, d2, _, _, rfl, e2, .ins e2, A.nfL, x2, a, c, .ref x2, 1, 1, p, q, rfl, ⟨d2, e2⟩, n1, n2, .inl ⟨x2, a, c, 1, 1, p, q, rfl, ⟨d2, e2⟩, n1, n2, by rw [decide_eq_true ⟨⟨rfl, rfl⟩, rfl, rfl⟩]; exact k⟩⟩)
  | 1, hi, 2, hj, k => cases hi; cases hj; exact eq2 h (SC.ty ST e3) (.ins e3) A.dl k
  | 2, hi, 0, hj, k => cases hi; cases hj; exact eq3 h (NC.ty e1) (.ins e1) A.cd k
  | 2, hi, 1, hj, k => cases hi; cases hj; exact eq3 h (LC.ty LT e2) (.ins e2) A.ld k
  | 2, hi, 2, hj, k =>
    cases hi; cases hj
    exact .inr (.inr ⟨x3, d3, _, _, rfl, e3, .ins e3, A.nfD, x3, .ref x3, p', q', r', s', b1, b2, m, rfl, st, .inl ⟨x3, p', q', r', s', b1, b2, m, rfl, st, by
      have e : (decide (p' = p' ∧ q' = q') && (decide (r' = r' ∧ s' = s') && (b1 == b1 && b2 == b2))) = true := by simp
      rw [e]
      exact k⟩⟩)
  | n + 3, hi, _, _, _ => simp at hi
  | 0, _, n + 3, hj, _ => simp at hj
  | 1, _, n + 3, hj, _ => simp at hj
  | 2, _, n + 3, hj, _ => simp at hj
theorem eq_odd {H : Hp} {x1 x2 x3 : Addr} (h : Three K C L D H x1 x2 x3) {Q : VK} {y : V} (o : OddY K C L D H y) (k : Q (.bl false) H) : ∀ {i : Nat} {x : V}, [V.ref x1, V.ref x2, V.ref x3][i]? = some x → R3 K C L D x y H Q := by
  obtain ⟨t, t1, t2, n1, n2, n3⟩ := o
  intro i x hi
  match i, hi with
  | 0, hi => cases hi; exact eq1 h t1 t2 n1 k
  | 1, hi => cases hi; exact eq2 h t1 t2 n2 k
  | 2, hi => cases hi; exact eq3 h t1 t2 n3 k
  | n + 3, hi => simp at hi
theorem OddY.same {H H' : Hp} {y : V} (h : OddY K C L D H y) (j : Same H H') : OddY K C L D H' y := by
  obtain ⟨t, t1, t2, r⟩ := h
  refine ⟨t, tyx_same t1 (fun a o _ e => j a o e), ?_, r⟩
  cases t2 with
  | non => exact .non
  | bl b => exact .bl b
  | int i => exact .int i
  | str x => exact .str x
  | lst e => exact .lst (j _ _ e)
  | tup e => exact .tup (j _ _ e)
  | dK e => exact .dK (j _ _ e)
  | ins e => exact .ins (j _ _ e)
def spOddR : Sp := fun vs H Q _ => vs = [] ∧ ∀ H', Same H H' → Q (.bl true) H'
def spStrD (K : PySem.W.Frag) (C D Cs : Addr) : Sp := fun vs H Q E => spStr K C D Cs (vs ++ [.bl true, .bl true]) H Q E
theorem lo1 (t : Int) : nT t 1 = t ∧ nB t 1 = 1 := (nf_low (t := t) (b := 1) (by decide)).eq (show Low t 1 t 1 from ⟨by decide, rfl, by simp⟩) (by decide) (by decide) rfl
theorem ok_oddr {Cs : Addr} (F : L2.Fun K "_law_odd_right" "_law_odd_right" sOddR f fd) (b : Binds K fd POddR []) (B : Bi mg) (AP : Apart K C L D) (NC : NumC K C) (LC : LineC K L) (LT : LineT K L) (SC : StrC K D) (ST : StrT K D)
    (mN1 : MakF P w K mg base 2 "Number" C (spNum1 C)) (mL : MakF P w K mg base 1 "Line" L (spLine L)) (mS : MakE P w K mg base (L2.CX P w) 5 "Stretch" D (spStrD K C D Cs)) (oG : OpnF P w K mg base 1 C "__eq__" (spNEqG K C)) (oL : OpnF P w K mg base 2 L "__eq__" (spLEq K C L)) (sE : OpnF P w K mg base 2 D "__eq__" (spSEqG K C D)) : FnR P w K mg base CX0 7 f spOddR := by
  refine fnR_of F b scOddR (fun vs H Q E h => ?_) (fun cdv A0 outer s H vs Q E hr h => ?_)
  · obtain ⟨rfl, _⟩ := h
    rfl
  · have sc := scOddR
    obtain ⟨rfl, k⟩ := h
    refine ⟨_, (pss_cons (ps_set (i := 0) sc.nd rfl (Or.inl rfl) (pe_lst (pa_cons (pe_mk mN1 hr (by decide) rfl (pa_cons pe_int pa_nil)) (pa_cons (pe_mk mL hr (by decide) rfl (pa_cons (pe_mk mN1 hr (by decide) rfl (pa_cons pe_int pa_nil)) (pa_cons (pe_mk mN1 hr (by decide) rfl (pa_cons pe_int pa_nil)) pa_nil))) (pa_cons (pe_mkS mS hr (by decide) passNS rfl (pa_cons (pe_mk mN1 hr (by decide) rfl (pa_cons pe_int pa_nil)) (pa_cons (pe_mk mN1 hr (by decide) rfl (pa_cons pe_int pa_nil)) pa_nil))) pa_nil))))) (pss_cons (ps_set (i := 1) sc.nd rfl (Or.inl rfl) (pe_lst (pa_cons pe_non (pa_cons pe_bl (pa_cons pe_int (pa_cons pe_int (pa_cons pe_str (pa_cons (pe_tup (pa_cons pe_int (pa_cons pe_int pa_nil))) (pa_cons (pe_lst (pa_cons pe_int pa_nil)) (pa_cons pe_dnewK (pa_cons (pe_tup (pa_cons pe_int (pa_cons pe_int (pa_cons pe_bl (pa_cons pe_bl pa_nil))))) pa_nil))))))))))) (pss_cons (ps_for PassesOwn.never rfl (pi_list (pv 0)) (pg_name (i := 2) sc.nd rfl (Or.inr rfl)) (pss_one (ps_if (PW.pt (pw_or (pt_val (pe_callB (cr_any rfl) (by rfl) B.any (by decide +kernel) (pa_cons (pe_lc (own := [("one", 3)]) rfl sc.nd (pi_list (pv 1)) (blkOk_by (N := NOddR) (sc := defScope sOddR) (by decide +kernel)) (fun _ _ _ _ _ => by exact (pg_name (i := 3) sc.nd rfl (Or.inl rfl))) (fun _ _ _ _ _ => by exact pts_nil) (fun _ _ _ _ _ => by exact (pe_cmpR (show OpR _ _ (R3 K C L D) from OpR.or (op_eqO oG hr (by decide)) (OpR.or (op_eqO oL hr (by decide)) (op_eqO sE hr (by decide)))) (pv 2) (pv 3) (nomark _)))) pa_nil))) (pw_or1 (pt_cmpR op_ne (pe_bm PySem.F.plainAttrs_list PySem.F.slot_list_count PySem.F.type_list_count mt_countB (pe_lc (own := [("other", 4)]) rfl sc.nd (pi_list (pv 0)) (blkOk_by (N := NOddR) (sc := defScope sOddR) (by decide +kernel)) (fun _ _ _ _ _ => by exact (pg_name (i := 4) sc.nd rfl (Or.inl rfl))) (fun _ _ _ _ _ => by exact pts_nil) (fun _ _ _ _ _ => by exact (pe_cmpR (show OpR _ _ (R3 K C L D) from OpR.or (op_eqO oG hr (by decide)) (OpR.or (op_eqO oL hr (by decide)) (op_eqO sE hr (by decide)))) (pv 2) (pv 4) (nomark _)))) (pa_cons pe_bl pa_nil)) pe_int (nomark _))))) (pss_one (ps_ret pe_bl)) pss_nil))) (pss_one (ps_ret pe_bl))))), ?_⟩
    intro x1 dx1 nx1 nd1 ne1
    refine ⟨x1, dx1, _, rfl, upd_same, fun H1 h1 k1 => ⟨rfl, ?_⟩⟩
    have g1 : Same H H1 := Same.mk nx1 nd1 k1
    intro y1 dy1 ny1 ndy1 ney1
    refine ⟨y1, dy1, _, rfl, upd_same, fun H2 h2 k2 => ⟨rfl, ?_⟩⟩
    have g2 : Same H1 H2 := Same.mk ny1 ndy1 k2
    intro y2 dy2 ny2 ndy2 ney2
    refine ⟨y2, dy2, _, rfl, upd_same, fun H3 h3 k3 => ⟨rfl, ?_⟩⟩
    have g3 : Same H2 H3 := Same.mk ny2 ndy2 k3
    intro x2 dx2 nx2 nd2 ne2
    refine ⟨x2, dx2, y1, y2, rfl, upd_same, fun H4 h4 k4 => ⟨rfl, ?_⟩⟩
    have g4 : Same H3 H4 := Same.mk nx2 nd2 k4
    intro w1 dw1 nw1 ndw1 new1
    refine ⟨w1, dw1, _, rfl, upd_same, fun H5 h5 k5 => ⟨rfl, ?_⟩⟩
    have g5 : Same H4 H5 := Same.mk nw1 ndw1 k5
    intro w2 dw2 nw2 ndw2 new2
    refine ⟨w2, dw2, _, rfl, upd_same, fun H6 h6 k6 => ⟨rfl, ?_⟩⟩
    have g6 : Same H5 H6 := Same.mk nw2 ndw2 k6
    rw [(lo1 1).1, (lo1 1).2] at h1 h2 h5 h6
    rw [(lo1 0).1, (lo1 0).2] at h3
    have h5 := h5.same g6
    intro st ds nst nds nes
    have j0 : Same H6 (upd (upd H6 ds (.own st)) st (.ins D ds [])) := fun b o e => (upd_ne (ne_of_none e nst)).trans ((upd_ne (ne_of_none e nds)).trans e)
    have S1 : Sz 40 1 := by unfold Sz; decide
    have n1 : (V.ref w1) ≠ .ref st := fun z => by injection z with z; obtain ⟨_, e⟩ := h5; exact ne_of_none e nst z
    have n2 : (V.ref w2) ≠ .ref st := fun z => by injection z with z; obtain ⟨_, e⟩ := h6; exact ne_of_none e nst z
    have i1 : EndIs K C H6 (.ref w1) (.num 1 1) := ⟨w1, rfl, h5, ⟨by decide, rfl, by decide⟩, S1, S1⟩
    have i2 : EndIs K C H6 (.ref w2) (.num 1 1) := ⟨w2, rfl, h6, ⟨by decide, rfl, by decide⟩, S1, S1⟩
    refine ⟨st, ds, .ref w1, .ref w2, .bl true, .bl true, .num 1 1, .num 1 1, .flag true, .flag true, rfl, upd_same, n1, n2, (fun z => nomatch z), (fun z => nomatch z), i1.same j0, i2.same j0, rfl, rfl, fun hf m H7 sat mid kp => ⟨rfl, ?_⟩, fun hf => by cases hf⟩
    have g7 : Same H6 H7 := Same.mk nst nds kp
    refine ⟨by show 3 ≤ sizeLine; decide, fun TL nTL => ?_⟩
    have g8 := Same.new (o := .lst [.ref x1, .ref x2, .ref st]) nTL
    have eTL := upd_same (H := H7) (a := TL) (o := .lst [.ref x1, .ref x2, .ref st])
    generalize upd H7 TL (.lst [.ref x1, .ref x2, .ref st]) = H8 at g8 eTL
    have g68 := (g6.trans g7).trans g8
    have g48 := ((g5.trans g68))
    have three : Three K C L D H8 x1 x2 st := by
      refine ⟨((((h1.same g2).same g3).same g4).same g48), ⟨y1, y2, 0, 1, ?_, ((h2.same g3).same g4).same g48, (h3.same g4).same g48⟩, ⟨1, 1, 1, 1, true, true, m, ?_⟩⟩
      · obtain ⟨d, e⟩ := h4
        exact ⟨d, g48 _ _ e⟩
      · exact ⟨w1, w2, sat.same g8, (h5.same g7).same g8, (h6.same g7).same g8⟩
    have g08 := (((g1.trans g2).trans g3).trans g4).trans g48
    -- odd
    refine ⟨by show 2 ≤ sizeLine; decide, fun t1 nt1 => ?_⟩
    have q1 := Same.new (o := .tup [.int 1, .int 1]) nt1
    have et1 := upd_same (H := H8) (a := t1) (o := .tup [.int 1, .int 1])
    generalize upd H8 t1 (.tup [.int 1, .int 1]) = H9 at q1 et1
    refine ⟨by show 1 ≤ sizeLine; decide, fun t2 nt2 => ?_⟩
    have q2 := Same.new (o := .lst [.int 1]) nt2
    have et2 := upd_same (H := H9) (a := t2) (o := .lst [.int 1])
    generalize upd H9 t2 (.lst [.int 1]) = H10 at q2 et2
    intro t3 nt3
    have q3 := Same.new (o := .dK []) nt3
    have et3 := upd_same (H := H10) (a := t3) (o := .dK [])
    generalize upd H10 t3 (.dK []) = H11 at q3 et3
    refine ⟨by show 4 ≤ sizeLine; decide, fun t4 nt4 => ?_⟩
    have q4 := Same.new (o := .tup [.int 1, .int 1, .bl true, .bl true]) nt4
    have et4 := upd_same (H := H11) (a := t4) (o := .tup [.int 1, .int 1, .bl true, .bl true])
    generalize upd H11 t4 (.tup [.int 1, .int 1, .bl true, .bl true]) = H12 at q4 et4
    refine ⟨by show 9 ≤ sizeLine; decide, fun OL nOL => ?_⟩
    have q5 := Same.new (o := .lst [.non, .bl true, .int 1, .int 0, .str "1", .ref t1, .ref t2, .ref t3, .ref t4]) nOL
    have eOL := upd_same (H := H12) (a := OL) (o := .lst [.non, .bl true, .int 1, .int 0, .str "1", .ref t1, .ref t2, .ref t3, .ref t4])
    generalize upd H12 OL (.lst [.non, .bl true, .int 1, .int 0, .str "1", .ref t1, .ref t2, .ref t3, .ref t4]) = H13 at q5 eOL
    have q35 := (q3.trans q4).trans q5
    have q15 := (q1.trans q2).trans q35
    have three := three.same q15
    have eTL := q15 _ _ eTL
    have g013 := g08.trans q15
    have T := AP.ty
    have odds : ∀ y ∈ [V.non, .bl true, .int 1, .int 0, .str "1", .ref t1, .ref t2, .ref t3, .ref t4], OddY K C L D H13 y := by
      intro y hy
      simp only [List.mem_cons, List.not_mem_nil, or_false] at hy
      rcases hy with rfl | rfl | rfl | rfl | rfl | rfl | rfl | rfl | rfl
      · exact ⟨_, .base .non, .non, T _ (by simp)⟩
      · exact ⟨_, .base (.bl _), .bl _, T _ (by simp)⟩
      · exact ⟨_, .base (.int _), .int _, T _ (by simp)⟩
      · exact ⟨_, .base (.int _), .int _, T _ (by simp)⟩
      · exact ⟨_, .base (.str _), .str _, T _ (by simp)⟩
      · exact ⟨_, .base (.tup (q35 _ _ (q2 _ _ et1))), .tup (q35 _ _ (q2 _ _ et1)), T _ (by simp)⟩
      · exact ⟨_, .base (.lst (q35 _ _ et2)), .lst (q35 _ _ et2), T _ (by simp)⟩
      · exact ⟨_, .base (.dK ((q4.trans q5) _ _ et3)), .dK ((q4.trans q5) _ _ et3), T _ (by simp)⟩
      · exact ⟨_, .base (.tup (q5 _ _ et4)), .tup (q5 _ _ et4), T _ (by simp)⟩
    refine ⟨_, rfl, TL, rfl, ⟨_, SqL.of eTL⟩, for_list (xs := [.ref x1, .ref x2, .ref st]) (fun i σ H' => ∃ z, σ = [some (.ref TL), some (.ref OL), z, none, none] ∧ Same H13 H') ⟨_, rfl, fun _ _ e => e⟩ (fun i σ H' _ ⟨_, _, j⟩ => SqL.of (j _ _ eTL)) ?_ ?_⟩
    · rintro i x σ H14 hx ⟨_, rfl, j14⟩
      have th := three.same j14
      have eOL14 := j14 _ _ eOL
      have eTL14 := j14 _ _ eTL
      refine ⟨_, rfl, OL, rfl, ⟨_, SqL.of eOL14⟩, fun D1 hD1 => ?_⟩
      refine lcL (K := K) (a := OL) (xs := [.non, .bl true, .int 1, .int 0, .str "1", .ref t1, .ref t2, .ref t3, .ref t4]) (fun j acc H' => acc = List.replicate j (V.bl false) ∧ Same H14 H') ⟨rfl, Same.new hD1⟩ (fun i acc H' ⟨_, j⟩ => SqL.of (j _ _ eOL14)) (by show 9 < sizeLine; decide) ?_ ?_
      · rintro j y H15 acc hy ⟨rfl, j15⟩ hD hl Qn kQ
        have oy := ((odds y (List.mem_of_getElem? hy)).same j14).same j15
        refine ⟨rfl, _, rfl, _, rfl, eq_odd (th.same j15) oy ?_ hx⟩
        refine kQ _ _ hD ⟨by rw [List.replicate_succ'], fun b o e => (upd_ne (ne_of_none e hD1)).trans (j15 _ _ e)⟩
      rintro ys H15 ⟨hy, j15⟩ hD15 hl
      subst hy
      refine ⟨D1, List.replicate 9 false, rfl, SqL.of hD15, false, rfl, iteF ?_⟩
      have th := th.same j15
      have eTL15 := j15 _ _ eTL14
      refine ⟨_, rfl, TL, rfl, ⟨_, SqL.of eTL15⟩, fun D2 hD2 => ?_⟩
      refine lcL (K := K) (a := TL) (xs := [.ref x1, .ref x2, .ref st]) (fun j acc H' => acc = ([decide (i = 0), decide (i = 1), decide (i = 2)].map V.bl).take j ∧ Same H15 H') ⟨rfl, Same.new hD2⟩ (fun i acc H' ⟨_, j⟩ => SqL.of (j _ _ eTL15)) (by show 3 < sizeLine; decide) ?_ ?_
      · rintro j y H16 acc hy ⟨rfl, j16⟩ hD hl Qn kQ
        have hj : j < 3 := (List.getElem?_eq_some_iff.mp hy).1
        have hb : [decide (i = 0), decide (i = 1), decide (i = 2)][j]? = some (decide (i = j)) := by
          match j, hj with
          | 0, _ => rfl
          | 1, _ => rfl
          | 2, _ => rfl
        refine ⟨rfl, _, rfl, _, rfl, eq_things AP NC LC LT SC ST (th.same j16) hx hy ?_⟩
        refine kQ _ _ hD ⟨?_, fun b o e => (upd_ne (ne_of_none e hD2)).trans (j16 _ _ e)⟩
        rw [List.take_add_one, List.getElem?_map, hb]
        rfl
      rintro ys H16 ⟨hy, j16⟩ hD16 hl2
      have hy : ys = [decide (i = 0), decide (i = 1), decide (i = 2)].map V.bl := by rw [hy]; rfl
      subst hy
      refine ⟨.inl ⟨rfl, _, SqL.of hD16⟩, D2, [decide (i = 0), decide (i = 1), decide (i = 2)], true, rfl, rfl, SqL.of hD16, rfl, _, rfl, ifF ?_ ?_⟩
      · have hi : i < 3 := (List.getElem?_eq_some_iff.mp hx).1
        match i, hi with
        | 0, _ => rfl
        | 1, _ => rfl
        | 2, _ => rfl
      · exact ⟨_, rfl, (j14.trans j15).trans j16⟩
    · rintro σ H14 ⟨_, rfl, j14⟩
      exact k H14 (g013.trans j14)
end
end Ws

namespace Ws
open PySem PySem.Spec PyProof.Rows L2
abbrev sLaw : Stmt := (PySem.Challenge.pw_whatspeed_k08_whole_what_lies_in_a_stret.main.body.getD 21 (.Pass ⟨0, 0, 0, 0⟩))
abbrev NLaw : List Str := ["script", "k", "pot", "turn"]
abbrev PLaw : List Str := ["script"]
theorem scLaw : FnScope NLaw PLaw (defScope sLaw) := ⟨rfl, rfl, rfl, by decide +kernel, rfl, by decide +kernel, by decide +kernel⟩
def spLaw (K : PySem.W.Frag) : Sp := fun vs H Q _ => ∃ (a : Addr) (ns : List Int), vs = [.ref a] ∧ SqL K H a (ns.map V.int) ∧ ns.length ≤ 63 ∧ ∀ H', Q (.bl true) H'
theorem notFirst_of {K : PySem.W.Frag} {t : Value} {D : Addr} (h : PySem.W.subIn K t (.ref D) = some false) : PySem.W.notFirst K D t = true := by
  unfold PySem.W.notFirst
  rw [h]
  simp
section
variable {P : Program} {w : World} {K : PySem.W.Frag} {mg : Str → Option Value} {base : Heap} {C D f : Addr} {fd : FuncData}
theorem ok_law (F : L2.Fun K "law" "law" sLaw f fd) (b : Binds K fd PLaw []) (B : Bi mg) (cP : CalF P w K mg base 1 "_law_pot" (spPot K)) (cO : CalF P w K mg base 7 "_law_odd_right" spOddR) (cR : CalG P w K mg base CX0 8 "_law_is_right" spRight) : FnG P w K mg base CX0 9 f (spLaw K) := by
  refine fnG_of F b scLaw (fun vs H Q E h => ?_) (fun cdv A0 outer s H vs Q E cl hr h => ?_)
  · obtain ⟨a, ns, rfl, _⟩ := h
    rfl
  · have sc := scLaw
    obtain ⟨a, ns, rfl, hS, hlen, q⟩ := h
    refine ⟨_, (pss_cons (ps_if (pt_not (pt_val (pe_f0 cO hr (by decide) rfl))) (pss_one (ps_ret pe_bl)) pss_nil) (pss_cons (ps_for PassesOwn.never rfl (pi_range1 (by rfl) B.range (pa_cons (pe_callB (call_max2 rfl) (by rfl) B.max (by decide +kernel) (pa_cons pe_int (pa_cons (pe_callB (call_min2 rfl) (by rfl) B.min (by decide +kernel) (pa_cons pe_int (pa_cons (pe_callB call_len_seq (by rfl) B.len PySem.boot_len (pa_cons (pv 0) pa_nil)) pa_nil))) pa_nil))) pa_nil)) (pg_name (i := 1) sc.nd rfl (Or.inl rfl)) (pss_cons (ps_set (i := 2) sc.nd rfl (Or.inr rfl) (pe_f cP hr (by decide) rfl (pa_cons (pv 0) (pa_cons (pv 1) pa_nil)))) (pss_one (ps_if (pt_not (pt_val (pe_callB (cr_all rfl) (by rfl) B.all (by decide +kernel) (pa_cons (pe_lc (own := [("turn", 3)]) rfl sc.nd (pi_range1 (by rfl) B.range (pa_cons pe_int pa_nil)) (blkOk_by (N := NLaw) (sc := defScope sLaw) (by decide +kernel)) (fun _ _ _ _ _ => by exact (pg_name (i := 3) sc.nd rfl (Or.inl rfl))) (fun _ _ _ _ _ => by exact pts_nil) (fun _ _ _ _ _ => by exact (pe_g cR cl hr (by decide) rfl (pa_cons (pv 2) pa_nil)))) pa_nil)))) (pss_one (ps_ret pe_bl)) pss_nil)))) (pss_one (ps_ret pe_bl)))), ?_⟩
    refine ⟨rfl, fun H1 j1 => ⟨_, rfl, ifF rfl ?_⟩⟩
    have hS := L2.Same.seq j1 hS
    refine ⟨_, rfl, a, _, rfl, .inl hS, _, _, rfl, _, _, rfl, ?_⟩
    generalize hn : (if (if ((ns.map V.int).length : Int) < 3 then ((ns.map V.int).length : Int) else 3) > 1 then (if ((ns.map V.int).length : Int) < 3 then ((ns.map V.int).length : Int) else 3) else 1) = n
    have hn3 : n ≤ 3 ∧ 0 ≤ n := by
      rw [← hn]
      split <;> split <;> omega
    refine ⟨n, rfl, by omega, by omega, for_range (n := n.toNat) (fun i σ H' => ∃ x y, σ = [some (.ref a), x, y, none] ∧ SqL K H' a (ns.map V.int)) ⟨_, _, rfl, hS⟩ ?_ ?_⟩
    · rintro i σ H0 hi ⟨_, _, rfl, hS0⟩
      rw [Int.zero_add]
      refine ⟨_, rfl, _, rfl, a, ns, i, rfl, hS0, by omega, fun p H1 np hp s1 => ?_⟩
      refine ⟨6, rfl, by decide, by decide, fun D' hD => ?_⟩
      have npD : p ≠ D' := by obtain ⟨_, _, _, e, _⟩ := hp; exact ne_of_none e hD
      refine lcR (lo := 0) (n := 6) (fun j acc H' => acc = List.replicate j (V.bl true) ∧ PotAt H' p (15 * j) ∧ Same H0 H') ⟨rfl, ?_, s1.trans (Same.new hD)⟩ (by decide) ?_ ?_
      · exact hp.same (Same.new hD)
      · rintro j H acc hj ⟨ha, hpj, sj⟩ hDj hl Qn kQ
        refine ⟨rfl, _, rfl, p, 15 * (j : Int), rfl, hpj, by omega, fun H' hp' ch => ?_⟩
        have nD0 : ∀ {b : Addr} {o : HO}, H0 b = some o → b ≠ D' := fun e => ne_of_none (s1 _ _ e) hD
        refine kQ _ _ (ch _ _ npD.symm hDj) ⟨?_, ?_, fun b o e => ?_⟩
        · rw [ha, List.replicate_succ']
        · obtain ⟨x, y, z, e, r1, r2, r3, r4, r5⟩ := hp'
          exact ⟨x, y, z, (upd_ne npD).trans e, r1, r2, r3, r4, by omega⟩
        · exact (upd_ne (nD0 e)).trans (ch _ _ (ne_of_none e np) (sj _ _ e))
      · rintro ys H2 ⟨hy, hp2, s2⟩ hD2 hl
        subst hy
        refine ⟨D', List.replicate 6 true, rfl, SqL.of hD2, true, rfl, ifF rfl ?_⟩
        exact ⟨_, _, rfl, L2.Same.seq s2 hS0⟩
    · rintro σ H' ⟨_, _, rfl, _⟩
      exact q H'
end
theorem all_mk {l : PySem.W.OpenLaw} {w : World} {K : PySem.W.Frag} {h : Heap} {mg : Str → Option Value} {fa : Addr} (X : K.In h) (G : h.Ns mainGlobals mg) (hfa : mg "law" = some (.ref fa)) {C : Addr} {fWhole : Addr} {odWhole anWhole : Option Addr} {slWhole : Array (Option Value)} {ocWhole dcWhole pmWhole cdWhole ctWhole : Value} {kVWhole : Value} {fNum : Addr} {odNum anNum : Option Addr} {slNum : Array (Option Value)} {ocNum dcNum pmNum cdNum ctNum : Value} {kVNum : Value} {TNum : Addr} {oTNum : Obj} {nT : Nat} {tkT : Tok} {pNTop fNTop : Addr} {rNTop : List Value} {odNTop anNTop : Option Addr} {slNTop : Array (Option Value)} {ocNTop dcNTop pmNTop cdNTop ctNTop : Value} {kVNTop : Value} {pNBot fNBot : Addr} {rNBot : List Value} {odNBot anNBot : Option Addr} {slNBot : Array (Option Value)} {ocNBot dcNBot pmNBot cdNBot ctNBot : Value} {kVNBot : Value} {fNEq : Addr} {odNEq anNEq : Option Addr} {slNEq : Array (Option Value)} {ocNEq dcNEq pmNEq cdNEq ctNEq : Value} {kVNEq : Value} {fNAdd : Addr} {odNAdd anNAdd : Option Addr} {slNAdd : Array (Option Value)} {ocNAdd dcNAdd pmNAdd cdNAdd ctNAdd : Value} {kVNAdd : Value} {fNMul : Addr} {odNMul anNMul : Option Addr} {slNMul : Array (Option Value)} {ocNMul dcNMul pmNMul cdNMul ctNMul : Value} {kVNMul : Value} {fNLess : Addr} {odNLess anNLess : Option Addr} {slNLess : Array (Option Value)} {ocNLess dcNLess pmNLess cdNLess ctNLess : Value} {kVNLess : Value} {nmC qC : Str} {NC : Addr} {bsC bmC : List Value} {hdC : Bool} {snC : List Str} {subC : List Value} {abC : Bool} {colC : Option Bool} {ddC : Option Addr} {m0C m1C m2C m3C m5C : Option Value} {nidC : String} {L : Addr} {D : Addr} {nmD qD : Str} {ND : Addr} {bsD bmD : List Value} {hdD : Bool} {snD : List Str} {subD : List Value} {abD : Bool} {colD : Option Bool} {ddD : Option Addr} {m0D m1D m2D m3D m5D : Option Value} {nidD : String} {fLine : Addr} {odLine anLine : Option Addr} {slLine : Array (Option Value)} {ocLine dcLine pmLine cdLine ctLine : Value} {kVLine : Value} {fLEq : Addr} {odLEq anLEq : Option Addr} {slLEq : Array (Option Value)} {ocLEq dcLEq pmLEq cdLEq ctLEq : Value} {kVLEq : Value} {fSInit : Addr} {odSInit anSInit : Option Addr} {slSInit : Array (Option Value)} {ocSInit dcSInit pmSInit cdSInit ctSInit : Value} {WSInit : Addr} {fSEq : Addr} {odSEq anSEq : Option Addr} {slSEq : Array (Option Value)} {ocSEq dcSEq pmSEq cdSEq ctSEq : Value} {kVSEq : Value} {fSCont : Addr} {odSCont anSCont : Option Addr} {slSCont : Array (Option Value)} {ocSCont dcSCont pmSCont cdSCont ctSCont : Value} {kVSCont : Value} {pSMid fSMid : Addr} {rSMid : List Value} {odSMid anSMid : Option Addr} {slSMid : Array (Option Value)} {ocSMid dcSMid pmSMid cdSMid ctSMid : Value} {kVSMid : Value} {Cs : Addr} {nmCs qCs : Str} {NCs : Addr} {bsCs bmCs : List Value} {snCs : List Str} {subCs : List Value} {abCs : Bool} {colCs : Option Bool} {ddCs : Option Addr} {m0Cs m1Cs m2Cs m3Cs m5Cs : Option Value} {fErrN : Addr} {odErrN anErrN : Option Addr} {slErrN : Array (Option Value)} {ocErrN dcErrN pmErrN cdErrN ctErrN : Value} {kVErrN : Value} {fPot : Addr} {odPot anPot : Option Addr} {slPot : Array (Option Value)} {ocPot dcPot pmPot cdPot ctPot : Value} {kVPot : Value} {fTake : Addr} {odTake anTake : Option Addr} {slTake : Array (Option Value)} {ocTake dcTake pmTake cdTake ctTake : Value} {kVTake : Value} {fOf : Addr} {odOf anOf : Option Addr} {slOf : Array (Option Value)} {ocOf dcOf pmOf cdOf ctOf : Value} {kVOf : Value} {fEnds : Addr} {odEnds anEnds : Option Addr} {slEnds : Array (Option Value)} {ocEnds dcEnds pmEnds cdEnds ctEnds : Value} {kVEnds : Value} {fMade : Addr} {odMade anMade : Option Addr} {slMade : Array (Option Value)} {ocMade dcMade pmMade cdMade ctMade : Value} {kVMade : Value} {fLies : Addr} {odLies anLies : Option Addr} {slLies : Array (Option Value)} {ocLies dcLies pmLies cdLies ctLies : Value} {kVLies : Value} {fSpots : Addr} {odSpots anSpots : Option Addr} {slSpots : Array (Option Value)} {ocSpots dcSpots pmSpots cdSpots ctSpots : Value} {kVSpots : Value} {fRight : Addr} {odRight anRight : Option Addr} {slRight : Array (Option Value)} {ocRight dcRight pmRight cdRight ctRight : Value} {kVRight : Value} {fOddR : Addr} {odOddR anOddR : Option Addr} {slOddR : Array (Option Value)} {ocOddR dcOddR pmOddR cdOddR ctOddR : Value} {kVOddR : Value} {fLaw : Addr} {odLaw anLaw : Option Addr} {slLaw : Array (Option Value)} {ocLaw dcLaw pmLaw cdLaw ctLaw : Value} {kVLaw : Value} (g_C : PySem.W.nsIn K mainGlobals "Number" = some (some (.ref C))) (pg_C : PySem.W.plainGet K C Str.empty = true) (hd_C : PySem.W.hasDictIn K C = true) (po_C : PySem.W.plainOver K C = true) (sa_C : PySem.W.findIn K (.ref C) "__setattr__" = some (some (.builtin "object.__setattr__"))) (mk_C : PySem.W.makesIn K C = true) (kc_C : PySem.W.keepIn K (.ref C) = true) (n_top_C : PySem.W.findIn K (.ref C) "_top" = some none) (n_bottom_C : PySem.W.findIn K (.ref C) "_bottom" = some none) (ha_C : PySem.W.findIn K (.ref C) "__class__" = some (some (.builtin "object.__class__"))) (hn_C : PySem.W.specialIn K (.builtin "object.__class__") "__get__" = some (some (.builtin "getset_descriptor.__get__"))) (htk_C : PySem.W.takesIn K (.builtin "object.__class__") = some true) (hm_C : PySem.W.mroIn K C (.type "object") = some true) (sf_C : PySem.W.selfFirst K C = true) (nf_C : PySem.W.notFirst K C (.ref C) = true) (gcd : PySem.W.nsIn K mainGlobals "gcd" = some (some (.builtin "math.gcd"))) (g_fWhole : PySem.W.nsIn K mainGlobals "is_whole" = some (some (.ref fWhole))) (l_Whole : K.lookup fWhole = some ⟨ocWhole, odWhole, .func (PySem.W.fnOf "is_whole" "is_whole" (defArgs sWhole) (defBody sWhole) (defScope sWhole) .none kVWhole dcWhole pmWhole anWhole cdWhole ctWhole), slWhole⟩) (c_Whole : PySem.W.codeIn K cdWhole "is_whole" = true) (k_Whole : PySem.W.keepIn K (.ref fWhole) = true) (a_Num : PySem.W.findIn K (.ref C) "__init__" = some (some (.ref fNum))) (i_Num : PySem.W.isFn K (.ref fNum) = true) (l_Num : K.lookup fNum = some ⟨ocNum, odNum, .func (PySem.W.fnOf "__init__" "Number.__init__" (defArgs sNum) (defBody sNum) (defScope sNum) (.ref TNum) kVNum dcNum pmNum anNum cdNum ctNum), slNum⟩) (c_Num : PySem.W.codeIn K cdNum "Number.__init__" = true) (k_Num : PySem.W.keepIn K (.ref fNum) = true) (lT : K.lookup TNum = some oTNum) (dT : oTNum.data = .seq #[.int 1 tkT] nT) (a_NTop : PySem.W.findIn K (.ref C) "top" = some (some (.ref pNTop))) (g_NTop : PySem.W.specialIn K (.ref pNTop) "__get__" = some (some (.builtin "property.__get__"))) (t_NTop : PySem.W.takesIn K (.ref pNTop) = some true) (r_NTop : PySem.W.recIn K pNTop "property" = some (.ref fNTop :: rNTop)) (l_NTop : K.lookup fNTop = some ⟨ocNTop, odNTop, .func (PySem.W.fnOf "top" "Number.top" (defArgs sNTop) (defBody sNTop) (defScope sNTop) .none kVNTop dcNTop pmNTop anNTop cdNTop ctNTop), slNTop⟩) (c_NTop : PySem.W.codeIn K cdNTop "Number.top" = true) (k_NTop : PySem.W.keepIn K (.ref fNTop) = true) (a_NBot : PySem.W.findIn K (.ref C) "bottom" = some (some (.ref pNBot))) (g_NBot : PySem.W.specialIn K (.ref pNBot) "__get__" = some (some (.builtin "property.__get__"))) (t_NBot : PySem.W.takesIn K (.ref pNBot) = some true) (r_NBot : PySem.W.recIn K pNBot "property" = some (.ref fNBot :: rNBot)) (l_NBot : K.lookup fNBot = some ⟨ocNBot, odNBot, .func (PySem.W.fnOf "bottom" "Number.bottom" (defArgs sNBot) (defBody sNBot) (defScope sNBot) .none kVNBot dcNBot pmNBot anNBot cdNBot ctNBot), slNBot⟩) (c_NBot : PySem.W.codeIn K cdNBot "Number.bottom" = true) (k_NBot : PySem.W.keepIn K (.ref fNBot) = true) (a_NEq : PySem.W.findIn K (.ref C) "__eq__" = some (some (.ref fNEq))) (i_NEq : PySem.W.isFn K (.ref fNEq) = true) (l_NEq : K.lookup fNEq = some ⟨ocNEq, odNEq, .func (PySem.W.fnOf "__eq__" "Number.__eq__" (defArgs sNEq) (defBody sNEq) (defScope sNEq) .none kVNEq dcNEq pmNEq anNEq cdNEq ctNEq), slNEq⟩) (c_NEq : PySem.W.codeIn K cdNEq "Number.__eq__" = true) (k_NEq : PySem.W.keepIn K (.ref fNEq) = true) (a_NAdd : PySem.W.findIn K (.ref C) "__add__" = some (some (.ref fNAdd))) (i_NAdd : PySem.W.isFn K (.ref fNAdd) = true) (l_NAdd : K.lookup fNAdd = some ⟨ocNAdd, odNAdd, .func (PySem.W.fnOf "__add__" "Number.__add__" (defArgs sNAdd) (defBody sNAdd) (defScope sNAdd) .none kVNAdd dcNAdd pmNAdd anNAdd cdNAdd ctNAdd), slNAdd⟩) (c_NAdd : PySem.W.codeIn K cdNAdd "Number.__add__" = true) (k_NAdd : PySem.W.keepIn K (.ref fNAdd) = true) (a_NMul : PySem.W.findIn K (.ref C) "__mul__" = some (some (.ref fNMul))) (i_NMul : PySem.W.isFn K (.ref fNMul) = true) (l_NMul : K.lookup fNMul = some ⟨ocNMul, odNMul, .func (PySem.W.fnOf "__mul__" "Number.__mul__" (defArgs sNMul) (defBody sNMul) (defScope sNMul) .none kVNMul dcNMul pmNMul anNMul cdNMul ctNMul), slNMul⟩) (c_NMul : PySem.W.codeIn K cdNMul "Number.__mul__" = true) (k_NMul : PySem.W.keepIn K (.ref fNMul) = true) (a_NLess : PySem.W.findIn K (.ref C) "is_less" = some (some (.ref fNLess))) (i_NLess : PySem.W.isFn K (.ref fNLess) = true) (l_NLess : K.lookup fNLess = some ⟨ocNLess, odNLess, .func (PySem.W.fnOf "is_less" "Number.is_less" (defArgs sNLess) (defBody sNLess) (defScope sNLess) .none kVNLess dcNLess pmNLess anNLess cdNLess ctNLess), slNLess⟩) (c_NLess : PySem.W.codeIn K cdNLess "Number.is_less" = true) (k_NLess : PySem.W.keepIn K (.ref fNLess) = true) (ne_C : PySem.W.findIn K (.ref C) "__ne__" = some (some (.builtin "object.__ne__"))) (xL_C : K.lookup C = some (excClassObj nmC qC C NC bsC bmC hdC snC subC abC colC ddC m0C m1C m2C m3C m5C nidC)) (bm_C : bmC.contains (.type "object") = true) (g_L : PySem.W.nsIn K mainGlobals "Line" = some (some (.ref L))) (pg_L : PySem.W.plainGet K L Str.empty = true) (hd_L : PySem.W.hasDictIn K L = true) (po_L : PySem.W.plainOver K L = true) (sa_L : PySem.W.findIn K (.ref L) "__setattr__" = some (some (.builtin "object.__setattr__"))) (mk_L : PySem.W.makesIn K L = true) (kc_L : PySem.W.keepIn K (.ref L) = true) (n_base_L : PySem.W.findIn K (.ref L) "_base" = some none) (n_slope_L : PySem.W.findIn K (.ref L) "_slope" = some none) (g_D : PySem.W.nsIn K mainGlobals "Stretch" = some (some (.ref D))) (pg_D : PySem.W.plainGet K D Str.empty = true) (hd_D : PySem.W.hasDictIn K D = true) (po_D : PySem.W.plainOver K D = true) (sa_D : PySem.W.findIn K (.ref D) "__setattr__" = some (some (.builtin "object.__setattr__"))) (mk_D : PySem.W.makesIn K D = true) (kc_D : PySem.W.keepIn K (.ref D) = true) (n_low_D : PySem.W.findIn K (.ref D) "_low" = some none) (n_high_D : PySem.W.findIn K (.ref D) "_high" = some none) (n_has_low_D : PySem.W.findIn K (.ref D) "_has_low" = some none) (n_has_high_D : PySem.W.findIn K (.ref D) "_has_high" = some none) (n_middle_D : PySem.W.findIn K (.ref D) "_middle" = some none) (ha_L : PySem.W.findIn K (.ref L) "__class__" = some (some (.builtin "object.__class__"))) (hm_L : PySem.W.mroIn K L (.type "object") = some true) (sf_L : PySem.W.selfFirst K L = true) (nf_L : PySem.W.notFirst K L (.ref L) = true) (ha_D : PySem.W.findIn K (.ref D) "__class__" = some (some (.builtin "object.__class__"))) (hm_D : PySem.W.mroIn K D (.type "object") = some true) (sf_D : PySem.W.selfFirst K D = true) (nf_D : PySem.W.notFirst K D (.ref D) = true) (ne_D : PySem.W.findIn K (.ref D) "__ne__" = some (some (.builtin "object.__ne__"))) (xL_D : K.lookup D = some (excClassObj nmD qD D ND bsD bmD hdD snD subD abD colD ddD m0D m1D m2D m3D m5D nidD)) (bm_D : bmD.contains (.type "object") = true) (a_Line : PySem.W.findIn K (.ref L) "__init__" = some (some (.ref fLine))) (i_Line : PySem.W.isFn K (.ref fLine) = true) (l_Line : K.lookup fLine = some ⟨ocLine, odLine, .func (PySem.W.fnOf "__init__" "Line.__init__" (defArgs sLine) (defBody sLine) (defScope sLine) .none kVLine dcLine pmLine anLine cdLine ctLine), slLine⟩) (c_Line : PySem.W.codeIn K cdLine "Line.__init__" = true) (k_Line : PySem.W.keepIn K (.ref fLine) = true) (a_LEq : PySem.W.findIn K (.ref L) "__eq__" = some (some (.ref fLEq))) (i_LEq : PySem.W.isFn K (.ref fLEq) = true) (l_LEq : K.lookup fLEq = some ⟨ocLEq, odLEq, .func (PySem.W.fnOf "__eq__" "Line.__eq__" (defArgs sLEq) (defBody sLEq) (defScope sLEq) .none kVLEq dcLEq pmLEq anLEq cdLEq ctLEq), slLEq⟩) (c_LEq : PySem.W.codeIn K cdLEq "Line.__eq__" = true) (k_LEq : PySem.W.keepIn K (.ref fLEq) = true) (a_SInit : PySem.W.findIn K (.ref D) "__init__" = some (some (.ref fSInit))) (i_SInit : PySem.W.isFn K (.ref fSInit) = true) (l_SInit : K.lookup fSInit = some ⟨ocSInit, odSInit, .func (PySem.W.fnOf "__init__" "Stretch.__init__" (defArgs sSInit) (defBody sSInit) (defScope sSInit) .none (.ref WSInit) dcSInit pmSInit anSInit cdSInit ctSInit), slSInit⟩) (whas_low_SInit : PySem.W.nsIn K WSInit "has_low" = some (some (.bool true))) (whas_high_SInit : PySem.W.nsIn K WSInit "has_high" = some (some (.bool true))) (c_SInit : PySem.W.codeIn K cdSInit "Stretch.__init__" = true) (k_SInit : PySem.W.keepIn K (.ref fSInit) = true) (a_SEq : PySem.W.findIn K (.ref D) "__eq__" = some (some (.ref fSEq))) (i_SEq : PySem.W.isFn K (.ref fSEq) = true) (l_SEq : K.lookup fSEq = some ⟨ocSEq, odSEq, .func (PySem.W.fnOf "__eq__" "Stretch.__eq__" (defArgs sSEq) (defBody sSEq) (defScope sSEq) .none kVSEq dcSEq pmSEq anSEq cdSEq ctSEq), slSEq⟩) (c_SEq : PySem.W.codeIn K cdSEq "Stretch.__eq__" = true) (k_SEq : PySem.W.keepIn K (.ref fSEq) = true) (a_SCont : PySem.W.findIn K (.ref D) "__contains__" = some (some (.ref fSCont))) (i_SCont : PySem.W.isFn K (.ref fSCont) = true) (l_SCont : K.lookup fSCont = some ⟨ocSCont, odSCont, .func (PySem.W.fnOf "__contains__" "Stretch.__contains__" (defArgs sSCont) (defBody sSCont) (defScope sSCont) .none kVSCont dcSCont pmSCont anSCont cdSCont ctSCont), slSCont⟩) (c_SCont : PySem.W.codeIn K cdSCont "Stretch.__contains__" = true) (k_SCont : PySem.W.keepIn K (.ref fSCont) = true) (a_SMid : PySem.W.findIn K (.ref D) "middle" = some (some (.ref pSMid))) (g_SMid : PySem.W.specialIn K (.ref pSMid) "__get__" = some (some (.builtin "property.__get__"))) (t_SMid : PySem.W.takesIn K (.ref pSMid) = some true) (r_SMid : PySem.W.recIn K pSMid "property" = some (.ref fSMid :: rSMid)) (l_SMid : K.lookup fSMid = some ⟨ocSMid, odSMid, .func (PySem.W.fnOf "middle" "Stretch.middle" (defArgs sSMid) (defBody sSMid) (defScope sSMid) .none kVSMid dcSMid pmSMid anSMid cdSMid ctSMid), slSMid⟩) (c_SMid : PySem.W.codeIn K cdSMid "Stretch.middle" = true) (k_SMid : PySem.W.keepIn K (.ref fSMid) = true) (g_Cs : PySem.W.nsIn K mainGlobals "BadStretch" = some (some (.ref Cs))) (xL_Cs : K.lookup Cs = some (excClassObj nmCs qCs Cs NCs bsCs bmCs true snCs subCs abCs colCs ddCs m0Cs m1Cs m2Cs m3Cs m5Cs "ValueError.__new__")) (rv_Cs : PySem.HandSPX.refsVE bmCs = true) (sa_Cs : PySem.W.findIn K (.ref Cs) "__setattr__" = some (some (.builtin "object.__setattr__"))) (ex_Cs : PySem.W.subIn K (.ref Cs) (.type "BaseException") = some true) (ty_Cs : PySem.W.typeIn K (.ref Cs) = some (.type "type")) (kc_Cs : PySem.W.keepIn K (.ref Cs) = true) (ga_Cs : PySem.W.findIn K (.ref Cs) "__getattribute__" = some (some (.builtin "BaseException.__getattribute__"))) (gg_Cs : PySem.W.findIn K (.ref Cs) "__getattr__" = some none) (hd_Cs : PySem.W.hasDictIn K Cs = true) (ca_Cs : PySem.W.findIn K (.ref Cs) "__class__" = some (some (.builtin "object.__class__"))) (hm_Cs : PySem.W.mroIn K Cs (.type "object") = some true) (ic_Cs : PySem.W.isClsIn K Cs = true) (ss_Cs : PySem.W.subIn K (.ref Cs) (.ref Cs) = some true) (nvalue_Cs : PySem.W.findIn K (.ref Cs) "value" = some none) (a_ErrN : PySem.W.findIn K (.ref Cs) "__init__" = some (some (.ref fErrN))) (i_ErrN : PySem.W.isFn K (.ref fErrN) = true) (l_ErrN : K.lookup fErrN = some ⟨ocErrN, odErrN, .func (PySem.W.fnOf "__init__" "BadStretch.__init__" (defArgs sErrN) (defBody sErrN) (defScope sErrN) .none kVErrN dcErrN pmErrN anErrN cdErrN ctErrN), slErrN⟩) (c_ErrN : PySem.W.codeIn K cdErrN "BadStretch.__init__" = true) (k_ErrN : PySem.W.keepIn K (.ref fErrN) = true) (oc_n : PySem.W.specialIn K (.builtin "object.__class__") "__get__" = some (some (.builtin "getset_descriptor.__get__"))) (oc_t : PySem.W.takesIn K (.builtin "object.__class__") = some true) (ic_C : PySem.W.isClsIn K C = true) (ty_C : PySem.W.typeIn K (.ref C) = some (.type "type")) (ss_C : PySem.W.subIn K (.ref C) (.ref C) = some true) (tNoneType_C : PySem.W.subIn K (.type "NoneType") (.ref C) = some false) (tbool_C : PySem.W.subIn K (.type "bool") (.ref C) = some false) (tint_C : PySem.W.subIn K (.type "int") (.ref C) = some false) (tstr_C : PySem.W.subIn K (.type "str") (.ref C) = some false) (ttuple_C : PySem.W.subIn K (.type "tuple") (.ref C) = some false) (tlist_C : PySem.W.subIn K (.type "list") (.ref C) = some false) (tdict_C : PySem.W.subIn K (.type "dict") (.ref C) = some false) (ic_L : PySem.W.isClsIn K L = true) (ty_L : PySem.W.typeIn K (.ref L) = some (.type "type")) (ss_L : PySem.W.subIn K (.ref L) (.ref L) = some true) (tNoneType_L : PySem.W.subIn K (.type "NoneType") (.ref L) = some false) (tbool_L : PySem.W.subIn K (.type "bool") (.ref L) = some false) (tint_L : PySem.W.subIn K (.type "int") (.ref L) = some false) (tstr_L : PySem.W.subIn K (.type "str") (.ref L) = some false) (ttuple_L : PySem.W.subIn K (.type "tuple") (.ref L) = some false) (tlist_L : PySem.W.subIn K (.type "list") (.ref L) = some false) (tdict_L : PySem.W.subIn K (.type "dict") (.ref L) = some false) (ic_D : PySem.W.isClsIn K D = true) (ty_D : PySem.W.typeIn K (.ref D) = some (.type "type")) (ss_D : PySem.W.subIn K (.ref D) (.ref D) = some true) (tNoneType_D : PySem.W.subIn K (.type "NoneType") (.ref D) = some false) (tbool_D : PySem.W.subIn K (.type "bool") (.ref D) = some false) (tint_D : PySem.W.subIn K (.type "int") (.ref D) = some false) (tstr_D : PySem.W.subIn K (.type "str") (.ref D) = some false) (ttuple_D : PySem.W.subIn K (.type "tuple") (.ref D) = some false) (tlist_D : PySem.W.subIn K (.type "list") (.ref D) = some false) (tdict_D : PySem.W.subIn K (.type "dict") (.ref D) = some false) (s_C_L : PySem.W.subIn K (.ref C) (.ref L) = some false) (s_C_D : PySem.W.subIn K (.ref C) (.ref D) = some false) (s_L_C : PySem.W.subIn K (.ref L) (.ref C) = some false) (s_L_D : PySem.W.subIn K (.ref L) (.ref D) = some false) (s_D_C : PySem.W.subIn K (.ref D) (.ref C) = some false) (s_D_L : PySem.W.subIn K (.ref D) (.ref L) = some false) (g_fPot : PySem.W.nsIn K mainGlobals "_law_pot" = some (some (.ref fPot))) (l_Pot : K.lookup fPot = some ⟨ocPot, odPot, .func (PySem.W.fnOf "_law_pot" "_law_pot" (defArgs sPot) (defBody sPot) (defScope sPot) .none kVPot dcPot pmPot anPot cdPot ctPot), slPot⟩) (c_Pot : PySem.W.codeIn K cdPot "_law_pot" = true) (k_Pot : PySem.W.keepIn K (.ref fPot) = true) (g_fTake : PySem.W.nsIn K mainGlobals "_law_take" = some (some (.ref fTake))) (l_Take : K.lookup fTake = some ⟨ocTake, odTake, .func (PySem.W.fnOf "_law_take" "_law_take" (defArgs sTake) (defBody sTake) (defScope sTake) .none kVTake dcTake pmTake anTake cdTake ctTake), slTake⟩) (c_Take : PySem.W.codeIn K cdTake "_law_take" = true) (k_Take : PySem.W.keepIn K (.ref fTake) = true) (g_fOf : PySem.W.nsIn K mainGlobals "_law_of" = some (some (.ref fOf))) (l_Of : K.lookup fOf = some ⟨ocOf, odOf, .func (PySem.W.fnOf "_law_of" "_law_of" (defArgs sOf) (defBody sOf) (defScope sOf) .none kVOf dcOf pmOf anOf cdOf ctOf), slOf⟩) (c_Of : PySem.W.codeIn K cdOf "_law_of" = true) (k_Of : PySem.W.keepIn K (.ref fOf) = true) (g_fEnds : PySem.W.nsIn K mainGlobals "_law_ends" = some (some (.ref fEnds))) (l_Ends : K.lookup fEnds = some ⟨ocEnds, odEnds, .func (PySem.W.fnOf "_law_ends" "_law_ends" (defArgs sEnds) (defBody sEnds) (defScope sEnds) .none kVEnds dcEnds pmEnds anEnds cdEnds ctEnds), slEnds⟩) (c_Ends : PySem.W.codeIn K cdEnds "_law_ends" = true) (k_Ends : PySem.W.keepIn K (.ref fEnds) = true) (g_fMade : PySem.W.nsIn K mainGlobals "_law_made" = some (some (.ref fMade))) (l_Made : K.lookup fMade = some ⟨ocMade, odMade, .func (PySem.W.fnOf "_law_made" "_law_made" (defArgs sMade) (defBody sMade) (defScope sMade) .none kVMade dcMade pmMade anMade cdMade ctMade), slMade⟩) (c_Made : PySem.W.codeIn K cdMade "_law_made" = true) (k_Made : PySem.W.keepIn K (.ref fMade) = true) (g_fLies : PySem.W.nsIn K mainGlobals "_law_lies" = some (some (.ref fLies))) (l_Lies : K.lookup fLies = some ⟨ocLies, odLies, .func (PySem.W.fnOf "_law_lies" "_law_lies" (defArgs sLies) (defBody sLies) (defScope sLies) .none kVLies dcLies pmLies anLies cdLies ctLies), slLies⟩) (c_Lies : PySem.W.codeIn K cdLies "_law_lies" = true) (k_Lies : PySem.W.keepIn K (.ref fLies) = true) (g_fSpots : PySem.W.nsIn K mainGlobals "_law_spots" = some (some (.ref fSpots))) (l_Spots : K.lookup fSpots = some ⟨ocSpots, odSpots, .func (PySem.W.fnOf "_law_spots" "_law_spots" (defArgs sSpots) (defBody sSpots) (defScope sSpots) .none kVSpots dcSpots pmSpots anSpots cdSpots ctSpots), slSpots⟩) (c_Spots : PySem.W.codeIn K cdSpots "_law_spots" = true) (k_Spots : PySem.W.keepIn K (.ref fSpots) = true) (g_fRight : PySem.W.nsIn K mainGlobals "_law_is_right" = some (some (.ref fRight))) (l_Right : K.lookup fRight = some ⟨ocRight, odRight, .func (PySem.W.fnOf "_law_is_right" "_law_is_right" (defArgs sRight) (defBody sRight) (defScope sRight) .none kVRight dcRight pmRight anRight cdRight ctRight), slRight⟩) (c_Right : PySem.W.codeIn K cdRight "_law_is_right" = true) (k_Right : PySem.W.keepIn K (.ref fRight) = true) (g_fOddR : PySem.W.nsIn K mainGlobals "_law_odd_right" = some (some (.ref fOddR))) (l_OddR : K.lookup fOddR = some ⟨ocOddR, odOddR, .func (PySem.W.fnOf "_law_odd_right" "_law_odd_right" (defArgs sOddR) (defBody sOddR) (defScope sOddR) .none kVOddR dcOddR pmOddR anOddR cdOddR ctOddR), slOddR⟩) (c_OddR : PySem.W.codeIn K cdOddR "_law_odd_right" = true) (k_OddR : PySem.W.keepIn K (.ref fOddR) = true) (g_fLaw : PySem.W.nsIn K mainGlobals "law" = some (some (.ref fLaw))) (l_Law : K.lookup fLaw = some ⟨ocLaw, odLaw, .func (PySem.W.fnOf "law" "law" (defArgs sLaw) (defBody sLaw) (defScope sLaw) .none kVLaw dcLaw pmLaw anLaw cdLaw ctLaw), slLaw⟩) (c_Law : PySem.W.codeIn K cdLaw "law" = true) (k_Law : PySem.W.keepIn K (.ref fLaw) = true) (z_len : PySem.W.nsIn K mainGlobals "len" = some none) (z_abs : PySem.W.nsIn K mainGlobals "abs" = some none) (z_int : PySem.W.nsIn K mainGlobals "int" = some none) (z_bool : PySem.W.nsIn K mainGlobals "bool" = some none) (z_max : PySem.W.nsIn K mainGlobals "max" = some none) (z_min : PySem.W.nsIn K mainGlobals "min" = some none) (z_range : PySem.W.nsIn K mainGlobals "range" = some none) (z_all : PySem.W.nsIn K mainGlobals "all" = some none) (z_any : PySem.W.nsIn K mainGlobals "any" = some none) (z_isinstance : PySem.W.nsIn K mainGlobals "isinstance" = some none) (z_repr : PySem.W.nsIn K mainGlobals "repr" = some none) :
    ∀ base : Heap, K.In base → base.Ns mainGlobals mg → FnG l.prog w K mg base CX0 9 fa (spLaw K) := by
  have e := hfa.symm.trans (PySem.W.mg_of X G g_fLaw)
  cases e
  have mgo : ∀ {x : Str} {v : Value}, PySem.W.nsIn K mainGlobals x = some (some v) → mg x = some v := fun e => PySem.W.mg_of X G e
  have B : Bi mg := ⟨PySem.W.mg_none_of X G z_len, PySem.W.mg_none_of X G z_abs, PySem.W.mg_none_of X G z_int, PySem.W.mg_none_of X G z_bool, PySem.W.mg_none_of X G z_max, PySem.W.mg_none_of X G z_min, PySem.W.mg_none_of X G z_range, PySem.W.mg_none_of X G z_all, PySem.W.mg_none_of X G z_any, PySem.W.mg_none_of X G z_isinstance⟩
  have zrepr : mg "repr" = none := PySem.W.mg_none_of X G z_repr
  have clC : Cls K C := ⟨pg_C, hd_C, po_C, sa_C⟩
  have NC : NumC K C := ⟨clC, n_top_C, n_bottom_C, ha_C, hn_C, htk_C, hm_C, kit_self _, sf_C, nf_C⟩
  have TE : OexC K Cs := ⟨⟨_, _, _, _, _, _, _, _, _, _, _, _, _, _, _, xL_Cs, rv_Cs⟩, sa_Cs, ex_Cs, ty_Cs, kc_Cs⟩
  have NED : NeC K D := ⟨ne_D, _, _, _, _, _, _, _, _, _, _, _, _, _, _, _, _, _, xL_D, bm_D⟩
  have kNoneType_C : NotC K (.type "NoneType") C := ⟨kit_no ic_C ty_C tNoneType_C (fun z => nomatch z), notFirst_of tNoneType_C⟩
  have kbool_C : NotC K (.type "bool") C := ⟨kit_no ic_C ty_C tbool_C (fun z => nomatch z), notFirst_of tbool_C⟩
  have kint_C : NotC K (.type "int") C := ⟨kit_no ic_C ty_C tint_C (fun z => nomatch z), notFirst_of tint_C⟩
  have kstr_C : NotC K (.type "str") C := ⟨kit_no ic_C ty_C tstr_C (fun z => nomatch z), notFirst_of tstr_C⟩
  have ktuple_C : NotC K (.type "tuple") C := ⟨kit_no ic_C ty_C ttuple_C (fun z => nomatch z), notFirst_of ttuple_C⟩
  have klist_C : NotC K (.type "list") C := ⟨kit_no ic_C ty_C tlist_C (fun z => nomatch z), notFirst_of tlist_C⟩
  have kdict_C : NotC K (.type "dict") C := ⟨kit_no ic_C ty_C tdict_C (fun z => nomatch z), notFirst_of tdict_C⟩
  have kNoneType_L : NotC K (.type "NoneType") L := ⟨kit_no ic_L ty_L tNoneType_L (fun z => nomatch z), notFirst_of tNoneType_L⟩
  have kbool_L : NotC K (.type "bool") L := ⟨kit_no ic_L ty_L tbool_L (fun z => nomatch z), notFirst_of tbool_L⟩
  have kint_L : NotC K (.type "int") L := ⟨kit_no ic_L ty_L tint_L (fun z => nomatch z), notFirst_of tint_L⟩
  have kstr_L : NotC K (.type "str") L := ⟨kit_no ic_L ty_L tstr_L (fun z => nomatch z), notFirst_of tstr_L⟩
  have ktuple_L : NotC K (.type "tuple") L := ⟨kit_no ic_L ty_L ttuple_L (fun z => nomatch z), notFirst_of ttuple_L⟩
  have klist_L : NotC K (.type "list") L := ⟨kit_no ic_L ty_L tlist_L (fun z => nomatch z), notFirst_of tlist_L⟩
  have kdict_L : NotC K (.type "dict") L := ⟨kit_no ic_L ty_L tdict_L (fun z => nomatch z), notFirst_of tdict_L⟩
  have kNoneType_D : NotC K (.type "NoneType") D := ⟨kit_no ic_D ty_D tNoneType_D (fun z => nomatch z), notFirst_of tNoneType_D⟩
  have kbool_D : NotC K (.type "bool") D := ⟨kit_no ic_D ty_D tbool_D (fun z => nomatch z), notFirst_of tbool_D⟩
  have kint_D : NotC K (.type "int") D := ⟨kit_no ic_D ty_D tint_D (fun z => nomatch z), notFirst_of tint_D⟩
  have kstr_D : NotC K (.type "str") D := ⟨kit_no ic_D ty_D tstr_D (fun z => nomatch z), notFirst_of tstr_D⟩
  have ktuple_D : NotC K (.type "tuple") D := ⟨kit_no ic_D ty_D ttuple_D (fun z => nomatch z), notFirst_of ttuple_D⟩
  have klist_D : NotC K (.type "list") D := ⟨kit_no ic_D ty_D tlist_D (fun z => nomatch z), notFirst_of tlist_D⟩
  have kdict_D : NotC K (.type "dict") D := ⟨kit_no ic_D ty_D tdict_D (fun z => nomatch z), notFirst_of tdict_D⟩
  have k_C_L : NotC K (.ref C) L := ⟨kit_no ic_L ty_L s_C_L (fun z => by injection z with z; subst z; rw [ss_C] at s_C_L; cases s_C_L), notFirst_of s_C_L⟩
  have k_C_D : NotC K (.ref C) D := ⟨kit_no ic_D ty_D s_C_D (fun z => by injection z with z; subst z; rw [ss_C] at s_C_D; cases s_C_D), notFirst_of s_C_D⟩
  have k_L_C : NotC K (.ref L) C := ⟨kit_no ic_C ty_C s_L_C (fun z => by injection z with z; subst z; rw [ss_L] at s_L_C; cases s_L_C), notFirst_of s_L_C⟩
  have k_L_D : NotC K (.ref L) D := ⟨kit_no ic_D ty_D s_L_D (fun z => by injection z with z; subst z; rw [ss_L] at s_L_D; cases s_L_D), notFirst_of s_L_D⟩
  have k_D_C : NotC K (.ref D) C := ⟨kit_no ic_C ty_C s_D_C (fun z => by injection z with z; subst z; rw [ss_D] at s_D_C; cases s_D_C), notFirst_of s_D_C⟩
  have k_D_L : NotC K (.ref D) L := ⟨kit_no ic_L ty_L s_D_L (fun z => by injection z with z; subst z; rw [ss_D] at s_D_L; cases s_D_L), notFirst_of s_D_L⟩
  have AP : Apart K C L D := ⟨fun T hT => by
    simp only [List.mem_cons, List.not_mem_nil, or_false] at hT
    rcases hT with rfl | rfl | rfl | rfl | rfl | rfl | rfl
    · exact ⟨kNoneType_C, kNoneType_L, kNoneType_D⟩
    · exact ⟨kbool_C, kbool_L, kbool_D⟩
    · exact ⟨kint_C, kint_L, kint_D⟩
    · exact ⟨kstr_C, kstr_L, kstr_D⟩
    · exact ⟨ktuple_C, ktuple_L, ktuple_D⟩
    · exact ⟨klist_C, klist_L, klist_D⟩
    · exact ⟨kdict_C, kdict_L, kdict_D⟩, k_C_L, k_C_D, k_L_C, k_L_D, k_D_C, k_D_L, nf_C, nf_L, nf_D⟩
  have clL : Cls K L := ⟨pg_L, hd_L, po_L, sa_L⟩
  have clD : Cls K D := ⟨pg_D, hd_D, po_D, sa_D⟩
  have LC : LineC K L := ⟨clL, n_base_L, n_slope_L⟩
  have LT : LineT K L := ⟨ha_L, oc_n, oc_t, hm_L, sf_L, nf_L⟩
  have SC : StrC K D := ⟨clD, n_low_D, n_high_D, n_has_low_D, n_has_high_D, n_middle_D⟩
  have ST : StrT K D := ⟨ha_D, oc_n, oc_t, hm_D⟩
  have FWhole := L2.fun_mk (st := sWhole) l_Whole c_Whole k_Whole
  have FNTop := L2.fun_mk (st := sNTop) l_NTop c_NTop k_NTop
  have FNBot := L2.fun_mk (st := sNBot) l_NBot c_NBot k_NBot
  have FErrN := L2.fun_mk (st := sErrN) l_ErrN c_ErrN k_ErrN
  have FLine := L2.fun_mk (st := sLine) l_Line c_Line k_Line
  have FLEq := L2.fun_mk (st := sLEq) l_LEq c_LEq k_LEq
  have FSEq := L2.fun_mk (st := sSEq) l_SEq c_SEq k_SEq
  have FSCont := L2.fun_mk (st := sSCont) l_SCont c_SCont k_SCont
  have FSMid := L2.fun_mk (st := sSMid) l_SMid c_SMid k_SMid
  have FNEq := L2.fun_mk (st := sNEq) l_NEq c_NEq k_NEq
  have FNAdd := L2.fun_mk (st := sNAdd) l_NAdd c_NAdd k_NAdd
  have FNMul := L2.fun_mk (st := sNMul) l_NMul c_NMul k_NMul
  have FNLess := L2.fun_mk (st := sNLess) l_NLess c_NLess k_NLess
  have FPot := L2.fun_mk (st := sPot) l_Pot c_Pot k_Pot
  have FTake := L2.fun_mk (st := sTake) l_Take c_Take k_Take
  have FOf := L2.fun_mk (st := sOf) l_Of c_Of k_Of
  have FEnds := L2.fun_mk (st := sEnds) l_Ends c_Ends k_Ends
  have FMade := L2.fun_mk (st := sMade) l_Made c_Made k_Made
  have FLies := L2.fun_mk (st := sLies) l_Lies c_Lies k_Lies
  have FSpots := L2.fun_mk (st := sSpots) l_Spots c_Spots k_Spots
  have FRight := L2.fun_mk (st := sRight) l_Right c_Right k_Right
  have FOddR := L2.fun_mk (st := sOddR) l_OddR c_OddR k_OddR
  have FLaw := L2.fun_mk (st := sLaw) l_Law c_Law k_Law
  have bWhole := FWhole.binds (ps := PWhole) fun _ _ _ _ _ _ us hl => match us, hl with | [_], _ => rfl
  have bNTop := FNTop.binds (ps := PNTop) fun _ _ _ _ _ _ us hl => match us, hl with | [_], _ => rfl
  have bNBot := FNBot.binds (ps := PNBot) fun _ _ _ _ _ _ us hl => match us, hl with | [_], _ => rfl
  have bErrN := FErrN.binds (ps := PErrN) fun _ _ _ _ _ _ us hl => match us, hl with | [_, _], _ => rfl
  have bLine := FLine.binds (ps := PLine) fun _ _ _ _ _ _ us hl => match us, hl with | [_, _, _], _ => rfl
  have bLEq := FLEq.binds (ps := PLEq) fun _ _ _ _ _ _ us hl => match us, hl with | [_, _], _ => rfl
  have bSEq := FSEq.binds (ps := PSEq) fun _ _ _ _ _ _ us hl => match us, hl with | [_, _], _ => rfl
  have bSCont := FSCont.binds (ps := PSCont) fun _ _ _ _ _ _ us hl => match us, hl with | [_, _], _ => rfl
  have bSMid := FSMid.binds (ps := PSMid) fun _ _ _ _ _ _ us hl => match us, hl with | [_], _ => rfl
  have bNEq := FNEq.binds (ps := PNEq) fun _ _ _ _ _ _ us hl => match us, hl with | [_, _], _ => rfl
  have bNAdd := FNAdd.binds (ps := PNAdd) fun _ _ _ _ _ _ us hl => match us, hl with | [_, _], _ => rfl
  have bNMul := FNMul.binds (ps := PNMul) fun _ _ _ _ _ _ us hl => match us, hl with | [_, _], _ => rfl
  have bNLess := FNLess.binds (ps := PNLess) fun _ _ _ _ _ _ us hl => match us, hl with | [_, _], _ => rfl
  have bPot := FPot.binds (ps := PPot) fun _ _ _ _ _ _ us hl => match us, hl with | [_, _], _ => rfl
  have bTake := FTake.binds (ps := PTake) fun _ _ _ _ _ _ us hl => match us, hl with | [_, _], _ => rfl
  have bOf := FOf.binds (ps := POf) fun _ _ _ _ _ _ us hl => match us, hl with | [_, _], _ => rfl
  have bEnds := FEnds.binds (ps := PEnds) fun _ _ _ _ _ _ us hl => match us, hl with | [_], _ => rfl
  have bMade := FMade.binds (ps := PMade) fun _ _ _ _ _ _ us hl => match us, hl with | [_], _ => rfl
  have bLies := FLies.binds (ps := PLies) fun _ _ _ _ _ _ us hl => match us, hl with | [_, _], _ => rfl
  have bSpots := FSpots.binds (ps := PSpots) fun _ _ _ _ _ _ us hl => match us, hl with | [_, _], _ => rfl
  have bRight := FRight.binds (ps := PRight) fun _ _ _ _ _ _ us hl => match us, hl with | [_], _ => rfl
  have bOddR := FOddR.binds (ps := POddR) fun _ _ _ _ _ _ us hl => match us, hl with | [], _ => rfl
  have bLaw := FLaw.binds (ps := PLaw) fun _ _ _ _ _ _ us hl => match us, hl with | [_], _ => rfl
  have FNum : FunD K "__init__" "Number.__init__" (defArgs sNum) (defBody sNum) (defScope sNum) [.int 1] [] fNum _ := ⟨⟨_, _, _, _, _, _, _, _, _, _, rfl, l_Num, c_Num, .inr ⟨(fun z => by cases z), TNum, oTNum, [.int 1 tkT], nT, rfl, lT, dT, .cons ⟨_, rfl⟩ .nil⟩, .inl rfl⟩, k_Num⟩
  obtain ⟨dsN, vN, bN⟩ := FNum.binds1 (ps := PNum) 3 1 (fun z => by cases z) rfl fun T kV doc pm an cdv ct us its h1 h2 => match us, its, h1, h2 with | [_, _, _], [_], _, _ => ⟨_, rfl, rfl⟩
  obtain ⟨dsM, vM, bM⟩ := FNum.binds1 (ps := PNum) 2 0 (fun z => by cases z) rfl fun T kV doc pm an cdv ct us its h1 h2 => match us, its, h1, h2 with | [_, _], [_], _, _ => ⟨_, rfl, rfl⟩
  have FS : FunD K "__init__" "Stretch.__init__" (defArgs sSInit) (defBody sSInit) (defScope sSInit) [] [("has_low", .bl true), ("has_high", .bl true)] fSInit _ := ⟨⟨_, _, _, _, _, _, _, _, _, _, rfl, l_SInit, c_SInit, .inl ⟨rfl, rfl⟩, .inr ⟨WSInit, rfl, fun q hq => by
    simp only [List.mem_cons, List.not_mem_nil, or_false] at hq
    rcases hq with rfl | rfl
    · exact ⟨_, whas_low_SInit, rfl⟩
    · exact ⟨_, whas_high_SInit, rfl⟩⟩⟩, k_SInit⟩
  obtain ⟨dsS, vS, bS⟩ := FS.binds0 (ps := PSInit) 3 (fun z => by cases z) rfl fun D' doc pm an cdv ct us ks h1 h2 => match us, ks, h1, h2 with | [_, _, _], [_, _], _, _ => ⟨_, _, _, _, _, _, rfl, rfl, _, _, _, _, _, _, rfl, rfl, rfl⟩
  obtain ⟨mvS, bKS⟩ := FS.kbinds0 (ps := PSInit) 3 ["has_low", "has_high"] [] (fun us mv ws => us ++ ws) (fun z => by cases z) (fun q hq => by cases hq) (fun r1 _ r2 => r1.append r2) fun D' doc pm an cdv ct us mv ws h1 h2 h3 => match us, mv, ws, h1, h2, h3 with | [_, _, _], [], [_, _], _, _, _ => rfl
  intro base _ _
  have cW : CalF l.prog w K mg base 1 "is_whole" spWhole := ⟨_, ok_whole FWhole bWhole B, mgo g_fWhole, k_Whole⟩
  have mN : MakF l.prog w K mg base 2 "Number" C (spNum C) := ⟨_, ⟨mk_C, a_Num, i_Num, kc_C⟩, ok_num (dvs' := []) FNum bN vN (fun vs H Q E h => by rw [List.append_nil]; exact h) B NC (mgo gcd) cW, mgo g_C⟩
  have pT : PrpF l.prog w K mg base 1 C "top" (spTop C) := ⟨_, _, clC, ⟨a_NTop, g_NTop, t_NTop, _, r_NTop⟩, ok_top FNTop bNTop NC⟩
  have pB : PrpF l.prog w K mg base 1 C "bottom" (spBot C) := ⟨_, _, clC, ⟨a_NBot, g_NBot, t_NBot, _, r_NBot⟩, ok_bot FNBot bNBot NC⟩
  have oE : OpnF l.prog w K mg base 1 C "__eq__" (spNEq C) := ⟨_, a_NEq, i_NEq, ok_neq FNEq bNEq B NC (mgo g_C)⟩
  have oA : OpnF l.prog w K mg base 4 C (PySem.dunder Operator.Add.info.2) (spAdd C) := ⟨_, a_NAdd, i_NAdd, ok_nadd FNAdd bNAdd NC mN⟩
  have oM : OpnF l.prog w K mg base 4 C (PySem.dunder Operator.Mult.info.2) (spMul C) := ⟨_, a_NMul, i_NMul, ok_nmul FNMul bNMul NC mN⟩
  have cP : CalF l.prog w K mg base 1 "_law_pot" (spPot K) := ⟨_, ok_pot FPot bPot B, mgo g_fPot, k_Pot⟩
  have cT : CalF l.prog w K mg base 1 "_law_take" spTake := ⟨_, ok_take FTake bTake B, mgo g_fTake, k_Take⟩
  have cO : CalF l.prog w K mg base 2 "_law_of" spOf := ⟨_, ok_of FOf bOf B cT, mgo g_fOf, k_Of⟩
  have mN1 : MakF l.prog w K mg base 2 "Number" C (spNum1 C) := ⟨_, ⟨mk_C, a_Num, i_Num, kc_C⟩, ok_num (dvs' := [.int 1]) FNum bM vM (fun vs H Q E ⟨x, dx, t, e, h1, h2⟩ => ⟨x, dx, t, 1, by rw [e]; rfl, by decide, (show Sz 1 1 from by unfold Sz; decide).mono (by decide), h1, h2⟩) B NC (mgo gcd) cW, mgo g_C⟩
  have oG : OpnF l.prog w K mg base 1 C "__eq__" (spNEqG K C) := ⟨_, a_NEq, i_NEq, ok_neqg FNEq bNEq B NC (mgo g_C)⟩
  have tL : MetF l.prog w K mg base 1 C "is_less" (spLess C) := ⟨_, clC, ⟨a_NLess, i_NLess, k_NLess⟩, ok_nless FNLess bNLess NC⟩
  have mL : MakF l.prog w K mg base 1 "Line" L (spLine L) := ⟨_, ⟨mk_L, a_Line, i_Line, kc_L⟩, ((ok_lineF (base := base) (P := l.prog) (w := w) (mg := mg) FLine LC).raw bLine .nil).imp fun vs H Q E h => by rw [List.append_nil]; exact h, mgo g_L⟩
  have oL : OpnF l.prog w K mg base 2 L "__eq__" (spLEq K C L) := ⟨_, a_LEq, i_LEq, ok_leq FLEq bLEq B NC LC LT (mgo g_L) oE⟩
  have GB := ok_errn (base := base) (P := l.prog) (w := w) (mg := mg) FErrN TE nvalue_Cs
  have GS := ok_str (base := base) (P := l.prog) (w := w) (mg := mg) FS B NC SC (mgo g_C) (mgo g_Cs) mN oA oM oE tL TE a_ErrN (beq_iff_eq.mp i_ErrN) GB bErrN
  have MS : Mk K D fSInit := ⟨mk_D, a_SInit, i_SInit, kc_D⟩
  have mS : MakE l.prog w K mg base (L2.CX l.prog w) 5 "Stretch" D (spStrD K C D Cs) := ⟨_, MS, GS.raw bS vS, mgo g_D⟩
  have sE : OpnF l.prog w K mg base 2 D "__eq__" (spSEqG K C D) := ⟨_, a_SEq, i_SEq, ok_seq FSEq bSEq B NC SC ST (mgo g_D) oE⟩
  have sI : OpnF l.prog w K mg base 2 D "__contains__" (spCont C D) := ⟨_, a_SCont, i_SCont, ok_scont FSCont bSCont NC SC oE tL⟩
  have p5 : PrpF l.prog w K mg base 1 D "middle" (spFld D fun _ _ _ _ x => x) := ⟨_, _, clD, ⟨a_SMid, g_SMid, t_SMid, _, r_SMid⟩, ok_smid FSMid bSMid SC⟩
  have cE : CalF l.prog w K mg base 5 "_law_ends" (spEnds C) := ⟨_, ok_ends FEnds bEnds B NC mN pT pB cT cO, mgo g_fEnds, k_Ends⟩
  have cM : CalF l.prog w K mg base 7 "_law_made" (spMade C D) := ⟨_, ok_made FMade bMade NC MS GS bKS (mgo g_D), mgo g_fMade, k_Made⟩
  have cLi : CalF l.prog w K mg base 3 "_law_lies" (spLies C) := ⟨_, ok_lies FLies bLies NC pT pB, mgo g_fLies, k_Lies⟩
  have cS : CalF l.prog w K mg base 4 "_law_spots" (spSpots C) := ⟨_, ok_spots FSpots bSpots B NC mN mN1 pT pB, mgo g_fSpots, k_Spots⟩
  have cOr : CalF l.prog w K mg base 7 "_law_odd_right" spOddR := ⟨_, ok_oddr FOddR bOddR B AP NC LC LT SC ST mN1 mL mS oG oL sE, mgo g_fOddR, k_OddR⟩
  have cR : CalG l.prog w K mg base CX0 8 "_law_is_right" spRight := ⟨_, ok_right FRight bRight B zrepr NC SC ST NED nf_D (mgo g_C) cT cE cM cLi cS oE sE sI p5, mgo g_fRight, k_Right⟩
  exact ok_law FLaw bLaw B cP cOr cR

end Ws

open PySem PySem.W PyProof.Rows
set_option maxHeartbeats 0
open_top hdK for PySem.Challenge.rw_whatspeed_k08_whole_what_lies_in_a_stret

theorem PySem.Challenge.cw_whatspeed_k08_whole_what_lies_in_a_stret_holds : PySem.Challenge.rw_whatspeed_k08_whole_what_lies_in_a_stret.Holds := by
  refine hdK ?_
  k_fill
  refine Ws.walk_G (l := PySem.Challenge.rw_whatspeed_k08_whole_what_lies_in_a_stret) (n := 63) (k := 9) (sp := fun w => Ws.spLaw _) rfl (by decide) rfl ⟨rfl, by decide, by decide⟩ (fun w h Y => PySem.W.kIn_of Y) ?F (fun _ _ a ns hl _ hS => ⟨a, ns, rfl, hS, hl, fun _ => rfl⟩)
  case F =>
    intro w mg fa h KX G hmg
    refine' Ws.all_mk KX G hmg ?g_C ?pg_C ?hd_C ?po_C ?sa_C ?mk_C ?kc_C ?n_top_C ?n_bottom_C ?ha_C ?hn_C ?htk_C ?hm_C ?sf_C ?nf_C ?gcd ?g_fWhole ?l_Whole ?c_Whole ?k_Whole ?a_Num ?i_Num ?l_Num ?c_Num ?k_Num ?lT ?dT ?a_NTop ?g_NTop ?t_NTop ?r_NTop ?l_NTop ?c_NTop ?k_NTop ?a_NBot ?g_NBot ?t_NBot ?r_NBot ?l_NBot ?c_NBot ?k_NBot ?a_NEq ?i_NEq ?l_NEq ?c_NEq ?k_NEq ?a_NAdd ?i_NAdd ?l_NAdd ?c_NAdd ?k_NAdd ?a_NMul ?i_NMul ?l_NMul ?c_NMul ?k_NMul ?a_NLess ?i_NLess ?l_NLess ?c_NLess ?k_NLess ?ne_C ?xL_C ?bm_C ?g_L ?pg_L ?hd_L ?po_L ?sa_L ?mk_L ?kc_L ?n_base_L ?n_slope_L ?g_D ?pg_D ?hd_D ?po_D ?sa_D ?mk_D ?kc_D ?n_low_D ?n_high_D ?n_has_low_D ?n_has_high_D ?n_middle_D ?ha_L ?hm_L ?sf_L ?nf_L ?ha_D ?hm_D ?sf_D ?nf_D ?ne_D ?xL_D ?bm_D ?a_Line ?i_Line ?l_Line ?c_Line ?k_Line ?a_LEq ?i_LEq ?l_LEq ?c_LEq ?k_LEq ?a_SInit ?i_SInit ?l_SInit ?whas_low_SInit ?whas_high_SInit ?c_SInit ?k_SInit ?a_SEq ?i_SEq ?l_SEq ?c_SEq ?k_SEq ?a_SCont ?i_SCont ?l_SCont ?c_SCont ?k_SCont ?a_SMid ?g_SMid ?t_SMid ?r_SMid ?l_SMid ?c_SMid ?k_SMid ?g_Cs ?xL_Cs ?rv_Cs ?sa_Cs ?ex_Cs ?ty_Cs ?kc_Cs ?ga_Cs ?gg_Cs ?hd_Cs ?ca_Cs ?hm_Cs ?ic_Cs ?ss_Cs ?nvalue_Cs ?a_ErrN ?i_ErrN ?l_ErrN ?c_ErrN ?k_ErrN ?oc_n ?oc_t ?ic_C ?ty_C ?ss_C ?tNoneType_C ?tbool_C ?tint_C ?tstr_C ?ttuple_C ?tlist_C ?tdict_C ?ic_L ?ty_L ?ss_L ?tNoneType_L ?tbool_L ?tint_L ?tstr_L ?ttuple_L ?tlist_L ?tdict_L ?ic_D ?ty_D ?ss_D ?tNoneType_D ?tbool_D ?tint_D ?tstr_D ?ttuple_D ?tlist_D ?tdict_D ?s_C_L ?s_C_D ?s_L_C ?s_L_D ?s_D_C ?s_D_L ?g_fPot ?l_Pot ?c_Pot ?k_Pot ?g_fTake ?l_Take ?c_Take ?k_Take ?g_fOf ?l_Of ?c_Of ?k_Of ?g_fEnds ?l_Ends ?c_Ends ?k_Ends ?g_fMade ?l_Made ?c_Made ?k_Made ?g_fLies ?l_Lies ?c_Lies ?k_Lies ?g_fSpots ?l_Spots ?c_Spots ?k_Spots ?g_fRight ?l_Right ?c_Right ?k_Right ?g_fOddR ?l_OddR ?c_OddR ?k_OddR ?g_fLaw ?l_Law ?c_Law ?k_Law ?z_len ?z_abs ?z_int ?z_bool ?z_max ?z_min ?z_range ?z_all ?z_any ?z_isinstance ?z_repr
    (case g_C => k_is)
    (case pg_C => k_is)
    (case hd_C => k_is)
    (case po_C => k_is)
    (case sa_C => k_is)
    (case mk_C => k_is)
    (case kc_C => k_is)
    (case n_top_C => k_is)
    (case n_bottom_C => k_is)
    (case ha_C => k_is)
    (case hn_C => k_is)
    (case htk_C => k_is)
    (case hm_C => k_is)
    (case sf_C => k_is)
    (case nf_C => k_is)
    (case gcd => k_is)
    (case g_fWhole => k_is)
    (case l_Whole => k_is)
    (case c_Whole => k_is)
    (case k_Whole => k_is)
    (case a_Num => k_is)
    (case i_Num => k_is)
    (case l_Num => k_is)
    (case c_Num => k_is)
    (case k_Num => k_is)
    (case lT => k_is)
    (case dT => rfl)
    (case a_NTop => k_is)
    (case g_NTop => k_is)
    (case t_NTop => k_is)
    (case r_NTop => k_is)
    (case l_NTop => k_is)
    (case c_NTop => k_is)
    (case k_NTop => k_is)
    (case a_NBot => k_is)
    (case g_NBot => k_is)
    (case t_NBot => k_is)
    (case r_NBot => k_is)
    (case l_NBot => k_is)
    (case c_NBot => k_is)
    (case k_NBot => k_is)
    (case a_NEq => k_is)
    (case i_NEq => k_is)
    (case l_NEq => k_is)
    (case c_NEq => k_is)
    (case k_NEq => k_is)
    (case a_NAdd => k_is)
    (case i_NAdd => k_is)
    (case l_NAdd => k_is)
    (case c_NAdd => k_is)
    (case k_NAdd => k_is)
    (case a_NMul => k_is)
    (case i_NMul => k_is)
    (case l_NMul => k_is)
    (case c_NMul => k_is)
    (case k_NMul => k_is)
    (case a_NLess => k_is)
    (case i_NLess => k_is)
    (case l_NLess => k_is)
    (case c_NLess => k_is)
    (case k_NLess => k_is)
    (case ne_C => k_is)
    (case xL_C => k_is)
    (case bm_C => rfl)
    (case g_L => k_is)
    (case pg_L => k_is)
    (case hd_L => k_is)
    (case po_L => k_is)
    (case sa_L => k_is)
    (case mk_L => k_is)
    (case kc_L => k_is)
    (case n_base_L => k_is)
    (case n_slope_L => k_is)
    (case g_D => k_is)
    (case pg_D => k_is)
    (case hd_D => k_is)
    (case po_D => k_is)
    (case sa_D => k_is)
    (case mk_D => k_is)
    (case kc_D => k_is)
    (case n_low_D => k_is)
    (case n_high_D => k_is)
    (case n_has_low_D => k_is)
    (case n_has_high_D => k_is)
    (case n_middle_D => k_is)
    (case ha_L => k_is)
    (case hm_L => k_is)
    (case sf_L => k_is)
    (case nf_L => k_is)
    (case ha_D => k_is)
    (case hm_D => k_is)
    (case sf_D => k_is)
    (case nf_D => k_is)
    (case ne_D => k_is)
    (case xL_D => k_is)
    (case bm_D => rfl)
    (case a_Line => k_is)
    (case i_Line => k_is)
    (case l_Line => k_is)
    (case c_Line => k_is)
    (case k_Line => k_is)
    (case a_LEq => k_is)
    (case i_LEq => k_is)
    (case l_LEq => k_is)
    (case c_LEq => k_is)
    (case k_LEq => k_is)
    (case a_SInit => k_is)
    (case i_SInit => k_is)
    (case l_SInit => k_is)
    (case whas_low_SInit => k_is)
    (case whas_high_SInit => k_is)
    (case c_SInit => k_is)
    (case k_SInit => k_is)
    (case a_SEq => k_is)
    (case i_SEq => k_is)
    (case l_SEq => k_is)
    (case c_SEq => k_is)
    (case k_SEq => k_is)
    (case a_SCont => k_is)
    (case i_SCont => k_is)
    (case l_SCont => k_is)
    (case c_SCont => k_is)
    (case k_SCont => k_is)
    (case a_SMid => k_is)
    (case g_SMid => k_is)
    (case t_SMid => k_is)
    (case r_SMid => k_is)
    (case l_SMid => k_is)
    (case c_SMid => k_is)
    (case k_SMid => k_is)
    (case g_Cs => k_is)
    (case xL_Cs => k_is)
    (case rv_Cs => rfl)
    (case sa_Cs => k_is)
    (case ex_Cs => k_is)
    (case ty_Cs => k_is)
    (case kc_Cs => k_is)
    (case ga_Cs => k_is)
    (case gg_Cs => k_is)
    (case hd_Cs => k_is)
    (case ca_Cs => k_is)
    (case hm_Cs => k_is)
    (case ic_Cs => k_is)
    (case ss_Cs => k_is)
    (case nvalue_Cs => k_is)
    (case a_ErrN => k_is)
    (case i_ErrN => k_is)
    (case l_ErrN => k_is)
    (case c_ErrN => k_is)
    (case k_ErrN => k_is)
    (case oc_n => k_is)
    (case oc_t => k_is)
    (case ic_C => k_is)
    (case ty_C => k_is)
    (case ss_C => k_is)
    (case tNoneType_C => k_is)
    (case tbool_C => k_is)
    (case tint_C => k_is)
    (case tstr_C => k_is)
    (case ttuple_C => k_is)
    (case tlist_C => k_is)
    (case tdict_C => k_is)
    (case ic_L => k_is)
    (case ty_L => k_is)
    (case ss_L => k_is)
    (case tNoneType_L => k_is)
    (case tbool_L => k_is)
    (case tint_L => k_is)
    (case tstr_L => k_is)
    (case ttuple_L => k_is)
    (case tlist_L => k_is)
    (case tdict_L => k_is)
    (case ic_D => k_is)
    (case ty_D => k_is)
    (case ss_D => k_is)
    (case tNoneType_D => k_is)
    (case tbool_D => k_is)
    (case tint_D => k_is)
    (case tstr_D => k_is)
    (case ttuple_D => k_is)
    (case tlist_D => k_is)
    (case tdict_D => k_is)
    (case s_C_L => k_is)
    (case s_C_D => k_is)
    (case s_L_C => k_is)
    (case s_L_D => k_is)
    (case s_D_C => k_is)
    (case s_D_L => k_is)
    (case g_fPot => k_is)
    (case l_Pot => k_is)
    (case c_Pot => k_is)
    (case k_Pot => k_is)
    (case g_fTake => k_is)
    (case l_Take => k_is)
    (case c_Take => k_is)
    (case k_Take => k_is)
    (case g_fOf => k_is)
    (case l_Of => k_is)
    (case c_Of => k_is)
    (case k_Of => k_is)
    (case g_fEnds => k_is)
    (case l_Ends => k_is)
    (case c_Ends => k_is)
    (case k_Ends => k_is)
    (case g_fMade => k_is)
    (case l_Made => k_is)
    (case c_Made => k_is)
    (case k_Made => k_is)
    (case g_fLies => k_is)
    (case l_Lies => k_is)
    (case c_Lies => k_is)
    (case k_Lies => k_is)
    (case g_fSpots => k_is)
    (case l_Spots => k_is)
    (case c_Spots => k_is)
    (case k_Spots => k_is)
    (case g_fRight => k_is)
    (case l_Right => k_is)
    (case c_Right => k_is)
    (case k_Right => k_is)
    (case g_fOddR => k_is)
    (case l_OddR => k_is)
    (case c_OddR => k_is)
    (case k_OddR => k_is)
    (case g_fLaw => k_is)
    (case l_Law => k_is)
    (case c_Law => k_is)
    (case k_Law => k_is)
    (case z_len => k_is)
    (case z_abs => k_is)
    (case z_int => k_is)
    (case z_bool => k_is)
    (case z_max => k_is)
    (case z_min => k_is)
    (case z_range => k_is)
    (case z_all => k_is)
    (case z_any => k_is)
    (case z_isinstance => k_is)
    (case z_repr => k_is)
#print axioms PySem.Challenge.cw_whatspeed_k08_whole_what_lies_in_a_stret_holds

