import PyProof.Rows.All
import Wide.All
import OpenK.AllK
import Wide.FinOn
import HandS.ForMost
import HandS.Star
import HandS.OwnEq
import HandS.Property
import HandS.Gcd
import HandS.Wide
import HandS.IsInst
import HandS.Defaults
import KE.KOpsOwn
import PyProof.InstNe
import HandS.Ends
import PyProof.Rows.ReprR
import HandS.List
import PyProof.ReprBulk
import PyProof.FitsInt
import PyProof.ReprRoads
import PyProof.Conv_bool
import PyProof.Rows.Range3
import PySem.Challenge.RW_whatspeed_k02_sums_and_compares
set_option Elab.async false
set_option linter.all false
set_option maxRecDepth 100000
set_option maxHeartbeats 4000000
namespace Ws
open PySem PySem.Spec PyProof.Rows L2
/-! ### promises of defs, methods, makers, operators: by show (0 : Int) < _; decide +kernelitional values -/
abbrev Fr1 := FnR
section
variable (P : Program) (w : World) (K : PySem.W.Frag) (mg : Str → Option Value) (base : Heap)
/-- a def of the module, called by its name -/
def CalF (k : Nat) (x : Str) (sp : Sp) : Prop := ∃ f : Addr, FnR P w K mg base CX0 k f sp ∧ mg x = some (.ref f) ∧ PySem.W.keepIn K (.ref f) = true
/-- a class that makes instances, called by its name -/
def MakF (k : Nat) (x : Str) (C : Addr) (sp : Sp) : Prop := ∃ f : Addr, Mk K C f ∧ FnR P w K mg base CX0 k f sp ∧ mg x = some (.ref C)
/-- a method -/
def MetF (k : Nat) (C : Addr) (m : Str) (sp : Sp) : Prop := ∃ f : Addr, Cls K C ∧ Meth K C m f ∧ FnR P w K mg base CX0 k f sp
/-- a special method that an operator calls -/
def OpnF (k : Nat) (C : Addr) (m : Str) (sp : Sp) : Prop := ∃ f : Addr, PySem.W.findIn K (.ref C) m = some (some (.ref f)) ∧ PySem.W.isFn K (.ref f) = true ∧ FnR P w K mg base CX0 k f sp
/-- a property -/
def PrpF (k : Nat) (C : Addr) (m : Str) (sp : Sp) : Prop := ∃ p g : Addr, Cls K C ∧ PropOf K C m p g ∧ FnR P w K mg base CX0 k g sp
/-- instances are called -/
def CloF (k : Nat) (C : Addr) (sp : Sp) : Prop := ∃ g : Addr, StX.CallO K C g ∧ FnR P w K mg base CX0 k g sp
end
section
variable {X : Cx} {k j : Nat} {C f : Addr} {sp : Sp} {x m : Str} {p pos apos : Pos} {e o : Expr} {es : List Expr} {ta : TE} {t : TA}
abbrev CalX (X : Cx) := CalF X.prog X.w X.K X.mg X.base
theorem run_R {pins : List (Addr × Obj)} {σ : L2.St} {H : Hp} {s : Shared} {Q : VK} {us : List Value} {vs : List V} {E : XK} {CX : CXT} (F : FnR X.prog X.w X.K X.mg X.base CX k f sp) (hr : Room k X.A) (hx : Passes CX X E)
    (I : Inv X pins σ H s) (r : Vals vs us) (h : sp vs H Q E) : wpAny (model X.prog X.w) X.A (call (.ref f) us) (EP X pins σ Q) X.xe s := by
  refine wpAny_call (codeAny_mono (run_fnR F hr hx I r h) fun r s' q => ?_)
  cases r with
  | error e => exact q
  | ok fl => cases fl with
    | ret u => exact q
    | next => exact q.elim
    | brk => exact q.elim
    | cont => exact q.elim
/-- f(e, ..) -/
def tF (sp : Sp) (t : TA) : TE := fun σ H Q => t σ H fun vs H1 => sp vs H1 Q E0
theorem pe_f (c : CalF X.prog X.w X.K X.mg X.base k x sp) (hr : Room j X.A) (hk : k ≤ j) (hg : Gl X x) (ha : PA X (e :: es) t) (hdb : (x == ("__debug__" : Str)) = false := by decide)
    (he : starEach (e :: es) X.env = (false, eval e X.env) :: starEach es X.env := by rfl) (hpl : (backTo pos (starEach es X.env)).any (·.1) = false := by rfl) : PE X (.Call (.Name x p) (e :: es) [] pos) (tF sp t) := by
  obtain ⟨f, F, hm, hkp⟩ := c
  refine ⟨fun pins s σ H Q I h => ?_⟩
  refine wpAny_Call_Name_kw (ld_glob I hg hm ?_ hdb)
  refine PySem.W.callWith_K (h₀ := X.base) I.ok.mod.kin hkp (thn (ha.run pos pins s σ H _ I h) fun us s1 ⟨vs, H1, I1, r, q⟩ => ⟨I1.kIn, ?_⟩) he hpl
  exact run_R F (hr.mono hk) pass0 I1 r q
/-- C(e, ..) -/
def tMk (C : Addr) (sp : Sp) (t : TA) : TE := fun σ H Q => t σ H fun vs H1 => ∀ x dx, H1 x = Option.none → H1 dx = Option.none → dx ≠ x → sp (V.ref x :: vs) (upd (upd H1 dx (.own x)) x (.ins C dx [])) (fun v H2 => v = .non ∧ Q (.ref x) H2) E0
theorem pe_mk (c : MakF X.prog X.w X.K X.mg X.base k x C sp) (hr : Room j X.A) (hk : k + 1 ≤ j) (hg : Gl X x) (ha : PA X (e :: es) t) (hdb : (x == ("__debug__" : Str)) = false := by decide)
    (he : starEach (e :: es) X.env = (false, eval e X.env) :: starEach es X.env := by rfl) (hpl : (backTo pos (starEach es X.env)).any (·.1) = false := by rfl) : PE X (.Call (.Name x p) (e :: es) [] pos) (tMk C sp t) := by
  obtain ⟨f, M, F, hm⟩ := c
  exact StX.pe_makeR M F (hr.mono hk) hg hm pass0 ha hdb he hpl
/-- o.m(e, ..) -/
def tMt (C : Addr) (m : Str) (sp : Sp) (ta : TE) (t : TA) : TE := fun σ H Q => ta σ H fun x H1 => ∃ a dx fs, x = .ref a ∧ H1 a = some (.ins C dx fs) ∧ fs.lookup m = none ∧ t σ H1 fun vs H2 => sp (x :: vs) H2 Q E0
theorem pe_mt {pl : Sem Bool} (c : MetF X.prog X.w X.K X.mg X.base k C m sp) (hr : Room j X.A) (hk : k ≤ j) (he : PE X o ta) (ha : PA X (e :: es) t)
    (hst : starEach (e :: es) X.env = (false, eval e X.env) :: starEach es X.env := by rfl) (hpl : (backTo pos (starEach es X.env)).any (·.1) = false := by rfl)
    (ht : eval (.Call (.Attribute o m apos) (e :: es) [] pos) X.env = (do
      let ov ← eval o X.env
      standAt apos.atName
      let (f, first) ← holding [ov] (getMethod ov m pl)
      callWith pos f first (backTo pos (starEach (e :: es) X.env)) (backToKw pos (keywordEach [] X.env))) := by rfl) :
    PE X (.Call (.Attribute o m apos) (e :: es) [] pos) (tMt C m sp ta t) := by
  obtain ⟨f, hc, hm, F⟩ := c
  refine ⟨fun pins s σ H Q I h => ?_⟩
  refine PySem.W.methodCall_KW (pl := pl) (thn (he.run pins s σ H _ I h) fun u s1 ⟨x, H1, I1, rx, a, dx, fs, ex, ea, l, q⟩ => ?_) ht
  subst ex
  obtain rfl : u = Value.ref a := rx
  refine getmeth_ok I1 ea hc hm l ?_
  refine PySem.W.callWith_K (first := [.ref a]) (h₀ := X.base) I.ok.mod.kin hm.kp (thn (ha.run pos pins s1 σ H1 _ I1 q) fun us s2 ⟨vs, H2, I2, r, q2⟩ => ⟨I2.kIn, ?_⟩) hst hpl
  exact run_R (us := .ref a :: us) (vs := .ref a :: vs) F (hr.mono hk) pass0 I2 (.cons rfl r) q2
/-- e.f, a property -/
def tPr (C : Addr) (sp : Sp) (ta : TE) : TE := fun σ H Q => ta σ H fun x H1 => ∃ a dx fs, x = .ref a ∧ H1 a = some (.ins C dx fs) ∧ sp [.ref a] H1 Q E0
theorem pe_pr (c : PrpF X.prog X.w X.K X.mg X.base k C m sp) (hr : Room j X.A) (hk : k + 1 ≤ j) (he : PE X e ta) (hab : attributeBase e m X.env (eval e X.env) = eval e X.env := by rfl) : PE X (.Attribute e m pos) (tPr C sp ta) := by
  obtain ⟨p, g, hc, hp, F⟩ := c
  refine ⟨fun pins s σ H Q I h => ?_⟩
  refine attr_of hab (thn (he.run pins s σ H _ I h) fun u s1 ⟨x, H1, I1, rx, a, dx, fs, ex, ea, q⟩ => ?_)
  subst ex
  obtain rfl : u = Value.ref a := rx
  obtain ⟨mA, O, _, _, _, _⟩ := ins_get I1.hok ea
  obtain ⟨od, J, _⟩ := O.look
  obtain ⟨rest, hrec⟩ := hp.rec_
  have hcs : (PySem.W.clsIn X.K C).isSome = true := by
    obtain ⟨cd, hcd, _⟩ := PySem.W.any_some hc.hd
    rw [hcd]
    rfl
  have I2 := I1.tok (s1.toks + 1)
  have hr1 : Room (k + 1) X.A := hr.mono hk
  refine PySem.W.get_bind I1.kIn J (PySem.W.plainGet_of (hc.get m)).1 (PySem.W.findObj_data hcs hp.at_ hp.get hp.tak) (PySem.W.plainGet_of (hc.get m)).2 (wpAny_call (PySem.W.prop_get (s := { s1 with toks := s1.toks + 1 }) I1.kIn hrec ?_))
  refine codeAny_mono (F X.A.in1 X.stack { s1 with toks := s1.toks + 1 } H1 [.ref a] [.ref a] Q E0 hr1.in1 I2.env0.in1 (.cons rfl .nil) q) fun r s' hq => ?_
  cases r with
  | error er => exact hq.elim
  | ok fl =>
    cases fl with
    | ret u =>
      obtain ⟨v, H', I3, rv, q3⟩ := I2.after hq
      show wpAny _ _ (handedOut u) _ _ _
      rw [PySem.W.handedOut_of (handed_of rv)]
      exact wpAny_pure ⟨v, H', I3, rv, q3⟩
    | next => exact False.elim hq
    | brk => exact False.elim hq
    | cont => exact False.elim hq
/-- an instance called -/
def tClo (C : Addr) (sp : Sp) (tf : TE) (t : TA) : TE := fun σ H Q => tf σ H fun y H1 => ∃ a, y = V.ref a ∧ t σ H1 fun vs H2 => (∃ dx fs, H2 a = some (.ins C dx fs)) ∧ sp (V.ref a :: vs) H2 Q E0
theorem pe_clo {tf : TE} {fe : Expr} (c : CloF X.prog X.w X.K X.mg X.base k C sp) (hr : Room j X.A) (hk : k ≤ j) (hf : PE X fe tf) (ha : PA X (e :: es) t)
    (ht : eval (.Call fe (e :: es) [] pos) X.env = (do callWith pos (← eval fe X.env) [] (backTo pos (starEach (e :: es) X.env)) (backToKw pos (keywordEach [] X.env))) := by rfl)
    (he : starEach (e :: es) X.env = (false, eval e X.env) :: starEach es X.env := by rfl) (hpl : (backTo pos (starEach es X.env)).any (·.1) = false := by rfl) : PE X (.Call fe (e :: es) [] pos) (tClo C sp tf t) := by
  obtain ⟨g, c, F⟩ := c
  refine ⟨fun pins s σ H Q I h => ?_⟩
  refine Call_ (thn (hf.run pins s σ H _ I h) fun u s1 ⟨y, H1, I1, ry, a, ey, q⟩ => ?_) ht
  subst ey
  obtain rfl : u = Value.ref a := ry
  refine StX.callO_with (thn (ha.run pos pins s1 σ H1 _ I1 q) fun us s2 ⟨vs, H2, I2, r, ⟨dx, fs, hi⟩, q2⟩ => ?_) he hpl
  have hi' : StX.InsC X H2 a C := .inr ⟨dx, fs, hi⟩
  obtain ⟨ox, od, J, hd⟩ := StX.insC_at I2 hi'
  exact ⟨⟨C, ox, od, J, hd⟩, StX.run_callO c F (hr.mono hk) pass0 I2 hi' r q2⟩
/-! ### operators -/
/-- the value handed back by an operator's method is never NotImplemented -/
theorem cmpBack {pins : List (Addr × Obj)} {σ : L2.St} {Q : VK} {v : Value} {s : Shared} (h : EP X pins σ Q v s) : PySem.W.CmpBack (EP X pins σ Q) v s := by
  obtain ⟨y, H, I, r, q⟩ := h
  have fin : EP X pins σ Q v s := ⟨y, H, I, r, q⟩
  cases y with
  | non => cases (show v = Value.none from r); exact fin
  | bl b => cases (show v = Value.bool b from r); exact fin
  | int i => obtain ⟨t, e⟩ := (show ∃ t, v = Value.int i t from r); subst e; exact fin
  | str i => obtain ⟨t, e⟩ := (show ∃ t, v = Value.str i t from r); subst e; exact fin
  | byt i => obtain ⟨t, e⟩ := (show ∃ t, v = Value.bytes i t from r); subst e; exact fin
  | flt i => obtain ⟨t, e⟩ := (show ∃ t, v = Value.float i t from r); subst e; exact fin
  | ref a => cases (show v = Value.ref a from r); exact fin
  | ty n => cases (show v = Value.type n from r); exact fin
theorem inst_of {pins : List (Addr × Obj)} {σ : L2.St} {H : Hp} {s : Shared} {a dx : Addr} {fs : List (Str × V)} (I : Inv X pins σ H s) (h : H a = some (.ins C dx fs)) : ∃ ox od, PySem.W.InstAt s.heap a ox C od := by
  obtain ⟨mA, O, _⟩ := ins_get I.hok h
  obtain ⟨od, J, _⟩ := O.look
  exact ⟨_, _, J⟩
/-- a op b, both of the class at C, by its own method -/
def rOwn (C : Addr) (sp : Sp) : R2 := fun x y H Q => ∃ a dx fs b dy gs, x = .ref a ∧ H a = some (.ins C dx fs) ∧ y = .ref b ∧ H b = some (.ins C dy gs) ∧ sp [.ref a, .ref b] H Q E0
theorem op_own {op : Operator} (c : OpnF X.prog X.w X.K X.mg X.base k C (PySem.dunder op.info.2) sp) (hs : PySem.W.selfFirst X.K C = true) (hr : Room j X.A) (hk : k ≤ j) : OpR X (binaryOp op) (rOwn C sp) := by
  obtain ⟨f, h1, h2, F⟩ := c
  intro pins s σ H x y v u Q I rx ry h
  obtain ⟨a, dx, fs, b, dy, gs, rfl, ea, rfl, eb, q⟩ := h
  cases (show v = Value.ref a from rx)
  cases (show u = Value.ref b from ry)
  obtain ⟨ox, od, J⟩ := inst_of I ea
  obtain ⟨oy, oe, J2⟩ := inst_of I eb
  obtain ⟨m, hF⟩ := I.fr
  refine PySem.W.binop_K hF I.ok.mod.kin J J2.type hs h1 h2 ?_
  exact wpAny_mono (run_R (us := [.ref a, .ref b]) (vs := [.ref a, .ref b]) F (hr.mono hk) pass0 I (.cons rfl (.cons rfl .nil)) q) (fun v s' hv => cmpBack hv) fun _ _ z => z
/-- what a value's type is to ==: its typeOf -/
inductive TyL (H : Hp) : V → Value → Prop where
  | non : TyL H .non (.type "NoneType")
  | bl (b : Bool) : TyL H (.bl b) (.type "bool")
  | int (i : Int) : TyL H (.int i) (.type "int")
  | str (x : Str) : TyL H (.str x) (.type "str")
  | lst {a : Addr} {xs : List V} (e : H a = some (.lst xs)) : TyL H (.ref a) (.type "list")
  | tup {a : Addr} {xs : List V} (e : H a = some (.tup xs)) : TyL H (.ref a) (.type "tuple")
  | dK {a : Addr} {xs : List (Key × V)} (e : H a = some (.dK xs)) : TyL H (.ref a) (.type "dict")
  | ins {a C dx : Addr} {fs : List (Str × V)} (e : H a = some (.ins C dx fs)) : TyL H (.ref a) (.ref C)
theorem looks_ref {M : Model} {h : Heap} {a : Addr} {o : Obj} {t : Value} (e : h.get? a = some o) (c : o.cls = t) : PySem.W.Looks M h (typeOf (.ref a)) t := by
  intro A Q E s k q
  subst c
  exact wpAny_typeOf_ref (k _ _ e) q
theorem TyL.looks {pins : List (Addr × Obj)} {σ : L2.St} {H : Hp} {s : Shared} {M : Model} {x : V} {u t : Value} (I : Inv X pins σ H s) (rx : RelV x u) (ty : TyL H x t) : PySem.W.Looks M s.heap (typeOf u) t := by
  cases ty with
  | non => cases (show u = Value.none from rx); exact .of_pure rfl
  | bl b => cases (show u = Value.bool b from rx); exact .of_pure rfl
  | int i => obtain ⟨t, q⟩ := (show ∃ t, u = Value.int i t from rx); subst q; exact .of_pure rfl
  | str i => obtain ⟨t, q⟩ := (show ∃ t, u = Value.str i t from rx); subst q; exact .of_pure rfl
  | @lst a xs e =>
    cases (show u = Value.ref a from rx)
    obtain ⟨_, its, n, _, h1⟩ := (show ObjOk X.prog X.w H s.heap a (.lst xs) from I.hok a _ e)
    exact looks_ref h1 rfl
  | @tup a xs e =>
    cases (show u = Value.ref a from rx)
    obtain ⟨_, its, _, ob, h1, c, _⟩ := (show ObjOk X.prog X.w H s.heap a (.tup xs) from I.hok a _ e)
    exact looks_ref h1 c
  | @dK a xs e =>
    cases (show u = Value.ref a from rx)
    obtain ⟨_, _, vs, _, o, es, ep, h1, h2, _⟩ := (show ObjOk X.prog X.w H s.heap a (.dK xs) from I.hok a _ e)
    exact looks_ref h1 h2.1
  | @ins a C dx fs e =>
    cases (show u = Value.ref a from rx)
    obtain ⟨ox, od, J⟩ := inst_of I e
    exact J.type
/-- a == b by a's own __eq__ -/
def rEqO (K : PySem.W.Frag) (C : Addr) (sp : Sp) : R2 := fun x y H Q => ∃ a dx fs t, x = .ref a ∧ H a = some (.ins C dx fs) ∧ TyL H y t ∧ PySem.W.notFirst K C t = true ∧ sp [.ref a, y] H Q E0
theorem op_eqO (c : OpnF X.prog X.w X.K X.mg X.base k C "__eq__" sp) (hr : Room j X.A) (hk : k ≤ j) : OpR X (compareOp .Eq) (rEqO X.K C sp) := by
  obtain ⟨f, h1, h2, F⟩ := c
  intro pins s σ H x y v u Q I rx ry h
  obtain ⟨a, dx, fs, t, rfl, ea, ty, nf, q⟩ := h
  cases (show v = Value.ref a from rx)
  obtain ⟨ox, od, J⟩ := inst_of I ea
  obtain ⟨m, hF⟩ := I.fr
  refine PySem.W.cmp_ofEq (PySem.W.cmp_K (op := .Eq) hr.units0 hF I.ok.mod.kin J (ty.looks I ry) nf h1 h2 ?_)
  exact wpAny_mono (run_R (us := [.ref a, u]) (vs := [.ref a, y]) F (hr.mono hk) pass0 I (.cons rfl (.cons ry .nil)) q) (fun v s' hv => cmpBack hv) fun _ _ z => z
/-- -a by its own __neg__ -/
def rUnO (C : Addr) (sp : Sp) : V → Hp → VK → Prop := fun x H Q => ∃ a dx fs, x = .ref a ∧ H a = some (.ins C dx fs) ∧ sp [.ref a] H Q E0
theorem un_negO (c : OpnF X.prog X.w X.K X.mg X.base k C "__neg__" sp) (hr : Room j X.A) (hk : k ≤ j) : UnR X (unaryOp .USub) (rUnO C sp) := by
  obtain ⟨f, h1, h2, F⟩ := c
  intro pins s σ H x v Q I rx h
  obtain ⟨a, dx, fs, rfl, ea, q⟩ := h
  cases (show v = Value.ref a from rx)
  obtain ⟨ox, od, J⟩ := inst_of I ea
  obtain ⟨m, hF⟩ := I.fr
  exact PySem.W.ksp_neg hF I.ok.mod.kin J h1 h2 (run_R (us := [.ref a]) (vs := [.ref a]) F (hr.mono hk) pass0 I (.cons rfl .nil) q)
/-- a's truth by its own __bool__ -/
def rTruO (C : Addr) (sp : Sp) : V → Hp → (Bool → Hp → Prop) → Prop := fun x H Q => ∃ a dx fs, x = .ref a ∧ H a = some (.ins C dx fs) ∧ sp [.ref a] H (fun v H' => ∃ b, v = .bl b ∧ Q b H') E0
theorem tru_own (c : OpnF X.prog X.w X.K X.mg X.base k C "__bool__" sp) (hr : Room j X.A) (hk : k ≤ j) : TruR X (rTruO C sp) := by
  obtain ⟨f, h1, h2, F⟩ := c
  intro pins s σ H x v Q I rx h
  obtain ⟨a, dx, fs, rfl, ea, q⟩ := h
  cases (show v = Value.ref a from rx)
  obtain ⟨ox, od, J⟩ := inst_of I ea
  obtain ⟨m, hF⟩ := I.fr
  refine PySem.W.truthy_K hF I.ok.mod.kin J h1 h2 (wpAny_mono (run_R (us := [.ref a]) (vs := [.ref a]) F (hr.mono hk) pass0 I (.cons rfl .nil) q) (fun r s' hv => ?_) fun _ _ z => z)
  obtain ⟨y, H', I', ry, b, rfl, qb⟩ := hv
  cases (show r = Value.bool b from ry)
  exact ⟨H', I', qb⟩
/-- a test by a value's truth -/
def tTru (r : V → Hp → (Bool → Hp → Prop) → Prop) (ta : TE) : TT := fun σ H Q => ta σ H fun x H1 => r x H1 Q
theorem pt_tru {r : V → Hp → (Bool → Hp → Prop) → Prop} {a : Expr} (hT : TruR X r) (ha : PE X a ta) (he : ∀ whole, isTrue a X.env whole = (do let v ← whole; standAt a.pos; holding [v] (truthy v)) := by intro _; rfl) : PT X a (tTru r ta) := by
  refine ⟨fun pins s σ H Q I h => ?_⟩
  exact isTrue_plain (thn (ha.run pins s σ H _ I h) fun v s1 ⟨x, H1, I1, r1, q1⟩ => hT pins s1 σ H1 x v Q I1 r1 q1) (he _)
/-! ### great ints -/
theorem op_powW : OpR X (binaryOp .Pow) (rI (fun i j => 0 ≤ j ∧ (Builtin.Int.intBits i : Int) * j ≤ 2 ^ 27) fun i j => .int (i ^ j.toNat)) := opI fun _ _ _ _ _ _ _ hc q => pow_int hc.1 hc.2 q
theorem op_fdivZ : OpR X (binaryOp .FloorDiv) (rI (fun _ j => j ≠ 0 ∧ j.natAbs.log2 < 9000) fun i j => .int (i.fdiv j)) := opI fun _ _ _ _ _ _ _ hc q => floordiv_int hc.1 q (.inl (PyProof.noPylong_of_log2 hc.2))
end
end Ws
namespace Ws
open PySem PySem.Spec PyProof.Rows L2
/-! ### from a def of the text to its promise -/
section
variable {P : Program} {w : World} {K : PySem.W.Frag} {mg : Str → Option Value} {base : Heap}
theorem fnR_of {x qual : Str} {st : Stmt} {f : Addr} {fd : FuncData} {N ps : List Str} {k : Nat} {sp : Sp} (F : L2.Fun K x qual st f fd) (b : Binds K fd ps []) (S : FnScope N ps (defScope st)) (len : ∀ vs H Q E, sp vs H Q E → vs.length = ps.length)
    (hbody : ∀ (cdv : Value) (A : Around) (outer : List Env) (s : Shared) (H : Hp) (vs : List V) (Q : VK) (E : XK), Room k (A.deeper (envOfC qual (defScope st) s.heap.objs.size f cdv)) → sp vs H Q E →
      ∃ t, PSs (cxOf CX0 P w K mg base N qual (defScope st) f cdv A outer s H E).nox (defBody st) t ∧ t { nx := fun _ H' => Q .non H', rt := Q } (start N vs) H) : FnR P w K mg base CX0 (k + 1) f sp :=
  ((F.ok S len hbody).raw b .nil).imp fun vs H Q E h => by rw [List.append_nil]; exact h
/-- a def with defaults: all of them are handed in, or the last ones are filled up -/
theorem fnD_of {x qual : Str} {st : Stmt} {f : Addr} {fd : FuncData} {N ps : List Str} {k : Nat} {sp sp' : Sp} {dvs dvs' : List V} {ds : List Value} (F : FunD K x qual (defArgs st) (defBody st) (defScope st) dvs [] f fd) (b : Binds K fd ps ds) (d : Vals dvs' ds) (S : FnScope N ps (defScope st)) (len : ∀ vs H Q E, sp vs H Q E → vs.length = ps.length)
    (imp : ∀ vs H Q E, sp' vs H Q E → sp (vs ++ dvs') H Q E)
    (hbody : ∀ (cdv : Value) (A : Around) (outer : List Env) (s : Shared) (H : Hp) (vs : List V) (Q : VK) (E : XK), Room k (A.deeper (envOfC qual (defScope st) s.heap.objs.size f cdv)) → sp vs H Q E →
      ∃ t, PSs (cxOf CX0 P w K mg base N qual (defScope st) f cdv A outer s H E).nox (defBody st) t ∧ t { nx := fun _ H' => Q .non H', rt := Q } (start N vs) H) : FnR P w K mg base CX0 (k + 1) f sp' :=
  ((F.ok (CX := CX0) S len fun cdv A outer s H vs Q E hr h => let ⟨t, h1, h2⟩ := hbody cdv A outer s H vs Q E hr h; ⟨t, h1.nox, h2⟩).raw b d).imp imp
end
/-- names of built-ins that the module doesn't bind -/
structure Bi (mg : Str → Option Value) : Prop where
  len : mg "len" = none
  abs : mg "abs" = none
  int : mg "int" = none
  bool : mg "bool" = none
  max : mg "max" = none
  min : mg "min" = none
  range : mg "range" = none
  all : mg "all" = none
  any : mg "any" = none
  isinstance : mg "isinstance" = none
/-! ### heaps -/
/-- all but what stands at p is as it was -/
def Ch (p : Addr) (H H' : Hp) : Prop := ∀ b o, b ≠ p → H b = some o → H' b = some o
theorem Ch.refl {p : Addr} {H : Hp} : Ch p H H := fun _ _ _ h => h
theorem Ch.trans {p : Addr} {H H1 H2 : Hp} (a : Ch p H H1) (b : Ch p H1 H2) : Ch p H H2 := fun c o n h => b c o n (a c o n h)
theorem Ch.of {p : Addr} {H H' : Hp} (h : Same H H') : Ch p H H' := fun b o _ e => h b o e
theorem Ch.upd {p : Addr} {H : Hp} {o : HO} : Ch p H (L2.upd H p o) := fun b u n e => by rw [upd_ne n]; exact e
theorem Same.new {H : Hp} {p : Addr} {o : HO} (h : H p = none) : Same H (upd H p o) := fun b u e => by rw [upd_ne (ne_of_none e h)]; exact e
theorem Ch.new {q p : Addr} {H : Hp} {o : HO} (h : H p = none) : Ch q H (L2.upd H p o) := Ch.of (Same.new h)
theorem Ch.free {p q : Addr} {H H' : Hp} (c : Ch p H H') (n : q ≠ p) (h : H' q = none) : H q = none := by
  cases e : H q with
  | none => rfl
  | some o => rw [c q o n e] at h; cases h
/-- a fresh instance is laid, then filled by its __init__ -/
theorem Same.mk {H H1 : Hp} {x dx C : Addr} (nx : H x = none) (nd : H dx = none) (k : ∀ b o, (upd (upd H dx (.own x)) x (.ins C dx [])) b = some o → b ≠ x → H1 b = some o) : Same H H1 := fun b o e =>
  k b o (by rw [upd_ne (ne_of_none e nx), upd_ne (ne_of_none e nd)]; exact e) (ne_of_none e nx)
/-! ### fields -/
theorem lk_here {k : Str} {v : V} {r : List (Str × V)} : List.lookup k ((k, v) :: r) = some v := by
  have e : (k == k) = true := beq_self_eq_true k
  simp only [List.lookup, e]
theorem lk_past {k g : Str} {v : V} {r : List (Str × V)} (h : (k == g) = false) : List.lookup k ((g, v) :: r) = List.lookup k r := by
  simp only [List.lookup, h]
theorem put_here {f : Str} {v x : V} {r : List (Str × V)} : putF f v ((f, x) :: r) = (f, v) :: r := if_pos rfl
theorem put_past {f g : Str} {v x : V} {r : List (Str × V)} (h : ¬ g = f) : putF f v ((g, x) :: r) = (g, x) :: putF f v r := if_neg h
end Ws
namespace Ws
theorem ifT {c : Bool} {A B : Prop} (hc : c = true) (h : A) : if c = true then A else B := by rw [if_pos hc]; exact h
theorem ifF {c : Bool} {A B : Prop} (hc : c = false) (h : B) : if c = true then A else B := by rw [hc, if_neg Bool.false_ne_true]; exact h
theorem if2 {c : Bool} {A B : Prop} (h1 : c = true → A) (h2 : c = false → B) : if c = true then A else B := by
  cases c with
  | true => exact ifT rfl (h1 rfl)
  | false => exact ifF rfl (h2 rfl)
end Ws
namespace Ws
open PySem PySem.Spec PyProof.Rows L2
section
variable {X : Cx} {CX : CXT} {k n : Nat} {f C : Addr} {fd : FuncData} {ps ks : List Str} {sp : Sp} {E : XK} {m : Str} {pos apos : Pos} {e o : Expr} {kws : List Keyword} {ta : TE} {tk : TA} {g : List Value → List Value → List Value} {gV : List V → List V → List V}
/-- o.m(k = v, ..) -/
def tMtK (C : Addr) (m : Str) (n : Nat) (sp : Sp) (gV : List V → List V → List V) (E : XK) (ta : TE) (tk : TA) : TE := fun σ H Q => ta σ H fun x H1 => ∃ a dx fs, x = .ref a ∧ H1 a = some (.ins C dx fs) ∧ fs.lookup m = none ∧ tk σ H1 fun zs H2 => zs.length = n ∧ sp (gV [x] zs) H2 Q E
theorem pe_mtK0 {pl : Sem Bool} (c : Cls X.K C) (hm : Meth X.K C m f) (F : FnOk X.prog X.w X.K X.mg X.base CX k f fd ps sp) (hr : Room k X.A) (hb : KBn X.K fd ps 1 ks g gV) (hx : Passes CX X E) (he : PE X o ta) (hkw : PK X kws tk)
    (hall : (backToKw pos (keywordEach kws X.env)).all (·.1.isSome) = true := by rfl) (hks : (backToKw pos (keywordEach kws X.env)).filterMap (·.1) = ks := by rfl)
    (hpl : ((backTo pos (starEach [] X.env)).any (·.1) || (backToKw pos (keywordEach kws X.env)).any (·.1.isNone)) = false := by rfl)
    (ht : eval (.Call (.Attribute o m apos) [] kws pos) X.env = (do
      let ov ← eval o X.env
      standAt apos.atName
      let (f, first) ← holding [ov] (getMethod ov m pl)
      callWith pos f first (backTo pos (starEach [] X.env)) (backToKw pos (keywordEach kws X.env))) := by rfl) :
    PE X (.Call (.Attribute o m apos) [] kws pos) (tMtK C m ks.length sp gV E ta tk) := by
  refine ⟨fun pins s σ H Q I h => ?_⟩
  refine PySem.W.methodCall_KW (pl := pl) (thn (he.run pins s σ H _ I h) fun u s1 ⟨x, H1, I1, rx, a, dx, fs, ex, ea, l, q⟩ => ?_) ht
  subst ex
  obtain rfl : u = Value.ref a := rx
  refine getmeth_ok I1 ea c hm l ?_
  refine PySem.W.callWith_KW0 (first := [.ref a]) (h₀ := X.base) I.ok.mod.kin hm.kp hall ?_ hpl
  refine thn (hkw.run pos pins s1 σ H1 _ I1 q) fun ws s2 ⟨zs, H2, I2, rz, l2, q2⟩ => ⟨I2.kIn, ?_⟩
  rw [hks]
  exact run_fnN (us := [.ref a]) (vs := [.ref a]) F hr hb hx I2 (.cons rfl .nil) rz rfl l2 q2
end
end Ws
namespace Ws
theorem bit_lo (c : Bool) : -(2 ^ 64) < (if c = true then (1 : Int) else 0) ∧ (if c = true then (1 : Int) else 0) < 2 ^ 64 := by cases c <;> decide
theorem bit_nn (c : Bool) : 0 ≤ (if c = true then (1 : Int) else 0) := by cases c <;> decide
end Ws
namespace Ws
open PySem
theorem kit_self {K : PySem.W.Frag} (t : Value) : PySem.W.kitOne K t t = some true := by
  unfold PySem.W.kitOne
  rw [if_pos (by simp)]
end Ws

namespace Ws
/-! ### fractions in lowest terms -/
def gI (t b : Int) : Int := ((Nat.gcd t.natAbs b.natAbs : Nat) : Int)
def gS (t b : Int) : Int := if b < 0 then -(gI t b) else gI t b
def nT (t b : Int) : Int := t.fdiv (gS t b)
def nB (t b : Int) : Int := b.fdiv (gS t b)
theorem gI_pos {t b : Int} (hb : b ≠ 0) : 0 < gI t b := by
  have : 0 < Nat.gcd t.natAbs b.natAbs := Nat.gcd_pos_of_pos_right _ (by omega)
  unfold gI; omega
theorem gS_ne {t b : Int} (hb : b ≠ 0) : gS t b ≠ 0 := by
  have := gI_pos (t := t) hb
  unfold gS; split <;> omega
/-- the reduced pair -/
structure Low (t b p q : Int) : Prop where
  pos : 0 < q
  cross : p * b = t * q
  cop : Nat.gcd p.natAbs q.natAbs = 1
theorem nf_parts {t b : Int} (hb : b ≠ 0) : ∃ t' b' : Int, t = gI t b * t' ∧ b = gI t b * b' ∧ Nat.gcd t'.natAbs b'.natAbs = 1 ∧ b' ≠ 0 := by
  have hg := gI_pos (t := t) hb
  have h1 : gI t b ∣ t := by
    have : Nat.gcd t.natAbs b.natAbs ∣ t.natAbs := Nat.gcd_dvd_left _ _
    have := Int.ofNat_dvd.mpr this
    exact Int.dvd_natAbs.mp this
  have h2 : gI t b ∣ b := by
    have : Nat.gcd t.natAbs b.natAbs ∣ b.natAbs := Nat.gcd_dvd_right _ _
    have := Int.ofNat_dvd.mpr this
    exact Int.dvd_natAbs.mp this
  obtain ⟨t', e1⟩ := h1
  obtain ⟨b', e2⟩ := h2
  refine ⟨t', b', e1, e2, ?_, ?_⟩
  · have e3 : t.natAbs = (gI t b).natAbs * t'.natAbs := by rw [← Int.natAbs_mul, ← e1]
    have e4 : b.natAbs = (gI t b).natAbs * b'.natAbs := by rw [← Int.natAbs_mul, ← e2]
    have e5 : Nat.gcd t.natAbs b.natAbs = (gI t b).natAbs := by unfold gI; simp
    rw [e3, e4, Nat.gcd_mul_left] at e5
    have h0 : 0 < (gI t b).natAbs := by omega
    exact Nat.eq_of_mul_eq_mul_left h0 (by rw [e5, Nat.mul_one])
  · intro z
    rw [z, Int.mul_zero] at e2
    exact hb e2
theorem nf_vals {t b : Int} (hb : b ≠ 0) : ∃ t' b' : Int, t = gI t b * t' ∧ b = gI t b * b' ∧ Nat.gcd t'.natAbs b'.natAbs = 1 ∧ b' ≠ 0 ∧ nT t b = (if b < 0 then -t' else t') ∧ nB t b = (if b < 0 then -b' else b') ∧ (b < 0 ↔ b' < 0) := by
  obtain ⟨t', b', e1, e2, hc, h0⟩ := nf_parts (t := t) hb
  have hg := gI_pos (t := t) hb
  have hs : b < 0 ↔ b' < 0 := by
    constructor
    · intro h
      apply Int.lt_of_not_ge
      intro h2
      have : 0 ≤ gI t b * b' := Int.mul_nonneg (by omega) h2
      omega
    · intro h
      have : gI t b * b' < gI t b * 0 := Int.mul_lt_mul_of_pos_left h hg
      omega
  refine ⟨t', b', e1, e2, hc, h0, ?_, ?_, hs⟩
  · unfold nT gS
    split
    · generalize gI t b = g at *
      subst e1
      rw [show g * t' = -g * -t' by grind, Int.mul_fdiv_cancel_left _ (by omega)]
    · generalize gI t b = g at *
      subst e1
      rw [Int.mul_fdiv_cancel_left _ (by omega)]
  · unfold nB gS
    split
    · generalize gI t b = g at *
      rw [e2, show g * b' = -g * -b' by grind, Int.mul_fdiv_cancel_left _ (by omega)]
    · generalize gI t b = g at *
      rw [e2, Int.mul_fdiv_cancel_left _ (by omega)]
theorem nf_low {t b : Int} (hb : b ≠ 0) : Low t b (nT t b) (nB t b) := by
  obtain ⟨t', b', e1, e2, hc, h0, eT, eB, hs⟩ := nf_vals (t := t) hb
  generalize gI t b = g at *
  rw [eT, eB]
  split
  · rename_i h
    have := hs.mp h
    refine ⟨by omega, by grind, by simpa using hc⟩
  · rename_i h
    have : ¬ b' < 0 := fun z => h (hs.mpr z)
    exact ⟨by omega, by grind, hc⟩
theorem nf_le {t b : Int} (hb : b ≠ 0) : (nT t b).natAbs ≤ t.natAbs ∧ (nB t b).natAbs ≤ b.natAbs := by
  obtain ⟨t', b', e1, e2, hc, h0, eT, eB, hs⟩ := nf_vals (t := t) hb
  have hg := gI_pos (t := t) hb
  have e3 : t.natAbs = (gI t b).natAbs * t'.natAbs := by rw [← Int.natAbs_mul, ← e1]
  have e4 : b.natAbs = (gI t b).natAbs * b'.natAbs := by rw [← Int.natAbs_mul, ← e2]
  have h0 : 1 ≤ (gI t b).natAbs := by omega
  have k1 : t'.natAbs ≤ t.natAbs := by rw [e3]; exact Nat.le_mul_of_pos_left _ h0
  have k2 : b'.natAbs ≤ b.natAbs := by rw [e4]; exact Nat.le_mul_of_pos_left _ h0
  rw [eT, eB]
  by_cases h : b < 0
  · rw [if_pos h, if_pos h]
    constructor <;> omega
  · rw [if_neg h, if_neg h]
    exact ⟨k1, k2⟩
theorem low_uniq {p q r s : Int} (h : p * s = r * q) (hq : 0 < q) (hs : 0 < s) (h1 : Nat.gcd p.natAbs q.natAbs = 1) (h2 : Nat.gcd r.natAbs s.natAbs = 1) : p = r ∧ q = s := by
  have e : p.natAbs * s.natAbs = r.natAbs * q.natAbs := by rw [← Int.natAbs_mul, ← Int.natAbs_mul, h]
  have d1 : q.natAbs ∣ s.natAbs := by
    have c : Nat.Coprime q.natAbs p.natAbs := by rw [Nat.coprime_comm]; exact h1
    exact c.dvd_of_dvd_mul_left ⟨r.natAbs, by rw [e, Nat.mul_comm]⟩
  have d2 : s.natAbs ∣ q.natAbs := by
    have c : Nat.Coprime s.natAbs r.natAbs := by rw [Nat.coprime_comm]; exact h2
    exact c.dvd_of_dvd_mul_left ⟨p.natAbs, by rw [← e, Nat.mul_comm]⟩
  have e2 : q.natAbs = s.natAbs := Nat.dvd_antisymm d1 d2
  have e3 : q = s := by omega
  subst e3
  exact ⟨Int.eq_of_mul_eq_mul_right (by omega) h, rfl⟩
/-- a reduced pair is the reduced pair of anything that it crosses with -/
theorem Low.eq {t b p q c d r s : Int} (h : Low t b p q) (h' : Low c d r s) (hb : b ≠ 0) (hd : d ≠ 0) (e : t * d = c * b) : p = r ∧ q = s := by
  refine low_uniq ?_ h.pos h'.pos h.cop h'.cop
  have e1 := h.cross
  have e2 := h'.cross
  have : (p * s) * (b * d) = (r * q) * (b * d) := by grind
  exact Int.eq_of_mul_eq_mul_right (Int.mul_ne_zero hb hd) this
theorem Low.ne {t b p q c d r s : Int} (h : Low t b p q) (h' : Low c d r s) (hb : b ≠ 0) (hd : d ≠ 0) (e : t * d ≠ c * b) : ¬ (p = r ∧ q = s) := by
  rintro ⟨rfl, rfl⟩
  refine e ?_
  have e1 := h.cross
  have e2 := h'.cross
  have : (t * d) * q = (c * b) * q := by grind
  exact Int.eq_of_mul_eq_mul_right (by have := h.pos; omega) this
theorem nf_eq {t b c d : Int} (hb : b ≠ 0) (hd : d ≠ 0) (e : t * d = c * b) : nT t b = nT c d ∧ nB t b = nB c d := (nf_low hb).eq (nf_low hd) hb hd e
theorem nf_ne {t b c d : Int} (hb : b ≠ 0) (hd : d ≠ 0) (e : t * d ≠ c * b) : ¬ (nT t b = nT c d ∧ nB t b = nB c d) := (nf_low hb).ne (nf_low hd) hb hd e
/-- the law's own reckoning -/
theorem nf_least {t b : Int} (hb : b ≠ 0) : ((if b < 0 then -1 else 1) * t) / gI t b = nT t b ∧ (if b < 0 then -b else b) / gI t b = nB t b := by
  obtain ⟨t', b', e1, e2, hc, h0, eT, eB, hs⟩ := nf_vals (t := t) hb
  have hg := gI_pos (t := t) hb
  rw [eT, eB]
  generalize gI t b = g at *
  subst e1
  split
  · refine ⟨?_, ?_⟩
    · rw [show -1 * (g * t') = g * -t' by grind, Int.mul_ediv_cancel_left _ (by omega)]
    · rw [e2, show -(g * b') = g * -b' by grind, Int.mul_ediv_cancel_left _ (by omega)]
  · refine ⟨?_, ?_⟩
    · rw [Int.one_mul, Int.mul_ediv_cancel_left _ (by omega)]
    · rw [e2, Int.mul_ediv_cancel_left _ (by omega)]
/-- one turn of Euclid's loop -/
theorem gcd_turn {a b : Int} (ha : 0 ≤ a) (hb : 0 < b) : Nat.gcd b.natAbs (a % b).natAbs = Nat.gcd a.natAbs b.natAbs := by
  rw [Int.natAbs_emod_of_nonneg ha, Nat.gcd_comm a.natAbs, Nat.gcd_rec b.natAbs a.natAbs, Nat.gcd_comm]
/-! ### sizes -/
/-- less than n bits -/
def Sz (n : Nat) (i : Int) : Prop := i.natAbs < 2 ^ n
theorem Sz.mono {n m : Nat} {i : Int} (h : Sz n i) (hm : n ≤ m) : Sz m i := Nat.lt_of_lt_of_le h (Nat.pow_le_pow_right (by decide) hm)
theorem Sz.mul {n m : Nat} {i j : Int} (h : Sz n i) (h' : Sz m j) : Sz (n + m) (i * j) := by
  unfold Sz at *
  rw [Int.natAbs_mul, Nat.pow_add]
  exact Nat.mul_lt_mul'' h h'
theorem Sz.add {n : Nat} {i j : Int} (h : Sz n i) (h' : Sz n j) : Sz (n + 1) (i + j) := by
  unfold Sz at *
  rw [Nat.pow_succ]
  omega
theorem Sz.sub {n : Nat} {i j : Int} (h : Sz n i) (h' : Sz n j) : Sz (n + 1) (i - j) := by
  unfold Sz at *
  rw [Nat.pow_succ]
  omega
theorem Sz.neg {n : Nat} {i : Int} (h : Sz n i) : Sz n (-i) := by
  unfold Sz at *
  omega
theorem Sz.nT {n : Nat} {t b : Int} (hb : b ≠ 0) (h : Sz n t) : Sz n (nT t b) := Nat.lt_of_le_of_lt (nf_le hb).1 h
theorem Sz.nB {n : Nat} {t b : Int} (hb : b ≠ 0) (h : Sz n b) : Sz n (nB t b) := Nat.lt_of_le_of_lt (nf_le hb).2 h
theorem Sz.gI {n : Nat} {t b : Int} (hb : b ≠ 0) (h : Sz n b) : Sz n (gI t b) := by
  refine Nat.lt_of_le_of_lt ?_ h
  unfold Ws.gI
  exact Nat.le_of_dvd (by omega) (Nat.gcd_dvd_right _ _)
theorem Sz.of_abs {n : Nat} {i : Int} (h : i.natAbs < 2 ^ n) : Sz n i := h
end Ws
namespace Ws
/-- a reduced pair is that of any other pair that crosses with the first one -/
theorem Low.base {t b p q c d : Int} (h : Low t b p q) (hb : b ≠ 0) (e : t * d = c * b) : Low c d p q := by
  refine ⟨h.pos, ?_, h.cop⟩
  have e1 := h.cross
  have : (p * d) * b = (c * q) * b := by grind
  exact Int.eq_of_mul_eq_mul_right hb this
theorem Low.nf {t b p q : Int} (h : Low t b p q) (hb : b ≠ 0) : p = nT t b ∧ q = nB t b := h.eq (nf_low hb) hb hb rfl
theorem Low.szT {t b p q : Int} {n : Nat} (h : Low t b p q) (hb : b ≠ 0) (z : Sz n t) : Sz n p := by rw [(h.nf hb).1]; exact z.nT hb
theorem Low.szB {t b p q : Int} {n : Nat} (h : Low t b p q) (hb : b ≠ 0) (z : Sz n b) : Sz n q := by rw [(h.nf hb).2]; exact z.nB hb
theorem Low.zero {t b p q : Int} (h : Low t b p q) (hb : b ≠ 0) : p = 0 ↔ t = 0 := by
  have e := h.cross
  have hq := h.pos
  constructor
  · intro z
    rw [z, Int.zero_mul] at e
    rcases Int.mul_eq_zero.mp e.symm with z | z
    · exact z
    · omega
  · intro z
    rw [z, Int.zero_mul] at e
    rcases Int.mul_eq_zero.mp e with z | z
    · exact z
    · exact absurd z hb
theorem Low.self {t b p q : Int} (h : Low t b p q) (hb : b ≠ 0) : Low p q p q := ⟨h.pos, rfl, h.cop⟩
end Ws

namespace Ws
open PySem PySem.Spec PyProof.Rows L2
section
variable {K : PySem.W.Frag} {a : Addr} {xs : List V} {g : TG} {te : TE} {vs : List Nat} {σ : L2.St} {H1 : Hp} {D : Addr} {Qd : Hp → Prop}
/-- a comprehension without a test: what is made so far stands at D, J tells of it -/
def PvJ (D : Addr) (J : Nat → List V → Hp → Prop) : Nat → Hp → Prop := fun i H => ∃ acc, acc.length = i ∧ H D = some (.lst acc) ∧ J i acc H
theorem step_J {J : Nat → List V → Hp → Prop} {i : Nat} {x : V} {H : Hp} (hz : i < sizeLine) (h : PvJ D J i H)
    (hs : ∀ acc, J i acc H → H D = some (.lst acc) → acc.length = i → ∀ Qn : VK, (∀ y H4, H4 D = some (.lst acc) → J (i + 1) (acc ++ [y]) (upd H4 D (.lst (acc ++ [y]))) → Qn y H4) → g x (wipe σ vs) H fun σ2 H2 => wipe σ2 vs = wipe σ vs ∧ te σ2 H2 Qn) :
    g x (wipe σ vs) H fun σ2 H2 => wipe σ2 vs = wipe σ vs ∧ tYes σ2 H2 fun b H3 => if b = true then te σ2 H3 fun y H4 => ∃ acc, H4 D = some (.lst acc) ∧ acc.length < sizeLine ∧ PvJ D J (i + 1) (upd H4 D (.lst (acc ++ [y]))) else PvJ D J (i + 1) H3 := by
  obtain ⟨acc, hl, hD, j⟩ := h
  have := hs acc j hD hl (fun y H4 => ∃ acc, H4 D = some (.lst acc) ∧ acc.length < sizeLine ∧ PvJ D J (i + 1) (upd H4 D (.lst (acc ++ [y])))) fun y H4 e jj => ⟨acc, e, by rw [hl]; exact hz, acc ++ [y], by rw [List.length_append, hl] <;> rfl, upd_same, jj⟩
  have e : (fun (σ2 : L2.St) (H2 : Hp) => wipe σ2 vs = wipe σ vs ∧ tYes σ2 H2 fun b H3 => if b = true then te σ2 H3 fun y H4 => ∃ acc, H4 D = some (.lst acc) ∧ acc.length < sizeLine ∧ PvJ D J (i + 1) (upd H4 D (.lst (acc ++ [y]))) else PvJ D J (i + 1) H3)
      = fun σ2 H2 => wipe σ2 vs = wipe σ vs ∧ te σ2 H2 fun y H4 => ∃ acc, H4 D = some (.lst acc) ∧ acc.length < sizeLine ∧ PvJ D J (i + 1) (upd H4 D (.lst (acc ++ [y]))) := by
    funext σ2 H2
    show (wipe σ2 vs = wipe σ vs ∧ (if true = true then (te σ2 H2 fun y H4 => ∃ acc, H4 D = some (.lst acc) ∧ acc.length < sizeLine ∧ PvJ D J (i + 1) (upd H4 D (.lst (acc ++ [y])))) else PvJ D J (i + 1) H2)) = _
    rw [if_pos rfl]
  rw [e]
  exact this
theorem lcT (J : Nat → List V → Hp → Prop) (h0 : J 0 [] (upd H1 D (.lst []))) (hl : ∀ i acc H, J i acc H → SqT K H a xs) (hz : xs.length < sizeLine)
    (hs : ∀ i x H acc, xs[i]? = some x → J i acc H → H D = some (.lst acc) → acc.length = i → ∀ Qn : VK, (∀ y H4, H4 D = some (.lst acc) → J (i + 1) (acc ++ [y]) (upd H4 D (.lst (acc ++ [y]))) → Qn y H4) → g x (wipe σ vs) H fun σ2 H2 => wipe σ2 vs = wipe σ vs ∧ te σ2 H2 Qn)
    (hd : ∀ ys H, J xs.length ys H → H D = some (.lst ys) → ys.length = xs.length → Qd H) :
    ∃ W : Nat → Nat → Hp → Prop, (∃ m, W 0 m (upd H1 D (.lst []))) ∧ ∀ i m H, W i m H →
      ((Itt K a).stop i H ∧ Qd H) ∨ ((Itt K a).go i H ∧ ∃ Nx : Hp → Prop, (∀ H', Nx H' → ∃ m', m' < m ∧ W (i + 1) m' H') ∧ ∀ x H', (Itt K a).yld i H x H' → g x (wipe σ vs) H' fun σ2 H2 => wipe σ2 vs = wipe σ vs ∧ tYes σ2 H2 fun b H3 =>
        if b = true then te σ2 H3 fun y H4 => ∃ acc, H4 D = some (.lst acc) ∧ acc.length < sizeLine ∧ Nx (upd H4 D (.lst (acc ++ [y]))) else Nx H3) :=
  lc_tup (K := K) (a := a) (xs := xs) (PvJ D J) ⟨[], rfl, upd_same, h0⟩ (fun i H _ h => let ⟨acc, _, _, j⟩ := h; hl i acc H j)
    (fun i x H hx h => step_J (Nat.lt_trans (List.getElem?_eq_some_iff.mp hx).1 hz) h fun acc j e l => hs i x H acc hx j e l) fun H h => let ⟨ys, l, e, j⟩ := h; hd ys H j e l
theorem lcL (J : Nat → List V → Hp → Prop) (h0 : J 0 [] (upd H1 D (.lst []))) (hl : ∀ i acc H, J i acc H → SqL K H a xs) (hz : xs.length < sizeLine)
    (hs : ∀ i x H acc, xs[i]? = some x → J i acc H → H D = some (.lst acc) → acc.length = i → ∀ Qn : VK, (∀ y H4, H4 D = some (.lst acc) → J (i + 1) (acc ++ [y]) (upd H4 D (.lst (acc ++ [y]))) → Qn y H4) → g x (wipe σ vs) H fun σ2 H2 => wipe σ2 vs = wipe σ vs ∧ te σ2 H2 Qn)
    (hd : ∀ ys H, J xs.length ys H → H D = some (.lst ys) → ys.length = xs.length → Qd H) :
    ∃ W : Nat → Nat → Hp → Prop, (∃ m, W 0 m (upd H1 D (.lst []))) ∧ ∀ i m H, W i m H →
      ((Itl K a).stop i H ∧ Qd H) ∨ ((Itl K a).go i H ∧ ∃ Nx : Hp → Prop, (∀ H', Nx H' → ∃ m', m' < m ∧ W (i + 1) m' H') ∧ ∀ x H', (Itl K a).yld i H x H' → g x (wipe σ vs) H' fun σ2 H2 => wipe σ2 vs = wipe σ vs ∧ tYes σ2 H2 fun b H3 =>
        if b = true then te σ2 H3 fun y H4 => ∃ acc, H4 D = some (.lst acc) ∧ acc.length < sizeLine ∧ Nx (upd H4 D (.lst (acc ++ [y]))) else Nx H3) :=
  lc_list (K := K) (a := a) (xs := xs) (PvJ D J) ⟨[], rfl, upd_same, h0⟩ (fun i H _ h => let ⟨acc, _, _, j⟩ := h; hl i acc H j)
    (fun i x H hx h => step_J (Nat.lt_trans (List.getElem?_eq_some_iff.mp hx).1 hz) h fun acc j e l => hs i x H acc hx j e l) fun H h => let ⟨ys, l, e, j⟩ := h; hd ys H j e l
theorem lcR {lo : Int} {n : Nat} (J : Nat → List V → Hp → Prop) (h0 : J 0 [] (upd H1 D (.lst []))) (hz : n < sizeLine)
    (hs : ∀ i H acc, i < n → J i acc H → H D = some (.lst acc) → acc.length = i → ∀ Qn : VK, (∀ y H4, H4 D = some (.lst acc) → J (i + 1) (acc ++ [y]) (upd H4 D (.lst (acc ++ [y]))) → Qn y H4) → g (.int (lo + i)) (wipe σ vs) H fun σ2 H2 => wipe σ2 vs = wipe σ vs ∧ te σ2 H2 Qn)
    (hd : ∀ ys H, J n ys H → H D = some (.lst ys) → ys.length = n → Qd H) :
    ∃ W : Nat → Nat → Hp → Prop, (∃ m, W 0 m (upd H1 D (.lst []))) ∧ ∀ i m H, W i m H →
      ((Itr lo n).stop i H ∧ Qd H) ∨ ((Itr lo n).go i H ∧ ∃ Nx : Hp → Prop, (∀ H', Nx H' → ∃ m', m' < m ∧ W (i + 1) m' H') ∧ ∀ x H', (Itr lo n).yld i H x H' → g x (wipe σ vs) H' fun σ2 H2 => wipe σ2 vs = wipe σ vs ∧ tYes σ2 H2 fun b H3 =>
        if b = true then te σ2 H3 fun y H4 => ∃ acc, H4 D = some (.lst acc) ∧ acc.length < sizeLine ∧ Nx (upd H4 D (.lst (acc ++ [y]))) else Nx H3) :=
  lc_range (PvJ D J) ⟨[], rfl, upd_same, h0⟩ (fun i H hi h => step_J (Nat.lt_trans hi hz) h fun acc j e l => hs i H acc hi j e l) fun H h => let ⟨ys, l, e, j⟩ := h; hd ys H j e l
end
end Ws

namespace Ws
open PySem PySem.W PySem.Calls PyProof.Rows
/-- what a class with an own __eq__ and no __ne__ must be -/
structure NeC (K : Frag) (C : Addr) : Prop where
  ne : findIn K (.ref C) "__ne__" = some (some (.builtin "object.__ne__"))
  obj : ∃ (nm q : Str) (N : Addr) (bs bm : List Value) (hd : Bool) (sn : List Str) (sub : List Value) (ab : Bool) (col : Option Bool) (dd : Option Addr) (k0 k1 k2 k3 k5 : Option Value) (nid : String),
    K.lookup C = some (excClassObj nm q C N bs bm hd sn sub ab col dd k0 k1 k2 k3 k5 nid) ∧ bm.contains (.type "object") = true
section
variable {prog : Program} {w : World} {A : Around} {E : Value → Shared → Prop} {s : Shared} {K : Frag} {x C L f : Addr} {h₀ : Heap} {m : Str → Option Value} {ox : Obj} {od : Option Obj} {b tb : Value}
theorem ifBound_B {M : Model} {args : List Value} {Q : Option Value → Shared → Prop} (X : K.In s.heap) (I : InstAt s.heap x ox C od) (hs : findIn K (.ref C) "__ne__" = some (some (.builtin "object.__ne__")))
    (h : wpAny M A (call (.builtin "object.__ne__") (.ref x :: args)) (fun v => Q (some v)) E s) : wpAny M A (callSpecialIfBound? (.ref x) "__ne__" args) Q E s := by
  simp only [callSpecialIfBound?, bindSpecialIfBound?]
  refine wpAny_holding (wpAny_bind (wpAny_bind (wpAny_bind (I.type.here ((looks_findIn X hs).here ?_)))))
  dsimp only
  simp only [PySem.F.cmp_object.ne.bind]
  have fin : wpAny M A (call (.builtin "object.__ne__") ([.ref x] ++ args) >>= fun v => pure (some v)) Q E s := wpAny_bind (wpAny_mono h (fun v s' h' => wpAny_pure h') fun _ _ h' => h')
  refine wpAny_bind (wpAny_askSetting (wpAny_ite ?_))
  split
  · exact wpAny_bind (wpAny_pure (wpAny_pure (by exact fin)))
  · exact wpAny_tryCatch (wpAny_bind (wpAny_pure (wpAny_pure (by exact fin))))
theorem objNe_K (hu : A.units < cLine) (X : K.In s.heap) (I : InstAt s.heap x ox C od) (hs : findIn K (.ref C) "__eq__" = some (some (.ref f))) (hf : isFn K (.ref f) = true) {Q : Fin → Shared → Prop}
    (hcall : wpAny (model prog w) A (call (.ref f) [.ref x, b]) (fun v s' => ∃ r, v = .bool r ∧ Q (.done (.ret (.bool (!r)))) s') E s) : wpAny (model prog w) A (Builtin.«object.__ne__» ⟨[.ref x, b], []⟩) Q E s := by
  obtain ⟨h, g, d, t, os⟩ := s
  unfold Builtin.«object.__ne__»
  repeat (first
    | with_reducible refine wpAny_cRoomFor hu ?_
    | (refine wpAny_bind (m := callSpecialIfBound? (.ref x) (Str.ofString "__eq__") [b])
        (ifBound_K X I hs hf (wpAny_mono hcall (fun r s' hr => by
          obtain ⟨r, rfl, hq⟩ := hr
          repeat (first | exact hq | exact wpAny_pure hq | exact wpAny_truthy_bool hq | (refine wpAny_bind (m := truthy (.bool _)) (wpAny_truthy_bool ?_)) | wp_step)) fun _ _ e => e)))
    | wp_step)
theorem ne_K (N : NeC K C) (hu : A.units + 1 < cLine) (F : Fr h₀ L s.heap m) (X₀ : K.In h₀) (I : InstAt s.heap x ox C od) (hb : Looks (model prog w) s.heap (typeOf b) tb) (hn : notFirst K C tb = true)
    (hs : findIn K (.ref C) "__eq__" = some (some (.ref f))) (hf : isFn K (.ref f) = true) {Q : Value → Shared → Prop}
    (h : wpAny (model prog w) A.in1 (call (.ref f) [.ref x, b]) (fun v s' => ∃ r, v = .bool r ∧ Q (.bool (!r)) s') E s) : wpAny (model prog w) A (compareOp .NotEq (.ref x) b) Q E s := by
  have X := X₀.keeps F.keep
  obtain ⟨hne, nm, q, N, bs, bm, hd, sn, sub, ab, col, dd, k0, k1, k2, k3, k5, nid, hC, hbm⟩ := N
  have one : wpAny (model prog w) A (tryCompare (.ref x) "__ne__" b) (fun r s' => ∃ v, r = some v ∧ Q v s') E s := by
    unfold tryCompare
    refine wpAny_bind (ifBound_B X I hne (wpAny_call (codeAny_call_builtin PySem.F.cmp_object.ne.plain PySem.F.cmpEntry_ne ?_)))
    obtain ⟨hh, g, d, t, os⟩ := s
    refine wpAny_check_slot_inst PySem.F.cmpKind_ne PySem.F.cmpSplit_ne (PySem.F.cmpArgs_ne _ _) hbm I.at_ I.cls (X _ _ hC) ?_
    refine objNe_K (A := A.in1) (Nat.lt_of_succ_lt_succ (Nat.succ_lt_succ hu)) X I hs hf (wpAny_mono h (fun v s' hv => ?_) fun _ _ e => e)
    obtain ⟨r, rfl, hq⟩ := hv
    first
      | exact ⟨r, rfl, wpAny_pure ⟨_, rfl, hq⟩⟩
      | exact ⟨r, rfl, wpAny_pure (wpAny_pure ⟨_, rfl, hq⟩)⟩
  show wpAny (model prog w) A (richCompare .NotEq (.ref x) b) Q E s
  unfold richCompare
  simp only [oneThing_ref]
  refine wpAny_holding (wpAny_bind (wpAny_cRoomFor (Nat.lt_of_succ_lt hu) ?_))
  rw [cmpInfo_NotEq]
  dsimp only
  refine wpAny_bind (I.type.here (wpAny_bind (hb.here ?_)))
  split
  · rename_i q
    have e : subIn K tb (.ref C) = some false := by
      rcases Bool.or_eq_true_iff.mp hn with e | e
      · rw [beq_iff_eq.mp e] at q; simp at q
      · exact beq_iff_eq.mp e
    refine wpAny_bind ((looks_subIn X e).here ?_)
    simp only [Bool.false_eq_true, if_false]
    refine wpAny_bind (wpAny_mono one (fun r s' z => ?_) fun _ _ e => e)
    obtain ⟨v, rfl, hq⟩ := z
    exact wpAny_pure hq
  · refine wpAny_bind (wpAny_pure ?_)
    simp only [Bool.false_eq_true, if_false]
    refine wpAny_bind (wpAny_mono one (fun r s' z => ?_) fun _ _ e => e)
    obtain ⟨v, rfl, hq⟩ := z
    exact wpAny_pure hq
end
end Ws
namespace Ws
open PySem PySem.Spec PyProof.Rows L2
section
variable {X : Cx} {k j : Nat} {C : Addr} {sp : Sp}
/-- the callee runs one call further in -/
theorem run_in1 {f : Addr} {pins : List (Addr × Obj)} {σ : L2.St} {H : Hp} {s : Shared} {Q : VK} {us : List Value} {vs : List V} {Ex : Value → Shared → Prop} (F : FnR X.prog X.w X.K X.mg X.base CX0 k f sp) (hr : Room (k + 1) X.A) (I : Inv X pins σ H s) (r : Vals vs us) (h : sp vs H Q E0) :
    wpAny (model X.prog X.w) X.A.in1 (call (.ref f) us) (EP X pins σ Q) Ex s := by
  refine wpAny_call (codeAny_mono (F X.A.in1 X.stack s H us vs Q E0 hr.in1 I.env0.in1 r h) fun r s' hq => ?_)
  cases r with
  | error er => exact hq.elim
  | ok fl =>
    cases fl with
    | ret u => exact I.after hq
    | next => exact False.elim hq
    | brk => exact False.elim hq
    | cont => exact False.elim hq
/-- a != b by a's own __eq__ -/
def rNeO (K : PySem.W.Frag) (C : Addr) (sp : Sp) : R2 := fun x y H Q => ∃ a dx fs t, x = .ref a ∧ H a = some (.ins C dx fs) ∧ TyL H y t ∧ PySem.W.notFirst K C t = true ∧ sp [.ref a, y] H (fun v H' => ∃ r, v = .bl r ∧ Q (.bl (!r)) H') E0
theorem op_neO (N : NeC X.K C) (c : OpnF X.prog X.w X.K X.mg X.base k C "__eq__" sp) (hr : Room j X.A) (hk : k + 1 ≤ j) : OpR X (compareOp .NotEq) (rNeO X.K C sp) := by
  obtain ⟨f, h1, h2, F⟩ := c
  intro pins s σ H x y v u Q I rx ry h
  obtain ⟨a, dx, fs, t, rfl, ea, ty, nf, q⟩ := h
  cases (show v = Value.ref a from rx)
  obtain ⟨ox, od, J⟩ := inst_of I ea
  obtain ⟨m, hF⟩ := I.fr
  refine ne_K N (hu_of hr) hF I.ok.mod.kin J (ty.looks I ry) nf h1 h2 ?_
  refine wpAny_mono (run_in1 (us := [.ref a, u]) (vs := [.ref a, y]) F (hr.mono hk) I (.cons rfl (.cons ry .nil)) q) (fun v s' hv => ?_) fun _ _ z => z
  obtain ⟨z, H', I', rz, r, rfl, q'⟩ := hv
  cases (show v = Value.bool r from rz)
  exact ⟨r, rfl, .bl _, H', I', rfl, q'⟩
end
/-- isinstance with a class of one's own, answered no -/
theorem kit_no {K : PySem.W.Frag} {t : Value} {D : Addr} (h1 : PySem.W.isClsIn K D = true) (h2 : PySem.W.typeIn K (.ref D) = some (.type "type")) (h3 : PySem.W.subIn K t (.ref D) = some false) (h4 : t ≠ .ref D) : PySem.W.kitOne K t (.ref D) = some false := by
  have e : (t == Value.ref D) = false := by
    cases h : (t == Value.ref D) with
    | false => rfl
    | true => exact absurd (eq_of_beq h) h4
  have e2 : ((PySem.W.clsIn K D).isSome && PySem.W.typeIn K (.ref D) == some (.type "type")) = true := by
    have h1' : (PySem.W.clsIn K D).isSome = true := h1
    rw [h1', h2] <;> rfl
  unfold PySem.W.kitOne
  rw [e, if_neg Bool.false_ne_true]
  show (if ((PySem.W.clsIn K D).isSome && PySem.W.typeIn K (.ref D) == some (.type "type")) = true then PySem.W.subIn K t (.ref D) else none) = some false
  rw [if_pos e2, h3]
end Ws

namespace Ws
open PySem PySem.Spec PyProof.Rows L2
/-! ### defs that are called where nothing is being shown: repr may be asked within them -/
/-- FnR for such calls alone -/
def FnG (P : Program) (w : World) (K : PySem.W.Frag) (mg : Str → Option Value) (base : Heap) (CX : CXT) (k : Nat) (f : Addr) (sp : Sp) : Prop :=
  ∀ (A : Around) (outer : List Env) (s : Shared) (H : Hp) (us : List Value) (vs : List V) (Q : VK) (E : XK), A.guards = some [] → Room k A → Env0 P w K mg base A outer s H → Vals vs us → sp vs H Q E →
    codeAny (model P w) A (.call (.ref f) ⟨us, []⟩) (CR CX outer P w H s Q E) s
theorem FnG.of {P : Program} {w : World} {K : PySem.W.Frag} {mg : Str → Option Value} {base : Heap} {CX : CXT} {k : Nat} {f : Addr} {sp : Sp} (F : FnR P w K mg base CX k f sp) : FnG P w K mg base CX k f sp :=
  fun A outer s H us vs Q E _ hr e0 r h => F A outer s H us vs Q E hr e0 r h
/-- such a def of the module, by its name -/
def CalG (P : Program) (w : World) (K : PySem.W.Frag) (mg : Str → Option Value) (base : Heap) (CX : CXT) (k : Nat) (x : Str) (sp : Sp) : Prop := ∃ f : Addr, FnG P w K mg base CX k f sp ∧ mg x = some (.ref f) ∧ PySem.W.keepIn K (.ref f) = true
section
variable {X : Cx} {k j : Nat} {f : Addr} {sp : Sp} {x : Str} {p pos : Pos} {e : Expr} {es : List Expr} {t : TA} {CX : CXT} {E : XK}
theorem run_G {pins : List (Addr × Obj)} {σ : L2.St} {H : Hp} {s : Shared} {Q : VK} {us : List Value} {vs : List V} (F : FnG X.prog X.w X.K X.mg X.base CX k f sp) (cl : X.A.guards = some []) (hr : Room k X.A) (hx : Passes CX X E)
    (I : Inv X pins σ H s) (r : Vals vs us) (h : sp vs H Q E) : wpAny (model X.prog X.w) X.A (call (.ref f) us) (EP X pins σ Q) X.xe s := by
  refine wpAny_call (codeAny_mono (F X.A X.stack s H us vs Q E cl hr I.env0 r h) fun out s' q => ?_)
  cases out with
  | error e => exact hx pins σ H s e s' I q
  | ok fl => cases fl with
    | ret u => exact I.after q
    | next => exact q.elim
    | brk => exact q.elim
    | cont => exact q.elim
def tFE (sp : Sp) (E : XK) (t : TA) : TE := fun σ H Q => t σ H fun vs H1 => sp vs H1 Q E
/-- f(e, ..) -/
theorem pe_gE (c : CalG X.prog X.w X.K X.mg X.base CX k x sp) (cl : X.A.guards = some []) (hr : Room j X.A) (hk : k ≤ j) (hx : Passes CX X E) (hg : Gl X x) (ha : PA X (e :: es) t) (hdb : (x == ("__debug__" : Str)) = false := by decide)
    (he : starEach (e :: es) X.env = (false, eval e X.env) :: starEach es X.env := by rfl) (hpl : (backTo pos (starEach es X.env)).any (·.1) = false := by rfl) : PE X (.Call (.Name x p) (e :: es) [] pos) (tFE sp E t) := by
  obtain ⟨f, F, hm, hkp⟩ := c
  refine ⟨fun pins s σ H Q I h => ?_⟩
  refine wpAny_Call_Name_kw (ld_glob I hg hm ?_ hdb)
  refine PySem.W.callWith_K (h₀ := X.base) I.ok.mod.kin hkp (thn (ha.run pos pins s σ H _ I h) fun us s1 ⟨vs, H1, I1, r, q⟩ => ⟨I1.kIn, ?_⟩) he hpl
  exact run_G F cl (hr.mono hk) hx I1 r q
theorem pe_g (c : CalG X.prog X.w X.K X.mg X.base CX0 k x sp) (cl : X.A.guards = some []) (hr : Room j X.A) (hk : k ≤ j) (hg : Gl X x) (ha : PA X (e :: es) t) (hdb : (x == ("__debug__" : Str)) = false := by decide)
    (he : starEach (e :: es) X.env = (false, eval e X.env) :: starEach es X.env := by rfl) (hpl : (backTo pos (starEach es X.env)).any (·.1) = false := by rfl) : PE X (.Call (.Name x p) (e :: es) [] pos) (tF sp t) :=
  pe_gE c cl hr hk pass0 hg ha hdb he hpl
end
section
variable {P : Program} {w : World} {K : PySem.W.Frag} {mg : Str → Option Value} {base : Heap}
/-- a def of the text: its body is read where nothing is being shown -/
theorem fnG_ofX {CX : CXT} {x qual : Str} {st : Stmt} {f : Addr} {fd : FuncData} {N ps : List Str} {k : Nat} {sp : Sp} (F : L2.Fun K x qual st f fd) (b : Binds K fd ps []) (S : FnScope N ps (defScope st)) (len : ∀ vs H Q E, sp vs H Q E → vs.length = ps.length)
    (hbody : ∀ (cdv : Value) (A : Around) (outer : List Env) (s : Shared) (H : Hp) (vs : List V) (Q : VK) (E : XK), A.guards = some [] → Room k (A.deeper (envOfC qual (defScope st) s.heap.objs.size f cdv)) → sp vs H Q E →
      ∃ t, PSs (cxOf CX P w K mg base N qual (defScope st) f cdv A outer s H E) (defBody st) t ∧ t { nx := fun _ H' => Q .non H', rt := Q } (start N vs) H) : FnG P w K mg base CX (k + 1) f sp := by
  obtain ⟨oc, od, kV, doc, pm, an, cdv, ct, osl, rfl, lk, hcd⟩ := F.ex
  intro A outer s H us vs Q E cl hr e0 r hsp
  have hn := len _ _ _ _ hsp
  have inS : K.In s.heap := e0.mod.kin.keeps fun b o e => (e0.bs b o e).1
  have free : s.heap.NoLimit := e0.mod.nolimit.keeps fun b o e => (e0.bs b o e).1
  have hl : us.length = ps.length := r.length ▸ hn
  have bd := b s us inS (by rw [List.append_nil]; exact hl)
  rw [List.append_nil] at bd
  have kinds : ∀ y ∈ ps.zip us, (defScope st).names.lookup y.1 = some .local ∨ ((defScope st).names.lookup y.1 = some .cell ∧ ((cellsFrom (s.heap.objs.size + 1) (defScope st).names []).lookup y.1).isSome = true) := by
    rintro ⟨n, v⟩ hy
    exact (S.par n (List.of_mem_zip hy).1).imp id fun q => ⟨q, PySem.W.cellsFrom_some _ _ _ (.inl q)⟩
  refine codeAny_call_function hr.depth (inS _ _ lk) rfl S.co S.gen rfl (PySem.W.codeRec_of inS hcd) (bd _ _ _ _ ?_)
  refine wpAny_newFunctionEnv_cells S.kind kinds fun env hE s1 z => ?_
  cases hE
  refine ⟨free.keeps z.toInCall.keep, codeAny_func ?_⟩
  obtain ⟨t, ht, q⟩ := hbody cdv A outer s H vs Q E cl (hr.deeper _) hsp
  have I : Inv (cxOf CX P w K mg base N qual (defScope st) f cdv A outer s H E) [] (start N vs) H s1 := inv_start S hr.hd e0 hn r z
  refine wpAny_mono (ht.run [] s1 (start N vs) H _ I q) (fun fl s2 out => ?_) fun _ _ out => out
  cases fl with
  | ret u => obtain ⟨v, _, H2, J, rv, q2⟩ := out; exact ⟨v, H2, J.os, J.bare, J.base, J.hok, rv, q2⟩
  | next => obtain ⟨_, H2, J, q2⟩ := out; exact ⟨.non, H2, J.os, J.bare, J.base, J.hok, rfl, q2⟩
  | brk => exact out.elim fun _ z => z.elim fun _ z => z.2.elim
  | cont => exact out.elim fun _ z => z.elim fun _ z => z.2.elim
theorem fnG_of {x qual : Str} {st : Stmt} {f : Addr} {fd : FuncData} {N ps : List Str} {k : Nat} {sp : Sp} (F : L2.Fun K x qual st f fd) (b : Binds K fd ps []) (S : FnScope N ps (defScope st)) (len : ∀ vs H Q E, sp vs H Q E → vs.length = ps.length)
    (hbody : ∀ (cdv : Value) (A : Around) (outer : List Env) (s : Shared) (H : Hp) (vs : List V) (Q : VK) (E : XK), A.guards = some [] → Room k (A.deeper (envOfC qual (defScope st) s.heap.objs.size f cdv)) → sp vs H Q E →
      ∃ t, PSs (cxOf CX0 P w K mg base N qual (defScope st) f cdv A outer s H E).nox (defBody st) t ∧ t { nx := fun _ H' => Q .non H', rt := Q } (start N vs) H) : FnG P w K mg base CX0 (k + 1) f sp :=
  fnG_ofX F b S len fun cdv A outer s H vs Q E cl hr h => let ⟨t, h1, h2⟩ := hbody cdv A outer s H vs Q E cl hr h; ⟨t, h1.nox, h2⟩
end
/-! ### the law's own call -/
/-- what is tracked when the law begins: its script, if the module doesn't have it -/
def only1 (K : PySem.W.Frag) (a : Addr) (o : Obj) (xs : List V) : Hp := fun b => if b = a then (match K.lookup a with | some _ => none | none => some (.frz o (.lst xs))) else none
theorem law_G {P : Program} {w : World} {K : PySem.W.Frag} {mg mb : Str → Option Value} {k : Nat} {fa a : Addr} {sp : Sp} {s : Shared} {vs : List Value} {ns : List Int}
    (inS : K.In s.heap) (hm : s.heap.Ns mainGlobals mg) (hb : s.heap.Ns builtinsNs mb) (bb : ∀ x : Str, x ≠ "__name__" → mb x = bootBuiltins x) (free : s.heap.NoLimit) (hg : s.gens = #[])
    (ha : s.heap.get? a = some { cls := .type "list", data := .seq vs.toArray }) (hi : IntsAre vs ns) (hl : ns.length ≤ sizeLine) (hr : Room k callerA)
    (F : ∀ base : Heap, K.In base → base.Ns mainGlobals mg → FnG P w K mg base CX0 k fa sp)
    (hsp : ∀ H : Hp, Only H → SqL K H a (ns.map V.int) → sp [.ref a] H (fun v _ => v = .bl true) fun _ _ _ => False) :
    codeAny (model P w) callerA (.call (.ref fa) ⟨[.ref a], []⟩) (fun r s' => r = .ok (.ret (.bool true)) ∧ OldK s.heap s'.heap ∧ s'.os = s.os ∧ AllBare s'.gens) s := by
  let ob : Obj := { cls := .type "list", data := .seq vs.toArray }
  let H : Hp := only1 K a ob (ns.map V.int)
  have hH : ∀ b u, H b = some u → b = a ∧ K.lookup a = none ∧ u = .frz ob (.lst (ns.map V.int)) := by
    intro b u e
    have e1 : (if b = a then (match K.lookup a with | some _ => none | none => some (HO.frz ob (.lst (ns.map V.int)))) else none) = some u := e
    by_cases hba : b = a
    · rw [if_pos hba] at e1
      cases hk : K.lookup a with
      | some _ => rw [hk] at e1; cases e1
      | none => rw [hk] at e1; exact ⟨hba, rfl, (Option.some.inj e1).symm⟩
    · rw [if_neg hba] at e1; cases e1
  have only : Only H := fun b => by
    cases e : H b with
    | none => exact .inl rfl
    | some u => obtain ⟨_, _, rfl⟩ := hH b u e; exact .inr ⟨_, _, rfl⟩
  have rv := vals_ints hi
  have here : SqL K H a (ns.map V.int) := by
    cases hk : K.lookup a with
    | none =>
      refine .inl (.inr ⟨ob, ?_⟩)
      show (if a = a then (match K.lookup a with | some _ => none | none => some (HO.frz ob (.lst (ns.map V.int)))) else none) = _
      rw [if_pos rfl, hk]
    | some o =>
      have e := inS a o hk
      rw [ha] at e
      cases e
      exact .inr ⟨_, vs.toArray, _, hk, rfl, rfl, rfl, by rw [List.size_toArray, hi.length]; exact hl, by simpa using rv⟩
  have ok : HOk P w H s.heap := fun b u e => by
    obtain ⟨rfl, _, rfl⟩ := hH b u e
    exact ⟨ha, by rw [List.length_map]; exact hl, vs, _, rv, ha⟩
  have low : ∀ {b : Addr} {o : Obj}, s.heap.get? b = some o → H b = none → (hidT s.heap H).get? b = some o := fun e n => hidT_get e n
  have lowD : ∀ {b : Addr} {m : Str → Option Value}, s.heap.Ns b m → (hidT s.heap H).Ns b m := fun {b m} ⟨o, es, ep, e, d, r⟩ => ⟨o, es, ep, low e (by
    cases q : H b with
    | none => rfl
    | some u =>
      obtain ⟨rfl, _, _⟩ := hH b u q
      rw [ha] at e
      cases e
      cases (show Data.seq vs.toArray _ = Data.dict es ep from d)), d, r⟩
  have inB : K.In (hidT s.heap H) := fun b o e => low (inS b o e) (by
    cases q : H b with
    | none => rfl
    | some u =>
      obtain ⟨rfl, n, _⟩ := hH b u q
      rw [n] at e
      cases e)
  have M : Mod K mg (hidT s.heap H) := ⟨inB, lowD hm, ⟨mb, lowD hb, bb⟩, let ⟨mc, h1, h2⟩ := free; ⟨mc, lowD h1, h2⟩⟩
  have e0 : Env0 P w K mg (hidT s.heap H) callerA [] s H := ⟨rfl, M, fun b o e => of_hidT e, Nat.le_of_eq (hidT_size _ _), trivial, fun b z => absurd (show b ∈ ([] : List Addr) from z) (by simp), ok, .of_eq hg⟩
  refine codeAny_mono (F _ inB (lowD hm) callerA [] s H [.ref a] [.ref a] _ _ rfl hr e0 (.cons rfl .nil) (hsp H only here)) fun r s' h => ?_
  cases r with
  | error e => exact h.elim
  | ok fl =>
    cases fl with
    | ret u =>
      obtain ⟨v, H', os, bare, un, ok', r', q⟩ := h
      cases (show v = V.bl true from q)
      cases (show u = Value.bool true from r')
      refine ⟨rfl, OldK.of_keep fun b o e => ?_, os, bare⟩
      cases z : H b with
      | none => exact un.keep b o e z (fun y => absurd (show b ∈ ([] : List Addr) from y) (by simp)) (by simp)
      | some u =>
        obtain ⟨rfl, _, rfl⟩ := hH b u z
        rw [ha] at e
        cases e
        exact (ok' b _ (un.frzs b _ _ z)).1
    | next => exact h.elim
    | brk => exact h.elim
    | cont => exact h.elim
/-- the goal behind the top, from the law's promise -/
theorem walk_G {l : PySem.W.OpenLaw} {n k : Nat} {q : Program} {loose : List Str} {XP : (Str → Option Value) → Heap → Prop} {YP : World → Heap → Prop} {d : DefRec} {K : Params → PySem.W.Frag} {sp : World → Sp}
    (hn : l.most = some n) (hn2 : n ≤ sizeLine) (hdf : d.params.defaults = []) (hr : Room k callerA) (hY : ∀ (w : World) (h : Heap), YP w h → (K w.params).In h)
    (F : ∀ (w : World) (mg : Str → Option Value) (fa : Addr) (h : Heap), (K w.params).In h → h.Ns mainGlobals mg → mg d.name = some (.ref fa) → ∀ base : Heap, (K w.params).In base → base.Ns mainGlobals mg → FnG l.prog w (K w.params) mg base CX0 k fa (sp w))
    (hsp : ∀ (w : World) (H : Hp) (a : Addr) (ns : List Int), ns.length ≤ n → Only H → SqL (K w.params) H a (ns.map V.int) → sp w [.ref a] H (fun v _ => v = .bl true) fun _ _ _ => False) :
    PySem.W.WalkO q loose XP YP l.row.toRowW d [] (fun f vs => PySem.call f vs) :=
  Att.attach_call hn hdf fun w s₀ s mg mb fa o pm cd doc a vs ns G Y ho hd hcd hmg hobj hints hlen hg =>
    law_G (hY w _ Y) G.T.g G.T.b G.T.builtins G.T.nolimit hg hobj hints (Nat.le_trans hlen hn2) hr (F w mg fa _ (hY w _ Y) G.T.g hmg) fun H hO hS => hsp w H a ns hlen hO hS
end Ws

namespace Ws
open PySem PySem.Spec PyProof.Rows L2
/-! ### repr of plain data -/
mutual
/-- data of short numbers and texts of real signs -/
def Tdy : PyData → Prop
  | .none => True
  | .bool _ => True
  | .int i => i.natAbs.log2 < 1900
  | .str x => ∀ c ∈ x.cps.toList, c < 16 ^ 8
  | .list xs => TdyA xs
  | .tuple xs => TdyA xs
  | .dict _ => False
def TdyA : List PyData → Prop
  | [] => True
  | x :: xs => Tdy x ∧ TdyA xs
end
mutual
theorem Tdy.get : ∀ {d : PyData}, Tdy d → d.showable = true ∧ d.hasDict = false ∧ d.leavesShort 1901 = true
  | .none, _ => ⟨rfl, rfl, rfl⟩
  | .bool _, _ => ⟨rfl, rfl, rfl⟩
  | .int i, h => by
    have h' : i.natAbs.log2 < 1900 := h
    refine ⟨?_, rfl, ?_⟩
    · simp only [PyData.showable, decide_eq_true_eq]; omega
    · show decide ((Str.ofString (toString i)).length ≤ 1901) = true
      rw [decide_eq_true_eq, PySem.ofString_length]
      exact int_text_length_le (by decide) h'
  | .str x, h => ⟨rfl, rfl, by simp only [PyData.leavesShort, List.all_eq_true, decide_eq_true_eq]; exact h⟩
  | .list xs, h => by
    obtain ⟨a, b, c⟩ := TdyA.get (xs := xs) h
    exact ⟨by simpa only [PyData.showable] using a, by simpa only [PyData.hasDict] using b, by simpa only [PyData.leavesShort] using c⟩
  | .tuple xs, h => by
    obtain ⟨a, b, c⟩ := TdyA.get (xs := xs) h
    exact ⟨by simpa only [PyData.showable] using a, by simpa only [PyData.hasDict] using b, by simpa only [PyData.leavesShort] using c⟩
  | .dict _, h => False.elim h
theorem TdyA.get : ∀ {xs : List PyData}, TdyA xs → PyData.showableAll xs = true ∧ PyData.hasDictAll xs = false ∧ PyData.leavesShortAll 1901 xs = true
  | [], _ => ⟨rfl, rfl, rfl⟩
  | x :: xs, h => by
    obtain ⟨h1, h2⟩ := (show Tdy x ∧ TdyA xs from h)
    obtain ⟨a, b, c⟩ := Tdy.get h1
    obtain ⟨d, e, f⟩ := TdyA.get h2
    exact ⟨by simp only [PyData.showableAll, a, d, Bool.and_self], by simp only [PyData.hasDictAll, b, e, Bool.or_self], by simp only [PyData.leavesShortAll, c, f, Bool.and_self]⟩
end
/-- a value that is shown -/
def Shw (K : PySem.W.Frag) (H : Hp) (x : V) (d : PyData) : Prop := Dp K H x d ∧ Tdy d ∧ d.bulk ≤ 8000 ∧ d.depth ≤ 60
section
variable {X : Cx}
def rRep (K : PySem.W.Frag) : List V → Hp → VK → Prop := fun xs H Q => ∃ a d, xs = [V.ref a] ∧ Shw K H (.ref a) d ∧ Q (.str d.shown) H
theorem call_rep {j : Nat} (cl : X.A.guards = some []) (hr : Room j X.A) : CallR X (.builtin "repr") (rRep X.K) := by
  intro pins s σ H xs us Q I r h
  obtain ⟨a, d, rfl, ⟨dp, ty, bk, de⟩, q⟩ := h
  obtain ⟨u, rfl, ru⟩ := vals1 r
  cases (show u = Value.ref a from ru)
  obtain ⟨as, rd⟩ := Dp.reads I d _ _ dp rfl
  obtain ⟨sh, nd, sl⟩ := ty.get
  have sz := PyData.shown_le_bulk 1901 (by decide) d sl
  have sz2 : d.shown.length ≤ sizeLine := by
    have : sizeLine = 16777216 := by decide
    have : (1901 + 2) * d.bulk ≤ 1903 * 8000 := Nat.mul_le_mul (by decide) bk
    omega
  refine repr_of_reads' rd sh (PyData.noDict_hsm nd) cl ?_ (fun _ _ e => e) (fun h' u tk hk => ⟨.str d.shown, H, I.kept hk, ⟨u, rfl⟩, q⟩) sz2
  have := hr.un
  omega
end
end Ws
namespace Ws
open PySem PySem.Spec PyProof.Rows L2
section
variable {X : Cx} {j k : Nat} {C : Addr} {sp : Sp}
/-- abs(a) by a's own __abs__ -/
theorem call_absO (c : OpnF X.prog X.w X.K X.mg X.base k C "__abs__" sp) (hr : Room j X.A) (hk : k + 1 ≤ j) : CallR X (.builtin "abs") (fun xs H Q => ∃ a dx fs, xs = [V.ref a] ∧ H a = some (.ins C dx fs) ∧ sp [.ref a] H Q E0) := by
  obtain ⟨f, h1, h2, F⟩ := c
  intro pins s σ H xs us Q I r h
  obtain ⟨a, dx, fs, rfl, ea, q⟩ := h
  obtain ⟨u, rfl, ru⟩ := vals1 r
  cases (show u = Value.ref a from ru)
  obtain ⟨ox, od, J⟩ := inst_of I ea
  refine Calls.call_function_entry kind_abs plain_abs entry_abs (args_abs _) ?_
  unfold Builtin.«abs»
  refine wpAny_bind (m := oneArg "abs" _) (wpAny_pure ?_)
  refine wpAny_bind (PySem.W.special_fn I.kIn J h1 (beq_iff_eq.mp h2) (wpAny_mono (run_in1 (us := [.ref a]) (vs := [.ref a]) F (hr.mono hk) I (.cons rfl .nil) q) (fun v s' hv => ?_) fun _ _ z => z))
  exact wpAny_pure ⟨_, rfl, hv⟩
end
end Ws
namespace Ws
open PySem PySem.Spec PyProof.Rows L2
section
variable {prog : Program} {w : World}
theorem bool_new_own {x : Addr} : MeetsIn prog w (Builtin.«bool.__new__» ⟨[.type "bool", .ref x], []⟩) (fun A R s => wpAny (model prog w) A.in1 (truthy (.ref x)) (fun b s' => R (.ok (.ret (.bool b))) s') (fun e s' => R (.error e) s') s) :=
  .of_wp fun A R s h => by
    have f1 := F.conv_sub_bool
    unfold Builtin.«bool.__new__»
    repeat (first
      | assumption
      | (refine wpAny_bind (m := truthy (.ref x)) (wpAny_mono h (fun b s' q => ?_) fun _ _ z => z))
      | wp_step)
    all_goals first | exact q | exact ⟨_, rfl, q⟩ | skip
theorem run_in2 {X : Cx} {k : Nat} {sp : Sp} {f : Addr} {pins : List (Addr × Obj)} {σ : L2.St} {H : Hp} {s : Shared} {Q : VK} {us : List Value} {vs : List V} {Ex : Value → Shared → Prop} (F : FnR X.prog X.w X.K X.mg X.base CX0 k f sp) (hr : Room (k + 2) X.A) (I : Inv X pins σ H s) (r : Vals vs us) (h : sp vs H Q E0) :
    wpAny (model X.prog X.w) X.A.in1.in1 (call (.ref f) us) (EP X pins σ Q) Ex s := by
  refine wpAny_call (codeAny_mono (F X.A.in1.in1 X.stack s H us vs Q E0 (Room.in1 (Room.in1 hr)) I.env0.in1.in1 r h) fun r s' hq => ?_)
  cases r with
  | error er => exact hq.elim
  | ok fl =>
    cases fl with
    | ret u => exact I.after hq
    | next => exact False.elim hq
    | brk => exact False.elim hq
    | cont => exact False.elim hq
section
variable {X : Cx} {j k : Nat} {C : Addr} {sp : Sp}
/-- bool(a) by a's own __bool__ -/
theorem call_boolO (c : OpnF X.prog X.w X.K X.mg X.base k C "__bool__" sp) (hr : Room j X.A) (hk : k + 2 ≤ j) : CallR X (.type "bool") (fun xs H Q => ∃ a dx fs, xs = [V.ref a] ∧ H a = some (.ins C dx fs) ∧ sp [.ref a] H (fun v H' => ∃ b, v = .bl b ∧ Q (.bl b) H') E0) := by
  obtain ⟨f, h1, h2, G⟩ := c
  intro pins s σ H xs us Q I r h
  obtain ⟨a, dx, fs, rfl, ea, q⟩ := h
  obtain ⟨u, rfl, ru⟩ := vals1 r
  cases (show u = Value.ref a from ru)
  obtain ⟨ox, od, J⟩ := inst_of I ea
  obtain ⟨m, hF⟩ := I.fr
  refine callType_newIn PySem.F.called_bool PySem.F.newNe_bool (PySem.F.typeCall_bool_1 _) (PySem.F.newCall_bool_1 _) (fun obj => PySem.F.args_object_init_2 obj _) PySem.F.entry_bool_new bool_new_own ?_
  refine PySem.W.truthy_K hF I.ok.mod.kin J h1 h2 (wpAny_mono (run_in2 (us := [.ref a]) (vs := [.ref a]) G (hr.mono hk) I (.cons rfl .nil) q) (fun r s' hv => ?_) fun _ _ z => z)
  obtain ⟨y, H', I', ry, b, rfl, qb⟩ := hv
  cases (show r = Value.bool b from ry)
  exact ⟨rfl, .bl b, H', I', rfl, qb⟩
end
end
end Ws

namespace Ws
open PySem PySem.Spec PyProof.Rows L2
abbrev sWhole : Stmt := (PySem.Challenge.pw_whatspeed_k02_sums_and_compares.main.body.getD 6 (.Pass ⟨0, 0, 0, 0⟩))
abbrev NWhole : List Str := ["value"]
abbrev PWhole : List Str := ["value"]
theorem scWhole : FnScope NWhole PWhole (defScope sWhole) := ⟨rfl, rfl, rfl, by decide +kernel, rfl, by decide +kernel, by decide +kernel⟩
abbrev sNum : Stmt := (inClass (PySem.Challenge.pw_whatspeed_k02_sums_and_compares.main.body.getD 7 (.Pass ⟨0, 0, 0, 0⟩)) 0)
abbrev NNum : List Str := ["self", "top", "bottom", "shared"]
abbrev PNum : List Str := ["self", "top", "bottom"]
theorem scNum : FnScope NNum PNum (defScope sNum) := ⟨rfl, rfl, rfl, by decide +kernel, rfl, by decide +kernel, by decide +kernel⟩
abbrev sNTop : Stmt := (inClass (PySem.Challenge.pw_whatspeed_k02_sums_and_compares.main.body.getD 7 (.Pass ⟨0, 0, 0, 0⟩)) 1)
abbrev NNTop : List Str := ["self"]
abbrev PNTop : List Str := ["self"]
theorem scNTop : FnScope NNTop PNTop (defScope sNTop) := ⟨rfl, rfl, rfl, by decide +kernel, rfl, by decide +kernel, by decide +kernel⟩
abbrev sNBot : Stmt := (inClass (PySem.Challenge.pw_whatspeed_k02_sums_and_compares.main.body.getD 7 (.Pass ⟨0, 0, 0, 0⟩)) 2)
abbrev NNBot : List Str := ["self"]
abbrev PNBot : List Str := ["self"]
theorem scNBot : FnScope NNBot PNBot (defScope sNBot) := ⟨rfl, rfl, rfl, by decide +kernel, rfl, by decide +kernel, by decide +kernel⟩
abbrev sNEq : Stmt := (inClass (PySem.Challenge.pw_whatspeed_k02_sums_and_compares.main.body.getD 7 (.Pass ⟨0, 0, 0, 0⟩)) 3)
abbrev NNEq : List Str := ["self", "other"]
abbrev PNEq : List Str := ["self", "other"]
theorem scNEq : FnScope NNEq PNEq (defScope sNEq) := ⟨rfl, rfl, rfl, by decide +kernel, rfl, by decide +kernel, by decide +kernel⟩
abbrev sNBool : Stmt := (inClass (PySem.Challenge.pw_whatspeed_k02_sums_and_compares.main.body.getD 7 (.Pass ⟨0, 0, 0, 0⟩)) 4)
abbrev NNBool : List Str := ["self"]
abbrev PNBool : List Str := ["self"]
theorem scNBool : FnScope NNBool PNBool (defScope sNBool) := ⟨rfl, rfl, rfl, by decide +kernel, rfl, by decide +kernel, by decide +kernel⟩
abbrev sNAdd : Stmt := (inClass (PySem.Challenge.pw_whatspeed_k02_sums_and_compares.main.body.getD 7 (.Pass ⟨0, 0, 0, 0⟩)) 5)
abbrev NNAdd : List Str := ["self", "other"]
abbrev PNAdd : List Str := ["self", "other"]
theorem scNAdd : FnScope NNAdd PNAdd (defScope sNAdd) := ⟨rfl, rfl, rfl, by decide +kernel, rfl, by decide +kernel, by decide +kernel⟩
abbrev sNSub : Stmt := (inClass (PySem.Challenge.pw_whatspeed_k02_sums_and_compares.main.body.getD 7 (.Pass ⟨0, 0, 0, 0⟩)) 6)
abbrev NNSub : List Str := ["self", "other"]
abbrev PNSub : List Str := ["self", "other"]
theorem scNSub : FnScope NNSub PNSub (defScope sNSub) := ⟨rfl, rfl, rfl, by decide +kernel, rfl, by decide +kernel, by decide +kernel⟩
abbrev sNMul : Stmt := (inClass (PySem.Challenge.pw_whatspeed_k02_sums_and_compares.main.body.getD 7 (.Pass ⟨0, 0, 0, 0⟩)) 7)
abbrev NNMul : List Str := ["self", "other"]
abbrev PNMul : List Str := ["self", "other"]
theorem scNMul : FnScope NNMul PNMul (defScope sNMul) := ⟨rfl, rfl, rfl, by decide +kernel, rfl, by decide +kernel, by decide +kernel⟩
/-! ### a Number, a Line in the heap -/
def nF (t b : Int) : List (Str × V) := [("_top", .int t), ("_bottom", .int b)]
def NumAt (C : Addr) (H : Hp) (a : Addr) (t b : Int) : Prop := ∃ dx, H a = some (.ins C dx (nF t b))
theorem nF_top (t b : Int) : (nF t b).lookup ("_top" : Str) = some (.int t) := lk_here
theorem nF_bot (t b : Int) : (nF t b).lookup ("_bottom" : Str) = some (.int b) := (lk_past (by decide +kernel)).trans lk_here
theorem NumAt.same {C : Addr} {H H' : Hp} {a : Addr} {t b : Int} (h : NumAt C H a t b) (s : Same H H') : NumAt C H' a t b := let ⟨dx, e⟩ := h; ⟨dx, s _ _ e⟩
theorem NumAt.ch {C : Addr} {H H' : Hp} {p a : Addr} {t b : Int} (h : NumAt C H a t b) (s : Ch p H H') (n : a ≠ p) : NumAt C H' a t b := let ⟨dx, e⟩ := h; ⟨dx, s _ _ n e⟩
/-- what the class Number must be -/
structure NumC (K : PySem.W.Frag) (C : Addr) : Prop where
  cl : Cls K C
  nT : NoAttr K C "_top"
  nB : NoAttr K C "_bottom"
  ha : PySem.W.findIn K (.ref C) "__class__" = some (some (.builtin "object.__class__"))
  hn : PySem.W.specialIn K (.builtin "object.__class__") "__get__" = some (some (.builtin "getset_descriptor.__get__"))
  htk : PySem.W.takesIn K (.builtin "object.__class__") = some true
  hm : PySem.W.mroIn K C (.type "object") = some true
  kk : PySem.W.kitOne K (.ref C) (.ref C) = some true
  sf : PySem.W.selfFirst K C = true
  nf : PySem.W.notFirst K C (.ref C) = true
theorem NumC.ty {K : PySem.W.Frag} {C : Addr} (c : NumC K C) {H : Hp} {a dx : Addr} {fs : List (Str × V)} (e : H a = some (.ins C dx fs)) : TyX K H (.ref a) (.ref C) := .base (.ins e c.cl c.ha c.hn c.htk c.hm)
/-! ### promises -/
def spWhole : Sp := fun vs H Q _ => ∃ i : Int, vs = [.int i] ∧ Q (.bl true) H
def spNum (C : Addr) : Sp := fun vs H Q _ => ∃ (x dx : Addr) (t b : Int), vs = [.ref x, .int t, .int b] ∧ b ≠ 0 ∧ Sz 8000 b ∧ H x = some (.ins C dx []) ∧
  ∀ H', NumAt C H' x (nT t b) (nB t b) → (∀ a o, H a = some o → a ≠ x → H' a = some o) → Q .non H'
def spTop (C : Addr) : Sp := fun vs H Q _ => ∃ (a : Addr) (t b : Int), vs = [.ref a] ∧ NumAt C H a t b ∧ Q (.int t) H
def spBot (C : Addr) : Sp := fun vs H Q _ => ∃ (a : Addr) (t b : Int), vs = [.ref a] ∧ NumAt C H a t b ∧ Q (.int b) H
def spNEq (C : Addr) : Sp := fun vs H Q _ => ∃ (a c : Addr) (t b p q : Int), vs = [.ref a, .ref c] ∧ NumAt C H a t b ∧ NumAt C H c p q ∧ Q (.bl (decide (t = p ∧ b = q))) H
def spNBool (C : Addr) : Sp := fun vs H Q _ => ∃ (a : Addr) (t b : Int), vs = [.ref a] ∧ NumAt C H a t b ∧ Q (.bl (t != 0)) H
/-- a new Number at a place that was free -/
def spOp2 (C : Addr) (f g : Int → Int → Int → Int → Int) : Sp := fun vs H Q _ => ∃ (a c : Addr) (t b p q : Int), vs = [.ref a, .ref c] ∧ NumAt C H a t b ∧ NumAt C H c p q ∧ Sz 2000 t ∧ Sz 2000 b ∧ Sz 2000 p ∧ Sz 2000 q ∧ g t b p q ≠ 0 ∧
  ∀ x H', H x = none → NumAt C H' x (nT (f t b p q) (g t b p q)) (nB (f t b p q) (g t b p q)) → Same H H' → Q (.ref x) H'
abbrev spAdd (C : Addr) : Sp := spOp2 C (fun t b p q => t * q + p * b) (fun _ b _ q => b * q)
abbrev spSub (C : Addr) : Sp := spOp2 C (fun t b p q => t * q - p * b) (fun _ b _ q => b * q)
abbrev spMul (C : Addr) : Sp := spOp2 C (fun t b p q => t * p) (fun _ b _ q => b * q)
section
variable {P : Program} {w : World} {K : PySem.W.Frag} {mg : Str → Option Value} {base : Heap} {C f : Addr} {fd : FuncData}
theorem ok_whole (F : L2.Fun K "is_whole" "is_whole" sWhole f fd) (b : Binds K fd PWhole []) (B : Bi mg) : FnR P w K mg base CX0 1 f spWhole := by
  refine fnR_of F b scWhole (fun vs H Q E h => ?_) (fun cdv A outer s H vs Q E hr h => ?_)
  · obtain ⟨i, rfl, _⟩ := h
    rfl
  · have sc := scWhole
    obtain ⟨i, rfl, k⟩ := h
    refine ⟨_, (pss_one (ps_ret (pe_and (pe_callB call_isi (by rfl) B.isinstance (by decide +kernel) (pa_cons (pv 0) (pa_cons (pe_bltn (v := .ty "int") (by rfl) B.int (by decide +kernel) rfl) pa_nil))) (pe_one (pe_not (pe_callB call_isi (by rfl) B.isinstance (by decide +kernel) (pa_cons (pv 0) (pa_cons (pe_bltn (v := .ty "bool") (by rfl) B.bool (by decide +kernel) rfl) pa_nil)))))))), ?_⟩
    refine ⟨_, rfl, _, _, _, _, true, rfl, .ty _, .base (.int i), kit_ty (by decide +kernel), true, rfl, iteT ?_⟩
    exact ⟨_, rfl, _, _, _, _, false, rfl, .ty _, .base (.int i), kit_ty (by decide +kernel), false, rfl, k⟩
theorem ok_num {dvs' : List V} {ds : List Value} {dvs : List V} {sp' : Sp} (F : FunD K "__init__" "Number.__init__" (defArgs sNum) (defBody sNum) (defScope sNum) dvs [] f fd) (b : Binds K fd PNum ds) (d : Vals dvs' ds) (imp : ∀ vs H Q E, sp' vs H Q E → spNum C (vs ++ dvs') H Q E)
    (B : Bi mg) (NC : NumC K C) (hgcd : mg "gcd" = some (.builtin "math.gcd")) (cW : CalF P w K mg base 1 "is_whole" spWhole) : FnR P w K mg base CX0 2 f sp' := by
  refine fnD_of F b d scNum (sp := spNum C) (fun vs H Q E h => ?_) imp (fun cdv A outer s H vs Q E hr h => ?_)
  · obtain ⟨x, dx, t, b, rfl, _⟩ := h
    rfl
  · have sc := scNum
    obtain ⟨x, dx, t, b, rfl, hb, hz, hx, k⟩ := h
    refine ⟨_, (pss_cons (ps_if (PW.pt (pw_or (pt_not (pt_val (pe_f cW hr (by decide) rfl (pa_cons (pv 1) pa_nil)))) (pw_or (pt_not (pt_val (pe_f cW hr (by decide) rfl (pa_cons (pv 2) pa_nil)))) (pw_or1 (pt_cmpR op_eq (pv 2) pe_int (nomark _)))))) (pss_one ps_never) pss_nil) (pss_cons (ps_set (i := 3) sc.nd rfl (Or.inl rfl) (pe_callBfun cr_gcd (by rfl) hgcd (pa_cons (pv 1) (pa_cons (pv 2) pa_nil)))) (pss_cons (ps_if (pt_cmpR op_lt (pv 2) pe_int (nomark _)) (pss_one (ps_set (i := 3) sc.nd rfl (Or.inl rfl) (pe_un un_neg (pv 3)))) pss_nil) (pss_cons (ps_fld (pv 0) (pe_op op_fdivZ (pv 1) (pv 3)) rfl) (pss_one (ps_fld (pv 0) (pe_op op_fdivZ (pv 2) (pv 3)) rfl)))))), ?_⟩
    refine ⟨_, rfl, t, rfl, true, rfl, iteF ?_⟩
    refine ⟨_, rfl, b, rfl, true, rfl, iteF ?_⟩
    refine ⟨_, rfl, rfl, _, rfl, ?_⟩
    refine ifF (by simpa using hb) ?_
    refine ⟨_, rfl, _, rfl, _, _, rfl, ?_⟩
    refine ⟨_, rfl, _, _, rfl, rfl, _, rfl, ?_⟩
    have hs : Sz 8000 (gS t b) := by
      have := Sz.gI (t := t) hb hz
      unfold gS
      split
      · exact this.neg
      · exact this
    have fin : ∀ {Qn : Ends} {y : Int}, y = gS t b → tSeq (sFld K (tVar 0) (tOp (rI (fun _ j => j ≠ 0 ∧ j.natAbs.log2 < 9000) fun i j => .int (i.fdiv j)) (tVar 1) (tVar 3)) "_top") (sFld K (tVar 0) (tOp (rI (fun _ j => j ≠ 0 ∧ j.natAbs.log2 < 9000) fun i j => .int (i.fdiv j)) (tVar 2) (tVar 3)) "_bottom")
        { nx := fun _ H' => Q .non H', rt := Q } [some (.ref x), some (.int t), some (.int b), some (.int y)] H := by
      rintro Qn y rfl
      have h9 : (gS t b).natAbs.log2 < 9000 := Nat.lt_of_lt_of_le (PySem.Flt.log2_lt_of (by decide) hs) (by decide)
      refine ⟨_, rfl, _, rfl, _, _, rfl, rfl, ⟨gS_ne hb, h9⟩, _, rfl, x, C, dx, [], rfl, hx, NC.cl, NC.nT, (by show 0 < 1000; decide), ?_⟩
      refine ⟨_, rfl, _, rfl, _, _, rfl, rfl, ⟨gS_ne hb, h9⟩, _, rfl, x, C, dx, _, rfl, upd_same, NC.cl, NC.nB, (by show 1 < 1000; decide), ?_⟩
      refine k _ ⟨dx, upd_same.trans (congrArg some (congrArg (HO.ins C dx) ?_))⟩ fun a o e n => ?_
      · exact (put_past (by decide +kernel)).trans rfl
      · rw [upd_ne n, upd_ne n]
        exact e
    by_cases hn : b < 0
    · refine ifT (by simpa using hn) ?_
      refine ⟨_, rfl, _, rfl, ?_⟩
      refine fin (Qn := { nx := fun _ H' => Q .non H', rt := Q }) ?_
      unfold gS gI
      rw [if_pos hn]
    · refine ifF (by simpa using hn) ?_
      refine fin (Qn := { nx := fun _ H' => Q .non H', rt := Q }) ?_
      unfold gS gI
      rw [if_neg hn]
theorem ok_top (F : L2.Fun K "top" "Number.top" sNTop f fd) (b : Binds K fd PNTop []) (NC : NumC K C) : FnR P w K mg base CX0 1 f (spTop C) := by
  refine fnR_of F b scNTop (fun vs H Q E h => ?_) (fun cdv A outer s H vs Q E hr h => ?_)
  · obtain ⟨a, t, b, rfl, _⟩ := h
    rfl
  · have sc := scNTop
    obtain ⟨a, t, b, rfl, ⟨dx, e⟩, k⟩ := h
    refine ⟨_, (pss_one (ps_ret (pe_fld (pv 0) rfl))), ?_⟩
    exact ⟨_, rfl, a, C, dx, _, _, rfl, e, NC.cl, NC.nT, nF_top _ _, k⟩
theorem ok_bot (F : L2.Fun K "bottom" "Number.bottom" sNBot f fd) (b : Binds K fd PNBot []) (NC : NumC K C) : FnR P w K mg base CX0 1 f (spBot C) := by
  refine fnR_of F b scNBot (fun vs H Q E h => ?_) (fun cdv A outer s H vs Q E hr h => ?_)
  · obtain ⟨a, t, b, rfl, _⟩ := h
    rfl
  · have sc := scNBot
    obtain ⟨a, t, b, rfl, ⟨dx, e⟩, k⟩ := h
    refine ⟨_, (pss_one (ps_ret (pe_fld (pv 0) rfl))), ?_⟩
    exact ⟨_, rfl, a, C, dx, _, _, rfl, e, NC.cl, NC.nB, nF_bot _ _, k⟩
theorem ok_neq (F : L2.Fun K "__eq__" "Number.__eq__" sNEq f fd) (b : Binds K fd PNEq []) (B : Bi mg) (NC : NumC K C) (gN : mg "Number" = some (.ref C)) : FnR P w K mg base CX0 1 f (spNEq C) := by
  refine fnR_of F b scNEq (fun vs H Q E h => ?_) (fun cdv A outer s H vs Q E hr h => ?_)
  · obtain ⟨a, c, t, b, p, q, rfl, _⟩ := h
    rfl
  · have sc := scNEq
    obtain ⟨a, c, t, b, p, q, rfl, ⟨dx, ea⟩, ⟨dy, ec⟩, k⟩ := h
    refine ⟨_, (pss_one (ps_ret (pe_and (pe_callB call_isi (by rfl) B.isinstance (by decide +kernel) (pa_cons (pv 1) (pa_cons (pe_glob (v := .ref C) rfl gN rfl) pa_nil))) (pe_and (pe_cmpR op_eq (pe_fld (pv 0) rfl) (pe_fld (pv 1) rfl) (nomark _)) (pe_one (pe_cmpR op_eq (pe_fld (pv 0) rfl) (pe_fld (pv 1) rfl) (nomark _))))))), ?_⟩
    refine ⟨_, rfl, _, _, _, _, true, rfl, .own C, NC.ty ec, NC.kk, true, rfl, iteT ?_⟩
    refine ⟨_, rfl, a, C, dx, _, _, rfl, ea, NC.cl, NC.nT, nF_top _ _, _, rfl, c, C, dy, _, _, rfl, ec, NC.cl, NC.nT, nF_top _ _, rfl, _, rfl, ?_⟩
    by_cases h1 : t = p
    · subst h1
      refine ifT (by simp) ?_
      refine ⟨_, rfl, a, C, dx, _, _, rfl, ea, NC.cl, NC.nB, nF_bot _ _, _, rfl, c, C, dy, _, _, rfl, ec, NC.cl, NC.nB, nF_bot _ _, rfl, ?_⟩
      simpa using k
    · refine ifF (by simpa using h1) ?_
      simpa [h1] using k
theorem ok_nbool (F : L2.Fun K "__bool__" "Number.__bool__" sNBool f fd) (b : Binds K fd PNBool []) (B : Bi mg) (NC : NumC K C) : FnR P w K mg base CX0 1 f (spNBool C) := by
  refine fnR_of F b scNBool (fun vs H Q E h => ?_) (fun cdv A outer s H vs Q E hr h => ?_)
  · obtain ⟨a, t, b, rfl, _⟩ := h
    rfl
  · have sc := scNBool
    obtain ⟨a, t, b, rfl, ⟨dx, ea⟩, k⟩ := h
    refine ⟨_, (pss_one (ps_ret (pe_callTy call_bool1 (by rfl) B.bool (by decide +kernel) (pa_cons (pe_fld (pv 0) rfl) pa_nil)))), ?_⟩
    exact ⟨_, rfl, a, C, dx, _, _, rfl, ea, NC.cl, NC.nT, nF_top _ _, .inl ⟨t, rfl, k⟩⟩
theorem ok_nadd (F : L2.Fun K "__add__" "Number.__add__" sNAdd f fd) (b : Binds K fd PNAdd []) (NC : NumC K C) (mN : MakF P w K mg base 2 "Number" C (spNum C)) : FnR P w K mg base CX0 4 f (spAdd C) := by
  refine fnR_of F b scNAdd (fun vs H Q E h => ?_) (fun cdv A outer s H vs Q E hr h => ?_)
  · obtain ⟨a, c, t, b, p, q, rfl, _⟩ := h
    rfl
  · have sc := scNAdd
    obtain ⟨a, c, t, b, p, q, rfl, ⟨dx, ea⟩, ⟨dy, ec⟩, z1, z2, z3, z4, h0, k⟩ := h
    refine ⟨_, (pss_one (ps_ret (pe_mk mN hr (by decide) rfl (pa_cons (pe_op op_add (pe_op op_mulW (pe_fld (pv 0) rfl) (pe_fld (pv 1) rfl)) (pe_op op_mulW (pe_fld (pv 1) rfl) (pe_fld (pv 0) rfl))) (pa_cons (pe_op op_mulW (pe_fld (pv 0) rfl) (pe_fld (pv 1) rfl)) pa_nil))))), ?_⟩
    refine ⟨_, rfl, a, C, dx, _, _, rfl, ea, NC.cl, NC.nT, nF_top _ _, _, rfl, c, C, dy, _, _, rfl, ec, NC.cl, NC.nB, nF_bot _ _, _, _, rfl, rfl, wide_mul z1 z4 (by decide) (by decide) (by decide), ?_⟩
    refine ⟨_, rfl, c, C, dy, _, _, rfl, ec, NC.cl, NC.nT, nF_top _ _, _, rfl, a, C, dx, _, _, rfl, ea, NC.cl, NC.nB, nF_bot _ _, _, _, rfl, rfl, wide_mul z3 z2 (by decide) (by decide) (by decide), _, _, rfl, rfl, ?_⟩
    refine ⟨_, rfl, a, C, dx, _, _, rfl, ea, NC.cl, NC.nB, nF_bot _ _, _, rfl, c, C, dy, _, _, rfl, ec, NC.cl, NC.nB, nF_bot _ _, _, _, rfl, rfl, wide_mul z2 z4 (by decide) (by decide) (by decide), ?_⟩
    intro x d nx nd ne
    refine ⟨x, d, _, _, rfl, h0, (z2.mul z4).mono (by decide), upd_same, fun H1 h1 k1 => ⟨rfl, ?_⟩⟩
    exact k x H1 nx h1 (Same.mk nx nd k1)
theorem ok_nsub (F : L2.Fun K "__sub__" "Number.__sub__" sNSub f fd) (b : Binds K fd PNSub []) (NC : NumC K C) (mN : MakF P w K mg base 2 "Number" C (spNum C)) : FnR P w K mg base CX0 4 f (spSub C) := by
  refine fnR_of F b scNSub (fun vs H Q E h => ?_) (fun cdv A outer s H vs Q E hr h => ?_)
  · obtain ⟨a, c, t, b, p, q, rfl, _⟩ := h
    rfl
  · have sc := scNSub
    obtain ⟨a, c, t, b, p, q, rfl, ⟨dx, ea⟩, ⟨dy, ec⟩, z1, z2, z3, z4, h0, k⟩ := h
    refine ⟨_, (pss_one (ps_ret (pe_mk mN hr (by decide) rfl (pa_cons (pe_op op_sub (pe_op op_mulW (pe_fld (pv 0) rfl) (pe_fld (pv 1) rfl)) (pe_op op_mulW (pe_fld (pv 1) rfl) (pe_fld (pv 0) rfl))) (pa_cons (pe_op op_mulW (pe_fld (pv 0) rfl) (pe_fld (pv 1) rfl)) pa_nil))))), ?_⟩
    refine ⟨_, rfl, a, C, dx, _, _, rfl, ea, NC.cl, NC.nT, nF_top _ _, _, rfl, c, C, dy, _, _, rfl, ec, NC.cl, NC.nB, nF_bot _ _, _, _, rfl, rfl, wide_mul z1 z4 (by decide) (by decide) (by decide), ?_⟩
    refine ⟨_, rfl, c, C, dy, _, _, rfl, ec, NC.cl, NC.nT, nF_top _ _, _, rfl, a, C, dx, _, _, rfl, ea, NC.cl, NC.nB, nF_bot _ _, _, _, rfl, rfl, wide_mul z3 z2 (by decide) (by decide) (by decide), _, _, rfl, rfl, ?_⟩
    refine ⟨_, rfl, a, C, dx, _, _, rfl, ea, NC.cl, NC.nB, nF_bot _ _, _, rfl, c, C, dy, _, _, rfl, ec, NC.cl, NC.nB, nF_bot _ _, _, _, rfl, rfl, wide_mul z2 z4 (by decide) (by decide) (by decide), ?_⟩
    intro x d nx nd ne
    refine ⟨x, d, _, _, rfl, h0, (z2.mul z4).mono (by decide), upd_same, fun H1 h1 k1 => ⟨rfl, ?_⟩⟩
    exact k x H1 nx h1 (Same.mk nx nd k1)
theorem ok_nmul (F : L2.Fun K "__mul__" "Number.__mul__" sNMul f fd) (b : Binds K fd PNMul []) (NC : NumC K C) (mN : MakF P w K mg base 2 "Number" C (spNum C)) : FnR P w K mg base CX0 4 f (spMul C) := by
  refine fnR_of F b scNMul (fun vs H Q E h => ?_) (fun cdv A outer s H vs Q E hr h => ?_)
  · obtain ⟨a, c, t, b, p, q, rfl, _⟩ := h
    rfl
  · have sc := scNMul
    obtain ⟨a, c, t, b, p, q, rfl, ⟨dx, ea⟩, ⟨dy, ec⟩, z1, z2, z3, z4, h0, k⟩ := h
    refine ⟨_, (pss_one (ps_ret (pe_mk mN hr (by decide) rfl (pa_cons (pe_op op_mulW (pe_fld (pv 0) rfl) (pe_fld (pv 1) rfl)) (pa_cons (pe_op op_mulW (pe_fld (pv 0) rfl) (pe_fld (pv 1) rfl)) pa_nil))))), ?_⟩
    refine ⟨_, rfl, a, C, dx, _, _, rfl, ea, NC.cl, NC.nT, nF_top _ _, _, rfl, c, C, dy, _, _, rfl, ec, NC.cl, NC.nT, nF_top _ _, _, _, rfl, rfl, wide_mul z1 z3 (by decide) (by decide) (by decide), ?_⟩
    refine ⟨_, rfl, a, C, dx, _, _, rfl, ea, NC.cl, NC.nB, nF_bot _ _, _, rfl, c, C, dy, _, _, rfl, ec, NC.cl, NC.nB, nF_bot _ _, _, _, rfl, rfl, wide_mul z2 z4 (by decide) (by decide) (by decide), ?_⟩
    intro x d nx nd ne
    refine ⟨x, d, _, _, rfl, h0, (z2.mul z4).mono (by decide), upd_same, fun H1 h1 k1 => ⟨rfl, ?_⟩⟩
    exact k x H1 nx h1 (Same.mk nx nd k1)
end
end Ws

namespace Ws
open PySem PySem.Spec PyProof.Rows L2
abbrev sNNeg : Stmt := (inClass (PySem.Challenge.pw_whatspeed_k02_sums_and_compares.main.body.getD 7 (.Pass ⟨0, 0, 0, 0⟩)) 8)
abbrev NNNeg : List Str := ["self"]
abbrev PNNeg : List Str := ["self"]
theorem scNNeg : FnScope NNNeg PNNeg (defScope sNNeg) := ⟨rfl, rfl, rfl, by decide +kernel, rfl, by decide +kernel, by decide +kernel⟩
abbrev sNAbs : Stmt := (inClass (PySem.Challenge.pw_whatspeed_k02_sums_and_compares.main.body.getD 7 (.Pass ⟨0, 0, 0, 0⟩)) 9)
abbrev NNAbs : List Str := ["self"]
abbrev PNAbs : List Str := ["self"]
theorem scNAbs : FnScope NNAbs PNAbs (defScope sNAbs) := ⟨rfl, rfl, rfl, by decide +kernel, rfl, by decide +kernel, by decide +kernel⟩
abbrev sNLess : Stmt := (inClass (PySem.Challenge.pw_whatspeed_k02_sums_and_compares.main.body.getD 7 (.Pass ⟨0, 0, 0, 0⟩)) 10)
abbrev NNLess : List Str := ["self", "other"]
abbrev PNLess : List Str := ["self", "other"]
theorem scNLess : FnScope NNLess PNLess (defScope sNLess) := ⟨rfl, rfl, rfl, by decide +kernel, rfl, by decide +kernel, by decide +kernel⟩
def absI (t : Int) : Int := if t < 0 then -t else t
def spOp1 (C : Addr) (f : Int → Int) : Sp := fun vs H Q _ => ∃ (a : Addr) (t b : Int), vs = [.ref a] ∧ NumAt C H a t b ∧ b ≠ 0 ∧ Sz 2000 b ∧ ∀ x H', H x = none → NumAt C H' x (nT (f t) b) (nB (f t) b) → Same H H' → Q (.ref x) H'
abbrev spNeg (C : Addr) : Sp := spOp1 C fun t => -t
abbrev spAbs (C : Addr) : Sp := spOp1 C absI
def spLess (C : Addr) : Sp := fun vs H Q _ => ∃ (a c : Addr) (t b p q : Int), vs = [.ref a, .ref c] ∧ NumAt C H a t b ∧ NumAt C H c p q ∧ Sz 2000 t ∧ Sz 2000 b ∧ Sz 2000 p ∧ Sz 2000 q ∧ Q (.bl (decide (t * q < p * b))) H
section
variable {P : Program} {w : World} {K : PySem.W.Frag} {mg : Str → Option Value} {base : Heap} {C f : Addr} {fd : FuncData}
theorem ok_nneg (F : L2.Fun K "__neg__" "Number.__neg__" sNNeg f fd) (b : Binds K fd PNNeg []) (NC : NumC K C) (mN : MakF P w K mg base 2 "Number" C (spNum C)) : FnR P w K mg base CX0 4 f (spNeg C) := by
  refine fnR_of F b scNNeg (fun vs H Q E h => ?_) (fun cdv A outer s H vs Q E hr h => ?_)
  · obtain ⟨a, t, b, rfl, _⟩ := h
    rfl
  · have sc := scNNeg
    obtain ⟨a, t, b, rfl, ⟨dx, ea⟩, hb, zb, k⟩ := h
    refine ⟨_, (pss_one (ps_ret (pe_mk mN hr (by decide) rfl (pa_cons (pe_un un_neg (pe_fld (pv 0) rfl)) (pa_cons (pe_fld (pv 0) rfl) pa_nil))))), ?_⟩
    refine ⟨_, rfl, a, C, dx, _, _, rfl, ea, NC.cl, NC.nT, nF_top _ _, _, rfl, ?_⟩
    refine ⟨_, rfl, a, C, dx, _, _, rfl, ea, NC.cl, NC.nB, nF_bot _ _, ?_⟩
    intro x d nx nd ne
    refine ⟨x, d, _, _, rfl, hb, zb.mono (by decide), upd_same, fun H1 h1 k1 => ⟨rfl, ?_⟩⟩
    exact k x H1 nx h1 (Same.mk nx nd k1)
theorem ok_nabs (F : L2.Fun K "__abs__" "Number.__abs__" sNAbs f fd) (b : Binds K fd PNAbs []) (B : Bi mg) (NC : NumC K C) (mN : MakF P w K mg base 2 "Number" C (spNum C)) : FnR P w K mg base CX0 4 f (spAbs C) := by
  refine fnR_of F b scNAbs (fun vs H Q E h => ?_) (fun cdv A outer s H vs Q E hr h => ?_)
  · obtain ⟨a, t, b, rfl, _⟩ := h
    rfl
  · have sc := scNAbs
    obtain ⟨a, t, b, rfl, ⟨dx, ea⟩, hb, zb, k⟩ := h
    refine ⟨_, (pss_one (ps_ret (pe_mk mN hr (by decide) rfl (pa_cons (pe_callB call_abs (by rfl) B.abs (by decide +kernel) (pa_cons (pe_fld (pv 0) rfl) pa_nil)) (pa_cons (pe_fld (pv 0) rfl) pa_nil))))), ?_⟩
    refine ⟨_, rfl, a, C, dx, _, _, rfl, ea, NC.cl, NC.nT, nF_top _ _, _, rfl, ?_⟩
    refine ⟨_, rfl, a, C, dx, _, _, rfl, ea, NC.cl, NC.nB, nF_bot _ _, ?_⟩
    intro x d nx nd ne
    refine ⟨x, d, _, _, rfl, hb, zb.mono (by decide), upd_same, fun H1 h1 k1 => ⟨rfl, ?_⟩⟩
    exact k x H1 nx h1 (Same.mk nx nd k1)
theorem ok_nless (F : L2.Fun K "is_less" "Number.is_less" sNLess f fd) (b : Binds K fd PNLess []) (NC : NumC K C) : FnR P w K mg base CX0 1 f (spLess C) := by
  refine fnR_of F b scNLess (fun vs H Q E h => ?_) (fun cdv A outer s H vs Q E hr h => ?_)
  · obtain ⟨a, c, t, b, p, q, rfl, _⟩ := h
    rfl
  · have sc := scNLess
    obtain ⟨a, c, t, b, p, q, rfl, ⟨dx, ea⟩, ⟨dy, ec⟩, z1, z2, z3, z4, k⟩ := h
    refine ⟨_, (pss_one (ps_ret (pe_cmpR op_lt (pe_op op_mulW (pe_fld (pv 0) rfl) (pe_fld (pv 1) rfl)) (pe_op op_mulW (pe_fld (pv 1) rfl) (pe_fld (pv 0) rfl)) (nomark _)))), ?_⟩
    refine ⟨_, rfl, a, C, dx, _, _, rfl, ea, NC.cl, NC.nT, nF_top _ _, _, rfl, c, C, dy, _, _, rfl, ec, NC.cl, NC.nB, nF_bot _ _, _, _, rfl, rfl, wide_mul z1 z4 (by decide) (by decide) (by decide), ?_⟩
    refine ⟨_, rfl, c, C, dy, _, _, rfl, ec, NC.cl, NC.nT, nF_top _ _, _, rfl, a, C, dx, _, _, rfl, ea, NC.cl, NC.nB, nF_bot _ _, _, _, rfl, rfl, wide_mul z3 z2 (by decide) (by decide) (by decide), _, _, rfl, rfl, k⟩
end
end Ws

namespace Ws
open PySem PySem.Spec PyProof.Rows L2
abbrev sPot : Stmt := (PySem.Challenge.pw_whatspeed_k02_sums_and_compares.main.body.getD 9 (.Pass ⟨0, 0, 0, 0⟩))
abbrev NPot : List Str := ["script", "k", "cell", "own"]
abbrev PPot : List Str := ["script", "k"]
theorem scPot : FnScope NPot PPot (defScope sPot) := ⟨rfl, rfl, rfl, by decide +kernel, rfl, by decide +kernel, by decide +kernel⟩
abbrev sTake : Stmt := (PySem.Challenge.pw_whatspeed_k02_sums_and_compares.main.body.getD 10 (.Pass ⟨0, 0, 0, 0⟩))
abbrev NTake : List Str := ["pot", "upto", "digit", "prime", "mixed"]
abbrev PTake : List Str := ["pot", "upto"]
theorem scTake : FnScope NTake PTake (defScope sTake) := ⟨rfl, rfl, rfl, by decide +kernel, rfl, by decide +kernel, by decide +kernel⟩
abbrev sOf : Stmt := (PySem.Challenge.pw_whatspeed_k02_sums_and_compares.main.body.getD 11 (.Pass ⟨0, 0, 0, 0⟩))
abbrev NOf : List Str := ["pot", "some"]
abbrev POf : List Str := ["pot", "some"]
theorem scOf : FnScope NOf POf (defScope sOf) := ⟨rfl, rfl, rfl, by decide +kernel, rfl, by decide +kernel, by decide +kernel⟩
abbrev sLeast : Stmt := (PySem.Challenge.pw_whatspeed_k02_sums_and_compares.main.body.getD 12 (.Pass ⟨0, 0, 0, 0⟩))
abbrev NLeast : List Str := ["top", "bottom", "one", "other", "sign"]
abbrev PLeast : List Str := ["top", "bottom"]
theorem scLeast : FnScope NLeast PLeast (defScope sLeast) := ⟨rfl, rfl, rfl, by decide +kernel, rfl, by decide +kernel, by decide +kernel⟩
/-! ### the pot of drawn numbers -/
def PotAt (H : Hp) (p : Addr) (m : Int) : Prop := ∃ own seed n : Int, H p = some (.lst [.int own, .int seed, .int n]) ∧ 0 ≤ own ∧ 0 ≤ seed ∧ seed < 2305843009213693921 ∧ 0 ≤ n ∧ n ≤ m
theorem PotAt.mono {H : Hp} {p : Addr} {m m' : Int} (h : PotAt H p m) (l : m ≤ m') : PotAt H p m' := let ⟨a, b, c, e, h1, h2, h3, h4, h5⟩ := h; ⟨a, b, c, e, h1, h2, h3, h4, Int.le_trans h5 l⟩
theorem PotAt.same {H H' : Hp} {p : Addr} {m : Int} (h : PotAt H p m) (s : Same H H') : PotAt H' p m := let ⟨a, b, c, e, r⟩ := h; ⟨a, b, c, s _ _ e, r⟩
def spPot (K : PySem.W.Frag) : Sp := fun vs H Q _ => ∃ (s : Addr) (ns : List Int) (k : Nat), vs = [.ref s, .int k] ∧ SqL K H s (ns.map V.int) ∧ k < 100 ∧ ∀ p H', H p = none → PotAt H' p 0 → Same H H' → Q (.ref p) H'
def spTake : Sp := fun vs H Q _ => ∃ (p : Addr) (u m : Int), vs = [.ref p, .int u] ∧ PotAt H p m ∧ m ≤ 1000000 ∧ 1 ≤ u ∧ u < 1073741824 ∧ ∀ d H', 0 ≤ d → d < u → PotAt H' p (m + 1) → Ch p H H' → Q (.int d) H'
def spOf : Sp := fun vs H Q _ => ∃ (p l : Addr) (xs : List V) (m : Int), vs = [.ref p, .ref l] ∧ PotAt H p m ∧ m ≤ 1000000 ∧ H l = some (.lst xs) ∧ l ≠ p ∧ 1 ≤ xs.length ∧ xs.length ≤ 1000 ∧ ∀ v H', v ∈ xs → PotAt H' p (m + 1) → Ch p H H' → Q v H'
def spLeast : Sp := fun vs H Q _ => ∃ t b : Int, vs = [.int t, .int b] ∧ b ≠ 0 ∧ Sz 8000 b ∧ Sz 8000 t ∧ ∀ p H', H p = none → H' p = some (.tup [.int (nT t b), .int (nB t b)]) → Same H H' → Q (.ref p) H'
section
variable {P : Program} {w : World} {K : PySem.W.Frag} {mg : Str → Option Value} {base : Heap} {f : Addr} {fd : FuncData}
theorem at_map {ns : List Int} {k : Nat} (h : k < ns.length) : atI (ns.map V.int) (k : Int) = some (.int ns[k]) := atI_nat (by rw [List.getElem?_map, List.getElem?_eq_getElem h]; rfl)
theorem emod_lt {a b : Int} (h : 0 < b) : a % b < b := Int.emod_lt_of_pos a h
theorem emod_nn {a b : Int} (h : 0 < b) : 0 ≤ a % b := Int.emod_nonneg a (by omega)
theorem ok_pot (F : L2.Fun K "_law_pot" "_law_pot" sPot f fd) (b : Binds K fd PPot []) (B : Bi mg) : FnR P w K mg base CX0 1 f (spPot K) := by
  refine fnR_of F b scPot (fun vs H Q E h => ?_) (fun cdv A outer s H vs Q E hr h => ?_)
  · obtain ⟨s, ns, k, rfl, _⟩ := h
    rfl
  · have sc := scPot
    obtain ⟨s, ns, k, rfl, hS, hk, q⟩ := h
    refine ⟨_, (pss_cons (ps_set (i := 2) sc.nd rfl (Or.inl rfl) (pe_ifExp (pt_cmpR op_lt (pv 1) (pe_callB call_len_seq (by rfl) B.len PySem.boot_len (pa_cons (pv 0) pa_nil)) (nomark _)) (pe_callTy call_int1 (by rfl) B.int (by decide +kernel) (pa_cons (pe_ix ix_list (pv 0) (pv 1) (fun _ _ => rfl)) pa_nil)) (pe_op op_add (pe_op op_mul pe_int (pv 1)) pe_int))) (pss_cons (ps_set (i := 3) sc.nd rfl (Or.inl rfl) (pe_op op_mul (pe_op op_mod (pe_callTy call_int1 (by rfl) B.int (by decide +kernel) (pa_cons (pe_callB call_abs (by rfl) B.abs (by decide +kernel) (pa_cons (pv 2) pa_nil)) pa_nil)) (pe_op op_powW (pe_op op_pow pe_int pe_int) pe_int)) (pe_callTy call_int1 (by rfl) B.int (by decide +kernel) (pa_cons (pe_cmpR op_ge (pe_callB call_abs (by rfl) B.abs (by decide +kernel) (pa_cons (pv 2) pa_nil)) (pe_op op_pow pe_int pe_int) (nomark _)) pa_nil)))) (pss_one (ps_ret (pe_lst (pa_cons (pv 3) (pa_cons (pe_op op_mod (pe_callTy call_int1 (by rfl) B.int (by decide +kernel) (pa_cons (pe_op op_add (pe_op op_add (pe_op op_mul (pe_op op_mod (pe_callTy call_int1 (by rfl) B.int (by decide +kernel) (pa_cons (pv 2) pa_nil)) pe_int) pe_int) (pe_op op_mul (pe_op op_mul pe_int (pv 1)) (pv 1))) pe_int) pa_nil)) pe_int) (pa_cons pe_int pa_nil)))))))), ?_⟩
    refine ⟨_, rfl, _, rfl, s, _, rfl, .inl hS, _, _, rfl, rfl, _, rfl, ?_⟩
    have hA : ∀ z : Int, (if z < 0 then -z else z) = (if z < 0 then -z else z) := fun _ => rfl
    refine if2 (fun hc => ?_) (fun hc => ?_)
    · have hlt : k < ns.length := by
        have := of_decide_eq_true hc
        rw [List.length_map] at this
        omega
      refine ⟨_, rfl, _, rfl, s, _, _, _, rfl, rfl, hS, at_map hlt, .inl ⟨_, rfl, ?_⟩⟩
      generalize ns[k] = z
      refine ⟨_, rfl, _, rfl, .inl ⟨_, rfl, _, _, rfl, rfl, ⟨by decide, by decide, by decide⟩, _, _, rfl, rfl, ⟨by decide, by decide +kernel⟩, _, _, rfl, rfl, by show (0 : Int) < _; decide +kernel, ?_⟩⟩
      refine ⟨_, rfl, _, rfl, _, _, rfl, rfl, ⟨by decide, by decide, by decide⟩, _, _, rfl, rfl, .inr ⟨_, rfl, _, _, rfl, rfl, .inr (bit_lo _), ?_⟩⟩
      refine ⟨_, rfl, _, rfl, .inl ⟨_, rfl, _, _, rfl, rfl, by show (0 : Int) < _; decide +kernel, _, _, rfl, rfl, .inr ⟨by decide, by decide⟩, _, rfl, _, _, rfl, rfl, .inl ⟨by decide, by decide⟩, _, rfl, _, _, rfl, rfl, .inr ⟨by omega, by omega⟩, _, _, rfl, rfl, _, _, rfl, rfl, .inl ⟨_, rfl, _, _, rfl, rfl, by show (0 : Int) < _; decide +kernel, ?_⟩⟩⟩
      refine ⟨by show 3 ≤ sizeLine; decide, fun p hp => q p _ hp ⟨_, _, _, upd_same, ?_, emod_nn (by decide), emod_lt (by decide), by decide, by decide⟩ (Same.new hp)⟩
      exact Int.mul_nonneg (emod_nn (by decide +kernel)) (bit_nn _)
    · refine ⟨_, rfl, _, _, rfl, rfl, .inl ⟨by decide, by decide⟩, _, _, rfl, rfl, ?_⟩
      generalize (41 * (k : Int) + 19) = z
      refine ⟨_, rfl, _, rfl, .inl ⟨_, rfl, _, _, rfl, rfl, ⟨by decide, by decide, by decide⟩, _, _, rfl, rfl, ⟨by decide, by decide +kernel⟩, _, _, rfl, rfl, by show (0 : Int) < _; decide +kernel, ?_⟩⟩
      refine ⟨_, rfl, _, rfl, _, _, rfl, rfl, ⟨by decide, by decide, by decide⟩, _, _, rfl, rfl, .inr ⟨_, rfl, _, _, rfl, rfl, .inr (bit_lo _), ?_⟩⟩
      refine ⟨_, rfl, _, rfl, .inl ⟨_, rfl, _, _, rfl, rfl, by show (0 : Int) < _; decide +kernel, _, _, rfl, rfl, .inr ⟨by decide, by decide⟩, _, rfl, _, _, rfl, rfl, .inl ⟨by decide, by decide⟩, _, rfl, _, _, rfl, rfl, .inr ⟨by omega, by omega⟩, _, _, rfl, rfl, _, _, rfl, rfl, .inl ⟨_, rfl, _, _, rfl, rfl, by show (0 : Int) < _; decide +kernel, ?_⟩⟩⟩
      refine ⟨by show 3 ≤ sizeLine; decide, fun p hp => q p _ hp ⟨_, _, _, upd_same, ?_, emod_nn (by decide), emod_lt (by decide), by decide, by decide⟩ (Same.new hp)⟩
      exact Int.mul_nonneg (emod_nn (by decide +kernel)) (bit_nn _)
theorem ok_take (F : L2.Fun K "_law_take" "_law_take" sTake f fd) (b : Binds K fd PTake []) (B : Bi mg) : FnR P w K mg base CX0 1 f spTake := by
  refine fnR_of F b scTake (fun vs H Q E h => ?_) (fun cdv A outer s H vs Q E hr h => ?_)
  · obtain ⟨p, u, m, rfl, _⟩ := h
    rfl
  · have sc := scTake
    obtain ⟨p, u, m, rfl, ⟨own, seed, n, hp, h1, h2, h3, h4, h5⟩, hm, hu, hu2, q⟩ := h
    refine ⟨_, (pss_cons (ps_if (pt_cmpR op_gt (pe_ix ix_list (pv 0) pe_int (fun _ _ => rfl)) pe_int (nomark _)) (pss_cons (ps_set (i := 2) sc.nd rfl (Or.inl rfl) (pe_op op_mod (pe_callTy call_int1 (by rfl) B.int (by decide +kernel) (pa_cons (pe_ix ix_list (pv 0) pe_int (fun _ _ => rfl)) pa_nil)) (pv 1))) (pss_cons (ps_asg (pe_op op_fdiv (pe_ix ix_list (pv 0) pe_int (fun _ _ => rfl)) (pv 1)) (pg_sub (pv 0) pe_int set_list)) (pss_one (ps_ret (pv 2))))) pss_nil) (pss_cons (ps_asg (pe_op op_add (pe_ix ix_list (pv 0) pe_int (fun _ _ => rfl)) pe_int) (pg_sub (pv 0) pe_int set_list)) (pss_cons (ps_set (i := 3) sc.nd rfl (Or.inl rfl) (pe_ix ix_list (pe_lst (pa_cons pe_int (pa_cons pe_int (pa_cons pe_int (pa_cons pe_int (pa_cons pe_int pa_nil)))))) (pe_op op_mod (pe_callTy call_int1 (by rfl) B.int (by decide +kernel) (pa_cons (pe_ix ix_list (pv 0) pe_int (fun _ _ => rfl)) pa_nil)) pe_int) (fun _ _ => rfl))) (pss_cons (ps_set (i := 4) sc.nd rfl (Or.inl rfl) (pe_op op_mod (pe_callTy call_int1 (by rfl) B.int (by decide +kernel) (pa_cons (pe_op op_pow (pe_op op_add (pe_op op_add (pe_ix ix_list (pv 0) pe_int (fun _ _ => rfl)) (pe_op op_mul (pe_op op_mul pe_int (pe_ix ix_list (pv 0) pe_int (fun _ _ => rfl))) (pe_ix ix_list (pv 0) pe_int (fun _ _ => rfl)))) pe_int) pe_int) pa_nil)) (pv 3))) (pss_one (ps_ret (pe_op op_mod (pe_callTy call_int1 (by rfl) B.int (by decide +kernel) (pa_cons (pe_op op_fdiv (pe_op op_mul (pv 4) (pe_op op_add (pe_op op_mod (pe_callTy call_int1 (by rfl) B.int (by decide +kernel) (pa_cons (pv 4) pa_nil)) pe_int) (pe_op op_mul pe_int (pe_ix ix_list (pv 0) pe_int (fun _ _ => rfl))))) pe_int) pa_nil)) (pv 1)))))))), ?_⟩
    refine ⟨_, rfl, p, _, _, _, rfl, rfl, SqL.of hp, rfl, _, _, rfl, rfl, _, rfl, ?_⟩
    refine if2 (fun hc => ?_) (fun hc => ?_)
    · refine ⟨_, rfl, p, _, _, _, rfl, rfl, SqL.of hp, rfl, .inl ⟨_, rfl, _, rfl, _, _, rfl, rfl, by omega, ?_⟩⟩
      refine ⟨_, rfl, p, _, _, _, rfl, rfl, SqL.of hp, rfl, _, rfl, _, _, rfl, rfl, ⟨by omega, by omega⟩, ?_⟩
      refine ⟨_, rfl, p, _, _, _, rfl, rfl, hp, rfl, ?_⟩
      refine ⟨_, rfl, ?_⟩
      refine q _ _ (emod_nn (by omega)) (emod_lt (by omega)) ⟨_, _, _, upd_same, Int.ediv_nonneg h1 (by omega), h2, h3, h4, by omega⟩ Ch.upd
    · refine ⟨_, rfl, p, _, _, _, rfl, rfl, SqL.of hp, rfl, _, _, rfl, rfl, ?_⟩
      refine ⟨_, rfl, p, _, _, _, rfl, rfl, hp, rfl, ?_⟩
      refine ⟨by show 5 ≤ sizeLine; decide, fun l hl => ?_⟩
      have npl : p ≠ l := ne_of_none upd_same hl
      refine ⟨_, rfl, p, _, _, _, rfl, rfl, SqL.of ((upd_ne npl).trans upd_same), rfl, .inl ⟨_, rfl, _, _, rfl, rfl, by show (0 : Int) < _; decide +kernel, ?_⟩⟩
      have hi : ∃ (j : Nat) (pr : Int), (n + 1) % 5 = (j : Int) ∧ [V.int 2147483647, V.int 2147483629, V.int 2147483587, V.int 2147483579, V.int 2147483563][j]? = some (.int pr) ∧ 0 < pr ∧ pr ≤ 2147483647 := by
        have e1 : 0 ≤ (n + 1) % 5 := emod_nn (by decide)
        have e2 : (n + 1) % 5 < 5 := emod_lt (by decide)
        have : (n + 1) % 5 = 0 ∨ (n + 1) % 5 = 1 ∨ (n + 1) % 5 = 2 ∨ (n + 1) % 5 = 3 ∨ (n + 1) % 5 = 4 := by omega
        rcases this with e | e | e | e | e
        · exact ⟨0, _, e, rfl, by decide, by decide⟩
        · exact ⟨1, _, e, rfl, by decide, by decide⟩
        · exact ⟨2, _, e, rfl, by decide, by decide⟩
        · exact ⟨3, _, e, rfl, by decide, by decide⟩
        · exact ⟨4, _, e, rfl, by decide, by decide⟩
      obtain ⟨j, pr, ej, hj, hpr, hpr2⟩ := hi
      refine ⟨l, _, _, _, rfl, rfl, SqL.of upd_same, at_of ej hj, ?_⟩
      refine ⟨_, rfl, p, _, _, _, rfl, rfl, SqL.of ((upd_ne npl).trans upd_same), rfl, ?_⟩
      refine ⟨_, rfl, p, _, _, _, rfl, rfl, SqL.of ((upd_ne npl).trans upd_same), rfl, _, _, rfl, rfl, .inl ⟨by decide, by decide⟩, ?_⟩
      refine ⟨_, rfl, p, _, _, _, rfl, rfl, SqL.of ((upd_ne npl).trans upd_same), rfl, _, _, rfl, rfl, .inr ⟨by omega, by omega⟩, _, _, rfl, rfl, _, _, rfl, rfl, ?_⟩
      have hsq : 0 ≤ (n + 1) * (n + 1) ∧ (n + 1) * (n + 1) ≤ 1000001 * 1000001 := ⟨Int.mul_nonneg (by omega) (by omega), Int.mul_le_mul (by omega) (by omega) (by omega) (by decide)⟩
      have hb0 : 99961 * (n + 1) * (n + 1) = 99961 * ((n + 1) * (n + 1)) := Int.mul_assoc _ _ _
      refine ⟨_, _, rfl, rfl, ⟨by decide, by decide, ?_⟩, .inl ⟨_, rfl, _, rfl, _, _, rfl, rfl, hpr, ?_⟩⟩
      · rw [hb0]
        omega
      · generalize hmx : ((seed + 99961 * (n + 1) * (n + 1) + 47) ^ (3 : Int).toNat) % pr = mx
        have m1 : 0 ≤ mx := by rw [← hmx]; exact emod_nn hpr
        have m2 : mx < pr := by rw [← hmx]; exact emod_lt hpr
        refine ⟨_, rfl, _, rfl, .inl ⟨_, rfl, _, _, rfl, rfl, by show (0 : Int) < _; decide +kernel, ?_⟩⟩
        refine ⟨_, rfl, p, _, _, _, rfl, rfl, SqL.of ((upd_ne npl).trans upd_same), rfl, _, _, rfl, rfl, .inl ⟨by decide, by decide⟩, _, _, rfl, rfl, _, _, rfl, rfl, .inl ⟨by omega, by omega⟩, _, _, rfl, rfl, ⟨by decide, by decide⟩, .inl ⟨_, rfl, _, rfl, _, _, rfl, rfl, by omega, ?_⟩⟩
        exact q _ _ (emod_nn (by omega)) (emod_lt (by omega)) ⟨_, _, _, (upd_ne npl).trans upd_same, h1, h2, h3, by omega, by omega⟩ (Ch.upd.trans (Ch.new hl))
theorem ok_of (F : L2.Fun K "_law_of" "_law_of" sOf f fd) (b : Binds K fd POf []) (B : Bi mg) (cT : CalF P w K mg base 1 "_law_take" spTake) : FnR P w K mg base CX0 2 f spOf := by
  refine fnR_of F b scOf (fun vs H Q E h => ?_) (fun cdv A outer s H vs Q E hr h => ?_)
  · obtain ⟨p, l, xs, m, rfl, _⟩ := h
    rfl
  · have sc := scOf
    obtain ⟨p, l, xs, m, rfl, hp, hm, hl, n, h1, h2, q⟩ := h
    refine ⟨_, (pss_one (ps_ret (pe_ix ix_list (pv 1) (pe_f cT hr (by decide) rfl (pa_cons (pv 0) (pa_cons (pe_callB call_len_seq (by rfl) B.len PySem.boot_len (pa_cons (pv 1) pa_nil)) pa_nil))) (fun _ _ => rfl)))), ?_⟩
    refine ⟨_, rfl, _, rfl, _, rfl, l, xs, rfl, .inl (SqL.of hl), p, _, m, rfl, hp, hm, by omega, by omega, fun d H1 d0 d1 hp1 c1 => ?_⟩
    have hj : d.toNat < xs.length := by omega
    exact ⟨l, xs, _, _, rfl, rfl, SqL.of (c1 _ _ n hl), at_of (j := d.toNat) (by omega) (List.getElem?_eq_getElem hj), q _ _ (List.getElem_mem hj) hp1 c1⟩
theorem ok_least (F : L2.Fun K "_law_least" "_law_least" sLeast f fd) (b : Binds K fd PLeast []) (B : Bi mg) : FnR P w K mg base CX0 1 f spLeast := by
  refine fnR_of F b scLeast (fun vs H Q E h => ?_) (fun cdv A outer s H vs Q E hr h => ?_)
  · obtain ⟨t, b, rfl, _⟩ := h
    rfl
  · have sc := scLeast
    obtain ⟨t, b, rfl, hb, zb, zt, q⟩ := h
    refine ⟨_, (pss_cons (ps_par (i := 2) (j := 3) (by rfl) sc.nd rfl rfl (by decide) rfl rfl (pa_cons (pe_callB call_abs (by rfl) B.abs (by decide +kernel) (pa_cons (pv 0) pa_nil)) (pa_cons (pe_callB call_abs (by rfl) B.abs (by decide +kernel) (pa_cons (pv 1) pa_nil)) pa_nil)) (by rfl)) (pss_cons (ps_while PassesOwn.never (pt_cmpR op_ne (pv 3) pe_int (nomark _)) (pss_one (ps_par (i := 2) (j := 3) (by rfl) sc.nd rfl rfl (by decide) rfl rfl (pa_cons (pv 3) (pa_cons (pe_op op_mod (pe_callTy call_int1 (by rfl) B.int (by decide +kernel) (pa_cons (pv 2) pa_nil)) (pv 3)) pa_nil)) (by rfl)))) (pss_cons (ps_set (i := 4) sc.nd rfl (Or.inl rfl) (pe_ifExp (pt_cmpR op_lt (pv 1) pe_int (nomark _)) (pe_un un_neg pe_int) pe_int)) (pss_one (ps_ret (pe_tup (pa_cons (pe_op op_fdivW (pe_op op_mul (pv 4) (pv 0)) (pv 2)) (pa_cons (pe_op op_fdivW (pe_callB call_abs (by rfl) B.abs (by decide +kernel) (pa_cons (pv 1) pa_nil)) (pv 2)) pa_nil)))))))), ?_⟩
    refine ⟨_, rfl, _, rfl, _, rfl, _, rfl, _, _, rfl, ?_⟩
    refine while_by (fun σ H' => H' = H ∧ ∃ x y : Int, σ = [some (.int t), some (.int b), some (.int x), some (.int y), none] ∧ 0 ≤ x ∧ 0 ≤ y ∧ Nat.gcd x.natAbs y.natAbs = Nat.gcd t.natAbs b.natAbs) (fun σ _ => match σ with | [_, _, _, some (.int y), _] => y.toNat | _ => 0) ?_ ?_ ?_
    · refine ⟨rfl, _, _, rfl, by split <;> omega, by split <;> omega, ?_⟩
      have e : ∀ z : Int, (if z < 0 then -z else z).natAbs = z.natAbs := fun z => by split <;> omega
      rw [e, e]
    · rintro σ H' ⟨rfl, x, y, rfl, hx, hy, hg⟩
      refine ⟨_, rfl, rfl, _, rfl, ?_⟩
      by_cases h0 : y = 0
      · subst h0
        refine ifF rfl ?_
        have hxg : x = gI t b := by
          unfold gI
          rw [← hg]
          simp
          omega
        subst hxg
        have zg : Sz 8000 (gI t b) := Sz.gI hb zb
        have l9 : (gI t b).natAbs < 2 ^ 8000 := zg
        have nl := nf_least (t := t) hb
        refine ⟨_, rfl, _, _, rfl, rfl, _, rfl, ?_⟩
        refine if2 (fun hc => ?_) (fun hc => ?_)
        · have hn : b < 0 := of_decide_eq_true hc
          rw [if_pos hn, if_pos hn] at nl
          refine ⟨_, rfl, ?_⟩
          refine ⟨_, rfl, _, rfl, _, _, rfl, rfl, .inl ⟨by decide, by decide⟩, _, rfl, _, _, rfl, rfl, wide_div (gI_pos hb) l9 (by decide) (by decide), ?_⟩
          refine ⟨_, rfl, _, rfl, _, rfl, _, _, rfl, rfl, wide_div (gI_pos hb) l9 (by decide) (by decide), by show 2 ≤ sizeLine; decide, fun p hp => ?_⟩
          refine q p _ hp (upd_same.trans ?_) (Same.new hp)
          show some (HO.tup [V.int (-1 * t / gI t b), V.int ((if b < 0 then -b else b) / gI t b)]) = _
          rw [if_pos hn, nl.1, nl.2]
        · have hn : ¬ b < 0 := of_decide_eq_false hc
          rw [if_neg hn, if_neg hn] at nl
          refine ⟨_, rfl, _, rfl, _, _, rfl, rfl, .inl ⟨by decide, by decide⟩, _, rfl, _, _, rfl, rfl, wide_div (gI_pos hb) l9 (by decide) (by decide), ?_⟩
          refine ⟨_, rfl, _, rfl, _, rfl, _, _, rfl, rfl, wide_div (gI_pos hb) l9 (by decide) (by decide), by show 2 ≤ sizeLine; decide, fun p hp => ?_⟩
          refine q p _ hp (upd_same.trans ?_) (Same.new hp)
          show some (HO.tup [V.int (1 * t / gI t b), V.int ((if b < 0 then -b else b) / gI t b)]) = _
          rw [if_neg hn, nl.1, nl.2]
      · refine ifT (by simpa using h0) ?_
        refine ⟨_, rfl, _, rfl, .inl ⟨_, rfl, _, rfl, _, _, rfl, rfl, by omega, _, _, rfl, ?_⟩⟩
        have hy0 : 0 < y := by omega
        have := emod_lt (a := x) hy0
        have := emod_nn (a := x) hy0
        refine ⟨⟨rfl, y, x % y, rfl, hy, by omega, by rw [gcd_turn hx hy0, hg]⟩, ?_⟩
        show (x % y).toNat < y.toNat
        omega
    · rintro σ H Q Q' i ⟨v, e, h1, k, e2, h2⟩
      exact ⟨v, e, h1, k, e2, i _ _ h2⟩
end
end Ws

namespace Ws
open PySem PySem.Spec PyProof.Rows L2
abbrev sDrawn : Stmt := (PySem.Challenge.pw_whatspeed_k02_sums_and_compares.main.body.getD 13 (.Pass ⟨0, 0, 0, 0⟩))
abbrev NDrawn : List Str := ["pot", "top"]
abbrev PDrawn : List Str := ["pot"]
theorem scDrawn : FnScope NDrawn PDrawn (defScope sDrawn) := ⟨rfl, rfl, rfl, by decide +kernel, rfl, by decide +kernel, by decide +kernel⟩
/-- a pair above and below the stroke -/
structure XPair (t b : Int) : Prop where
  z : Sz 90 t
  zb : Sz 50 b
  ne : b ≠ 0
def Tup2 (H : Hp) (r : Addr) (t b : Int) : Prop := H r = some (.tup [.int t, .int b])
theorem Tup2.same {H H' : Hp} {r : Addr} {t b : Int} (h : Tup2 H r t b) (s : Same H H') : Tup2 H' r t b := s _ _ h
def spDrawn : Sp := fun vs H Q _ => ∃ (p : Addr) (m : Int), vs = [.ref p] ∧ PotAt H p m ∧ m ≤ 100000 ∧ ∀ r H' t b, H r = none → Tup2 H' r t b → XPair t b → PotAt H' p (m + 4) → Ch p H H' → Q (.ref r) H'
section
variable {P : Program} {w : World} {K : PySem.W.Frag} {mg : Str → Option Value} {base : Heap} {C f : Addr} {fd : FuncData}
theorem ok_drawn (F : L2.Fun K "_law_drawn" "_law_drawn" sDrawn f fd) (b : Binds K fd PDrawn []) (B : Bi mg) (cT : CalF P w K mg base 1 "_law_take" spTake) (cO : CalF P w K mg base 2 "_law_of" spOf) : FnR P w K mg base CX0 3 f spDrawn := by
  refine fnR_of F b scDrawn (fun vs H Q E h => ?_) (fun cdv A outer s H vs Q E hr h => ?_)
  · obtain ⟨p, m, rfl, _⟩ := h
    rfl
  · have sc := scDrawn
    obtain ⟨p, m, rfl, hp, hm, q⟩ := h
    refine ⟨_, (pss_cons (ps_set (i := 1) sc.nd rfl (Or.inl rfl) (pe_f cO hr (by decide) rfl (pa_cons (pv 0) (pa_cons (pe_lst (pa_cons pe_int (pa_cons pe_int (pa_cons (pe_un un_neg pe_int) (pa_cons pe_int (pa_cons pe_int (pa_cons (pe_un un_neg pe_int) (pa_cons pe_int (pa_cons pe_int (pa_cons (pe_op op_pow pe_int pe_int) (pa_cons (pe_op op_sub (pe_f cT hr (by decide) rfl (pa_cons (pv 0) (pa_cons pe_int pa_nil))) pe_int) (pa_cons (pe_op op_sub (pe_un un_neg (pe_op op_pow pe_int pe_int)) pe_int) pa_nil)))))))))))) pa_nil)))) (pss_one (ps_ret (pe_tup (pa_cons (pv 1) (pa_cons (pe_f cO hr (by decide) rfl (pa_cons (pv 0) (pa_cons (pe_lst (pa_cons pe_int (pa_cons pe_int (pa_cons pe_int (pa_cons pe_int (pa_cons (pe_un un_neg pe_int) (pa_cons pe_int (pa_cons pe_int (pa_cons (pe_op op_pow pe_int pe_int) (pa_cons (pe_op op_add pe_int (pe_f cT hr (by decide) rfl (pa_cons (pv 0) (pa_cons pe_int pa_nil)))) (pa_cons (pe_un un_neg pe_int) pa_nil))))))))))) pa_nil))) pa_nil)))))), ?_⟩
    refine ⟨_, rfl, _, rfl, _, rfl, _, _, rfl, rfl, ⟨by decide, by decide, by decide⟩, ?_⟩
    refine ⟨_, rfl, p, 200, m, rfl, hp, by omega, by decide, by decide, fun d H1 d0 d1 hp1 c1 => ?_⟩
    refine ⟨_, _, rfl, rfl, _, _, rfl, rfl, ⟨by decide, by decide, by decide⟩, _, rfl, _, _, rfl, rfl, by show 11 ≤ sizeLine; decide, fun l hl => ?_⟩
    have npl : p ≠ l := by obtain ⟨_, _, _, e, _⟩ := hp1; exact ne_of_none e hl
    refine ⟨p, l, _, m + 1, rfl, ?_, by omega, upd_same, fun z => npl z.symm, by show 1 ≤ 11; decide, by show 11 ≤ 1000; decide, fun v H2 hv hp2 c2 => ?_⟩
    · obtain ⟨x, y, z, e, r⟩ := hp1
      exact ⟨x, y, z, (upd_ne npl).trans e, r⟩
    have hv' : ∃ t : Int, v = .int t ∧ Sz 90 t := by
      simp only [List.mem_cons, List.not_mem_nil, or_false] at hv
      rcases hv with rfl | rfl | rfl | rfl | rfl | rfl | rfl | rfl | rfl | rfl | rfl
      all_goals refine ⟨_, rfl, ?_⟩
      all_goals first
        | (show Int.natAbs _ < 2 ^ 90; decide)
        | (show Int.natAbs _ < 2 ^ 90; omega)
    obtain ⟨t, rfl, zt⟩ := hv'
    have c02 : Ch p H H2 := (c1.trans (Ch.new hl)).trans c2
    refine ⟨_, rfl, _, rfl, _, rfl, _, _, rfl, rfl, ⟨by decide, by decide, by decide⟩, _, rfl, p, 40, m + 1 + 1, rfl, hp2, by omega, by decide, by decide, fun d H3 d0 d1 hp3 c3 => ?_⟩
    refine ⟨_, _, rfl, rfl, _, rfl, by show 10 ≤ sizeLine; decide, fun l hl => ?_⟩
    have npl : p ≠ l := by obtain ⟨_, _, _, e, _⟩ := hp3; exact ne_of_none e hl
    refine ⟨p, l, _, m + 1 + 1 + 1, rfl, ?_, by omega, upd_same, fun z => npl z.symm, by show 1 ≤ 10; decide, by show 10 ≤ 1000; decide, fun v H4 hv hp4 c4 => ?_⟩
    · obtain ⟨x, y, z, e, r⟩ := hp3
      exact ⟨x, y, z, (upd_ne npl).trans e, r⟩
    have hv' : ∃ b : Int, v = .int b ∧ b ≠ 0 ∧ Sz 50 b := by
      simp only [List.mem_cons, List.not_mem_nil, or_false] at hv
      rcases hv with rfl | rfl | rfl | rfl | rfl | rfl | rfl | rfl | rfl | rfl
      all_goals refine ⟨_, rfl, ?_⟩
      all_goals first
        | (refine ⟨by decide, ?_⟩; show Int.natAbs _ < 2 ^ 50; decide)
        | (refine ⟨by omega, ?_⟩; show Int.natAbs _ < 2 ^ 50; omega)
    obtain ⟨b, rfl, hb1, hb2⟩ := hv'
    refine ⟨by show 2 ≤ sizeLine; decide, fun r hr => ?_⟩
    have npr : p ≠ r := by obtain ⟨_, _, _, e, _⟩ := hp4; exact ne_of_none e hr
    have c04 : Ch p H H4 := c02.trans ((c3.trans (Ch.new hl)).trans c4)
    refine q r _ t b (c04.free (fun z => npr z.symm) hr) upd_same ⟨zt, hb2, hb1⟩ ?_ (c04.trans (Ch.new hr))
    obtain ⟨x, y, z, e, a1, a2, a3, a4, a5⟩ := hp4
    exact ⟨x, y, z, (upd_ne npr).trans e, a1, a2, a3, a4, by omega⟩
end
end Ws

namespace Ws
open PySem PySem.Spec PyProof.Rows L2
abbrev sPair : Stmt := (PySem.Challenge.pw_whatspeed_k02_sums_and_compares.main.body.getD 14 (.Pass ⟨0, 0, 0, 0⟩))
abbrev NPair : List Str := ["thing"]
abbrev PPair : List Str := ["thing"]
theorem scPair : FnScope NPair PPair (defScope sPair) := ⟨rfl, rfl, rfl, by decide +kernel, rfl, by decide +kernel, by decide +kernel⟩
abbrev sNear : Stmt := (PySem.Challenge.pw_whatspeed_k02_sums_and_compares.main.body.getD 15 (.Pass ⟨0, 0, 0, 0⟩))
abbrev NNear : List Str := ["pot", "one", "way", "many"]
abbrev PNear : List Str := ["pot", "one"]
theorem scNear : FnScope NNear PNear (defScope sNear) := ⟨rfl, rfl, rfl, by decide +kernel, rfl, by decide +kernel, by decide +kernel⟩
abbrev sRight : Stmt := (PySem.Challenge.pw_whatspeed_k02_sums_and_compares.main.body.getD 16 (.Pass ⟨0, 0, 0, 0⟩))
abbrev NRight : List Str := ["first", "second", "one", "other", "a", "b", "c", "d", "told", "due", "sign", "left", "right"]
abbrev PRight : List Str := ["first", "second"]
theorem scRight : FnScope NRight PRight (defScope sRight) := ⟨rfl, rfl, rfl, by decide +kernel, rfl, by decide +kernel, by decide +kernel⟩
abbrev sLaw : Stmt := (PySem.Challenge.pw_whatspeed_k02_sums_and_compares.main.body.getD 17 (.Pass ⟨0, 0, 0, 0⟩))
abbrev NLaw : List Str := ["script", "k", "pot", "turn", "first"]
abbrev PLaw : List Str := ["script"]
theorem scLaw : FnScope NLaw PLaw (defScope sLaw) := ⟨rfl, rfl, rfl, by decide +kernel, rfl, by decide +kernel, by decide +kernel⟩
structure MPair (t b : Int) : Prop where
  z : Sz 100 t
  zb : Sz 60 b
  ne : b ≠ 0
theorem XPair.n {t b : Int} (h : XPair t b) : MPair t b := ⟨h.z.mono (by decide), h.zb.mono (by decide), h.ne⟩
def spPair (C : Addr) : Sp := fun vs H Q _ => ∃ (a : Addr) (t b : Int), vs = [.ref a] ∧ NumAt C H a t b ∧ ∀ r H', H r = none → Tup2 H' r t b → Same H H' → Q (.ref r) H'
def spNear : Sp := fun vs H Q _ => ∃ (p r : Addr) (m t b : Int), vs = [.ref p, .ref r] ∧ PotAt H p m ∧ m ≤ 90000 ∧ Tup2 H r t b ∧ XPair t b ∧ ∀ x H' t' b', H x = none → Tup2 H' x t' b' → MPair t' b' → PotAt H' p (m + 6) → Ch p H H' → Q (.ref x) H'
def spRight : Sp := fun vs H Q _ => ∃ (r1 r2 : Addr) (a b c d : Int), vs = [.ref r1, .ref r2] ∧ Tup2 H r1 a b ∧ Tup2 H r2 c d ∧ MPair a b ∧ MPair c d ∧ ∀ H', Same H H' → Q (.bl true) H'
def spLaw (K : PySem.W.Frag) : Sp := fun vs H Q _ => ∃ (a : Addr) (ns : List Int), vs = [.ref a] ∧ SqL K H a (ns.map V.int) ∧ ns.length ≤ 63 ∧ ∀ H', Q (.bl true) H'
theorem absI_eq (x : Int) : absI x = (x.natAbs : Int) := by
  unfold absI
  split <;> omega
/-- data of pairs -/
theorem dpT {K : PySem.W.Frag} {H : Hp} {r : Addr} {t b : Int} (h : Tup2 H r t b) : Dp K H (.ref r) (.tuple [.int t, .int b]) := .tup (SqT.of h) (.cons (.int _) (.cons (.int _) .nil))
theorem tdyP {t b : Int} (ht : Sz 1000 t) (hb : Sz 1000 b) : Tdy (.tuple [.int t, .int b]) := ⟨Nat.lt_of_lt_of_le (PySem.Flt.log2_lt_of (by decide) ht) (by decide), Nat.lt_of_lt_of_le (PySem.Flt.log2_lt_of (by decide) hb) (by decide), trivial⟩
section
variable {P : Program} {w : World} {K : PySem.W.Frag} {mg : Str → Option Value} {base : Heap} {C f : Addr} {fd : FuncData}
theorem ok_pair (F : L2.Fun K "_law_pair" "_law_pair" sPair f fd) (b : Binds K fd PPair []) (B : Bi mg) (NC : NumC K C) (gN : mg "Number" = some (.ref C)) (pT : PrpF P w K mg base 1 C "top" (spTop C)) (pB : PrpF P w K mg base 1 C "bottom" (spBot C)) : FnR P w K mg base CX0 3 f (spPair C) := by
  refine fnR_of F b scPair (fun vs H Q E h => ?_) (fun cdv A outer s H vs Q E hr h => ?_)
  · obtain ⟨a, t, b, rfl, _⟩ := h
    rfl
  · have sc := scPair
    obtain ⟨a, t, b, rfl, N1, k⟩ := h
    obtain ⟨dx, e1⟩ := N1
    have N1 : NumAt C H a t b := ⟨dx, e1⟩
    refine ⟨_, (pss_one (ps_ret (pe_ifExp (pt_val (pe_callB call_isi (by rfl) B.isinstance (by decide +kernel) (pa_cons (pv 0) (pa_cons (pe_glob (v := .ref C) rfl gN rfl) pa_nil)))) (pe_tup (pa_cons (pe_pr pT hr (by decide) (pv 0)) (pa_cons (pe_pr pB hr (by decide) (pv 0)) pa_nil))) pe_non))), ?_⟩
    refine ⟨_, rfl, _, _, _, _, true, rfl, .own C, NC.ty e1, NC.kk, true, rfl, iteT ?_⟩
    refine ⟨_, rfl, a, dx, _, rfl, e1, a, t, b, rfl, N1, _, rfl, a, dx, _, rfl, e1, a, t, b, rfl, N1, by show 2 ≤ sizeLine; decide, fun r nr => ?_⟩
    exact k r _ nr upd_same (Same.new nr)
theorem ok_near (F : L2.Fun K "_law_near" "_law_near" sNear f fd) (b : Binds K fd PNear []) (cT : CalF P w K mg base 1 "_law_take" spTake) (cO : CalF P w K mg base 2 "_law_of" spOf) (cD : CalF P w K mg base 3 "_law_drawn" spDrawn) : FnR P w K mg base CX0 4 f spNear := by
  refine fnR_of F b scNear (fun vs H Q E h => ?_) (fun cdv A outer s H vs Q E hr h => ?_)
  · obtain ⟨p, r, m, t, b, rfl, _⟩ := h
    rfl
  · have sc := scNear
    obtain ⟨p, r, m, t, b, rfl, hp, hm, er, xp, q⟩ := h
    refine ⟨_, (pss_cons (ps_par (i := 2) (j := 3) (by rfl) sc.nd rfl rfl (by decide) rfl rfl (pa_cons (pe_f cT hr (by decide) rfl (pa_cons (pv 0) (pa_cons pe_int pa_nil))) (pa_cons (pe_f cO hr (by decide) rfl (pa_cons (pv 0) (pa_cons (pe_lst (pa_cons pe_int (pa_cons (pe_un un_neg pe_int) (pa_cons pe_int (pa_cons (pe_un un_neg pe_int) pa_nil))))) pa_nil))) pa_nil)) (by rfl)) (pss_cons (ps_if (pt_cmpR op_lt (pv 2) pe_int (nomark _)) (pss_one (ps_ret (pe_f cD hr (by decide) rfl (pa_cons (pv 0) pa_nil)))) pss_nil) (pss_one (ps_ret (pe_ifExp (pt_cmpR op_eq (pv 2) pe_int (nomark _)) (pe_tup (pa_cons (pe_op op_mulW (pe_ix ix_tup (pv 1) pe_int (fun _ _ => rfl)) (pv 3)) (pa_cons (pe_op op_mulW (pe_ix ix_tup (pv 1) pe_int (fun _ _ => rfl)) (pv 3)) pa_nil))) (pe_tup (pa_cons (pe_op op_add (pe_op op_mulW (pe_ix ix_tup (pv 1) pe_int (fun _ _ => rfl)) pe_int) (pv 3)) (pa_cons (pe_op op_mulW (pe_ix ix_tup (pv 1) pe_int (fun _ _ => rfl)) pe_int) pa_nil)))))))), ?_⟩
    refine ⟨_, rfl, p, 4, m, rfl, hp, by omega, by decide, by decide, fun d H1 d0 d1 hp1 c1 => ?_⟩
    refine ⟨_, rfl, _, rfl, _, rfl, by show 4 ≤ sizeLine; decide, fun l hl => ?_⟩
    have npl : p ≠ l := by obtain ⟨_, _, _, e, _⟩ := hp1; exact ne_of_none e hl
    refine ⟨p, l, _, m + 1, rfl, ?_, by omega, upd_same, fun z => npl z.symm, by show 1 ≤ 4; decide, by show 4 ≤ 1000; decide, fun v H2 hv hp2 c2 => ?_⟩
    · obtain ⟨x, y, z, e, r⟩ := hp1
      exact ⟨x, y, z, (upd_ne npl).trans e, r⟩
    have hv' : ∃ t : Int, v = .int t ∧ Sz 8 t := by
      simp only [List.mem_cons, List.not_mem_nil, or_false] at hv
      rcases hv with rfl | rfl | rfl | rfl
      all_goals exact ⟨_, rfl, by show Int.natAbs _ < 2 ^ 8; decide⟩
    have hv0 : ∀ z : Int, v = .int z → z ≠ 0 := by
      simp only [List.mem_cons, List.not_mem_nil, or_false] at hv
      rcases hv with rfl | rfl | rfl | rfl
      all_goals (intro z hz; cases hz; decide)
    obtain ⟨g, rfl, zg⟩ := hv'
    have g0 := hv0 g rfl
    have c02 : Ch p H H2 := (c1.trans (Ch.new hl)).trans c2
    have er' : H r = some (.tup [.int t, .int b]) := er
    have npr : r ≠ p := by obtain ⟨_, _, _, e, _⟩ := hp; rintro rfl; rw [e] at er'; cases er'
    have er2 : Tup2 H2 r t b := c02 _ _ npr er
    refine ⟨_, _, rfl, _, rfl, _, _, rfl, rfl, _, rfl, ?_⟩
    refine if2 (fun _ => ?_) (fun _ => ?_)
    · refine ⟨_, rfl, p, m + 1 + 1, rfl, hp2, by omega, fun x H3 t' b' nx ex xp' hp3 c3 => ?_⟩
      have npx : x ≠ p := by rintro rfl; obtain ⟨_, _, _, e, _⟩ := hp2; rw [e] at nx; cases nx
      exact q x H3 t' b' (c02.free npx nx) ex xp'.n (hp3.mono (by omega)) (c02.trans c3)
    · refine ⟨_, rfl, rfl, _, rfl, ?_⟩
      have fin : ∀ x t' b', H2 x = none → MPair t' b' → Q (.ref x) (upd H2 x (.tup [.int t', .int b'])) := fun x t' b' nx np => by
        have npx : x ≠ p := by rintro rfl; obtain ⟨_, _, _, e, _⟩ := hp2; rw [e] at nx; cases nx
        refine q x _ t' b' (c02.free npx nx) upd_same np ?_ (c02.trans (Ch.new nx))
        exact (hp2.same (Same.new nx)).mono (by omega)
      refine if2 (fun _ => ?_) (fun _ => ?_)
      · refine ⟨_, rfl, r, _, _, _, rfl, rfl, SqT.of er2, rfl, _, rfl, _, _, rfl, rfl, wide_mul xp.z zg (by decide) (by decide) (by decide), _, rfl, r, _, _, _, rfl, rfl, SqT.of er2, rfl, _, rfl, _, _, rfl, rfl, wide_mul xp.zb zg (by decide) (by decide) (by decide), by show 2 ≤ sizeLine; decide, fun x nx => ?_⟩
        exact fin x _ _ nx ⟨(xp.z.mul zg).mono (by decide), (xp.zb.mul zg).mono (by decide), Int.mul_ne_zero xp.ne g0⟩
      · have S2 : Sz 3 2 := by unfold Sz; decide
        refine ⟨_, rfl, r, _, _, _, rfl, rfl, SqT.of er2, rfl, _, _, rfl, rfl, wide_mul xp.z S2 (by decide) (by decide) (by decide), _, rfl, _, _, rfl, rfl, _, rfl, r, _, _, _, rfl, rfl, SqT.of er2, rfl, _, _, rfl, rfl, wide_mul xp.zb S2 (by decide) (by decide) (by decide), by show 2 ≤ sizeLine; decide, fun x nx => ?_⟩
        exact fin x _ _ nx ⟨((xp.z.mul S2).add (zg.mono (by decide))).mono (by decide : 93 + 1 ≤ 100), (xp.zb.mul S2).mono (by decide), Int.mul_ne_zero xp.ne (by decide)⟩
end
end Ws

namespace Ws
open PySem PySem.Spec PyProof.Rows L2
theorem dp_ne (x y : Str) (h : x = y) : (!decide (V.str x = V.str y)) = false := by subst h; simp
theorem num_low {C : Addr} {H : Hp} {x : Addr} {t b T B : Int} (h : NumAt C H x (nT t b) (nB t b)) (hb : b ≠ 0) (hB : B ≠ 0) (e : t * B = T * b) : NumAt C H x (nT T B) (nB T B) := by
  obtain ⟨e1, e2⟩ := nf_eq hb hB e
  rw [← e1, ← e2]; exact h
theorem abs_mul {p b a q : Int} (hq : 0 < q) (h : p * b = a * q) : absI p * absI b = absI a * q := by
  rw [absI_eq, absI_eq, absI_eq]
  have e : p.natAbs * b.natAbs = a.natAbs * q.natAbs := by rw [← Int.natAbs_mul, ← Int.natAbs_mul, h]
  have e2 : (q.natAbs : Int) = q := by omega
  rw [← e2]
  exact_mod_cast e
theorem cmp_lt {p q r s a b c d : Int} (h1 : p * b = a * q) (h2 : r * d = c * s) (hq : 0 < q) (hs : 0 < s) (hb : b ≠ 0) (hd : d ≠ 0) {sg : Int} (hsg : sg = if b * d > 0 then 1 else -1) : (p * s < r * q) ↔ (a * d * sg < c * b * sg) := by
  have hbd : b * d ≠ 0 := Int.mul_ne_zero hb hd
  have hpos : 0 < b * d * sg := by
    subst hsg
    split
    · omega
    · have : b * d < 0 := by omega
      omega
  have e1 : a * d * sg * (q * s) = p * s * (b * d * sg) := by grind
  have e2 : c * b * sg * (q * s) = r * q * (b * d * sg) := by grind
  have hqs : 0 < q * s := Int.mul_pos hq hs
  constructor
  · intro h
    have h3 : p * s * (b * d * sg) < r * q * (b * d * sg) := Int.mul_lt_mul_of_pos_right h hpos
    rw [← e1, ← e2] at h3
    exact Int.lt_of_mul_lt_mul_right h3 (by omega)
  · intro h
    have h3 : a * d * sg * (q * s) < c * b * sg * (q * s) := Int.mul_lt_mul_of_pos_right h hqs
    rw [e1, e2] at h3
    exact Int.lt_of_mul_lt_mul_right h3 (by omega)
theorem cmp_eq {p q r s a b c d : Int} (l1 : Low a b p q) (l2 : Low c d r s) (hb : b ≠ 0) (hd : d ≠ 0) {sg : Int} (h0 : sg ≠ 0) : (p = r ∧ q = s) ↔ (a * d * sg = c * b * sg) := by
  constructor
  · intro h
    rw [show a * d = c * b from Classical.byContradiction fun e => l1.ne l2 hb hd e h]
  · intro h
    exact l1.eq l2 hb hd (Int.eq_of_mul_eq_mul_right h0 h)
section
variable {P : Program} {w : World} {K : PySem.W.Frag} {mg : Str → Option Value} {base : Heap} {C f : Addr} {fd : FuncData}
theorem ok_right (F : L2.Fun K "_law_is_right" "_law_is_right" sRight f fd) (b : Binds K fd PRight []) (B : Bi mg) (gR : mg "repr" = none) (NC : NumC K C) (NE : NeC K C) (cL : CalF P w K mg base 1 "_law_least" spLeast) (cA : CalF P w K mg base 3 "_law_pair" (spPair C))
    (mN : MakF P w K mg base 2 "Number" C (spNum C)) (oA : OpnF P w K mg base 4 C (PySem.dunder Operator.Add.info.2) (spAdd C)) (oS : OpnF P w K mg base 4 C (PySem.dunder Operator.Sub.info.2) (spSub C)) (oM : OpnF P w K mg base 4 C (PySem.dunder Operator.Mult.info.2) (spMul C))
    (oN : OpnF P w K mg base 4 C "__neg__" (spNeg C)) (oAb : OpnF P w K mg base 4 C "__abs__" (spAbs C)) (oE : OpnF P w K mg base 1 C "__eq__" (spNEq C)) (oB : OpnF P w K mg base 1 C "__bool__" (spNBool C)) (tL : MetF P w K mg base 1 C "is_less" (spLess C)) : FnG P w K mg base CX0 6 f spRight := by
  refine fnG_of F b scRight (fun vs H Q E h => ?_) (fun cdv A outer s H vs Q E cl hr h => ?_)
  · obtain ⟨r1, r2, a, b, c, d, rfl, _⟩ := h
    rfl
  · have sc := scRight
    obtain ⟨r1, r2, a, b, c, d, rfl, er1, er2, n1, n2, k⟩ := h
    have rest : ∃ t, PSs (cxOf CX0 P w K mg base NRight "_law_is_right" (defScope sRight) f cdv A outer s H E).nox (List.drop 7 (defBody sRight)) t ∧ ∀ (G : Hp) (o1 o2 : Addr) (p q r s : Int) (x8 x9 : Option V),
        Tup2 G r1 a b → Tup2 G r2 c d → NumAt C G o1 p q → NumAt C G o2 r s → Low a b p q → Low c d r s → Same H G →
          t { nx := fun _ H' => Q .non H', rt := Q } [some (.ref r1), some (.ref r2), some (.ref o1), some (.ref o2), some (.int a), some (.int b), some (.int c), some (.int d), x8, x9, none, none, none] G := by
      have rest2 : ∃ t, PSs (cxOf CX0 P w K mg base NRight "_law_is_right" (defScope sRight) f cdv A outer s H E).nox (List.drop 8 (defBody sRight)) t ∧ ∀ (G : Hp) (o1 o2 : Addr) (p q r s : Int) (x8 x9 : Option V) (sg : Int),
          Tup2 G r1 a b → Tup2 G r2 c d → NumAt C G o1 p q → NumAt C G o2 r s → Low a b p q → Low c d r s → Same H G → sg = (if b * d > 0 then 1 else -1) →
            t { nx := fun _ H' => Q .non H', rt := Q } [some (.ref r1), some (.ref r2), some (.ref o1), some (.ref o2), some (.int a), some (.int b), some (.int c), some (.int d), x8, x9, some (.int sg), none, none] G := by
        refine ⟨_, (pss_cons (ps_par (i := 11) (j := 12) (by rfl) sc.nd rfl rfl (by decide) rfl rfl (pa_cons (pe_op op_mulW (pe_op op_mulW (pv 4) (pv 7)) (pv 10)) (pa_cons (pe_op op_mulW (pe_op op_mulW (pv 6) (pv 5)) (pv 10)) pa_nil)) (by rfl)) (pss_cons (ps_set (i := 8) sc.nd rfl (Or.inl rfl) (pe_lst (pa_cons (pe_mt tL hr (by decide) (pv 2) (pa_cons (pv 3) pa_nil)) (pa_cons (pe_mt tL hr (by decide) (pv 3) (pa_cons (pv 2) pa_nil)) (pa_cons (pe_mt tL hr (by decide) (pv 2) (pa_cons (pv 2) pa_nil)) (pa_cons (pe_cmpR (show OpR _ _ (rEqO K C (spNEq C)) from op_eqO oE hr (by decide)) (pv 2) (pv 3) (nomark _)) (pa_cons (pe_cmpR (show OpR _ _ (rNeO K C (spNEq C)) from op_neO NE oE hr (by decide)) (pv 2) (pv 3) (nomark _)) (pa_cons (pe_callTy (call_boolO oB hr (by decide)) (by rfl) B.bool (by decide +kernel) (pa_cons (pv 2) pa_nil)) pa_nil)))))))) (pss_cons (ps_set (i := 9) sc.nd rfl (Or.inl rfl) (pe_lst (pa_cons (pe_cmpR op_lt (pv 11) (pv 12) (nomark _)) (pa_cons (pe_cmpR op_lt (pv 12) (pv 11) (nomark _)) (pa_cons pe_bl (pa_cons (pe_cmpR op_eq (pv 11) (pv 12) (nomark _)) (pa_cons (pe_cmpR op_ne (pv 11) (pv 12) (nomark _)) (pa_cons (pe_cmpR op_ne (pv 4) pe_int (nomark _)) pa_nil)))))))) (pss_cons (ps_if (pt_cmpR op_ne (pe_callB (call_rep cl hr) (by rfl) gR (by decide +kernel) (pa_cons (pv 8) pa_nil)) (pe_callB (call_rep cl hr) (by rfl) gR (by decide +kernel) (pa_cons (pv 9) pa_nil)) (nomark _)) (pss_one (ps_ret pe_bl)) pss_nil) (pss_one (ps_ret (pe_cmpR (op_eqD hr.units) (pe_lst (pa_cons (pe_f cA hr (by decide) rfl (pa_cons (pv 2) pa_nil)) (pa_cons (pe_f cA hr (by decide) rfl (pa_cons (pv 3) pa_nil)) pa_nil))) (pe_lst (pa_cons (pe_f cL hr (by decide) rfl (pa_cons (pv 4) (pa_cons (pv 5) pa_nil))) (pa_cons (pe_f cL hr (by decide) rfl (pa_cons (pv 6) (pa_cons (pv 7) pa_nil))) pa_nil))) (nomark _)))))))), ?_⟩
        intro G o1 o2 p q r s x8 x9 sg er1 er2 N1 N2 l1 l2 sG hsg
        obtain ⟨dx1, e1⟩ := N1
        obtain ⟨dx2, e2⟩ := N2
        have N1 : NumAt C G o1 p q := ⟨dx1, e1⟩
        have N2 : NumAt C G o2 r s := ⟨dx2, e2⟩
        have wAD := wide_mul n1.z n2.zb (by decide) (by decide) (by decide)
        have wCB := wide_mul n2.z n1.zb (by decide) (by decide) (by decide)
        have zAD : Sz 160 (a * d) := n1.z.mul n2.zb
        have zCB : Sz 160 (c * b) := n2.z.mul n1.zb
        have zsg : Sz 2 sg := by rw [hsg]; split <;> (unfold Sz; decide)
        have sg0 : sg ≠ 0 := by rw [hsg]; split <;> decide
        have zp : Sz 100 p := l1.szT n1.ne n1.z
        have zq : Sz 60 q := l1.szB n1.ne n1.zb
        have zr : Sz 100 r := l2.szT n2.ne n2.z
        have zs : Sz 60 s := l2.szB n2.ne n2.zb
        have q0 := l1.pos
        have s0 := l2.pos
        refine ⟨_, rfl, _, rfl, _, _, rfl, rfl, wAD, _, rfl, _, _, rfl, rfl, wide_mul zAD zsg (by decide) (by decide) (by decide), _, rfl, _, rfl, _, _, rfl, rfl, wCB, _, rfl, _, _, rfl, rfl, wide_mul zCB zsg (by decide) (by decide) (by decide), _, _, rfl, ?_⟩
        -- told
        refine ⟨_, rfl, o1, dx1, _, rfl, e1, rfl, _, rfl, o1, o2, p, q, r, s, rfl, N1, N2, zp.mono (by decide), zq.mono (by decide), zr.mono (by decide), zs.mono (by decide), ?_⟩
        refine ⟨_, rfl, o2, dx2, _, rfl, e2, rfl, _, rfl, o2, o1, r, s, p, q, rfl, N2, N1, zr.mono (by decide), zs.mono (by decide), zp.mono (by decide), zq.mono (by decide), ?_⟩
        refine ⟨_, rfl, o1, dx1, _, rfl, e1, rfl, _, rfl, o1, o1, p, q, p, q, rfl, N1, N1, zp.mono (by decide), zq.mono (by decide), zp.mono (by decide), zq.mono (by decide), ?_⟩
        refine ⟨_, rfl, _, rfl, o1, dx1, _, _, rfl, e1, .ins e2, NC.nf, o1, o2, p, q, r, s, rfl, N1, N2, ?_⟩
        refine ⟨_, rfl, _, rfl, o1, dx1, _, _, rfl, e1, .ins e2, NC.nf, o1, o2, p, q, r, s, rfl, N1, N2, _, rfl, ?_⟩
        refine ⟨_, rfl, o1, dx1, _, rfl, e1, o1, p, q, rfl, N1, _, rfl, ?_⟩
        refine ⟨by show 6 ≤ sizeLine; decide, fun TL nTL => ?_⟩
        have j1 := Same.new (o := .lst [.bl (decide (p * s < r * q)), .bl (decide (r * q < p * s)), .bl (decide (p * q < p * q)), .bl (decide (p = r ∧ q = s)), .bl (!decide (p = r ∧ q = s)), .bl (p != 0)]) nTL
        have eTL := upd_same (H := G) (a := TL) (o := .lst [.bl (decide (p * s < r * q)), .bl (decide (r * q < p * s)), .bl (decide (p * q < p * q)), .bl (decide (p = r ∧ q = s)), .bl (!decide (p = r ∧ q = s)), .bl (p != 0)])
        generalize upd G TL (.lst [.bl (decide (p * s < r * q)), .bl (decide (r * q < p * s)), .bl (decide (p * q < p * q)), .bl (decide (p = r ∧ q = s)), .bl (!decide (p = r ∧ q = s)), .bl (p != 0)]) = G1 at j1 eTL
        -- due
        refine ⟨_, rfl, _, rfl, _, _, rfl, rfl, _, rfl, _, rfl, _, _, rfl, rfl, _, rfl, _, rfl, rfl, _, rfl, _, rfl, rfl, _, rfl, rfl, by show 6 ≤ sizeLine; decide, fun DL nDL => ?_⟩
        have j2 := Same.new (o := .lst [.bl (decide (a * d * sg < c * b * sg)), .bl (decide (c * b * sg < a * d * sg)), .bl false, .bl (decide (V.int (a * d * sg) = V.int (c * b * sg))), .bl (!decide (V.int (a * d * sg) = V.int (c * b * sg))), .bl (!decide (V.int a = V.int 0))]) nDL
        have eDL := upd_same (H := G1) (a := DL) (o := .lst [.bl (decide (a * d * sg < c * b * sg)), .bl (decide (c * b * sg < a * d * sg)), .bl false, .bl (decide (V.int (a * d * sg) = V.int (c * b * sg))), .bl (!decide (V.int (a * d * sg) = V.int (c * b * sg))), .bl (!decide (V.int a = V.int 0))])
        generalize upd G1 DL (.lst [.bl (decide (a * d * sg < c * b * sg)), .bl (decide (c * b * sg < a * d * sg)), .bl false, .bl (decide (V.int (a * d * sg) = V.int (c * b * sg))), .bl (!decide (V.int (a * d * sg) = V.int (c * b * sg))), .bl (!decide (V.int a = V.int 0))]) = G2 at j2 eDL
        have c1 := l1.cross
        have c2 := l2.cross
        have b1 : decide (a * d * sg < c * b * sg) = decide (p * s < r * q) := decide_eq_decide.mpr (cmp_lt c1 c2 q0 s0 n1.ne n2.ne hsg).symm
        have b2 : decide (c * b * sg < a * d * sg) = decide (r * q < p * s) := decide_eq_decide.mpr (cmp_lt c2 c1 s0 q0 n2.ne n1.ne (by rw [hsg, Int.mul_comm d b])).symm
        have b3 : decide (p * q < p * q) = false := decide_eq_false (Int.lt_irrefl _)
        have b4 : decide (V.int (a * d * sg) = V.int (c * b * sg)) = decide (p = r ∧ q = s) := decide_eq_decide.mpr ⟨fun h => (cmp_eq l1 l2 n1.ne n2.ne sg0).mpr (by injection h), fun h => by rw [(cmp_eq l1 l2 n1.ne n2.ne sg0).mp h]⟩
        have b5 : (!decide (V.int a = V.int 0)) = (p != 0) := by
          have := l1.zero n1.ne
          by_cases h : a = 0
          · rw [this.mpr h, h]; rfl
          · have hp : p ≠ 0 := fun z => h (this.mp z)
            have h2 : ¬ (V.int a = V.int 0) := fun z => h (by injection z)
            rw [decide_eq_false h2]
            simp [hp]
        rw [b1, b2, b4, b5] at eDL
        rw [b3] at eTL
        have dT : Dp K G2 (.ref TL) (.list [.bool (decide (p * s < r * q)), .bool (decide (r * q < p * s)), .bool false, .bool (decide (p = r ∧ q = s)), .bool (!decide (p = r ∧ q = s)), .bool (p != 0)]) := .lst (SqL.of (j2 _ _ eTL)) (.cons (.bl _) (.cons (.bl _) (.cons (.bl _) (.cons (.bl _) (.cons (.bl _) (.cons (.bl _) .nil))))))
        have dD : Dp K G2 (.ref DL) (.list [.bool (decide (p * s < r * q)), .bool (decide (r * q < p * s)), .bool false, .bool (decide (p = r ∧ q = s)), .bool (!decide (p = r ∧ q = s)), .bool (p != 0)]) := .lst (SqL.of eDL) (.cons (.bl _) (.cons (.bl _) (.cons (.bl _) (.cons (.bl _) (.cons (.bl _) (.cons (.bl _) .nil))))))
        refine ⟨_, rfl, TL, _, rfl, ⟨dT, ⟨trivial, trivial, trivial, trivial, trivial, trivial, trivial⟩, by show 6 ≤ 8000; decide, by show 1 ≤ 60; decide⟩, ?_⟩
        refine ⟨_, rfl, DL, _, rfl, ⟨dD, ⟨trivial, trivial, trivial, trivial, trivial, trivial, trivial⟩, by show 6 ≤ 8000; decide, by show 1 ≤ 60; decide⟩, ?_⟩
        refine ⟨rfl, _, rfl, ifF (dp_ne _ _ rfl) ?_⟩
        -- return
        have k2 := j1.trans j2
        refine ⟨_, rfl, o1, p, q, rfl, N1.same k2, fun t1 G3 _ et1 j3 => ?_⟩
        refine ⟨_, rfl, o2, r, s, rfl, (N2.same k2).same j3, fun t2 G4 _ et2 j4 => ?_⟩
        refine ⟨by show 2 ≤ sizeLine; decide, fun A1 nA1 => ?_⟩
        have j5 := Same.new (o := .lst [.ref t1, .ref t2]) nA1
        have eA1 := upd_same (H := G4) (a := A1) (o := .lst [.ref t1, .ref t2])
        generalize upd G4 A1 (.lst [.ref t1, .ref t2]) = G5 at j5 eA1
        refine ⟨_, rfl, _, rfl, _, _, rfl, n1.ne, n1.zb.mono (by decide), n1.z.mono (by decide), fun d1 G6 _ ed1 j6 => ?_⟩
        refine ⟨_, rfl, _, rfl, _, _, rfl, n2.ne, n2.zb.mono (by decide), n2.z.mono (by decide), fun d2 G7 _ ed2 j7 => ?_⟩
        refine ⟨by show 2 ≤ sizeLine; decide, fun A2 nA2 => ?_⟩
        have j8 := Same.new (o := .lst [.ref d1, .ref d2]) nA2
        have eA2 := upd_same (H := G7) (a := A2) (o := .lst [.ref d1, .ref d2])
        generalize upd G7 A2 (.lst [.ref d1, .ref d2]) = G8 at j8 eA2
        have m5 := (j6.trans j7).trans j8
        have et1 : Tup2 G8 t1 p q := ((j4.trans j5).trans m5) _ _ et1
        have et2 : Tup2 G8 t2 r s := (j5.trans m5) _ _ et2
        have ed1 : Tup2 G8 d1 _ _ := (j7.trans j8) _ _ ed1
        have ed2 : Tup2 G8 d2 _ _ := j8 _ _ ed2
        rw [← (l1.nf n1.ne).1, ← (l1.nf n1.ne).2] at ed1
        rw [← (l2.nf n2.ne).1, ← (l2.nf n2.ne).2] at ed2
        refine ⟨_, _, .lst (SqL.of (m5 _ _ eA1)) (.cons (dpT et1) (.cons (dpT et2) .nil)), .lst (SqL.of eA2) (.cons (dpT ed1) (.cons (dpT ed2) .nil)), rfl, rfl, ?_⟩
        have fin := k G8 ((((sG.trans k2).trans j3).trans (j4.trans j5)).trans m5)
        have e : PyData.eqv (.list [.tuple [.int p, .int q], .tuple [.int r, .int s]]) (.list [.tuple [.int p, .int q], .tuple [.int r, .int s]]) = true := by
          simp only [PyData.eqv, PyData.eqvAll, Bool.and_true, beq_self_eq_true, decide_true]
        rw [e]
        exact fin
      obtain ⟨t, hbody, ht⟩ := rest2
      refine ⟨_, (pss_cons (ps_set (i := 10) sc.nd rfl (Or.inl rfl) (pe_ifExp (pt_cmpR op_gt (pe_op op_mulW (pv 5) (pv 7)) pe_int (nomark _)) pe_int (pe_un un_neg pe_int))) hbody), ?_⟩
      intro G o1 o2 p q r s x8 x9 er1 er2 N1 N2 l1 l2 sG
      refine ⟨_, rfl, _, rfl, _, _, rfl, rfl, wide_mul n1.zb n2.zb (by decide) (by decide) (by decide), _, _, rfl, rfl, _, rfl, if2 (fun h => ?_) (fun h => ?_)⟩
      · exact ht G o1 o2 p q r s _ _ _ er1 er2 N1 N2 l1 l2 sG (by rw [if_pos (of_decide_eq_true h)])
      · refine ⟨_, rfl, ?_⟩
        exact ht G o1 o2 p q r s _ _ _ er1 er2 N1 N2 l1 l2 sG (by rw [if_neg (of_decide_eq_false h)])
    obtain ⟨t, hbody, ht⟩ := rest
    refine ⟨_, (pss_cons (ps_par (i := 2) (j := 3) (by rfl) sc.nd rfl rfl (by decide) rfl rfl (pa_cons (pe_mk mN hr (by decide) rfl (pa_cons (pe_ix ix_tup (pv 0) pe_int (fun _ _ => rfl)) (pa_cons (pe_ix ix_tup (pv 0) pe_int (fun _ _ => rfl)) pa_nil))) (pa_cons (pe_mk mN hr (by decide) rfl (pa_cons (pe_ix ix_tup (pv 1) pe_int (fun _ _ => rfl)) (pa_cons (pe_ix ix_tup (pv 1) pe_int (fun _ _ => rfl)) pa_nil))) pa_nil)) (by rfl)) (pss_cons (ps_asg (pe_tup (pa_cons (pe_ix ix_tup (pv 0) pe_int (fun _ _ => rfl)) (pa_cons (pe_ix ix_tup (pv 0) pe_int (fun _ _ => rfl)) (pa_cons (pe_ix ix_tup (pv 1) pe_int (fun _ _ => rfl)) (pa_cons (pe_ix ix_tup (pv 1) pe_int (fun _ _ => rfl)) pa_nil))))) (pg_tup rfl (pgs_cons (pg_name (i := 4) sc.nd rfl (Or.inl rfl)) (pgs_cons (pg_name (i := 5) sc.nd rfl (Or.inl rfl)) (pgs_cons (pg_name (i := 6) sc.nd rfl (Or.inl rfl)) (pgs_cons (pg_name (i := 7) sc.nd rfl (Or.inl rfl)) pgs_nil)))))) (pss_cons (ps_set (i := 8) sc.nd rfl (Or.inl rfl) (pe_lst (pa_cons (pe_f cA hr (by decide) rfl (pa_cons (pe_op (op_own oA NC.sf hr (by decide)) (pv 2) (pv 3)) pa_nil)) (pa_cons (pe_f cA hr (by decide) rfl (pa_cons (pe_op (op_own oS NC.sf hr (by decide)) (pv 2) (pv 3)) pa_nil)) (pa_cons (pe_f cA hr (by decide) rfl (pa_cons (pe_op (op_own oM NC.sf hr (by decide)) (pv 2) (pv 3)) pa_nil)) (pa_cons (pe_f cA hr (by decide) rfl (pa_cons (pe_un (un_negO oN hr (by decide)) (pv 2)) pa_nil)) pa_nil)))))) (pss_cons (ps_expr (pe_bm PySem.F.plainAttrs_list PySem.F.slot_list_append PySem.F.type_list_append mt_append (pv 8) (pa_cons (pe_f cA hr (by decide) rfl (pa_cons (pe_callB (call_absO oAb hr (by decide)) (by rfl) B.abs (by decide +kernel) (pa_cons (pv 2) pa_nil)) pa_nil)) pa_nil))) (pss_cons (ps_set (i := 9) sc.nd rfl (Or.inl rfl) (pe_lst (pa_cons (pe_f cL hr (by decide) rfl (pa_cons (pe_op op_add (pe_op op_mulW (pv 4) (pv 7)) (pe_op op_mulW (pv 6) (pv 5))) (pa_cons (pe_op op_mulW (pv 5) (pv 7)) pa_nil))) (pa_cons (pe_f cL hr (by decide) rfl (pa_cons (pe_op op_sub (pe_op op_mulW (pv 4) (pv 7)) (pe_op op_mulW (pv 6) (pv 5))) (pa_cons (pe_op op_mulW (pv 5) (pv 7)) pa_nil))) (pa_cons (pe_f cL hr (by decide) rfl (pa_cons (pe_op op_mulW (pv 4) (pv 6)) (pa_cons (pe_op op_mulW (pv 5) (pv 7)) pa_nil))) pa_nil))))) (pss_cons (ps_set (i := 9) sc.nd rfl (Or.inl rfl) (pe_op op_cat (pv 9) (pe_lst (pa_cons (pe_f cL hr (by decide) rfl (pa_cons (pe_un un_neg (pv 4)) (pa_cons (pv 5) pa_nil))) (pa_cons (pe_f cL hr (by decide) rfl (pa_cons (pe_callB call_abs (by rfl) B.abs (by decide +kernel) (pa_cons (pv 4) pa_nil)) (pa_cons (pe_callB call_abs (by rfl) B.abs (by decide +kernel) (pa_cons (pv 5) pa_nil)) pa_nil))) pa_nil))))) (pss_cons (ps_if (pt_cmpR op_ne (pe_callB (call_rep cl hr) (by rfl) gR (by decide +kernel) (pa_cons (pv 8) pa_nil)) (pe_callB (call_rep cl hr) (by rfl) gR (by decide +kernel) (pa_cons (pv 9) pa_nil)) (nomark _)) (pss_one (ps_ret pe_bl)) pss_nil) hbody))))))), ?_⟩
    refine ⟨_, rfl, r1, _, _, _, rfl, rfl, SqT.of er1, rfl, _, rfl, r1, _, _, _, rfl, rfl, SqT.of er1, rfl, ?_⟩
    intro o1 d1 nx nd ne
    refine ⟨o1, d1, _, _, rfl, n1.ne, n1.zb.mono (by decide), upd_same, fun H1 N1 k1 => ⟨rfl, ?_⟩⟩
    have s1 : Same H H1 := Same.mk nx nd k1
    refine ⟨_, rfl, r2, _, _, _, rfl, rfl, SqT.of (er2.same s1), rfl, _, rfl, r2, _, _, _, rfl, rfl, SqT.of (er2.same s1), rfl, ?_⟩
    intro o2 d2 nx nd ne
    refine ⟨o2, d2, _, _, rfl, n2.ne, n2.zb.mono (by decide), upd_same, fun H2 N2 k2 => ⟨rfl, ?_⟩⟩
    have s2 : Same H1 H2 := Same.mk nx nd k2
    have er1' := (er1.same s1).same s2
    have er2' := (er2.same s1).same s2
    refine ⟨_, _, rfl, ?_⟩
    refine ⟨_, rfl, r1, _, _, _, rfl, rfl, SqT.of er1', rfl, _, rfl, r1, _, _, _, rfl, rfl, SqT.of er1', rfl, _, rfl, r2, _, _, _, rfl, rfl, SqT.of er2', rfl, _, rfl, r2, _, _, _, rfl, rfl, SqT.of er2', rfl, by show 4 ≤ sizeLine; decide, fun T nTT => ?_⟩
    refine ⟨T, _, rfl, SqT.of upd_same, rfl, _, _, rfl, _, _, rfl, _, _, rfl, _, _, rfl, rfl, ?_⟩
    have jT : Same H2 (upd H2 T (.tup [.int a, .int b, .int c, .int d])) := Same.new nTT
    generalize upd H2 T (.tup [.int a, .int b, .int c, .int d]) = G0 at jT
    have n1' := n1.ne
    have n2' := n2.ne
    have l1 := nf_low (t := a) n1.ne
    have l2 := nf_low (t := c) n2.ne
    have zp : Sz 100 (nT a b) := n1.z.nT n1.ne
    have zq : Sz 60 (nB a b) := n1.zb.nB n1.ne
    have zr : Sz 100 (nT c d) := n2.z.nT n2.ne
    have zs : Sz 60 (nB c d) := n2.zb.nB n2.ne
    have N1 := (N1.same s2).same jT
    have N2 := N2.same jT
    generalize nT a b = p at *
    generalize nB a b = q at *
    generalize nT c d = r at *
    generalize nB c d = s' at *
    have q0 := l1.pos
    have s0 := l2.pos
    have bd : b * d ≠ 0 := Int.mul_ne_zero n1.ne n2.ne
    have qs : q * s' ≠ 0 := Int.mul_ne_zero (by omega) (by omega)
    have c1 := l1.cross
    have c2 := l2.cross
    obtain ⟨dx1, e1⟩ := N1
    obtain ⟨dx2, e2⟩ := N2
    have N1 : NumAt C G0 o1 p q := ⟨dx1, e1⟩
    have N2 : NumAt C G0 o2 r s' := ⟨dx2, e2⟩
    have er1 := er1'.same jT
    have er2 := er2'.same jT
    have s0' := (s1.trans s2).trans jT
    -- told
    refine ⟨_, rfl, _, rfl, o1, dx1, _, o2, dx2, _, rfl, e1, rfl, e2, o1, o2, p, q, r, s', rfl, N1, N2, zp.mono (by decide), zq.mono (by decide), zr.mono (by decide), zs.mono (by decide), qs, fun x1 G1 _ hx1 j1 => ?_⟩
    refine ⟨x1, _, _, rfl, hx1, fun t1 G2 _ et1 j2 => ?_⟩
    have k2 := j1.trans j2
    refine ⟨_, rfl, _, rfl, o1, dx1, _, o2, dx2, _, rfl, k2 _ _ e1, rfl, k2 _ _ e2, o1, o2, p, q, r, s', rfl, N1.same k2, N2.same k2, zp.mono (by decide), zq.mono (by decide), zr.mono (by decide), zs.mono (by decide), qs, fun x2 G3 _ hx2 j3 => ?_⟩
    refine ⟨x2, _, _, rfl, hx2, fun t2 G4 _ et2 j4 => ?_⟩
    have k4 := (k2.trans j3).trans j4
    refine ⟨_, rfl, _, rfl, o1, dx1, _, o2, dx2, _, rfl, k4 _ _ e1, rfl, k4 _ _ e2, o1, o2, p, q, r, s', rfl, N1.same k4, N2.same k4, zp.mono (by decide), zq.mono (by decide), zr.mono (by decide), zs.mono (by decide), qs, fun x3 G5 _ hx3 j5 => ?_⟩
    refine ⟨x3, _, _, rfl, hx3, fun t3 G6 _ et3 j6 => ?_⟩
    have k6 := (k4.trans j5).trans j6
    refine ⟨_, rfl, o1, dx1, _, rfl, k6 _ _ e1, o1, p, q, rfl, N1.same k6, by omega, zq.mono (by decide), fun x4 G7 _ hx4 j7 => ?_⟩
    refine ⟨x4, _, _, rfl, hx4, fun t4 G8 _ et4 j8 => ?_⟩
    have k8 := (k6.trans j7).trans j8
    refine ⟨by show 4 ≤ sizeLine; decide, fun TL nTL => ?_⟩
    have j9 := Same.new (o := .lst [.ref t1, .ref t2, .ref t3, .ref t4]) nTL
    have eTL := upd_same (H := G8) (a := TL) (o := .lst [.ref t1, .ref t2, .ref t3, .ref t4])
    generalize upd G8 TL (.lst [.ref t1, .ref t2, .ref t3, .ref t4]) = G9 at j9 eTL
    have k9 := k8.trans j9
    -- told.append
    refine ⟨_, rfl, .inl ⟨rfl, _, SqL.of eTL⟩, ?_⟩
    refine ⟨_, rfl, o1, dx1, _, rfl, k9 _ _ e1, o1, p, q, rfl, N1.same k9, by omega, zq.mono (by decide), fun x5 G10 _ hx5 j10 => ?_⟩
    refine ⟨x5, _, _, rfl, hx5, fun t5 G11 _ et5 j11 => ?_⟩
    have k1011 := j10.trans j11
    refine ⟨TL, _, _, rfl, rfl, k1011 _ _ eTL, by show 4 < sizeLine; decide, ?_⟩
    have c12 : Ch TL G11 (upd G11 TL (.lst ([.ref t1, .ref t2, .ref t3, .ref t4] ++ [.ref t5]))) := Ch.upd
    have eTL2 := upd_same (H := G11) (a := TL) (o := .lst ([.ref t1, .ref t2, .ref t3, .ref t4] ++ [.ref t5]))
    have eTL0 := k1011 _ _ eTL
    generalize upd G11 TL (.lst ([.ref t1, .ref t2, .ref t3, .ref t4] ++ [.ref t5])) = G12 at c12 eTL2
    have s012 : Same G0 G12 := fun b o e => c12 _ _ (ne_of_none (k8 _ _ e) nTL) (k1011 _ _ (k9 _ _ e))
    have up : ∀ {b : Addr} {x y : Int}, Tup2 G11 b x y → Tup2 G12 b x y := fun {b x y} e => c12 _ _ (ne_of e eTL0 (fun z => by cases z)) e
    have et1 := up (et1.same ((((((j3.trans j4).trans j5).trans j6).trans j7).trans j8).trans (j9.trans k1011)))
    have et2 := up (et2.same ((((j5.trans j6).trans j7).trans j8).trans (j9.trans k1011)))
    have et3 := up (et3.same ((j7.trans j8).trans (j9.trans k1011)))
    have et4 := up (et4.same (j9.trans k1011))
    have et5 := up et5
    -- due
    have wAD := wide_mul n1.z n2.zb (by decide) (by decide) (by decide)
    have wCB := wide_mul n2.z n1.zb (by decide) (by decide) (by decide)
    have wBD := wide_mul n1.zb n2.zb (by decide) (by decide) (by decide)
    have wAC := wide_mul n1.z n2.z (by decide) (by decide) (by decide)
    have zBD : Sz 120 (b * d) := n1.zb.mul n2.zb
    have zAD : Sz 160 (a * d) := n1.z.mul n2.zb
    have zCB : Sz 160 (c * b) := n2.z.mul n1.zb
    have zAC : Sz 200 (a * c) := n1.z.mul n2.z
    refine ⟨_, rfl, _, rfl, _, _, rfl, rfl, wAD, _, rfl, _, rfl, _, _, rfl, rfl, wCB, _, _, rfl, rfl, _, rfl, _, rfl, _, _, rfl, rfl, wBD, _, _, rfl, bd, zBD.mono (by decide), (zAD.add zCB).mono (by decide : 161 ≤ 8000), fun d1 G13 _ ed1 j13 => ?_⟩
    refine ⟨_, rfl, _, rfl, _, _, rfl, rfl, wAD, _, rfl, _, rfl, _, _, rfl, rfl, wCB, _, _, rfl, rfl, _, rfl, _, rfl, _, _, rfl, rfl, wBD, _, _, rfl, bd, zBD.mono (by decide), (zAD.sub zCB).mono (by decide : 161 ≤ 8000), fun d2 G14 _ ed2 j14 => ?_⟩
    refine ⟨_, rfl, _, rfl, _, _, rfl, rfl, wAC, _, rfl, _, rfl, _, _, rfl, rfl, wBD, _, _, rfl, bd, zBD.mono (by decide), zAC.mono (by decide), fun d3 G15 _ ed3 j15 => ?_⟩
    refine ⟨by show 3 ≤ sizeLine; decide, fun DL nDL => ?_⟩
    have j16 := Same.new (o := .lst [.ref d1, .ref d2, .ref d3]) nDL
    have eDL := upd_same (H := G15) (a := DL) (o := .lst [.ref d1, .ref d2, .ref d3])
    generalize upd G15 DL (.lst [.ref d1, .ref d2, .ref d3]) = G16 at j16 eDL
    -- due + [..]
    refine ⟨_, rfl, _, rfl, _, rfl, _, rfl, _, _, rfl, n1.ne, n1.zb.mono (by decide), n1.z.neg.mono (by decide), fun d4 G17 _ ed4 j17 => ?_⟩
    have hb' : (if b < 0 then -b else b) ≠ 0 := by split <;> omega
    have zb' : Sz 60 (if b < 0 then -b else b) := by
      split
      · exact n1.zb.neg
      · exact n1.zb
    have za' : Sz 100 (if a < 0 then -a else a) := by
      split
      · exact n1.z.neg
      · exact n1.z
    refine ⟨_, rfl, _, rfl, _, rfl, _, rfl, _, _, rfl, hb', zb'.mono (by decide), za'.mono (by decide), fun d5 G18 _ ed5 j18 => ?_⟩
    refine ⟨by show 2 ≤ sizeLine; decide, fun D2 nD2 => ?_⟩
    have j19 := Same.new (o := .lst [.ref d4, .ref d5]) nD2
    have eD2 := upd_same (H := G18) (a := D2) (o := .lst [.ref d4, .ref d5])
    generalize upd G18 D2 (.lst [.ref d4, .ref d5]) = G19 at j19 eD2
    have k1719 := (j17.trans j18).trans j19
    refine ⟨DL, D2, _, _, rfl, rfl, k1719 _ _ eDL, eD2, by show 5 ≤ sizeLine; decide, fun DD nDD => ?_⟩
    have j20 := Same.new (o := .lst ([.ref d1, .ref d2, .ref d3] ++ [.ref d4, .ref d5])) nDD
    have eDD := upd_same (H := G19) (a := DD) (o := .lst ([.ref d1, .ref d2, .ref d3] ++ [.ref d4, .ref d5]))
    generalize upd G19 DD (.lst ([.ref d1, .ref d2, .ref d3] ++ [.ref d4, .ref d5])) = G20 at j20 eDD
    have m19 := k1719.trans j20
    have m15 := j16.trans m19
    have m14 := j15.trans m15
    have m13 := j14.trans m14
    have m12 := j13.trans m13
    -- repr(told) != repr(due)
    have ed1 : Tup2 G20 d1 _ _ := m13 _ _ ed1
    have ed2 : Tup2 G20 d2 _ _ := m14 _ _ ed2
    have ed3 : Tup2 G20 d3 _ _ := m15 _ _ ed3
    have ed4 : Tup2 G20 d4 _ _ := ((j18.trans j19).trans j20) _ _ ed4
    have ed5 : Tup2 G20 d5 _ _ := (j19.trans j20) _ _ ed5
    have et1 := et1.same m12
    have et2 := et2.same m12
    have et3 := et3.same m12
    have et4 := et4.same m12
    have et5 := et5.same m12
    have eTL2 := m12 _ _ eTL2
    obtain ⟨a1, a2⟩ := nf_eq (t := p * s' + r * q) (c := a * d + c * b) qs bd (by grind)
    obtain ⟨a3, a4⟩ := nf_eq (t := p * s' - r * q) (c := a * d - c * b) qs bd (by grind)
    obtain ⟨a5, a6⟩ := nf_eq (t := p * r) (c := a * c) qs bd (by grind)
    obtain ⟨a7, a8⟩ := nf_eq (t := -p) (c := -a) (b := q) (d := b) (by omega) n1.ne (by grind)
    obtain ⟨a9, a10⟩ := nf_eq (t := absI p) (c := (if a < 0 then -a else a)) (b := q) (d := (if b < 0 then -b else b)) (by omega) hb' (abs_mul q0 c1)
    rw [a1, a2] at et1
    rw [a3, a4] at et2
    rw [a5, a6] at et3
    rw [a7, a8] at et4
    rw [a9, a10] at et5
    have y1 := tdyP ((Sz.nT bd (zAD.add zCB)).mono (by decide : 161 ≤ 1000)) ((Sz.nB (t := a * d + c * b) bd zBD).mono (by decide))
    have y2 := tdyP ((Sz.nT bd (zAD.sub zCB)).mono (by decide : 161 ≤ 1000)) ((Sz.nB (t := a * d - c * b) bd zBD).mono (by decide))
    have y3 := tdyP ((Sz.nT bd zAC).mono (by decide : 200 ≤ 1000)) ((Sz.nB (t := a * c) bd zBD).mono (by decide))
    have y4 := tdyP ((Sz.nT n1.ne n1.z.neg).mono (by decide : 100 ≤ 1000)) ((Sz.nB (t := -a) n1.ne n1.zb).mono (by decide))
    have y5 := tdyP ((Sz.nT hb' za').mono (by decide : 100 ≤ 1000)) ((Sz.nB (t := if a < 0 then -a else a) hb' zb').mono (by decide))
    refine ⟨_, rfl, TL, _, rfl, ⟨.lst (SqL.of eTL2) (.cons (dpT et1) (.cons (dpT et2) (.cons (dpT et3) (.cons (dpT et4) (.cons (dpT et5) .nil))))), ⟨y1, y2, y3, y4, y5, trivial⟩, by show 15 ≤ 8000; decide, by show 2 ≤ 60; decide⟩, ?_⟩
    refine ⟨_, rfl, DD, _, rfl, ⟨.lst (SqL.of eDD) (.cons (dpT ed1) (.cons (dpT ed2) (.cons (dpT ed3) (.cons (dpT ed4) (.cons (dpT ed5) .nil))))), ⟨y1, y2, y3, y4, y5, trivial⟩, by show 15 ≤ 8000; decide, by show 2 ≤ 60; decide⟩, ?_⟩
    refine ⟨rfl, _, rfl, ifF (dp_ne _ _ rfl) ?_⟩
    have m0 := s012.trans m12
    exact ht G20 o1 o2 p q r s' _ _ (er1.same m0) (er2.same m0) (N1.same m0) (N2.same m0) l1 l2 (s0'.trans m0)
end
end Ws

namespace Ws
open PySem PySem.Spec PyProof.Rows L2
section
variable {P : Program} {w : World} {K : PySem.W.Frag} {mg : Str → Option Value} {base : Heap} {f : Addr} {fd : FuncData}
theorem ok_law (F : L2.Fun K "law" "law" sLaw f fd) (b : Binds K fd PLaw []) (B : Bi mg) (cP : CalF P w K mg base 1 "_law_pot" (spPot K)) (cD : CalF P w K mg base 3 "_law_drawn" spDrawn) (cE : CalF P w K mg base 4 "_law_near" spNear) (cR : CalG P w K mg base CX0 6 "_law_is_right" spRight) : FnG P w K mg base CX0 7 f (spLaw K) := by
  refine fnG_of F b scLaw (fun vs H Q E h => ?_) (fun cdv A outer s H vs Q E cl hr h => ?_)
  · obtain ⟨a, ns, rfl, _⟩ := h
    rfl
  · have sc := scLaw
    obtain ⟨a, ns, rfl, hS, hlen, q⟩ := h
    refine ⟨_, (pss_cons (ps_for PassesOwn.never rfl (pi_range1 (by rfl) B.range (pa_cons (pe_callB (call_max2 rfl) (by rfl) B.max (by decide +kernel) (pa_cons pe_int (pa_cons (pe_callB (call_min2 rfl) (by rfl) B.min (by decide +kernel) (pa_cons pe_int (pa_cons (pe_callB call_len_seq (by rfl) B.len PySem.boot_len (pa_cons (pv 0) pa_nil)) pa_nil))) pa_nil))) pa_nil)) (pg_name (i := 1) sc.nd rfl (Or.inl rfl)) (pss_cons (ps_set (i := 2) sc.nd rfl (Or.inl rfl) (pe_f cP hr (by decide) rfl (pa_cons (pv 0) (pa_cons (pv 1) pa_nil)))) (pss_one (ps_for PassesOwn.never rfl (pi_range1 (by rfl) B.range (pa_cons pe_int pa_nil)) (pg_name (i := 3) sc.nd rfl (Or.inl rfl)) (pss_cons (ps_set (i := 4) sc.nd rfl (Or.inl rfl) (pe_f cD hr (by decide) rfl (pa_cons (pv 2) pa_nil))) (pss_one (ps_if (PW.pt (pw_or (pt_not (pt_val (pe_g cR cl hr (by decide) rfl (pa_cons (pv 4) (pa_cons (pe_f cE hr (by decide) rfl (pa_cons (pv 2) (pa_cons (pv 4) pa_nil))) pa_nil))))) (pw_or1 (pt_not (pt_val (pe_g cR cl hr (by decide) rfl (pa_cons (pv 4) (pa_cons (pv 4) pa_nil)))))))) (pss_one (ps_ret pe_bl)) pss_nil))))))) (pss_one (ps_ret pe_bl))), ?_⟩
    refine ⟨_, rfl, a, _, rfl, .inl hS, _, _, rfl, _, _, rfl, ?_⟩
    generalize hn : (if (if ((ns.map V.int).length : Int) < 3 then ((ns.map V.int).length : Int) else 3) > 1 then (if ((ns.map V.int).length : Int) < 3 then ((ns.map V.int).length : Int) else 3) else 1) = n
    have hn3 : n ≤ 3 ∧ 0 ≤ n := by
      rw [← hn]
      split <;> split <;> omega
    refine ⟨n, rfl, by omega, by omega, for_range (n := n.toNat) (fun i σ H' => ∃ x y z u, σ = [some (.ref a), x, y, z, u] ∧ SqL K H' a (ns.map V.int)) ⟨_, _, _, _, rfl, hS⟩ ?_ ?_⟩
    · rintro i σ H0 hi ⟨_, _, _, _, rfl, hS0⟩
      rw [Int.zero_add]
      refine ⟨_, rfl, _, rfl, a, ns, i, rfl, hS0, by omega, fun p H1 np hp s1 => ?_⟩
      refine ⟨8, rfl, by decide, by decide, for_range (n := 8) (fun j σ H' => ∃ z u, σ = [some (.ref a), some (.int i), some (.ref p), z, u] ∧ PotAt H' p (10 * (j : Int)) ∧ Same H0 H') ⟨_, _, rfl, hp.mono (by omega), s1⟩ ?_ ?_⟩
      · rintro j σ H2 hj ⟨_, _, rfl, hp2, s2⟩
        refine ⟨_, rfl, p, _, rfl, hp2, by omega, fun r H3 t b nr er xp hp3 c3 => ?_⟩
        refine ⟨_, rfl, _, rfl, _, rfl, p, r, _, t, b, rfl, hp3, by omega, er, xp, fun x H4 t' b' nx ex np' hp4 c4 => ?_⟩
        have npr : r ≠ p := by
          have er' : H3 r = some (.tup [.int t, .int b]) := er
          obtain ⟨_, _, _, e, _⟩ := hp3
          rintro rfl
          rw [e] at er'
          cases er'
        have er4 : Tup2 H4 r t b := c4 _ _ npr er
        refine ⟨r, x, t, b, t', b', rfl, er4, ex, xp.n, np', fun H5 s5 => ⟨true, rfl, iteF ?_⟩⟩
        have er5 := er4.same s5
        refine ⟨_, rfl, _, rfl, r, r, t, b, t, b, rfl, er5, er5, xp.n, xp.n, fun H6 s6 => ⟨true, rfl, ?_⟩⟩
        refine ⟨_, _, rfl, (hp4.same (s5.trans s6)).mono (by omega), fun b' o e => ?_⟩
        exact (s5.trans s6) _ _ (c4 _ _ (ne_of_none e np) (c3 _ _ (ne_of_none e np) (s2 _ _ e)))
      · rintro σ H2 ⟨_, _, rfl, _, s2⟩
        exact ⟨_, _, _, _, rfl, L2.Same.seq s2 hS0⟩
    · rintro σ H' ⟨_, _, _, _, rfl, _⟩
      exact q H'
end
theorem all_mk {l : PySem.W.OpenLaw} {w : World} {K : PySem.W.Frag} {h : Heap} {mg : Str → Option Value} {fa : Addr} (X : K.In h) (G : h.Ns mainGlobals mg) (hfa : mg "law" = some (.ref fa)) {C : Addr} {fWhole : Addr} {odWhole anWhole : Option Addr} {slWhole : Array (Option Value)} {ocWhole kVWhole dcWhole pmWhole cdWhole ctWhole : Value} {fNum : Addr} {odNum anNum : Option Addr} {slNum : Array (Option Value)} {ocNum kVNum dcNum pmNum cdNum ctNum : Value} {TNum : Addr} {oTNum : Obj} {nT : Nat} {tkT : Tok} {pNTop fNTop : Addr} {rNTop : List Value} {odNTop anNTop : Option Addr} {slNTop : Array (Option Value)} {ocNTop kVNTop dcNTop pmNTop cdNTop ctNTop : Value} {pNBot fNBot : Addr} {rNBot : List Value} {odNBot anNBot : Option Addr} {slNBot : Array (Option Value)} {ocNBot kVNBot dcNBot pmNBot cdNBot ctNBot : Value} {fNEq : Addr} {odNEq anNEq : Option Addr} {slNEq : Array (Option Value)} {ocNEq kVNEq dcNEq pmNEq cdNEq ctNEq : Value} {fNBool : Addr} {odNBool anNBool : Option Addr} {slNBool : Array (Option Value)} {ocNBool kVNBool dcNBool pmNBool cdNBool ctNBool : Value} {fNAdd : Addr} {odNAdd anNAdd : Option Addr} {slNAdd : Array (Option Value)} {ocNAdd kVNAdd dcNAdd pmNAdd cdNAdd ctNAdd : Value} {fNSub : Addr} {odNSub anNSub : Option Addr} {slNSub : Array (Option Value)} {ocNSub kVNSub dcNSub pmNSub cdNSub ctNSub : Value} {fNMul : Addr} {odNMul anNMul : Option Addr} {slNMul : Array (Option Value)} {ocNMul kVNMul dcNMul pmNMul cdNMul ctNMul : Value} {fNNeg : Addr} {odNNeg anNNeg : Option Addr} {slNNeg : Array (Option Value)} {ocNNeg kVNNeg dcNNeg pmNNeg cdNNeg ctNNeg : Value} {fNAbs : Addr} {odNAbs anNAbs : Option Addr} {slNAbs : Array (Option Value)} {ocNAbs kVNAbs dcNAbs pmNAbs cdNAbs ctNAbs : Value} {fNLess : Addr} {odNLess anNLess : Option Addr} {slNLess : Array (Option Value)} {ocNLess kVNLess dcNLess pmNLess cdNLess ctNLess : Value} {nmC qC : Str} {NC : Addr} {bsC bmC : List Value} {hdC : Bool} {snC : List Str} {subC : List Value} {abC : Bool} {colC : Option Bool} {ddC : Option Addr} {m0C m1C m2C m3C m5C : Option Value} {nidC : String} {fPot : Addr} {odPot anPot : Option Addr} {slPot : Array (Option Value)} {ocPot kVPot dcPot pmPot cdPot ctPot : Value} {fTake : Addr} {odTake anTake : Option Addr} {slTake : Array (Option Value)} {ocTake kVTake dcTake pmTake cdTake ctTake : Value} {fOf : Addr} {odOf anOf : Option Addr} {slOf : Array (Option Value)} {ocOf kVOf dcOf pmOf cdOf ctOf : Value} {fLeast : Addr} {odLeast anLeast : Option Addr} {slLeast : Array (Option Value)} {ocLeast kVLeast dcLeast pmLeast cdLeast ctLeast : Value} {fDrawn : Addr} {odDrawn anDrawn : Option Addr} {slDrawn : Array (Option Value)} {ocDrawn kVDrawn dcDrawn pmDrawn cdDrawn ctDrawn : Value} {fPair : Addr} {odPair anPair : Option Addr} {slPair : Array (Option Value)} {ocPair kVPair dcPair pmPair cdPair ctPair : Value} {fNear : Addr} {odNear anNear : Option Addr} {slNear : Array (Option Value)} {ocNear kVNear dcNear pmNear cdNear ctNear : Value} {fRight : Addr} {odRight anRight : Option Addr} {slRight : Array (Option Value)} {ocRight kVRight dcRight pmRight cdRight ctRight : Value} {fLaw : Addr} {odLaw anLaw : Option Addr} {slLaw : Array (Option Value)} {ocLaw kVLaw dcLaw pmLaw cdLaw ctLaw : Value} (g_C : PySem.W.nsIn K mainGlobals "Number" = some (some (.ref C))) (pg_C : PySem.W.plainGet K C Str.empty = true) (hd_C : PySem.W.hasDictIn K C = true) (po_C : PySem.W.plainOver K C = true) (sa_C : PySem.W.findIn K (.ref C) "__setattr__" = some (some (.builtin "object.__setattr__"))) (mk_C : PySem.W.makesIn K C = true) (kc_C : PySem.W.keepIn K (.ref C) = true) (n_top_C : PySem.W.findIn K (.ref C) "_top" = some none) (n_bottom_C : PySem.W.findIn K (.ref C) "_bottom" = some none) (ha_C : PySem.W.findIn K (.ref C) "__class__" = some (some (.builtin "object.__class__"))) (hn_C : PySem.W.specialIn K (.builtin "object.__class__") "__get__" = some (some (.builtin "getset_descriptor.__get__"))) (htk_C : PySem.W.takesIn K (.builtin "object.__class__") = some true) (hm_C : PySem.W.mroIn K C (.type "object") = some true) (sf_C : PySem.W.selfFirst K C = true) (nf_C : PySem.W.notFirst K C (.ref C) = true) (gcd : PySem.W.nsIn K mainGlobals "gcd" = some (some (.builtin "math.gcd"))) (g_fWhole : PySem.W.nsIn K mainGlobals "is_whole" = some (some (.ref fWhole))) (l_Whole : K.lookup fWhole = some ⟨ocWhole, odWhole, .func (PySem.W.fnOf "is_whole" "is_whole" (defArgs sWhole) (defBody sWhole) (defScope sWhole) .none kVWhole dcWhole pmWhole anWhole cdWhole ctWhole), slWhole⟩) (c_Whole : PySem.W.codeIn K cdWhole "is_whole" = true) (k_Whole : PySem.W.keepIn K (.ref fWhole) = true) (a_Num : PySem.W.findIn K (.ref C) "__init__" = some (some (.ref fNum))) (i_Num : PySem.W.isFn K (.ref fNum) = true) (l_Num : K.lookup fNum = some ⟨ocNum, odNum, .func (PySem.W.fnOf "__init__" "Number.__init__" (defArgs sNum) (defBody sNum) (defScope sNum) (.ref TNum) kVNum dcNum pmNum anNum cdNum ctNum), slNum⟩) (c_Num : PySem.W.codeIn K cdNum "Number.__init__" = true) (k_Num : PySem.W.keepIn K (.ref fNum) = true) (lT : K.lookup TNum = some oTNum) (dT : oTNum.data = .seq #[.int 1 tkT] nT) (a_NTop : PySem.W.findIn K (.ref C) "top" = some (some (.ref pNTop))) (g_NTop : PySem.W.specialIn K (.ref pNTop) "__get__" = some (some (.builtin "property.__get__"))) (t_NTop : PySem.W.takesIn K (.ref pNTop) = some true) (r_NTop : PySem.W.recIn K pNTop "property" = some (.ref fNTop :: rNTop)) (l_NTop : K.lookup fNTop = some ⟨ocNTop, odNTop, .func (PySem.W.fnOf "top" "Number.top" (defArgs sNTop) (defBody sNTop) (defScope sNTop) .none kVNTop dcNTop pmNTop anNTop cdNTop ctNTop), slNTop⟩) (c_NTop : PySem.W.codeIn K cdNTop "Number.top" = true) (k_NTop : PySem.W.keepIn K (.ref fNTop) = true) (a_NBot : PySem.W.findIn K (.ref C) "bottom" = some (some (.ref pNBot))) (g_NBot : PySem.W.specialIn K (.ref pNBot) "__get__" = some (some (.builtin "property.__get__"))) (t_NBot : PySem.W.takesIn K (.ref pNBot) = some true) (r_NBot : PySem.W.recIn K pNBot "property" = some (.ref fNBot :: rNBot)) (l_NBot : K.lookup fNBot = some ⟨ocNBot, odNBot, .func (PySem.W.fnOf "bottom" "Number.bottom" (defArgs sNBot) (defBody sNBot) (defScope sNBot) .none kVNBot dcNBot pmNBot anNBot cdNBot ctNBot), slNBot⟩) (c_NBot : PySem.W.codeIn K cdNBot "Number.bottom" = true) (k_NBot : PySem.W.keepIn K (.ref fNBot) = true) (a_NEq : PySem.W.findIn K (.ref C) "__eq__" = some (some (.ref fNEq))) (i_NEq : PySem.W.isFn K (.ref fNEq) = true) (l_NEq : K.lookup fNEq = some ⟨ocNEq, odNEq, .func (PySem.W.fnOf "__eq__" "Number.__eq__" (defArgs sNEq) (defBody sNEq) (defScope sNEq) .none kVNEq dcNEq pmNEq anNEq cdNEq ctNEq), slNEq⟩) (c_NEq : PySem.W.codeIn K cdNEq "Number.__eq__" = true) (k_NEq : PySem.W.keepIn K (.ref fNEq) = true) (a_NBool : PySem.W.findIn K (.ref C) "__bool__" = some (some (.ref fNBool))) (i_NBool : PySem.W.isFn K (.ref fNBool) = true) (l_NBool : K.lookup fNBool = some ⟨ocNBool, odNBool, .func (PySem.W.fnOf "__bool__" "Number.__bool__" (defArgs sNBool) (defBody sNBool) (defScope sNBool) .none kVNBool dcNBool pmNBool anNBool cdNBool ctNBool), slNBool⟩) (c_NBool : PySem.W.codeIn K cdNBool "Number.__bool__" = true) (k_NBool : PySem.W.keepIn K (.ref fNBool) = true) (a_NAdd : PySem.W.findIn K (.ref C) "__add__" = some (some (.ref fNAdd))) (i_NAdd : PySem.W.isFn K (.ref fNAdd) = true) (l_NAdd : K.lookup fNAdd = some ⟨ocNAdd, odNAdd, .func (PySem.W.fnOf "__add__" "Number.__add__" (defArgs sNAdd) (defBody sNAdd) (defScope sNAdd) .none kVNAdd dcNAdd pmNAdd anNAdd cdNAdd ctNAdd), slNAdd⟩) (c_NAdd : PySem.W.codeIn K cdNAdd "Number.__add__" = true) (k_NAdd : PySem.W.keepIn K (.ref fNAdd) = true) (a_NSub : PySem.W.findIn K (.ref C) "__sub__" = some (some (.ref fNSub))) (i_NSub : PySem.W.isFn K (.ref fNSub) = true) (l_NSub : K.lookup fNSub = some ⟨ocNSub, odNSub, .func (PySem.W.fnOf "__sub__" "Number.__sub__" (defArgs sNSub) (defBody sNSub) (defScope sNSub) .none kVNSub dcNSub pmNSub anNSub cdNSub ctNSub), slNSub⟩) (c_NSub : PySem.W.codeIn K cdNSub "Number.__sub__" = true) (k_NSub : PySem.W.keepIn K (.ref fNSub) = true) (a_NMul : PySem.W.findIn K (.ref C) "__mul__" = some (some (.ref fNMul))) (i_NMul : PySem.W.isFn K (.ref fNMul) = true) (l_NMul : K.lookup fNMul = some ⟨ocNMul, odNMul, .func (PySem.W.fnOf "__mul__" "Number.__mul__" (defArgs sNMul) (defBody sNMul) (defScope sNMul) .none kVNMul dcNMul pmNMul anNMul cdNMul ctNMul), slNMul⟩) (c_NMul : PySem.W.codeIn K cdNMul "Number.__mul__" = true) (k_NMul : PySem.W.keepIn K (.ref fNMul) = true) (a_NNeg : PySem.W.findIn K (.ref C) "__neg__" = some (some (.ref fNNeg))) (i_NNeg : PySem.W.isFn K (.ref fNNeg) = true) (l_NNeg : K.lookup fNNeg = some ⟨ocNNeg, odNNeg, .func (PySem.W.fnOf "__neg__" "Number.__neg__" (defArgs sNNeg) (defBody sNNeg) (defScope sNNeg) .none kVNNeg dcNNeg pmNNeg anNNeg cdNNeg ctNNeg), slNNeg⟩) (c_NNeg : PySem.W.codeIn K cdNNeg "Number.__neg__" = true) (k_NNeg : PySem.W.keepIn K (.ref fNNeg) = true) (a_NAbs : PySem.W.findIn K (.ref C) "__abs__" = some (some (.ref fNAbs))) (i_NAbs : PySem.W.isFn K (.ref fNAbs) = true) (l_NAbs : K.lookup fNAbs = some ⟨ocNAbs, odNAbs, .func (PySem.W.fnOf "__abs__" "Number.__abs__" (defArgs sNAbs) (defBody sNAbs) (defScope sNAbs) .none kVNAbs dcNAbs pmNAbs anNAbs cdNAbs ctNAbs), slNAbs⟩) (c_NAbs : PySem.W.codeIn K cdNAbs "Number.__abs__" = true) (k_NAbs : PySem.W.keepIn K (.ref fNAbs) = true) (a_NLess : PySem.W.findIn K (.ref C) "is_less" = some (some (.ref fNLess))) (i_NLess : PySem.W.isFn K (.ref fNLess) = true) (l_NLess : K.lookup fNLess = some ⟨ocNLess, odNLess, .func (PySem.W.fnOf "is_less" "Number.is_less" (defArgs sNLess) (defBody sNLess) (defScope sNLess) .none kVNLess dcNLess pmNLess anNLess cdNLess ctNLess), slNLess⟩) (c_NLess : PySem.W.codeIn K cdNLess "Number.is_less" = true) (k_NLess : PySem.W.keepIn K (.ref fNLess) = true) (ne_C : PySem.W.findIn K (.ref C) "__ne__" = some (some (.builtin "object.__ne__"))) (xL_C : K.lookup C = some (excClassObj nmC qC C NC bsC bmC hdC snC subC abC colC ddC m0C m1C m2C m3C m5C nidC)) (bm_C : bmC.contains (.type "object") = true) (g_fPot : PySem.W.nsIn K mainGlobals "_law_pot" = some (some (.ref fPot))) (l_Pot : K.lookup fPot = some ⟨ocPot, odPot, .func (PySem.W.fnOf "_law_pot" "_law_pot" (defArgs sPot) (defBody sPot) (defScope sPot) .none kVPot dcPot pmPot anPot cdPot ctPot), slPot⟩) (c_Pot : PySem.W.codeIn K cdPot "_law_pot" = true) (k_Pot : PySem.W.keepIn K (.ref fPot) = true) (g_fTake : PySem.W.nsIn K mainGlobals "_law_take" = some (some (.ref fTake))) (l_Take : K.lookup fTake = some ⟨ocTake, odTake, .func (PySem.W.fnOf "_law_take" "_law_take" (defArgs sTake) (defBody sTake) (defScope sTake) .none kVTake dcTake pmTake anTake cdTake ctTake), slTake⟩) (c_Take : PySem.W.codeIn K cdTake "_law_take" = true) (k_Take : PySem.W.keepIn K (.ref fTake) = true) (g_fOf : PySem.W.nsIn K mainGlobals "_law_of" = some (some (.ref fOf))) (l_Of : K.lookup fOf = some ⟨ocOf, odOf, .func (PySem.W.fnOf "_law_of" "_law_of" (defArgs sOf) (defBody sOf) (defScope sOf) .none kVOf dcOf pmOf anOf cdOf ctOf), slOf⟩) (c_Of : PySem.W.codeIn K cdOf "_law_of" = true) (k_Of : PySem.W.keepIn K (.ref fOf) = true) (g_fLeast : PySem.W.nsIn K mainGlobals "_law_least" = some (some (.ref fLeast))) (l_Least : K.lookup fLeast = some ⟨ocLeast, odLeast, .func (PySem.W.fnOf "_law_least" "_law_least" (defArgs sLeast) (defBody sLeast) (defScope sLeast) .none kVLeast dcLeast pmLeast anLeast cdLeast ctLeast), slLeast⟩) (c_Least : PySem.W.codeIn K cdLeast "_law_least" = true) (k_Least : PySem.W.keepIn K (.ref fLeast) = true) (g_fDrawn : PySem.W.nsIn K mainGlobals "_law_drawn" = some (some (.ref fDrawn))) (l_Drawn : K.lookup fDrawn = some ⟨ocDrawn, odDrawn, .func (PySem.W.fnOf "_law_drawn" "_law_drawn" (defArgs sDrawn) (defBody sDrawn) (defScope sDrawn) .none kVDrawn dcDrawn pmDrawn anDrawn cdDrawn ctDrawn), slDrawn⟩) (c_Drawn : PySem.W.codeIn K cdDrawn "_law_drawn" = true) (k_Drawn : PySem.W.keepIn K (.ref fDrawn) = true) (g_fPair : PySem.W.nsIn K mainGlobals "_law_pair" = some (some (.ref fPair))) (l_Pair : K.lookup fPair = some ⟨ocPair, odPair, .func (PySem.W.fnOf "_law_pair" "_law_pair" (defArgs sPair) (defBody sPair) (defScope sPair) .none kVPair dcPair pmPair anPair cdPair ctPair), slPair⟩) (c_Pair : PySem.W.codeIn K cdPair "_law_pair" = true) (k_Pair : PySem.W.keepIn K (.ref fPair) = true) (g_fNear : PySem.W.nsIn K mainGlobals "_law_near" = some (some (.ref fNear))) (l_Near : K.lookup fNear = some ⟨ocNear, odNear, .func (PySem.W.fnOf "_law_near" "_law_near" (defArgs sNear) (defBody sNear) (defScope sNear) .none kVNear dcNear pmNear anNear cdNear ctNear), slNear⟩) (c_Near : PySem.W.codeIn K cdNear "_law_near" = true) (k_Near : PySem.W.keepIn K (.ref fNear) = true) (g_fRight : PySem.W.nsIn K mainGlobals "_law_is_right" = some (some (.ref fRight))) (l_Right : K.lookup fRight = some ⟨ocRight, odRight, .func (PySem.W.fnOf "_law_is_right" "_law_is_right" (defArgs sRight) (defBody sRight) (defScope sRight) .none kVRight dcRight pmRight anRight cdRight ctRight), slRight⟩) (c_Right : PySem.W.codeIn K cdRight "_law_is_right" = true) (k_Right : PySem.W.keepIn K (.ref fRight) = true) (g_fLaw : PySem.W.nsIn K mainGlobals "law" = some (some (.ref fLaw))) (l_Law : K.lookup fLaw = some ⟨ocLaw, odLaw, .func (PySem.W.fnOf "law" "law" (defArgs sLaw) (defBody sLaw) (defScope sLaw) .none kVLaw dcLaw pmLaw anLaw cdLaw ctLaw), slLaw⟩) (c_Law : PySem.W.codeIn K cdLaw "law" = true) (k_Law : PySem.W.keepIn K (.ref fLaw) = true) (z_len : PySem.W.nsIn K mainGlobals "len" = some none) (z_abs : PySem.W.nsIn K mainGlobals "abs" = some none) (z_int : PySem.W.nsIn K mainGlobals "int" = some none) (z_bool : PySem.W.nsIn K mainGlobals "bool" = some none) (z_max : PySem.W.nsIn K mainGlobals "max" = some none) (z_min : PySem.W.nsIn K mainGlobals "min" = some none) (z_range : PySem.W.nsIn K mainGlobals "range" = some none) (z_all : PySem.W.nsIn K mainGlobals "all" = some none) (z_any : PySem.W.nsIn K mainGlobals "any" = some none) (z_isinstance : PySem.W.nsIn K mainGlobals "isinstance" = some none) (z_repr : PySem.W.nsIn K mainGlobals "repr" = some none) :
    ∀ base : Heap, K.In base → base.Ns mainGlobals mg → FnG l.prog w K mg base CX0 7 fa (spLaw K) := by
  have e := hfa.symm.trans (PySem.W.mg_of X G g_fLaw)
  cases e
  have mgo : ∀ {x : Str} {v : Value}, PySem.W.nsIn K mainGlobals x = some (some v) → mg x = some v := fun e => PySem.W.mg_of X G e
  have B : Bi mg := ⟨PySem.W.mg_none_of X G z_len, PySem.W.mg_none_of X G z_abs, PySem.W.mg_none_of X G z_int, PySem.W.mg_none_of X G z_bool, PySem.W.mg_none_of X G z_max, PySem.W.mg_none_of X G z_min, PySem.W.mg_none_of X G z_range, PySem.W.mg_none_of X G z_all, PySem.W.mg_none_of X G z_any, PySem.W.mg_none_of X G z_isinstance⟩
  have gR : mg "repr" = none := PySem.W.mg_none_of X G z_repr
  have clC : Cls K C := ⟨pg_C, hd_C, po_C, sa_C⟩
  have NC : NumC K C := ⟨clC, n_top_C, n_bottom_C, ha_C, hn_C, htk_C, hm_C, kit_self _, sf_C, nf_C⟩
  have NE : NeC K C := ⟨ne_C, _, _, _, _, _, _, _, _, _, _, _, _, _, _, _, _, _, xL_C, bm_C⟩
  have FWhole := L2.fun_mk (st := sWhole) l_Whole c_Whole k_Whole
  have FNTop := L2.fun_mk (st := sNTop) l_NTop c_NTop k_NTop
  have FNBot := L2.fun_mk (st := sNBot) l_NBot c_NBot k_NBot
  have FNEq := L2.fun_mk (st := sNEq) l_NEq c_NEq k_NEq
  have FNBool := L2.fun_mk (st := sNBool) l_NBool c_NBool k_NBool
  have FNAdd := L2.fun_mk (st := sNAdd) l_NAdd c_NAdd k_NAdd
  have FNSub := L2.fun_mk (st := sNSub) l_NSub c_NSub k_NSub
  have FNMul := L2.fun_mk (st := sNMul) l_NMul c_NMul k_NMul
  have FNNeg := L2.fun_mk (st := sNNeg) l_NNeg c_NNeg k_NNeg
  have FNAbs := L2.fun_mk (st := sNAbs) l_NAbs c_NAbs k_NAbs
  have FNLess := L2.fun_mk (st := sNLess) l_NLess c_NLess k_NLess
  have FPot := L2.fun_mk (st := sPot) l_Pot c_Pot k_Pot
  have FTake := L2.fun_mk (st := sTake) l_Take c_Take k_Take
  have FOf := L2.fun_mk (st := sOf) l_Of c_Of k_Of
  have FLeast := L2.fun_mk (st := sLeast) l_Least c_Least k_Least
  have FDrawn := L2.fun_mk (st := sDrawn) l_Drawn c_Drawn k_Drawn
  have FPair := L2.fun_mk (st := sPair) l_Pair c_Pair k_Pair
  have FNear := L2.fun_mk (st := sNear) l_Near c_Near k_Near
  have FRight := L2.fun_mk (st := sRight) l_Right c_Right k_Right
  have FLaw := L2.fun_mk (st := sLaw) l_Law c_Law k_Law
  have bWhole := FWhole.binds (ps := PWhole) fun _ _ _ _ _ _ us hl => match us, hl with | [_], _ => rfl
  have bNTop := FNTop.binds (ps := PNTop) fun _ _ _ _ _ _ us hl => match us, hl with | [_], _ => rfl
  have bNBot := FNBot.binds (ps := PNBot) fun _ _ _ _ _ _ us hl => match us, hl with | [_], _ => rfl
  have bNEq := FNEq.binds (ps := PNEq) fun _ _ _ _ _ _ us hl => match us, hl with | [_, _], _ => rfl
  have bNBool := FNBool.binds (ps := PNBool) fun _ _ _ _ _ _ us hl => match us, hl with | [_], _ => rfl
  have bNAdd := FNAdd.binds (ps := PNAdd) fun _ _ _ _ _ _ us hl => match us, hl with | [_, _], _ => rfl
  have bNSub := FNSub.binds (ps := PNSub) fun _ _ _ _ _ _ us hl => match us, hl with | [_, _], _ => rfl
  have bNMul := FNMul.binds (ps := PNMul) fun _ _ _ _ _ _ us hl => match us, hl with | [_, _], _ => rfl
  have bNNeg := FNNeg.binds (ps := PNNeg) fun _ _ _ _ _ _ us hl => match us, hl with | [_], _ => rfl
  have bNAbs := FNAbs.binds (ps := PNAbs) fun _ _ _ _ _ _ us hl => match us, hl with | [_], _ => rfl
  have bNLess := FNLess.binds (ps := PNLess) fun _ _ _ _ _ _ us hl => match us, hl with | [_, _], _ => rfl
  have bPot := FPot.binds (ps := PPot) fun _ _ _ _ _ _ us hl => match us, hl with | [_, _], _ => rfl
  have bTake := FTake.binds (ps := PTake) fun _ _ _ _ _ _ us hl => match us, hl with | [_, _], _ => rfl
  have bOf := FOf.binds (ps := POf) fun _ _ _ _ _ _ us hl => match us, hl with | [_, _], _ => rfl
  have bLeast := FLeast.binds (ps := PLeast) fun _ _ _ _ _ _ us hl => match us, hl with | [_, _], _ => rfl
  have bDrawn := FDrawn.binds (ps := PDrawn) fun _ _ _ _ _ _ us hl => match us, hl with | [_], _ => rfl
  have bPair := FPair.binds (ps := PPair) fun _ _ _ _ _ _ us hl => match us, hl with | [_], _ => rfl
  have bNear := FNear.binds (ps := PNear) fun _ _ _ _ _ _ us hl => match us, hl with | [_, _], _ => rfl
  have bRight := FRight.binds (ps := PRight) fun _ _ _ _ _ _ us hl => match us, hl with | [_, _], _ => rfl
  have bLaw := FLaw.binds (ps := PLaw) fun _ _ _ _ _ _ us hl => match us, hl with | [_], _ => rfl
  have FNum : FunD K "__init__" "Number.__init__" (defArgs sNum) (defBody sNum) (defScope sNum) [.int 1] [] fNum _ := ⟨⟨_, _, _, _, _, _, _, _, _, _, rfl, l_Num, c_Num, .inr ⟨(fun z => by cases z), TNum, oTNum, [.int 1 tkT], nT, rfl, lT, dT, .cons ⟨_, rfl⟩ .nil⟩, .inl rfl⟩, k_Num⟩
  obtain ⟨dsN, vN, bN⟩ := FNum.binds1 (ps := PNum) 3 1 (fun z => by cases z) rfl fun T kV doc pm an cdv ct us its h1 h2 => match us, its, h1, h2 with | [_, _, _], [_], _, _ => ⟨_, rfl, rfl⟩
  intro base _ _
  have cW : CalF l.prog w K mg base 1 "is_whole" spWhole := ⟨_, ok_whole FWhole bWhole B, mgo g_fWhole, k_Whole⟩
  have mN : MakF l.prog w K mg base 2 "Number" C (spNum C) := ⟨_, ⟨mk_C, a_Num, i_Num, kc_C⟩, ok_num (dvs' := []) FNum bN vN (fun vs H Q E h => by rw [List.append_nil]; exact h) B NC (mgo gcd) cW, mgo g_C⟩
  have pT : PrpF l.prog w K mg base 1 C "top" (spTop C) := ⟨_, _, clC, ⟨a_NTop, g_NTop, t_NTop, _, r_NTop⟩, ok_top FNTop bNTop NC⟩
  have pB : PrpF l.prog w K mg base 1 C "bottom" (spBot C) := ⟨_, _, clC, ⟨a_NBot, g_NBot, t_NBot, _, r_NBot⟩, ok_bot FNBot bNBot NC⟩
  have oE : OpnF l.prog w K mg base 1 C "__eq__" (spNEq C) := ⟨_, a_NEq, i_NEq, ok_neq FNEq bNEq B NC (mgo g_C)⟩
  have oB : OpnF l.prog w K mg base 1 C "__bool__" (spNBool C) := ⟨_, a_NBool, i_NBool, ok_nbool FNBool bNBool B NC⟩
  have oA : OpnF l.prog w K mg base 4 C (PySem.dunder Operator.Add.info.2) (spAdd C) := ⟨_, a_NAdd, i_NAdd, ok_nadd FNAdd bNAdd NC mN⟩
  have oS : OpnF l.prog w K mg base 4 C (PySem.dunder Operator.Sub.info.2) (spSub C) := ⟨_, a_NSub, i_NSub, ok_nsub FNSub bNSub NC mN⟩
  have oM : OpnF l.prog w K mg base 4 C (PySem.dunder Operator.Mult.info.2) (spMul C) := ⟨_, a_NMul, i_NMul, ok_nmul FNMul bNMul NC mN⟩
  have oN : OpnF l.prog w K mg base 4 C "__neg__" (spNeg C) := ⟨_, a_NNeg, i_NNeg, ok_nneg FNNeg bNNeg NC mN⟩
  have oAb : OpnF l.prog w K mg base 4 C "__abs__" (spAbs C) := ⟨_, a_NAbs, i_NAbs, ok_nabs FNAbs bNAbs B NC mN⟩
  have tL : MetF l.prog w K mg base 1 C "is_less" (spLess C) := ⟨_, clC, ⟨a_NLess, i_NLess, k_NLess⟩, ok_nless FNLess bNLess NC⟩
  have cP : CalF l.prog w K mg base 1 "_law_pot" (spPot K) := ⟨_, ok_pot FPot bPot B, mgo g_fPot, k_Pot⟩
  have cT : CalF l.prog w K mg base 1 "_law_take" spTake := ⟨_, ok_take FTake bTake B, mgo g_fTake, k_Take⟩
  have cO : CalF l.prog w K mg base 2 "_law_of" spOf := ⟨_, ok_of FOf bOf B cT, mgo g_fOf, k_Of⟩
  have cL : CalF l.prog w K mg base 1 "_law_least" spLeast := ⟨_, ok_least FLeast bLeast B, mgo g_fLeast, k_Least⟩
  have cD : CalF l.prog w K mg base 3 "_law_drawn" spDrawn := ⟨_, ok_drawn FDrawn bDrawn B cT cO, mgo g_fDrawn, k_Drawn⟩
  have cA : CalF l.prog w K mg base 3 "_law_pair" (spPair C) := ⟨_, ok_pair FPair bPair B NC (mgo g_C) pT pB, mgo g_fPair, k_Pair⟩
  have cE : CalF l.prog w K mg base 4 "_law_near" spNear := ⟨_, ok_near FNear bNear cT cO cD, mgo g_fNear, k_Near⟩
  have cR : CalG l.prog w K mg base CX0 6 "_law_is_right" spRight := ⟨_, ok_right FRight bRight B gR NC NE cL cA mN oA oS oM oN oAb oE oB tL, mgo g_fRight, k_Right⟩
  exact ok_law FLaw bLaw B cP cD cE cR

end Ws

open PySem PySem.W PyProof.Rows
set_option maxHeartbeats 0
open_top hdK for PySem.Challenge.rw_whatspeed_k02_sums_and_compares

theorem PySem.Challenge.cw_whatspeed_k02_sums_and_compares_holds : PySem.Challenge.rw_whatspeed_k02_sums_and_compares.Holds := by
  refine hdK ?_
  k_fill
  refine Ws.walk_G (l := PySem.Challenge.rw_whatspeed_k02_sums_and_compares) (n := 63) (k := 7) (sp := fun w => Ws.spLaw _) rfl (by decide) rfl ⟨rfl, by decide, by decide⟩ (fun w h Y => PySem.W.kIn_of Y) ?F (fun _ _ a ns hl _ hS => ⟨a, ns, rfl, hS, hl, fun _ => rfl⟩)
  case F =>
    intro w mg fa h KX G hmg
    refine' Ws.all_mk KX G hmg ?g_C ?pg_C ?hd_C ?po_C ?sa_C ?mk_C ?kc_C ?n_top_C ?n_bottom_C ?ha_C ?hn_C ?htk_C ?hm_C ?sf_C ?nf_C ?gcd ?g_fWhole ?l_Whole ?c_Whole ?k_Whole ?a_Num ?i_Num ?l_Num ?c_Num ?k_Num ?lT ?dT ?a_NTop ?g_NTop ?t_NTop ?r_NTop ?l_NTop ?c_NTop ?k_NTop ?a_NBot ?g_NBot ?t_NBot ?r_NBot ?l_NBot ?c_NBot ?k_NBot ?a_NEq ?i_NEq ?l_NEq ?c_NEq ?k_NEq ?a_NBool ?i_NBool ?l_NBool ?c_NBool ?k_NBool ?a_NAdd ?i_NAdd ?l_NAdd ?c_NAdd ?k_NAdd ?a_NSub ?i_NSub ?l_NSub ?c_NSub ?k_NSub ?a_NMul ?i_NMul ?l_NMul ?c_NMul ?k_NMul ?a_NNeg ?i_NNeg ?l_NNeg ?c_NNeg ?k_NNeg ?a_NAbs ?i_NAbs ?l_NAbs ?c_NAbs ?k_NAbs ?a_NLess ?i_NLess ?l_NLess ?c_NLess ?k_NLess ?ne_C ?xL_C ?bm_C ?g_fPot ?l_Pot ?c_Pot ?k_Pot ?g_fTake ?l_Take ?c_Take ?k_Take ?g_fOf ?l_Of ?c_Of ?k_Of ?g_fLeast ?l_Least ?c_Least ?k_Least ?g_fDrawn ?l_Drawn ?c_Drawn ?k_Drawn ?g_fPair ?l_Pair ?c_Pair ?k_Pair ?g_fNear ?l_Near ?c_Near ?k_Near ?g_fRight ?l_Right ?c_Right ?k_Right ?g_fLaw ?l_Law ?c_Law ?k_Law ?z_len ?z_abs ?z_int ?z_bool ?z_max ?z_min ?z_range ?z_all ?z_any ?z_isinstance ?z_repr
    (case g_C => k_is)
    (case pg_C => k_is)
    (case hd_C => k_is)
    (case po_C => k_is)
    (case sa_C => k_is)
    (case mk_C => k_is)
    (case kc_C => k_is)
    (case n_top_C => k_is)
    (case n_bottom_C => k_is)
    (case ha_C => k_is)
    (case hn_C => k_is)
    (case htk_C => k_is)
    (case hm_C => k_is)
    (case sf_C => k_is)
    (case nf_C => k_is)
    (case gcd => k_is)
    (case g_fWhole => k_is)
    (case l_Whole => k_is)
    (case c_Whole => k_is)
    (case k_Whole => k_is)
    (case a_Num => k_is)
    (case i_Num => k_is)
    (case l_Num => k_is)
    (case c_Num => k_is)
    (case k_Num => k_is)
    (case lT => k_is)
    (case dT => rfl)
    (case a_NTop => k_is)
    (case g_NTop => k_is)
    (case t_NTop => k_is)
    (case r_NTop => k_is)
    (case l_NTop => k_is)
    (case c_NTop => k_is)
    (case k_NTop => k_is)
    (case a_NBot => k_is)
    (case g_NBot => k_is)
    (case t_NBot => k_is)
    (case r_NBot => k_is)
    (case l_NBot => k_is)
    (case c_NBot => k_is)
    (case k_NBot => k_is)
    (case a_NEq => k_is)
    (case i_NEq => k_is)
    (case l_NEq => k_is)
    (case c_NEq => k_is)
    (case k_NEq => k_is)
    (case a_NBool => k_is)
    (case i_NBool => k_is)
    (case l_NBool => k_is)
    (case c_NBool => k_is)
    (case k_NBool => k_is)
    (case a_NAdd => k_is)
    (case i_NAdd => k_is)
    (case l_NAdd => k_is)
    (case c_NAdd => k_is)
    (case k_NAdd => k_is)
    (case a_NSub => k_is)
    (case i_NSub => k_is)
    (case l_NSub => k_is)
    (case c_NSub => k_is)
    (case k_NSub => k_is)
    (case a_NMul => k_is)
    (case i_NMul => k_is)
    (case l_NMul => k_is)
    (case c_NMul => k_is)
    (case k_NMul => k_is)
    (case a_NNeg => k_is)
    (case i_NNeg => k_is)
    (case l_NNeg => k_is)
    (case c_NNeg => k_is)
    (case k_NNeg => k_is)
    (case a_NAbs => k_is)
    (case i_NAbs => k_is)
    (case l_NAbs => k_is)
    (case c_NAbs => k_is)
    (case k_NAbs => k_is)
    (case a_NLess => k_is)
    (case i_NLess => k_is)
    (case l_NLess => k_is)
    (case c_NLess => k_is)
    (case k_NLess => k_is)
    (case ne_C => k_is)
    (case xL_C => k_is)
    (case bm_C => rfl)
    (case g_fPot => k_is)
    (case l_Pot => k_is)
    (case c_Pot => k_is)
    (case k_Pot => k_is)
    (case g_fTake => k_is)
    (case l_Take => k_is)
    (case c_Take => k_is)
    (case k_Take => k_is)
    (case g_fOf => k_is)
    (case l_Of => k_is)
    (case c_Of => k_is)
    (case k_Of => k_is)
    (case g_fLeast => k_is)
    (case l_Least => k_is)
    (case c_Least => k_is)
    (case k_Least => k_is)
    (case g_fDrawn => k_is)
    (case l_Drawn => k_is)
    (case c_Drawn => k_is)
    (case k_Drawn => k_is)
    (case g_fPair => k_is)
    (case l_Pair => k_is)
    (case c_Pair => k_is)
    (case k_Pair => k_is)
    (case g_fNear => k_is)
    (case l_Near => k_is)
    (case c_Near => k_is)
    (case k_Near => k_is)
    (case g_fRight => k_is)
    (case l_Right => k_is)
    (case c_Right => k_is)
    (case k_Right => k_is)
    (case g_fLaw => k_is)
    (case l_Law => k_is)
    (case c_Law => k_is)
    (case k_Law => k_is)
    (case z_len => k_is)
    (case z_abs => k_is)
    (case z_int => k_is)
    (case z_bool => k_is)
    (case z_max => k_is)
    (case z_min => k_is)
    (case z_range => k_is)
    (case z_all => k_is)
    (case z_any => k_is)
    (case z_isinstance => k_is)
    (case z_repr => k_is)
#print axioms PySem.Challenge.cw_whatspeed_k02_sums_and_compares_holds

