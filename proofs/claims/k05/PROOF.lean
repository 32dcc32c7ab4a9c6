import PyProof.Rows.All
import Wide.All
import OpenK.AllK
import Wide.FinOn
import HandS.ForMost
import HandS.Star
import HandS.OwnEq
import HandS.Property
import HandS.Gcd
import HandS.Wide
import HandS.IsInst
import HandS.Defaults
import KE.KOpsOwn
import PyProof.InstNe
import HandS.Style
import HandS.MakeKwOnly
import PySem.Challenge.RW_whatspeed_k05_lines
set_option Elab.async false
set_option linter.all false
set_option maxRecDepth 100000
set_option maxHeartbeats 4000000
namespace Ws
open PySem PySem.Spec PyProof.Rows L2
/-! ### promises of defs, methods, makers, operators: by show (0 : Int) < _; decide +kernelitional values -/
abbrev Fr1 := FnR
section
variable (P : Program) (w : World) (K : PySem.W.Frag) (mg : Str → Option Value) (base : Heap)
/-- a def of the module, called by its name -/
def CalF (k : Nat) (x : Str) (sp : Sp) : Prop := ∃ f : Addr, FnR P w K mg base CX0 k f sp ∧ mg x = some (.ref f) ∧ PySem.W.keepIn K (.ref f) = true
/-- a class that makes instances, called by its name -/
def MakF (k : Nat) (x : Str) (C : Addr) (sp : Sp) : Prop := ∃ f : Addr, Mk K C f ∧ FnR P w K mg base CX0 k f sp ∧ mg x = some (.ref C)
/-- a method -/
def MetF (k : Nat) (C : Addr) (m : Str) (sp : Sp) : Prop := ∃ f : Addr, Cls K C ∧ Meth K C m f ∧ FnR P w K mg base CX0 k f sp
/-- a special method that an operator calls -/
def OpnF (k : Nat) (C : Addr) (m : Str) (sp : Sp) : Prop := ∃ f : Addr, PySem.W.findIn K (.ref C) m = some (some (.ref f)) ∧ PySem.W.isFn K (.ref f) = true ∧ FnR P w K mg base CX0 k f sp
/-- a property -/
def PrpF (k : Nat) (C : Addr) (m : Str) (sp : Sp) : Prop := ∃ p g : Addr, Cls K C ∧ PropOf K C m p g ∧ FnR P w K mg base CX0 k g sp
/-- instances are called -/
def CloF (k : Nat) (C : Addr) (sp : Sp) : Prop := ∃ g : Addr, StX.CallO K C g ∧ FnR P w K mg base CX0 k g sp
end
section
variable {X : Cx} {k j : Nat} {C f : Addr} {sp : Sp} {x m : Str} {p pos apos : Pos} {e o : Expr} {es : List Expr} {ta : TE} {t : TA}
abbrev CalX (X : Cx) := CalF X.prog X.w X.K X.mg X.base
theorem run_R {pins : List (Addr × Obj)} {σ : L2.St} {H : Hp} {s : Shared} {Q : VK} {us : List Value} {vs : List V} {E : XK} {CX : CXT} (F : FnR X.prog X.w X.K X.mg X.base CX k f sp) (hr : Room k X.A) (hx : Passes CX X E)
    (I : Inv X pins σ H s) (r : Vals vs us) (h : sp vs H Q E) : wpAny (model X.prog X.w) X.A (call (.ref f) us) (EP X pins σ Q) X.xe s := by
  refine wpAny_call (codeAny_mono (run_fnR F hr hx I r h) fun r s' q => ?_)
  cases r with
  | error e => exact q
  | ok fl => cases fl with
    | ret u => exact q
    | next => exact q.elim
    | brk => exact q.elim
    | cont => exact q.elim
/-- f(e, ..) -/
def tF (sp : Sp) (t : TA) : TE := fun σ H Q => t σ H fun vs H1 => sp vs H1 Q E0
theorem pe_f (c : CalF X.prog X.w X.K X.mg X.base k x sp) (hr : Room j X.A) (hk : k ≤ j) (hg : Gl X x) (ha : PA X (e :: es) t) (hdb : (x == ("__debug__" : Str)) = false := by decide)
    (he : starEach (e :: es) X.env = (false, eval e X.env) :: starEach es X.env := by rfl) (hpl : (backTo pos (starEach es X.env)).any (·.1) = false := by rfl) : PE X (.Call (.Name x p) (e :: es) [] pos) (tF sp t) := by
  obtain ⟨f, F, hm, hkp⟩ := c
  refine ⟨fun pins s σ H Q I h => ?_⟩
  refine wpAny_Call_Name_kw (ld_glob I hg hm ?_ hdb)
  refine PySem.W.callWith_K (h₀ := X.base) I.ok.mod.kin hkp (thn (ha.run pos pins s σ H _ I h) fun us s1 ⟨vs, H1, I1, r, q⟩ => ⟨I1.kIn, ?_⟩) he hpl
  exact run_R F (hr.mono hk) pass0 I1 r q
/-- C(e, ..) -/
def tMk (C : Addr) (sp : Sp) (t : TA) : TE := fun σ H Q => t σ H fun vs H1 => ∀ x dx, H1 x = Option.none → H1 dx = Option.none → dx ≠ x → sp (V.ref x :: vs) (upd (upd H1 dx (.own x)) x (.ins C dx [])) (fun v H2 => v = .non ∧ Q (.ref x) H2) E0
theorem pe_mk (c : MakF X.prog X.w X.K X.mg X.base k x C sp) (hr : Room j X.A) (hk : k + 1 ≤ j) (hg : Gl X x) (ha : PA X (e :: es) t) (hdb : (x == ("__debug__" : Str)) = false := by decide)
    (he : starEach (e :: es) X.env = (false, eval e X.env) :: starEach es X.env := by rfl) (hpl : (backTo pos (starEach es X.env)).any (·.1) = false := by rfl) : PE X (.Call (.Name x p) (e :: es) [] pos) (tMk C sp t) := by
  obtain ⟨f, M, F, hm⟩ := c
  exact StX.pe_makeR M F (hr.mono hk) hg hm pass0 ha hdb he hpl
/-- o.m(e, ..) -/
def tMt (C : Addr) (m : Str) (sp : Sp) (ta : TE) (t : TA) : TE := fun σ H Q => ta σ H fun x H1 => ∃ a dx fs, x = .ref a ∧ H1 a = some (.ins C dx fs) ∧ fs.lookup m = none ∧ t σ H1 fun vs H2 => sp (x :: vs) H2 Q E0
theorem pe_mt {pl : Sem Bool} (c : MetF X.prog X.w X.K X.mg X.base k C m sp) (hr : Room j X.A) (hk : k ≤ j) (he : PE X o ta) (ha : PA X (e :: es) t)
    (hst : starEach (e :: es) X.env = (false, eval e X.env) :: starEach es X.env := by rfl) (hpl : (backTo pos (starEach es X.env)).any (·.1) = false := by rfl)
    (ht : eval (.Call (.Attribute o m apos) (e :: es) [] pos) X.env = (do
      let ov ← eval o X.env
      standAt apos.atName
      let (f, first) ← holding [ov] (getMethod ov m pl)
      callWith pos f first (backTo pos (starEach (e :: es) X.env)) (backToKw pos (keywordEach [] X.env))) := by rfl) :
    PE X (.Call (.Attribute o m apos) (e :: es) [] pos) (tMt C m sp ta t) := by
  obtain ⟨f, hc, hm, F⟩ := c
  refine ⟨fun pins s σ H Q I h => ?_⟩
  refine PySem.W.methodCall_KW (pl := pl) (thn (he.run pins s σ H _ I h) fun u s1 ⟨x, H1, I1, rx, a, dx, fs, ex, ea, l, q⟩ => ?_) ht
  subst ex
  obtain rfl : u = Value.ref a := rx
  refine getmeth_ok I1 ea hc hm l ?_
  refine PySem.W.callWith_K (first := [.ref a]) (h₀ := X.base) I.ok.mod.kin hm.kp (thn (ha.run pos pins s1 σ H1 _ I1 q) fun us s2 ⟨vs, H2, I2, r, q2⟩ => ⟨I2.kIn, ?_⟩) hst hpl
  exact run_R (us := .ref a :: us) (vs := .ref a :: vs) F (hr.mono hk) pass0 I2 (.cons rfl r) q2
/-- e.f, a property -/
def tPr (C : Addr) (sp : Sp) (ta : TE) : TE := fun σ H Q => ta σ H fun x H1 => ∃ a dx fs, x = .ref a ∧ H1 a = some (.ins C dx fs) ∧ sp [.ref a] H1 Q E0
theorem pe_pr (c : PrpF X.prog X.w X.K X.mg X.base k C m sp) (hr : Room j X.A) (hk : k + 1 ≤ j) (he : PE X e ta) (hab : attributeBase e m X.env (eval e X.env) = eval e X.env := by rfl) : PE X (.Attribute e m pos) (tPr C sp ta) := by
  obtain ⟨p, g, hc, hp, F⟩ := c
  refine ⟨fun pins s σ H Q I h => ?_⟩
  refine attr_of hab (thn (he.run pins s σ H _ I h) fun u s1 ⟨x, H1, I1, rx, a, dx, fs, ex, ea, q⟩ => ?_)
  subst ex
  obtain rfl : u = Value.ref a := rx
  obtain ⟨mA, O, _, _, _, _⟩ := ins_get I1.hok ea
  obtain ⟨od, J, _⟩ := O.look
  obtain ⟨rest, hrec⟩ := hp.rec_
  have hcs : (PySem.W.clsIn X.K C).isSome = true := by
    obtain ⟨cd, hcd, _⟩ := PySem.W.any_some hc.hd
    rw [hcd]
    rfl
  have I2 := I1.tok (s1.toks + 1)
  have hr1 : Room (k + 1) X.A := hr.mono hk
  refine PySem.W.get_bind I1.kIn J (PySem.W.plainGet_of (hc.get m)).1 (PySem.W.findObj_data hcs hp.at_ hp.get hp.tak) (PySem.W.plainGet_of (hc.get m)).2 (wpAny_call (PySem.W.prop_get (s := { s1 with toks := s1.toks + 1 }) I1.kIn hrec ?_))
  refine codeAny_mono (F X.A.in1 X.stack { s1 with toks := s1.toks + 1 } H1 [.ref a] [.ref a] Q E0 hr1.in1 I2.env0.in1 (.cons rfl .nil) q) fun r s' hq => ?_
  cases r with
  | error er => exact hq.elim
  | ok fl =>
    cases fl with
    | ret u =>
      obtain ⟨v, H', I3, rv, q3⟩ := I2.after hq
      show wpAny _ _ (handedOut u) _ _ _
      rw [PySem.W.handedOut_of (handed_of rv)]
      exact wpAny_pure ⟨v, H', I3, rv, q3⟩
    | next => exact False.elim hq
    | brk => exact False.elim hq
    | cont => exact False.elim hq
/-- an instance called -/
def tClo (C : Addr) (sp : Sp) (tf : TE) (t : TA) : TE := fun σ H Q => tf σ H fun y H1 => ∃ a, y = V.ref a ∧ t σ H1 fun vs H2 => (∃ dx fs, H2 a = some (.ins C dx fs)) ∧ sp (V.ref a :: vs) H2 Q E0
theorem pe_clo {tf : TE} {fe : Expr} (c : CloF X.prog X.w X.K X.mg X.base k C sp) (hr : Room j X.A) (hk : k ≤ j) (hf : PE X fe tf) (ha : PA X (e :: es) t)
    (ht : eval (.Call fe (e :: es) [] pos) X.env = (do callWith pos (← eval fe X.env) [] (backTo pos (starEach (e :: es) X.env)) (backToKw pos (keywordEach [] X.env))) := by rfl)
    (he : starEach (e :: es) X.env = (false, eval e X.env) :: starEach es X.env := by rfl) (hpl : (backTo pos (starEach es X.env)).any (·.1) = false := by rfl) : PE X (.Call fe (e :: es) [] pos) (tClo C sp tf t) := by
  obtain ⟨g, c, F⟩ := c
  refine ⟨fun pins s σ H Q I h => ?_⟩
  refine Call_ (thn (hf.run pins s σ H _ I h) fun u s1 ⟨y, H1, I1, ry, a, ey, q⟩ => ?_) ht
  subst ey
  obtain rfl : u = Value.ref a := ry
  refine StX.callO_with (thn (ha.run pos pins s1 σ H1 _ I1 q) fun us s2 ⟨vs, H2, I2, r, ⟨dx, fs, hi⟩, q2⟩ => ?_) he hpl
  have hi' : StX.InsC X H2 a C := .inr ⟨dx, fs, hi⟩
  obtain ⟨ox, od, J, hd⟩ := StX.insC_at I2 hi'
  exact ⟨⟨C, ox, od, J, hd⟩, StX.run_callO c F (hr.mono hk) pass0 I2 hi' r q2⟩
/-! ### operators -/
/-- the value handed back by an operator's method is never NotImplemented -/
theorem cmpBack {pins : List (Addr × Obj)} {σ : L2.St} {Q : VK} {v : Value} {s : Shared} (h : EP X pins σ Q v s) : PySem.W.CmpBack (EP X pins σ Q) v s := by
  obtain ⟨y, H, I, r, q⟩ := h
  have fin : EP X pins σ Q v s := ⟨y, H, I, r, q⟩
  cases y with
  | non => cases (show v = Value.none from r); exact fin
  | bl b => cases (show v = Value.bool b from r); exact fin
  | int i => obtain ⟨t, e⟩ := (show ∃ t, v = Value.int i t from r); subst e; exact fin
  | str i => obtain ⟨t, e⟩ := (show ∃ t, v = Value.str i t from r); subst e; exact fin
  | byt i => obtain ⟨t, e⟩ := (show ∃ t, v = Value.bytes i t from r); subst e; exact fin
  | flt i => obtain ⟨t, e⟩ := (show ∃ t, v = Value.float i t from r); subst e; exact fin
  | ref a => cases (show v = Value.ref a from r); exact fin
  | ty n => cases (show v = Value.type n from r); exact fin
theorem inst_of {pins : List (Addr × Obj)} {σ : L2.St} {H : Hp} {s : Shared} {a dx : Addr} {fs : List (Str × V)} (I : Inv X pins σ H s) (h : H a = some (.ins C dx fs)) : ∃ ox od, PySem.W.InstAt s.heap a ox C od := by
  obtain ⟨mA, O, _⟩ := ins_get I.hok h
  obtain ⟨od, J, _⟩ := O.look
  exact ⟨_, _, J⟩
/-- a op b, both of the class at C, by its own method -/
def rOwn (C : Addr) (sp : Sp) : R2 := fun x y H Q => ∃ a dx fs b dy gs, x = .ref a ∧ H a = some (.ins C dx fs) ∧ y = .ref b ∧ H b = some (.ins C dy gs) ∧ sp [.ref a, .ref b] H Q E0
theorem op_own {op : Operator} (c : OpnF X.prog X.w X.K X.mg X.base k C (PySem.dunder op.info.2) sp) (hs : PySem.W.selfFirst X.K C = true) (hr : Room j X.A) (hk : k ≤ j) : OpR X (binaryOp op) (rOwn C sp) := by
  obtain ⟨f, h1, h2, F⟩ := c
  intro pins s σ H x y v u Q I rx ry h
  obtain ⟨a, dx, fs, b, dy, gs, rfl, ea, rfl, eb, q⟩ := h
  cases (show v = Value.ref a from rx)
  cases (show u = Value.ref b from ry)
  obtain ⟨ox, od, J⟩ := inst_of I ea
  obtain ⟨oy, oe, J2⟩ := inst_of I eb
  obtain ⟨m, hF⟩ := I.fr
  refine PySem.W.binop_K hF I.ok.mod.kin J J2.type hs h1 h2 ?_
  exact wpAny_mono (run_R (us := [.ref a, .ref b]) (vs := [.ref a, .ref b]) F (hr.mono hk) pass0 I (.cons rfl (.cons rfl .nil)) q) (fun v s' hv => cmpBack hv) fun _ _ z => z
/-- what a value's type is to ==: its typeOf -/
inductive TyL (H : Hp) : V → Value → Prop where
  | non : TyL H .non (.type "NoneType")
  | bl (b : Bool) : TyL H (.bl b) (.type "bool")
  | int (i : Int) : TyL H (.int i) (.type "int")
  | str (x : Str) : TyL H (.str x) (.type "str")
  | lst {a : Addr} {xs : List V} (e : H a = some (.lst xs)) : TyL H (.ref a) (.type "list")
  | tup {a : Addr} {xs : List V} (e : H a = some (.tup xs)) : TyL H (.ref a) (.type "tuple")
  | dK {a : Addr} {xs : List (Key × V)} (e : H a = some (.dK xs)) : TyL H (.ref a) (.type "dict")
  | ins {a C dx : Addr} {fs : List (Str × V)} (e : H a = some (.ins C dx fs)) : TyL H (.ref a) (.ref C)
theorem looks_ref {M : Model} {h : Heap} {a : Addr} {o : Obj} {t : Value} (e : h.get? a = some o) (c : o.cls = t) : PySem.W.Looks M h (typeOf (.ref a)) t := by
  intro A Q E s k q
  subst c
  exact wpAny_typeOf_ref (k _ _ e) q
theorem TyL.looks {pins : List (Addr × Obj)} {σ : L2.St} {H : Hp} {s : Shared} {M : Model} {x : V} {u t : Value} (I : Inv X pins σ H s) (rx : RelV x u) (ty : TyL H x t) : PySem.W.Looks M s.heap (typeOf u) t := by
  cases ty with
  | non => cases (show u = Value.none from rx); exact .of_pure rfl
  | bl b => cases (show u = Value.bool b from rx); exact .of_pure rfl
  | int i => obtain ⟨t, q⟩ := (show ∃ t, u = Value.int i t from rx); subst q; exact .of_pure rfl
  | str i => obtain ⟨t, q⟩ := (show ∃ t, u = Value.str i t from rx); subst q; exact .of_pure rfl
  | @lst a xs e =>
    cases (show u = Value.ref a from rx)
    obtain ⟨_, its, n, _, h1⟩ := (show ObjOk X.prog X.w H s.heap a (.lst xs) from I.hok a _ e)
    exact looks_ref h1 rfl
  | @tup a xs e =>
    cases (show u = Value.ref a from rx)
    obtain ⟨_, its, _, ob, h1, c, _⟩ := (show ObjOk X.prog X.w H s.heap a (.tup xs) from I.hok a _ e)
    exact looks_ref h1 c
  | @dK a xs e =>
    cases (show u = Value.ref a from rx)
    obtain ⟨_, _, vs, _, o, es, ep, h1, h2, _⟩ := (show ObjOk X.prog X.w H s.heap a (.dK xs) from I.hok a _ e)
    exact looks_ref h1 h2.1
  | @ins a C dx fs e =>
    cases (show u = Value.ref a from rx)
    obtain ⟨ox, od, J⟩ := inst_of I e
    exact J.type
/-- a == b by a's own __eq__ -/
def rEqO (K : PySem.W.Frag) (C : Addr) (sp : Sp) : R2 := fun x y H Q => ∃ a dx fs t, x = .ref a ∧ H a = some (.ins C dx fs) ∧ TyL H y t ∧ PySem.W.notFirst K C t = true ∧ sp [.ref a, y] H Q E0
theorem op_eqO (c : OpnF X.prog X.w X.K X.mg X.base k C "__eq__" sp) (hr : Room j X.A) (hk : k ≤ j) : OpR X (compareOp .Eq) (rEqO X.K C sp) := by
  obtain ⟨f, h1, h2, F⟩ := c
  intro pins s σ H x y v u Q I rx ry h
  obtain ⟨a, dx, fs, t, rfl, ea, ty, nf, q⟩ := h
  cases (show v = Value.ref a from rx)
  obtain ⟨ox, od, J⟩ := inst_of I ea
  obtain ⟨m, hF⟩ := I.fr
  refine PySem.W.cmp_ofEq (PySem.W.cmp_K (op := .Eq) hr.units0 hF I.ok.mod.kin J (ty.looks I ry) nf h1 h2 ?_)
  exact wpAny_mono (run_R (us := [.ref a, u]) (vs := [.ref a, y]) F (hr.mono hk) pass0 I (.cons rfl (.cons ry .nil)) q) (fun v s' hv => cmpBack hv) fun _ _ z => z
/-- -a by its own __neg__ -/
def rUnO (C : Addr) (sp : Sp) : V → Hp → VK → Prop := fun x H Q => ∃ a dx fs, x = .ref a ∧ H a = some (.ins C dx fs) ∧ sp [.ref a] H Q E0
theorem un_negO (c : OpnF X.prog X.w X.K X.mg X.base k C "__neg__" sp) (hr : Room j X.A) (hk : k ≤ j) : UnR X (unaryOp .USub) (rUnO C sp) := by
  obtain ⟨f, h1, h2, F⟩ := c
  intro pins s σ H x v Q I rx h
  obtain ⟨a, dx, fs, rfl, ea, q⟩ := h
  cases (show v = Value.ref a from rx)
  obtain ⟨ox, od, J⟩ := inst_of I ea
  obtain ⟨m, hF⟩ := I.fr
  exact PySem.W.ksp_neg hF I.ok.mod.kin J h1 h2 (run_R (us := [.ref a]) (vs := [.ref a]) F (hr.mono hk) pass0 I (.cons rfl .nil) q)
/-- a's truth by its own __bool__ -/
def rTruO (C : Addr) (sp : Sp) : V → Hp → (Bool → Hp → Prop) → Prop := fun x H Q => ∃ a dx fs, x = .ref a ∧ H a = some (.ins C dx fs) ∧ sp [.ref a] H (fun v H' => ∃ b, v = .bl b ∧ Q b H') E0
theorem tru_own (c : OpnF X.prog X.w X.K X.mg X.base k C "__bool__" sp) (hr : Room j X.A) (hk : k ≤ j) : TruR X (rTruO C sp) := by
  obtain ⟨f, h1, h2, F⟩ := c
  intro pins s σ H x v Q I rx h
  obtain ⟨a, dx, fs, rfl, ea, q⟩ := h
  cases (show v = Value.ref a from rx)
  obtain ⟨ox, od, J⟩ := inst_of I ea
  obtain ⟨m, hF⟩ := I.fr
  refine PySem.W.truthy_K hF I.ok.mod.kin J h1 h2 (wpAny_mono (run_R (us := [.ref a]) (vs := [.ref a]) F (hr.mono hk) pass0 I (.cons rfl .nil) q) (fun r s' hv => ?_) fun _ _ z => z)
  obtain ⟨y, H', I', ry, b, rfl, qb⟩ := hv
  cases (show r = Value.bool b from ry)
  exact ⟨H', I', qb⟩
/-- a test by a value's truth -/
def tTru (r : V → Hp → (Bool → Hp → Prop) → Prop) (ta : TE) : TT := fun σ H Q => ta σ H fun x H1 => r x H1 Q
theorem pt_tru {r : V → Hp → (Bool → Hp → Prop) → Prop} {a : Expr} (hT : TruR X r) (ha : PE X a ta) (he : ∀ whole, isTrue a X.env whole = (do let v ← whole; standAt a.pos; holding [v] (truthy v)) := by intro _; rfl) : PT X a (tTru r ta) := by
  refine ⟨fun pins s σ H Q I h => ?_⟩
  exact isTrue_plain (thn (ha.run pins s σ H _ I h) fun v s1 ⟨x, H1, I1, r1, q1⟩ => hT pins s1 σ H1 x v Q I1 r1 q1) (he _)
/-! ### great ints -/
theorem op_powW : OpR X (binaryOp .Pow) (rI (fun i j => 0 ≤ j ∧ (Builtin.Int.intBits i : Int) * j ≤ 2 ^ 27) fun i j => .int (i ^ j.toNat)) := opI fun _ _ _ _ _ _ _ hc q => pow_int hc.1 hc.2 q
theorem op_fdivZ : OpR X (binaryOp .FloorDiv) (rI (fun _ j => j ≠ 0 ∧ j.natAbs.log2 < 9000) fun i j => .int (i.fdiv j)) := opI fun _ _ _ _ _ _ _ hc q => floordiv_int hc.1 q (.inl (PyProof.noPylong_of_log2 hc.2))
end
end Ws
namespace Ws
open PySem PySem.Spec PyProof.Rows L2
/-! ### from a def of the text to its promise -/
section
variable {P : Program} {w : World} {K : PySem.W.Frag} {mg : Str → Option Value} {base : Heap}
theorem fnR_of {x qual : Str} {st : Stmt} {f : Addr} {fd : FuncData} {N ps : List Str} {k : Nat} {sp : Sp} (F : L2.Fun K x qual st f fd) (b : Binds K fd ps []) (S : FnScope N ps (defScope st)) (len : ∀ vs H Q E, sp vs H Q E → vs.length = ps.length)
    (hbody : ∀ (cdv : Value) (A : Around) (outer : List Env) (s : Shared) (H : Hp) (vs : List V) (Q : VK) (E : XK), Room k (A.deeper (envOfC qual (defScope st) s.heap.objs.size f cdv)) → sp vs H Q E →
      ∃ t, PSs (cxOf CX0 P w K mg base N qual (defScope st) f cdv A outer s H E).nox (defBody st) t ∧ t { nx := fun _ H' => Q .non H', rt := Q } (start N vs) H) : FnR P w K mg base CX0 (k + 1) f sp :=
  ((F.ok S len hbody).raw b .nil).imp fun vs H Q E h => by rw [List.append_nil]; exact h
/-- a def with defaults: all of them are handed in, or the last ones are filled up -/
theorem fnD_of {x qual : Str} {st : Stmt} {f : Addr} {fd : FuncData} {N ps : List Str} {k : Nat} {sp sp' : Sp} {dvs dvs' : List V} {ds : List Value} (F : FunD K x qual (defArgs st) (defBody st) (defScope st) dvs [] f fd) (b : Binds K fd ps ds) (d : Vals dvs' ds) (S : FnScope N ps (defScope st)) (len : ∀ vs H Q E, sp vs H Q E → vs.length = ps.length)
    (imp : ∀ vs H Q E, sp' vs H Q E → sp (vs ++ dvs') H Q E)
    (hbody : ∀ (cdv : Value) (A : Around) (outer : List Env) (s : Shared) (H : Hp) (vs : List V) (Q : VK) (E : XK), Room k (A.deeper (envOfC qual (defScope st) s.heap.objs.size f cdv)) → sp vs H Q E →
      ∃ t, PSs (cxOf CX0 P w K mg base N qual (defScope st) f cdv A outer s H E).nox (defBody st) t ∧ t { nx := fun _ H' => Q .non H', rt := Q } (start N vs) H) : FnR P w K mg base CX0 (k + 1) f sp' :=
  ((F.ok (CX := CX0) S len fun cdv A outer s H vs Q E hr h => let ⟨t, h1, h2⟩ := hbody cdv A outer s H vs Q E hr h; ⟨t, h1.nox, h2⟩).raw b d).imp imp
end
/-- names of built-ins that the module doesn't bind -/
structure Bi (mg : Str → Option Value) : Prop where
  len : mg "len" = none
  abs : mg "abs" = none
  int : mg "int" = none
  bool : mg "bool" = none
  max : mg "max" = none
  min : mg "min" = none
  range : mg "range" = none
  all : mg "all" = none
  any : mg "any" = none
  isinstance : mg "isinstance" = none
/-! ### heaps -/
/-- all but what stands at p is as it was -/
def Ch (p : Addr) (H H' : Hp) : Prop := ∀ b o, b ≠ p → H b = some o → H' b = some o
theorem Ch.refl {p : Addr} {H : Hp} : Ch p H H := fun _ _ _ h => h
theorem Ch.trans {p : Addr} {H H1 H2 : Hp} (a : Ch p H H1) (b : Ch p H1 H2) : Ch p H H2 := fun c o n h => b c o n (a c o n h)
theorem Ch.of {p : Addr} {H H' : Hp} (h : Same H H') : Ch p H H' := fun b o _ e => h b o e
theorem Ch.upd {p : Addr} {H : Hp} {o : HO} : Ch p H (L2.upd H p o) := fun b u n e => by rw [upd_ne n]; exact e
theorem Same.new {H : Hp} {p : Addr} {o : HO} (h : H p = none) : Same H (upd H p o) := fun b u e => by rw [upd_ne (ne_of_none e h)]; exact e
theorem Ch.new {q p : Addr} {H : Hp} {o : HO} (h : H p = none) : Ch q H (L2.upd H p o) := Ch.of (Same.new h)
theorem Ch.free {p q : Addr} {H H' : Hp} (c : Ch p H H') (n : q ≠ p) (h : H' q = none) : H q = none := by
  cases e : H q with
  | none => rfl
  | some o => rw [c q o n e] at h; cases h
/-- a fresh instance is laid, then filled by its __init__ -/
theorem Same.mk {H H1 : Hp} {x dx C : Addr} (nx : H x = none) (nd : H dx = none) (k : ∀ b o, (upd (upd H dx (.own x)) x (.ins C dx [])) b = some o → b ≠ x → H1 b = some o) : Same H H1 := fun b o e =>
  k b o (by rw [upd_ne (ne_of_none e nx), upd_ne (ne_of_none e nd)]; exact e) (ne_of_none e nx)
/-! ### fields -/
theorem lk_here {k : Str} {v : V} {r : List (Str × V)} : List.lookup k ((k, v) :: r) = some v := by
  have e : (k == k) = true := beq_self_eq_true k
  simp only [List.lookup, e]
theorem lk_past {k g : Str} {v : V} {r : List (Str × V)} (h : (k == g) = false) : List.lookup k ((g, v) :: r) = List.lookup k r := by
  simp only [List.lookup, h]
theorem put_here {f : Str} {v x : V} {r : List (Str × V)} : putF f v ((f, x) :: r) = (f, v) :: r := if_pos rfl
theorem put_past {f g : Str} {v x : V} {r : List (Str × V)} (h : ¬ g = f) : putF f v ((g, x) :: r) = (g, x) :: putF f v r := if_neg h
end Ws
namespace Ws
theorem ifT {c : Bool} {A B : Prop} (hc : c = true) (h : A) : if c = true then A else B := by rw [if_pos hc]; exact h
theorem ifF {c : Bool} {A B : Prop} (hc : c = false) (h : B) : if c = true then A else B := by rw [hc, if_neg Bool.false_ne_true]; exact h
theorem if2 {c : Bool} {A B : Prop} (h1 : c = true → A) (h2 : c = false → B) : if c = true then A else B := by
  cases c with
  | true => exact ifT rfl (h1 rfl)
  | false => exact ifF rfl (h2 rfl)
end Ws
namespace Ws
open PySem PySem.Spec PyProof.Rows L2
section
variable {X : Cx} {CX : CXT} {k n : Nat} {f C : Addr} {fd : FuncData} {ps ks : List Str} {sp : Sp} {E : XK} {m : Str} {pos apos : Pos} {e o : Expr} {kws : List Keyword} {ta : TE} {tk : TA} {g : List Value → List Value → List Value} {gV : List V → List V → List V}
/-- o.m(k = v, ..) -/
def tMtK (C : Addr) (m : Str) (n : Nat) (sp : Sp) (gV : List V → List V → List V) (E : XK) (ta : TE) (tk : TA) : TE := fun σ H Q => ta σ H fun x H1 => ∃ a dx fs, x = .ref a ∧ H1 a = some (.ins C dx fs) ∧ fs.lookup m = none ∧ tk σ H1 fun zs H2 => zs.length = n ∧ sp (gV [x] zs) H2 Q E
theorem pe_mtK0 {pl : Sem Bool} (c : Cls X.K C) (hm : Meth X.K C m f) (F : FnOk X.prog X.w X.K X.mg X.base CX k f fd ps sp) (hr : Room k X.A) (hb : KBn X.K fd ps 1 ks g gV) (hx : Passes CX X E) (he : PE X o ta) (hkw : PK X kws tk)
    (hall : (backToKw pos (keywordEach kws X.env)).all (·.1.isSome) = true := by rfl) (hks : (backToKw pos (keywordEach kws X.env)).filterMap (·.1) = ks := by rfl)
    (hpl : ((backTo pos (starEach [] X.env)).any (·.1) || (backToKw pos (keywordEach kws X.env)).any (·.1.isNone)) = false := by rfl)
    (ht : eval (.Call (.Attribute o m apos) [] kws pos) X.env = (do
      let ov ← eval o X.env
      standAt apos.atName
      let (f, first) ← holding [ov] (getMethod ov m pl)
      callWith pos f first (backTo pos (starEach [] X.env)) (backToKw pos (keywordEach kws X.env))) := by rfl) :
    PE X (.Call (.Attribute o m apos) [] kws pos) (tMtK C m ks.length sp gV E ta tk) := by
  refine ⟨fun pins s σ H Q I h => ?_⟩
  refine PySem.W.methodCall_KW (pl := pl) (thn (he.run pins s σ H _ I h) fun u s1 ⟨x, H1, I1, rx, a, dx, fs, ex, ea, l, q⟩ => ?_) ht
  subst ex
  obtain rfl : u = Value.ref a := rx
  refine getmeth_ok I1 ea c hm l ?_
  refine PySem.W.callWith_KW0 (first := [.ref a]) (h₀ := X.base) I.ok.mod.kin hm.kp hall ?_ hpl
  refine thn (hkw.run pos pins s1 σ H1 _ I1 q) fun ws s2 ⟨zs, H2, I2, rz, l2, q2⟩ => ⟨I2.kIn, ?_⟩
  rw [hks]
  exact run_fnN (us := [.ref a]) (vs := [.ref a]) F hr hb hx I2 (.cons rfl .nil) rz rfl l2 q2
end
end Ws
namespace Ws
theorem bit_lo (c : Bool) : -(2 ^ 64) < (if c = true then (1 : Int) else 0) ∧ (if c = true then (1 : Int) else 0) < 2 ^ 64 := by cases c <;> decide
theorem bit_nn (c : Bool) : 0 ≤ (if c = true then (1 : Int) else 0) := by cases c <;> decide
end Ws
namespace Ws
open PySem
theorem kit_self {K : PySem.W.Frag} (t : Value) : PySem.W.kitOne K t t = some true := by
  unfold PySem.W.kitOne
  rw [if_pos (by simp)]
end Ws

namespace Ws
/-! ### fractions in lowest terms -/
def gI (t b : Int) : Int := ((Nat.gcd t.natAbs b.natAbs : Nat) : Int)
def gS (t b : Int) : Int := if b < 0 then -(gI t b) else gI t b
def nT (t b : Int) : Int := t.fdiv (gS t b)
def nB (t b : Int) : Int := b.fdiv (gS t b)
theorem gI_pos {t b : Int} (hb : b ≠ 0) : 0 < gI t b := by
  have : 0 < Nat.gcd t.natAbs b.natAbs := Nat.gcd_pos_of_pos_right _ (by omega)
  unfold gI; omega
theorem gS_ne {t b : Int} (hb : b ≠ 0) : gS t b ≠ 0 := by
  have := gI_pos (t := t) hb
  unfold gS; split <;> omega
/-- the reduced pair -/
structure Low (t b p q : Int) : Prop where
  pos : 0 < q
  cross : p * b = t * q
  cop : Nat.gcd p.natAbs q.natAbs = 1
theorem nf_parts {t b : Int} (hb : b ≠ 0) : ∃ t' b' : Int, t = gI t b * t' ∧ b = gI t b * b' ∧ Nat.gcd t'.natAbs b'.natAbs = 1 ∧ b' ≠ 0 := by
  have hg := gI_pos (t := t) hb
  have h1 : gI t b ∣ t := by
    have : Nat.gcd t.natAbs b.natAbs ∣ t.natAbs := Nat.gcd_dvd_left _ _
    have := Int.ofNat_dvd.mpr this
    exact Int.dvd_natAbs.mp this
  have h2 : gI t b ∣ b := by
    have : Nat.gcd t.natAbs b.natAbs ∣ b.natAbs := Nat.gcd_dvd_right _ _
    have := Int.ofNat_dvd.mpr this
    exact Int.dvd_natAbs.mp this
  obtain ⟨t', e1⟩ := h1
  obtain ⟨b', e2⟩ := h2
  refine ⟨t', b', e1, e2, ?_, ?_⟩
  · have e3 : t.natAbs = (gI t b).natAbs * t'.natAbs := by rw [← Int.natAbs_mul, ← e1]
    have e4 : b.natAbs = (gI t b).natAbs * b'.natAbs := by rw [← Int.natAbs_mul, ← e2]
    have e5 : Nat.gcd t.natAbs b.natAbs = (gI t b).natAbs := by unfold gI; simp
    rw [e3, e4, Nat.gcd_mul_left] at e5
    have h0 : 0 < (gI t b).natAbs := by omega
    exact Nat.eq_of_mul_eq_mul_left h0 (by rw [e5, Nat.mul_one])
  · intro z
    rw [z, Int.mul_zero] at e2
    exact hb e2
theorem nf_vals {t b : Int} (hb : b ≠ 0) : ∃ t' b' : Int, t = gI t b * t' ∧ b = gI t b * b' ∧ Nat.gcd t'.natAbs b'.natAbs = 1 ∧ b' ≠ 0 ∧ nT t b = (if b < 0 then -t' else t') ∧ nB t b = (if b < 0 then -b' else b') ∧ (b < 0 ↔ b' < 0) := by
  obtain ⟨t', b', e1, e2, hc, h0⟩ := nf_parts (t := t) hb
  have hg := gI_pos (t := t) hb
  have hs : b < 0 ↔ b' < 0 := by
    constructor
    · intro h
      apply Int.lt_of_not_ge
      intro h2
      have : 0 ≤ gI t b * b' := Int.mul_nonneg (by omega) h2
      omega
    · intro h
      have : gI t b * b' < gI t b * 0 := Int.mul_lt_mul_of_pos_left h hg
      omega
  refine ⟨t', b', e1, e2, hc, h0, ?_, ?_, hs⟩
  · unfold nT gS
    split
    · generalize gI t b = g at *
      subst e1
      rw [show g * t' = -g * -t' by grind, Int.mul_fdiv_cancel_left _ (by omega)]
    · generalize gI t b = g at *
      subst e1
      rw [Int.mul_fdiv_cancel_left _ (by omega)]
  · unfold nB gS
    split
    · generalize gI t b = g at *
      rw [e2, show g * b' = -g * -b' by grind, Int.mul_fdiv_cancel_left _ (by omega)]
    · generalize gI t b = g at *
      rw [e2, Int.mul_fdiv_cancel_left _ (by omega)]
theorem nf_low {t b : Int} (hb : b ≠ 0) : Low t b (nT t b) (nB t b) := by
  obtain ⟨t', b', e1, e2, hc, h0, eT, eB, hs⟩ := nf_vals (t := t) hb
  generalize gI t b = g at *
  rw [eT, eB]
  split
  · rename_i h
    have := hs.mp h
    refine ⟨by omega, by grind, by simpa using hc⟩
  · rename_i h
    have : ¬ b' < 0 := fun z => h (hs.mpr z)
    exact ⟨by omega, by grind, hc⟩
theorem nf_le {t b : Int} (hb : b ≠ 0) : (nT t b).natAbs ≤ t.natAbs ∧ (nB t b).natAbs ≤ b.natAbs := by
  obtain ⟨t', b', e1, e2, hc, h0, eT, eB, hs⟩ := nf_vals (t := t) hb
  have hg := gI_pos (t := t) hb
  have e3 : t.natAbs = (gI t b).natAbs * t'.natAbs := by rw [← Int.natAbs_mul, ← e1]
  have e4 : b.natAbs = (gI t b).natAbs * b'.natAbs := by rw [← Int.natAbs_mul, ← e2]
  have h0 : 1 ≤ (gI t b).natAbs := by omega
  have k1 : t'.natAbs ≤ t.natAbs := by rw [e3]; exact Nat.le_mul_of_pos_left _ h0
  have k2 : b'.natAbs ≤ b.natAbs := by rw [e4]; exact Nat.le_mul_of_pos_left _ h0
  rw [eT, eB]
  by_cases h : b < 0
  · rw [if_pos h, if_pos h]
    constructor <;> omega
  · rw [if_neg h, if_neg h]
    exact ⟨k1, k2⟩
theorem low_uniq {p q r s : Int} (h : p * s = r * q) (hq : 0 < q) (hs : 0 < s) (h1 : Nat.gcd p.natAbs q.natAbs = 1) (h2 : Nat.gcd r.natAbs s.natAbs = 1) : p = r ∧ q = s := by
  have e : p.natAbs * s.natAbs = r.natAbs * q.natAbs := by rw [← Int.natAbs_mul, ← Int.natAbs_mul, h]
  have d1 : q.natAbs ∣ s.natAbs := by
    have c : Nat.Coprime q.natAbs p.natAbs := by rw [Nat.coprime_comm]; exact h1
    exact c.dvd_of_dvd_mul_left ⟨r.natAbs, by rw [e, Nat.mul_comm]⟩
  have d2 : s.natAbs ∣ q.natAbs := by
    have c : Nat.Coprime s.natAbs r.natAbs := by rw [Nat.coprime_comm]; exact h2
    exact c.dvd_of_dvd_mul_left ⟨p.natAbs, by rw [← e, Nat.mul_comm]⟩
  have e2 : q.natAbs = s.natAbs := Nat.dvd_antisymm d1 d2
  have e3 : q = s := by omega
  subst e3
  exact ⟨Int.eq_of_mul_eq_mul_right (by omega) h, rfl⟩
/-- a reduced pair is the reduced pair of anything that it crosses with -/
theorem Low.eq {t b p q c d r s : Int} (h : Low t b p q) (h' : Low c d r s) (hb : b ≠ 0) (hd : d ≠ 0) (e : t * d = c * b) : p = r ∧ q = s := by
  refine low_uniq ?_ h.pos h'.pos h.cop h'.cop
  have e1 := h.cross
  have e2 := h'.cross
  have : (p * s) * (b * d) = (r * q) * (b * d) := by grind
  exact Int.eq_of_mul_eq_mul_right (Int.mul_ne_zero hb hd) this
theorem Low.ne {t b p q c d r s : Int} (h : Low t b p q) (h' : Low c d r s) (hb : b ≠ 0) (hd : d ≠ 0) (e : t * d ≠ c * b) : ¬ (p = r ∧ q = s) := by
  rintro ⟨rfl, rfl⟩
  refine e ?_
  have e1 := h.cross
  have e2 := h'.cross
  have : (t * d) * q = (c * b) * q := by grind
  exact Int.eq_of_mul_eq_mul_right (by have := h.pos; omega) this
theorem nf_eq {t b c d : Int} (hb : b ≠ 0) (hd : d ≠ 0) (e : t * d = c * b) : nT t b = nT c d ∧ nB t b = nB c d := (nf_low hb).eq (nf_low hd) hb hd e
theorem nf_ne {t b c d : Int} (hb : b ≠ 0) (hd : d ≠ 0) (e : t * d ≠ c * b) : ¬ (nT t b = nT c d ∧ nB t b = nB c d) := (nf_low hb).ne (nf_low hd) hb hd e
/-- the law's own reckoning -/
theorem nf_least {t b : Int} (hb : b ≠ 0) : ((if b < 0 then -1 else 1) * t) / gI t b = nT t b ∧ (if b < 0 then -b else b) / gI t b = nB t b := by
  obtain ⟨t', b', e1, e2, hc, h0, eT, eB, hs⟩ := nf_vals (t := t) hb
  have hg := gI_pos (t := t) hb
  rw [eT, eB]
  generalize gI t b = g at *
  subst e1
  split
  · refine ⟨?_, ?_⟩
    · rw [show -1 * (g * t') = g * -t' by grind, Int.mul_ediv_cancel_left _ (by omega)]
    · rw [e2, show -(g * b') = g * -b' by grind, Int.mul_ediv_cancel_left _ (by omega)]
  · refine ⟨?_, ?_⟩
    · rw [Int.one_mul, Int.mul_ediv_cancel_left _ (by omega)]
    · rw [e2, Int.mul_ediv_cancel_left _ (by omega)]
/-- one turn of Euclid's loop -/
theorem gcd_turn {a b : Int} (ha : 0 ≤ a) (hb : 0 < b) : Nat.gcd b.natAbs (a % b).natAbs = Nat.gcd a.natAbs b.natAbs := by
  rw [Int.natAbs_emod_of_nonneg ha, Nat.gcd_comm a.natAbs, Nat.gcd_rec b.natAbs a.natAbs, Nat.gcd_comm]
/-! ### sizes -/
/-- less than n bits -/
def Sz (n : Nat) (i : Int) : Prop := i.natAbs < 2 ^ n
theorem Sz.mono {n m : Nat} {i : Int} (h : Sz n i) (hm : n ≤ m) : Sz m i := Nat.lt_of_lt_of_le h (Nat.pow_le_pow_right (by decide) hm)
theorem Sz.mul {n m : Nat} {i j : Int} (h : Sz n i) (h' : Sz m j) : Sz (n + m) (i * j) := by
  unfold Sz at *
  rw [Int.natAbs_mul, Nat.pow_add]
  exact Nat.mul_lt_mul'' h h'
theorem Sz.add {n : Nat} {i j : Int} (h : Sz n i) (h' : Sz n j) : Sz (n + 1) (i + j) := by
  unfold Sz at *
  rw [Nat.pow_succ]
  omega
theorem Sz.sub {n : Nat} {i j : Int} (h : Sz n i) (h' : Sz n j) : Sz (n + 1) (i - j) := by
  unfold Sz at *
  rw [Nat.pow_succ]
  omega
theorem Sz.neg {n : Nat} {i : Int} (h : Sz n i) : Sz n (-i) := by
  unfold Sz at *
  omega
theorem Sz.nT {n : Nat} {t b : Int} (hb : b ≠ 0) (h : Sz n t) : Sz n (nT t b) := Nat.lt_of_le_of_lt (nf_le hb).1 h
theorem Sz.nB {n : Nat} {t b : Int} (hb : b ≠ 0) (h : Sz n b) : Sz n (nB t b) := Nat.lt_of_le_of_lt (nf_le hb).2 h
theorem Sz.gI {n : Nat} {t b : Int} (hb : b ≠ 0) (h : Sz n b) : Sz n (gI t b) := by
  refine Nat.lt_of_le_of_lt ?_ h
  unfold Ws.gI
  exact Nat.le_of_dvd (by omega) (Nat.gcd_dvd_right _ _)
theorem Sz.of_abs {n : Nat} {i : Int} (h : i.natAbs < 2 ^ n) : Sz n i := h
end Ws
namespace Ws
/-- a reduced pair is that of any other pair that crosses with the first one -/
theorem Low.base {t b p q c d : Int} (h : Low t b p q) (hb : b ≠ 0) (e : t * d = c * b) : Low c d p q := by
  refine ⟨h.pos, ?_, h.cop⟩
  have e1 := h.cross
  have : (p * d) * b = (c * q) * b := by grind
  exact Int.eq_of_mul_eq_mul_right hb this
theorem Low.nf {t b p q : Int} (h : Low t b p q) (hb : b ≠ 0) : p = nT t b ∧ q = nB t b := h.eq (nf_low hb) hb hb rfl
theorem Low.szT {t b p q : Int} {n : Nat} (h : Low t b p q) (hb : b ≠ 0) (z : Sz n t) : Sz n p := by rw [(h.nf hb).1]; exact z.nT hb
theorem Low.szB {t b p q : Int} {n : Nat} (h : Low t b p q) (hb : b ≠ 0) (z : Sz n b) : Sz n q := by rw [(h.nf hb).2]; exact z.nB hb
theorem Low.zero {t b p q : Int} (h : Low t b p q) (hb : b ≠ 0) : p = 0 ↔ t = 0 := by
  have e := h.cross
  have hq := h.pos
  constructor
  · intro z
    rw [z, Int.zero_mul] at e
    rcases Int.mul_eq_zero.mp e.symm with z | z
    · exact z
    · omega
  · intro z
    rw [z, Int.zero_mul] at e
    rcases Int.mul_eq_zero.mp e with z | z
    · exact z
    · exact absurd z hb
theorem Low.self {t b p q : Int} (h : Low t b p q) (hb : b ≠ 0) : Low p q p q := ⟨h.pos, rfl, h.cop⟩
end Ws

namespace Ws
open PySem PySem.Spec PyProof.Rows L2
section
variable {K : PySem.W.Frag} {a : Addr} {xs : List V} {g : TG} {te : TE} {vs : List Nat} {σ : L2.St} {H1 : Hp} {D : Addr} {Qd : Hp → Prop}
/-- a comprehension without a test: what is made so far stands at D, J tells of it -/
def PvJ (D : Addr) (J : Nat → List V → Hp → Prop) : Nat → Hp → Prop := fun i H => ∃ acc, acc.length = i ∧ H D = some (.lst acc) ∧ J i acc H
theorem step_J {J : Nat → List V → Hp → Prop} {i : Nat} {x : V} {H : Hp} (hz : i < sizeLine) (h : PvJ D J i H)
    (hs : ∀ acc, J i acc H → H D = some (.lst acc) → acc.length = i → ∀ Qn : VK, (∀ y H4, H4 D = some (.lst acc) → J (i + 1) (acc ++ [y]) (upd H4 D (.lst (acc ++ [y]))) → Qn y H4) → g x (wipe σ vs) H fun σ2 H2 => wipe σ2 vs = wipe σ vs ∧ te σ2 H2 Qn) :
    g x (wipe σ vs) H fun σ2 H2 => wipe σ2 vs = wipe σ vs ∧ tYes σ2 H2 fun b H3 => if b = true then te σ2 H3 fun y H4 => ∃ acc, H4 D = some (.lst acc) ∧ acc.length < sizeLine ∧ PvJ D J (i + 1) (upd H4 D (.lst (acc ++ [y]))) else PvJ D J (i + 1) H3 := by
  obtain ⟨acc, hl, hD, j⟩ := h
  have := hs acc j hD hl (fun y H4 => ∃ acc, H4 D = some (.lst acc) ∧ acc.length < sizeLine ∧ PvJ D J (i + 1) (upd H4 D (.lst (acc ++ [y])))) fun y H4 e jj => ⟨acc, e, by rw [hl]; exact hz, acc ++ [y], by rw [List.length_append, hl] <;> rfl, upd_same, jj⟩
  have e : (fun (σ2 : L2.St) (H2 : Hp) => wipe σ2 vs = wipe σ vs ∧ tYes σ2 H2 fun b H3 => if b = true then te σ2 H3 fun y H4 => ∃ acc, H4 D = some (.lst acc) ∧ acc.length < sizeLine ∧ PvJ D J (i + 1) (upd H4 D (.lst (acc ++ [y]))) else PvJ D J (i + 1) H3)
      = fun σ2 H2 => wipe σ2 vs = wipe σ vs ∧ te σ2 H2 fun y H4 => ∃ acc, H4 D = some (.lst acc) ∧ acc.length < sizeLine ∧ PvJ D J (i + 1) (upd H4 D (.lst (acc ++ [y]))) := by
    funext σ2 H2
    show (wipe σ2 vs = wipe σ vs ∧ (if true = true then (te σ2 H2 fun y H4 => ∃ acc, H4 D = some (.lst acc) ∧ acc.length < sizeLine ∧ PvJ D J (i + 1) (upd H4 D (.lst (acc ++ [y])))) else PvJ D J (i + 1) H2)) = _
    rw [if_pos rfl]
  rw [e]
  exact this
theorem lcT (J : Nat → List V → Hp → Prop) (h0 : J 0 [] (upd H1 D (.lst []))) (hl : ∀ i acc H, J i acc H → SqT K H a xs) (hz : xs.length < sizeLine)
    (hs : ∀ i x H acc, xs[i]? = some x → J i acc H → H D = some (.lst acc) → acc.length = i → ∀ Qn : VK, (∀ y H4, H4 D = some (.lst acc) → J (i + 1) (acc ++ [y]) (upd H4 D (.lst (acc ++ [y]))) → Qn y H4) → g x (wipe σ vs) H fun σ2 H2 => wipe σ2 vs = wipe σ vs ∧ te σ2 H2 Qn)
    (hd : ∀ ys H, J xs.length ys H → H D = some (.lst ys) → ys.length = xs.length → Qd H) :
    ∃ W : Nat → Nat → Hp → Prop, (∃ m, W 0 m (upd H1 D (.lst []))) ∧ ∀ i m H, W i m H →
      ((Itt K a).stop i H ∧ Qd H) ∨ ((Itt K a).go i H ∧ ∃ Nx : Hp → Prop, (∀ H', Nx H' → ∃ m', m' < m ∧ W (i + 1) m' H') ∧ ∀ x H', (Itt K a).yld i H x H' → g x (wipe σ vs) H' fun σ2 H2 => wipe σ2 vs = wipe σ vs ∧ tYes σ2 H2 fun b H3 =>
        if b = true then te σ2 H3 fun y H4 => ∃ acc, H4 D = some (.lst acc) ∧ acc.length < sizeLine ∧ Nx (upd H4 D (.lst (acc ++ [y]))) else Nx H3) :=
  lc_tup (K := K) (a := a) (xs := xs) (PvJ D J) ⟨[], rfl, upd_same, h0⟩ (fun i H _ h => let ⟨acc, _, _, j⟩ := h; hl i acc H j)
    (fun i x H hx h => step_J (Nat.lt_trans (List.getElem?_eq_some_iff.mp hx).1 hz) h fun acc j e l => hs i x H acc hx j e l) fun H h => let ⟨ys, l, e, j⟩ := h; hd ys H j e l
theorem lcL (J : Nat → List V → Hp → Prop) (h0 : J 0 [] (upd H1 D (.lst []))) (hl : ∀ i acc H, J i acc H → SqL K H a xs) (hz : xs.length < sizeLine)
    (hs : ∀ i x H acc, xs[i]? = some x → J i acc H → H D = some (.lst acc) → acc.length = i → ∀ Qn : VK, (∀ y H4, H4 D = some (.lst acc) → J (i + 1) (acc ++ [y]) (upd H4 D (.lst (acc ++ [y]))) → Qn y H4) → g x (wipe σ vs) H fun σ2 H2 => wipe σ2 vs = wipe σ vs ∧ te σ2 H2 Qn)
    (hd : ∀ ys H, J xs.length ys H → H D = some (.lst ys) → ys.length = xs.length → Qd H) :
    ∃ W : Nat → Nat → Hp → Prop, (∃ m, W 0 m (upd H1 D (.lst []))) ∧ ∀ i m H, W i m H →
      ((Itl K a).stop i H ∧ Qd H) ∨ ((Itl K a).go i H ∧ ∃ Nx : Hp → Prop, (∀ H', Nx H' → ∃ m', m' < m ∧ W (i + 1) m' H') ∧ ∀ x H', (Itl K a).yld i H x H' → g x (wipe σ vs) H' fun σ2 H2 => wipe σ2 vs = wipe σ vs ∧ tYes σ2 H2 fun b H3 =>
        if b = true then te σ2 H3 fun y H4 => ∃ acc, H4 D = some (.lst acc) ∧ acc.length < sizeLine ∧ Nx (upd H4 D (.lst (acc ++ [y]))) else Nx H3) :=
  lc_list (K := K) (a := a) (xs := xs) (PvJ D J) ⟨[], rfl, upd_same, h0⟩ (fun i H _ h => let ⟨acc, _, _, j⟩ := h; hl i acc H j)
    (fun i x H hx h => step_J (Nat.lt_trans (List.getElem?_eq_some_iff.mp hx).1 hz) h fun acc j e l => hs i x H acc hx j e l) fun H h => let ⟨ys, l, e, j⟩ := h; hd ys H j e l
theorem lcR {lo : Int} {n : Nat} (J : Nat → List V → Hp → Prop) (h0 : J 0 [] (upd H1 D (.lst []))) (hz : n < sizeLine)
    (hs : ∀ i H acc, i < n → J i acc H → H D = some (.lst acc) → acc.length = i → ∀ Qn : VK, (∀ y H4, H4 D = some (.lst acc) → J (i + 1) (acc ++ [y]) (upd H4 D (.lst (acc ++ [y]))) → Qn y H4) → g (.int (lo + i)) (wipe σ vs) H fun σ2 H2 => wipe σ2 vs = wipe σ vs ∧ te σ2 H2 Qn)
    (hd : ∀ ys H, J n ys H → H D = some (.lst ys) → ys.length = n → Qd H) :
    ∃ W : Nat → Nat → Hp → Prop, (∃ m, W 0 m (upd H1 D (.lst []))) ∧ ∀ i m H, W i m H →
      ((Itr lo n).stop i H ∧ Qd H) ∨ ((Itr lo n).go i H ∧ ∃ Nx : Hp → Prop, (∀ H', Nx H' → ∃ m', m' < m ∧ W (i + 1) m' H') ∧ ∀ x H', (Itr lo n).yld i H x H' → g x (wipe σ vs) H' fun σ2 H2 => wipe σ2 vs = wipe σ vs ∧ tYes σ2 H2 fun b H3 =>
        if b = true then te σ2 H3 fun y H4 => ∃ acc, H4 D = some (.lst acc) ∧ acc.length < sizeLine ∧ Nx (upd H4 D (.lst (acc ++ [y]))) else Nx H3) :=
  lc_range (PvJ D J) ⟨[], rfl, upd_same, h0⟩ (fun i H hi h => step_J (Nat.lt_trans hi hz) h fun acc j e l => hs i H acc hi j e l) fun H h => let ⟨ys, l, e, j⟩ := h; hd ys H j e l
end
end Ws

namespace Ws
open PySem PySem.W PySem.Calls PyProof.Rows
/-- what a class with an own __eq__ and no __ne__ must be -/
structure NeC (K : Frag) (C : Addr) : Prop where
  ne : findIn K (.ref C) "__ne__" = some (some (.builtin "object.__ne__"))
  obj : ∃ (nm q : Str) (N : Addr) (bs bm : List Value) (hd : Bool) (sn : List Str) (sub : List Value) (ab : Bool) (col : Option Bool) (dd : Option Addr) (k0 k1 k2 k3 k5 : Option Value) (nid : String),
    K.lookup C = some (excClassObj nm q C N bs bm hd sn sub ab col dd k0 k1 k2 k3 k5 nid) ∧ bm.contains (.type "object") = true
section
variable {prog : Program} {w : World} {A : Around} {E : Value → Shared → Prop} {s : Shared} {K : Frag} {x C L f : Addr} {h₀ : Heap} {m : Str → Option Value} {ox : Obj} {od : Option Obj} {b tb : Value}
theorem ifBound_B {M : Model} {args : List Value} {Q : Option Value → Shared → Prop} (X : K.In s.heap) (I : InstAt s.heap x ox C od) (hs : findIn K (.ref C) "__ne__" = some (some (.builtin "object.__ne__")))
    (h : wpAny M A (call (.builtin "object.__ne__") (.ref x :: args)) (fun v => Q (some v)) E s) : wpAny M A (callSpecialIfBound? (.ref x) "__ne__" args) Q E s := by
  simp only [callSpecialIfBound?, bindSpecialIfBound?]
  refine wpAny_holding (wpAny_bind (wpAny_bind (wpAny_bind (I.type.here ((looks_findIn X hs).here ?_)))))
  dsimp only
  simp only [PySem.F.cmp_object.ne.bind]
  have fin : wpAny M A (call (.builtin "object.__ne__") ([.ref x] ++ args) >>= fun v => pure (some v)) Q E s := wpAny_bind (wpAny_mono h (fun v s' h' => wpAny_pure h') fun _ _ h' => h')
  refine wpAny_bind (wpAny_askSetting (wpAny_ite ?_))
  split
  · exact wpAny_bind (wpAny_pure (wpAny_pure (by exact fin)))
  · exact wpAny_tryCatch (wpAny_bind (wpAny_pure (wpAny_pure (by exact fin))))
theorem objNe_K (hu : A.units < cLine) (X : K.In s.heap) (I : InstAt s.heap x ox C od) (hs : findIn K (.ref C) "__eq__" = some (some (.ref f))) (hf : isFn K (.ref f) = true) {Q : Fin → Shared → Prop}
    (hcall : wpAny (model prog w) A (call (.ref f) [.ref x, b]) (fun v s' => ∃ r, v = .bool r ∧ Q (.done (.ret (.bool (!r)))) s') E s) : wpAny (model prog w) A (Builtin.«object.__ne__» ⟨[.ref x, b], []⟩) Q E s := by
  obtain ⟨h, g, d, t, os⟩ := s
  unfold Builtin.«object.__ne__»
  repeat (first
    | with_reducible refine wpAny_cRoomFor hu ?_
    | (refine wpAny_bind (m := callSpecialIfBound? (.ref x) (Str.ofString "__eq__") [b])
        (ifBound_K X I hs hf (wpAny_mono hcall (fun r s' hr => by
          obtain ⟨r, rfl, hq⟩ := hr
          repeat (first | exact hq | exact wpAny_pure hq | exact wpAny_truthy_bool hq | (refine wpAny_bind (m := truthy (.bool _)) (wpAny_truthy_bool ?_)) | wp_step)) fun _ _ e => e)))
    | wp_step)
theorem ne_K (N : NeC K C) (hu : A.units + 1 < cLine) (F : Fr h₀ L s.heap m) (X₀ : K.In h₀) (I : InstAt s.heap x ox C od) (hb : Looks (model prog w) s.heap (typeOf b) tb) (hn : notFirst K C tb = true)
    (hs : findIn K (.ref C) "__eq__" = some (some (.ref f))) (hf : isFn K (.ref f) = true) {Q : Value → Shared → Prop}
    (h : wpAny (model prog w) A.in1 (call (.ref f) [.ref x, b]) (fun v s' => ∃ r, v = .bool r ∧ Q (.bool (!r)) s') E s) : wpAny (model prog w) A (compareOp .NotEq (.ref x) b) Q E s := by
  have X := X₀.keeps F.keep
  obtain ⟨hne, nm, q, N, bs, bm, hd, sn, sub, ab, col, dd, k0, k1, k2, k3, k5, nid, hC, hbm⟩ := N
  have one : wpAny (model prog w) A (tryCompare (.ref x) "__ne__" b) (fun r s' => ∃ v, r = some v ∧ Q v s') E s := by
    unfold tryCompare
    refine wpAny_bind (ifBound_B X I hne (wpAny_call (codeAny_call_builtin PySem.F.cmp_object.ne.plain PySem.F.cmpEntry_ne ?_)))
    obtain ⟨hh, g, d, t, os⟩ := s
    refine wpAny_check_slot_inst PySem.F.cmpKind_ne PySem.F.cmpSplit_ne (PySem.F.cmpArgs_ne _ _) hbm I.at_ I.cls (X _ _ hC) ?_
    refine objNe_K (A := A.in1) (Nat.lt_of_succ_lt_succ (Nat.succ_lt_succ hu)) X I hs hf (wpAny_mono h (fun v s' hv => ?_) fun _ _ e => e)
    obtain ⟨r, rfl, hq⟩ := hv
    first
      | exact ⟨r, rfl, wpAny_pure ⟨_, rfl, hq⟩⟩
      | exact ⟨r, rfl, wpAny_pure (wpAny_pure ⟨_, rfl, hq⟩)⟩
  show wpAny (model prog w) A (richCompare .NotEq (.ref x) b) Q E s
  unfold richCompare
  simp only [oneThing_ref]
  refine wpAny_holding (wpAny_bind (wpAny_cRoomFor (Nat.lt_of_succ_lt hu) ?_))
  rw [cmpInfo_NotEq]
  dsimp only
  refine wpAny_bind (I.type.here (wpAny_bind (hb.here ?_)))
  split
  · rename_i q
    have e : subIn K tb (.ref C) = some false := by
      rcases Bool.or_eq_true_iff.mp hn with e | e
      · rw [beq_iff_eq.mp e] at q; simp at q
      · exact beq_iff_eq.mp e
    refine wpAny_bind ((looks_subIn X e).here ?_)
    simp only [Bool.false_eq_true, if_false]
    refine wpAny_bind (wpAny_mono one (fun r s' z => ?_) fun _ _ e => e)
    obtain ⟨v, rfl, hq⟩ := z
    exact wpAny_pure hq
  · refine wpAny_bind (wpAny_pure ?_)
    simp only [Bool.false_eq_true, if_false]
    refine wpAny_bind (wpAny_mono one (fun r s' z => ?_) fun _ _ e => e)
    obtain ⟨v, rfl, hq⟩ := z
    exact wpAny_pure hq
end
end Ws
namespace Ws
open PySem PySem.Spec PyProof.Rows L2
section
variable {X : Cx} {k j : Nat} {C : Addr} {sp : Sp}
/-- the callee runs one call further in -/
theorem run_in1 {f : Addr} {pins : List (Addr × Obj)} {σ : L2.St} {H : Hp} {s : Shared} {Q : VK} {us : List Value} {vs : List V} {Ex : Value → Shared → Prop} (F : FnR X.prog X.w X.K X.mg X.base CX0 k f sp) (hr : Room (k + 1) X.A) (I : Inv X pins σ H s) (r : Vals vs us) (h : sp vs H Q E0) :
    wpAny (model X.prog X.w) X.A.in1 (call (.ref f) us) (EP X pins σ Q) Ex s := by
  refine wpAny_call (codeAny_mono (F X.A.in1 X.stack s H us vs Q E0 hr.in1 I.env0.in1 r h) fun r s' hq => ?_)
  cases r with
  | error er => exact hq.elim
  | ok fl =>
    cases fl with
    | ret u => exact I.after hq
    | next => exact False.elim hq
    | brk => exact False.elim hq
    | cont => exact False.elim hq
/-- a != b by a's own __eq__ -/
def rNeO (K : PySem.W.Frag) (C : Addr) (sp : Sp) : R2 := fun x y H Q => ∃ a dx fs t, x = .ref a ∧ H a = some (.ins C dx fs) ∧ TyL H y t ∧ PySem.W.notFirst K C t = true ∧ sp [.ref a, y] H (fun v H' => ∃ r, v = .bl r ∧ Q (.bl (!r)) H') E0
theorem op_neO (N : NeC X.K C) (c : OpnF X.prog X.w X.K X.mg X.base k C "__eq__" sp) (hr : Room j X.A) (hk : k + 1 ≤ j) : OpR X (compareOp .NotEq) (rNeO X.K C sp) := by
  obtain ⟨f, h1, h2, F⟩ := c
  intro pins s σ H x y v u Q I rx ry h
  obtain ⟨a, dx, fs, t, rfl, ea, ty, nf, q⟩ := h
  cases (show v = Value.ref a from rx)
  obtain ⟨ox, od, J⟩ := inst_of I ea
  obtain ⟨m, hF⟩ := I.fr
  refine ne_K N (hu_of hr) hF I.ok.mod.kin J (ty.looks I ry) nf h1 h2 ?_
  refine wpAny_mono (run_in1 (us := [.ref a, u]) (vs := [.ref a, y]) F (hr.mono hk) I (.cons rfl (.cons ry .nil)) q) (fun v s' hv => ?_) fun _ _ z => z
  obtain ⟨z, H', I', rz, r, rfl, q'⟩ := hv
  cases (show v = Value.bool r from rz)
  exact ⟨r, rfl, .bl _, H', I', rfl, q'⟩
end
/-- isinstance with a class of one's own, answered no -/
theorem kit_no {K : PySem.W.Frag} {t : Value} {D : Addr} (h1 : PySem.W.isClsIn K D = true) (h2 : PySem.W.typeIn K (.ref D) = some (.type "type")) (h3 : PySem.W.subIn K t (.ref D) = some false) (h4 : t ≠ .ref D) : PySem.W.kitOne K t (.ref D) = some false := by
  have e : (t == Value.ref D) = false := by
    cases h : (t == Value.ref D) with
    | false => rfl
    | true => exact absurd (eq_of_beq h) h4
  have e2 : ((PySem.W.clsIn K D).isSome && PySem.W.typeIn K (.ref D) == some (.type "type")) = true := by
    have h1' : (PySem.W.clsIn K D).isSome = true := h1
    rw [h1', h2] <;> rfl
  unfold PySem.W.kitOne
  rw [e, if_neg Bool.false_ne_true]
  show (if ((PySem.W.clsIn K D).isSome && PySem.W.typeIn K (.ref D) == some (.type "type")) = true then PySem.W.subIn K t (.ref D) else none) = some false
  rw [if_pos e2, h3]
end Ws

namespace Ws
open PySem PySem.Spec PyProof.Rows L2
abbrev sWhole : Stmt := (PySem.Challenge.pw_whatspeed_k05_lines.main.body.getD 6 (.Pass ⟨0, 0, 0, 0⟩))
abbrev NWhole : List Str := ["value"]
abbrev PWhole : List Str := ["value"]
theorem scWhole : FnScope NWhole PWhole (defScope sWhole) := ⟨rfl, rfl, rfl, by decide +kernel, rfl, by decide +kernel, by decide +kernel⟩
abbrev sNum : Stmt := (inClass (PySem.Challenge.pw_whatspeed_k05_lines.main.body.getD 7 (.Pass ⟨0, 0, 0, 0⟩)) 0)
abbrev NNum : List Str := ["self", "top", "bottom", "shared"]
abbrev PNum : List Str := ["self", "top", "bottom"]
theorem scNum : FnScope NNum PNum (defScope sNum) := ⟨rfl, rfl, rfl, by decide +kernel, rfl, by decide +kernel, by decide +kernel⟩
abbrev sNTop : Stmt := (inClass (PySem.Challenge.pw_whatspeed_k05_lines.main.body.getD 7 (.Pass ⟨0, 0, 0, 0⟩)) 1)
abbrev NNTop : List Str := ["self"]
abbrev PNTop : List Str := ["self"]
theorem scNTop : FnScope NNTop PNTop (defScope sNTop) := ⟨rfl, rfl, rfl, by decide +kernel, rfl, by decide +kernel, by decide +kernel⟩
abbrev sNBot : Stmt := (inClass (PySem.Challenge.pw_whatspeed_k05_lines.main.body.getD 7 (.Pass ⟨0, 0, 0, 0⟩)) 2)
abbrev NNBot : List Str := ["self"]
abbrev PNBot : List Str := ["self"]
theorem scNBot : FnScope NNBot PNBot (defScope sNBot) := ⟨rfl, rfl, rfl, by decide +kernel, rfl, by decide +kernel, by decide +kernel⟩
abbrev sNEq : Stmt := (inClass (PySem.Challenge.pw_whatspeed_k05_lines.main.body.getD 7 (.Pass ⟨0, 0, 0, 0⟩)) 3)
abbrev NNEq : List Str := ["self", "other"]
abbrev PNEq : List Str := ["self", "other"]
theorem scNEq : FnScope NNEq PNEq (defScope sNEq) := ⟨rfl, rfl, rfl, by decide +kernel, rfl, by decide +kernel, by decide +kernel⟩
abbrev sNBool : Stmt := (inClass (PySem.Challenge.pw_whatspeed_k05_lines.main.body.getD 7 (.Pass ⟨0, 0, 0, 0⟩)) 4)
abbrev NNBool : List Str := ["self"]
abbrev PNBool : List Str := ["self"]
theorem scNBool : FnScope NNBool PNBool (defScope sNBool) := ⟨rfl, rfl, rfl, by decide +kernel, rfl, by decide +kernel, by decide +kernel⟩
abbrev sNAdd : Stmt := (inClass (PySem.Challenge.pw_whatspeed_k05_lines.main.body.getD 7 (.Pass ⟨0, 0, 0, 0⟩)) 5)
abbrev NNAdd : List Str := ["self", "other"]
abbrev PNAdd : List Str := ["self", "other"]
theorem scNAdd : FnScope NNAdd PNAdd (defScope sNAdd) := ⟨rfl, rfl, rfl, by decide +kernel, rfl, by decide +kernel, by decide +kernel⟩
abbrev sNSub : Stmt := (inClass (PySem.Challenge.pw_whatspeed_k05_lines.main.body.getD 7 (.Pass ⟨0, 0, 0, 0⟩)) 6)
abbrev NNSub : List Str := ["self", "other"]
abbrev PNSub : List Str := ["self", "other"]
theorem scNSub : FnScope NNSub PNSub (defScope sNSub) := ⟨rfl, rfl, rfl, by decide +kernel, rfl, by decide +kernel, by decide +kernel⟩
abbrev sNMul : Stmt := (inClass (PySem.Challenge.pw_whatspeed_k05_lines.main.body.getD 7 (.Pass ⟨0, 0, 0, 0⟩)) 7)
abbrev NNMul : List Str := ["self", "other"]
abbrev PNMul : List Str := ["self", "other"]
theorem scNMul : FnScope NNMul PNMul (defScope sNMul) := ⟨rfl, rfl, rfl, by decide +kernel, rfl, by decide +kernel, by decide +kernel⟩
/-! ### a Number, a Line in the heap -/
def nF (t b : Int) : List (Str × V) := [("_top", .int t), ("_bottom", .int b)]
def NumAt (C : Addr) (H : Hp) (a : Addr) (t b : Int) : Prop := ∃ dx, H a = some (.ins C dx (nF t b))
theorem nF_top (t b : Int) : (nF t b).lookup ("_top" : Str) = some (.int t) := lk_here
theorem nF_bot (t b : Int) : (nF t b).lookup ("_bottom" : Str) = some (.int b) := (lk_past (by decide +kernel)).trans lk_here
theorem NumAt.same {C : Addr} {H H' : Hp} {a : Addr} {t b : Int} (h : NumAt C H a t b) (s : Same H H') : NumAt C H' a t b := let ⟨dx, e⟩ := h; ⟨dx, s _ _ e⟩
theorem NumAt.ch {C : Addr} {H H' : Hp} {p a : Addr} {t b : Int} (h : NumAt C H a t b) (s : Ch p H H') (n : a ≠ p) : NumAt C H' a t b := let ⟨dx, e⟩ := h; ⟨dx, s _ _ n e⟩
/-- what the class Number must be -/
structure NumC (K : PySem.W.Frag) (C : Addr) : Prop where
  cl : Cls K C
  nT : NoAttr K C "_top"
  nB : NoAttr K C "_bottom"
  ha : PySem.W.findIn K (.ref C) "__class__" = some (some (.builtin "object.__class__"))
  hn : PySem.W.specialIn K (.builtin "object.__class__") "__get__" = some (some (.builtin "getset_descriptor.__get__"))
  htk : PySem.W.takesIn K (.builtin "object.__class__") = some true
  hm : PySem.W.mroIn K C (.type "object") = some true
  kk : PySem.W.kitOne K (.ref C) (.ref C) = some true
  sf : PySem.W.selfFirst K C = true
  nf : PySem.W.notFirst K C (.ref C) = true
theorem NumC.ty {K : PySem.W.Frag} {C : Addr} (c : NumC K C) {H : Hp} {a dx : Addr} {fs : List (Str × V)} (e : H a = some (.ins C dx fs)) : TyX K H (.ref a) (.ref C) := .base (.ins e c.cl c.ha c.hn c.htk c.hm)
/-! ### promises -/
def spWhole : Sp := fun vs H Q _ => ∃ i : Int, vs = [.int i] ∧ Q (.bl true) H
def spNum (C : Addr) : Sp := fun vs H Q _ => ∃ (x dx : Addr) (t b : Int), vs = [.ref x, .int t, .int b] ∧ b ≠ 0 ∧ Sz 8000 b ∧ H x = some (.ins C dx []) ∧
  ∀ H', NumAt C H' x (nT t b) (nB t b) → (∀ a o, H a = some o → a ≠ x → H' a = some o) → Q .non H'
def spTop (C : Addr) : Sp := fun vs H Q _ => ∃ (a : Addr) (t b : Int), vs = [.ref a] ∧ NumAt C H a t b ∧ Q (.int t) H
def spBot (C : Addr) : Sp := fun vs H Q _ => ∃ (a : Addr) (t b : Int), vs = [.ref a] ∧ NumAt C H a t b ∧ Q (.int b) H
def spNEq (C : Addr) : Sp := fun vs H Q _ => ∃ (a c : Addr) (t b p q : Int), vs = [.ref a, .ref c] ∧ NumAt C H a t b ∧ NumAt C H c p q ∧ Q (.bl (decide (t = p ∧ b = q))) H
def spNBool (C : Addr) : Sp := fun vs H Q _ => ∃ (a : Addr) (t b : Int), vs = [.ref a] ∧ NumAt C H a t b ∧ Q (.bl (t != 0)) H
/-- a new Number at a place that was free -/
def spOp2 (C : Addr) (f g : Int → Int → Int → Int → Int) : Sp := fun vs H Q _ => ∃ (a c : Addr) (t b p q : Int), vs = [.ref a, .ref c] ∧ NumAt C H a t b ∧ NumAt C H c p q ∧ Sz 2000 t ∧ Sz 2000 b ∧ Sz 2000 p ∧ Sz 2000 q ∧ g t b p q ≠ 0 ∧
  ∀ x H', H x = none → NumAt C H' x (nT (f t b p q) (g t b p q)) (nB (f t b p q) (g t b p q)) → Same H H' → Q (.ref x) H'
abbrev spAdd (C : Addr) : Sp := spOp2 C (fun t b p q => t * q + p * b) (fun _ b _ q => b * q)
abbrev spSub (C : Addr) : Sp := spOp2 C (fun t b p q => t * q - p * b) (fun _ b _ q => b * q)
abbrev spMul (C : Addr) : Sp := spOp2 C (fun t b p q => t * p) (fun _ b _ q => b * q)
section
variable {P : Program} {w : World} {K : PySem.W.Frag} {mg : Str → Option Value} {base : Heap} {C f : Addr} {fd : FuncData}
theorem ok_whole (F : L2.Fun K "is_whole" "is_whole" sWhole f fd) (b : Binds K fd PWhole []) (B : Bi mg) : FnR P w K mg base CX0 1 f spWhole := by
  refine fnR_of F b scWhole (fun vs H Q E h => ?_) (fun cdv A outer s H vs Q E hr h => ?_)
  · obtain ⟨i, rfl, _⟩ := h
    rfl
  · have sc := scWhole
    obtain ⟨i, rfl, k⟩ := h
    refine ⟨_, (pss_one (ps_ret (pe_and (pe_callB call_isi (by rfl) B.isinstance (by decide +kernel) (pa_cons (pv 0) (pa_cons (pe_bltn (v := .ty "int") (by rfl) B.int (by decide +kernel) rfl) pa_nil))) (pe_one (pe_not (pe_callB call_isi (by rfl) B.isinstance (by decide +kernel) (pa_cons (pv 0) (pa_cons (pe_bltn (v := .ty "bool") (by rfl) B.bool (by decide +kernel) rfl) pa_nil)))))))), ?_⟩
    refine ⟨_, rfl, _, _, _, _, true, rfl, .ty _, .base (.int i), kit_ty (by decide +kernel), true, rfl, iteT ?_⟩
    exact ⟨_, rfl, _, _, _, _, false, rfl, .ty _, .base (.int i), kit_ty (by decide +kernel), false, rfl, k⟩
theorem ok_num {dvs' : List V} {ds : List Value} {dvs : List V} {sp' : Sp} (F : FunD K "__init__" "Number.__init__" (defArgs sNum) (defBody sNum) (defScope sNum) dvs [] f fd) (b : Binds K fd PNum ds) (d : Vals dvs' ds) (imp : ∀ vs H Q E, sp' vs H Q E → spNum C (vs ++ dvs') H Q E)
    (B : Bi mg) (NC : NumC K C) (hgcd : mg "gcd" = some (.builtin "math.gcd")) (cW : CalF P w K mg base 1 "is_whole" spWhole) : FnR P w K mg base CX0 2 f sp' := by
  refine fnD_of F b d scNum (sp := spNum C) (fun vs H Q E h => ?_) imp (fun cdv A outer s H vs Q E hr h => ?_)
  · obtain ⟨x, dx, t, b, rfl, _⟩ := h
    rfl
  · have sc := scNum
    obtain ⟨x, dx, t, b, rfl, hb, hz, hx, k⟩ := h
    refine ⟨_, (pss_cons (ps_if (PW.pt (pw_or (pt_not (pt_val (pe_f cW hr (by decide) rfl (pa_cons (pv 1) pa_nil)))) (pw_or (pt_not (pt_val (pe_f cW hr (by decide) rfl (pa_cons (pv 2) pa_nil)))) (pw_or1 (pt_cmpR op_eq (pv 2) pe_int (nomark _)))))) (pss_one ps_never) pss_nil) (pss_cons (ps_set (i := 3) sc.nd rfl (Or.inl rfl) (pe_callBfun cr_gcd (by rfl) hgcd (pa_cons (pv 1) (pa_cons (pv 2) pa_nil)))) (pss_cons (ps_if (pt_cmpR op_lt (pv 2) pe_int (nomark _)) (pss_one (ps_set (i := 3) sc.nd rfl (Or.inl rfl) (pe_un un_neg (pv 3)))) pss_nil) (pss_cons (ps_fld (pv 0) (pe_op op_fdivZ (pv 1) (pv 3)) rfl) (pss_one (ps_fld (pv 0) (pe_op op_fdivZ (pv 2) (pv 3)) rfl)))))), ?_⟩
    refine ⟨_, rfl, t, rfl, true, rfl, iteF ?_⟩
    refine ⟨_, rfl, b, rfl, true, rfl, iteF ?_⟩
    refine ⟨_, rfl, rfl, _, rfl, ?_⟩
    refine ifF (by simpa using hb) ?_
    refine ⟨_, rfl, _, rfl, _, _, rfl, ?_⟩
    refine ⟨_, rfl, _, _, rfl, rfl, _, rfl, ?_⟩
    have hs : Sz 8000 (gS t b) := by
      have := Sz.gI (t := t) hb hz
      unfold gS
      split
      · exact this.neg
      · exact this
    have fin : ∀ {Qn : Ends} {y : Int}, y = gS t b → tSeq (sFld K (tVar 0) (tOp (rI (fun _ j => j ≠ 0 ∧ j.natAbs.log2 < 9000) fun i j => .int (i.fdiv j)) (tVar 1) (tVar 3)) "_top") (sFld K (tVar 0) (tOp (rI (fun _ j => j ≠ 0 ∧ j.natAbs.log2 < 9000) fun i j => .int (i.fdiv j)) (tVar 2) (tVar 3)) "_bottom")
        { nx := fun _ H' => Q .non H', rt := Q } [some (.ref x), some (.int t), some (.int b), some (.int y)] H := by
      rintro Qn y rfl
      have h9 : (gS t b).natAbs.log2 < 9000 := Nat.lt_of_lt_of_le (PySem.Flt.log2_lt_of (by decide) hs) (by decide)
      refine ⟨_, rfl, _, rfl, _, _, rfl, rfl, ⟨gS_ne hb, h9⟩, _, rfl, x, C, dx, [], rfl, hx, NC.cl, NC.nT, (by show 0 < 1000; decide), ?_⟩
      refine ⟨_, rfl, _, rfl, _, _, rfl, rfl, ⟨gS_ne hb, h9⟩, _, rfl, x, C, dx, _, rfl, upd_same, NC.cl, NC.nB, (by show 1 < 1000; decide), ?_⟩
      refine k _ ⟨dx, upd_same.trans (congrArg some (congrArg (HO.ins C dx) ?_))⟩ fun a o e n => ?_
      · exact (put_past (by decide +kernel)).trans rfl
      · rw [upd_ne n, upd_ne n]
        exact e
    by_cases hn : b < 0
    · refine ifT (by simpa using hn) ?_
      refine ⟨_, rfl, _, rfl, ?_⟩
      refine fin (Qn := { nx := fun _ H' => Q .non H', rt := Q }) ?_
      unfold gS gI
      rw [if_pos hn]
    · refine ifF (by simpa using hn) ?_
      refine fin (Qn := { nx := fun _ H' => Q .non H', rt := Q }) ?_
      unfold gS gI
      rw [if_neg hn]
theorem ok_top (F : L2.Fun K "top" "Number.top" sNTop f fd) (b : Binds K fd PNTop []) (NC : NumC K C) : FnR P w K mg base CX0 1 f (spTop C) := by
  refine fnR_of F b scNTop (fun vs H Q E h => ?_) (fun cdv A outer s H vs Q E hr h => ?_)
  · obtain ⟨a, t, b, rfl, _⟩ := h
    rfl
  · have sc := scNTop
    obtain ⟨a, t, b, rfl, ⟨dx, e⟩, k⟩ := h
    refine ⟨_, (pss_one (ps_ret (pe_fld (pv 0) rfl))), ?_⟩
    exact ⟨_, rfl, a, C, dx, _, _, rfl, e, NC.cl, NC.nT, nF_top _ _, k⟩
theorem ok_bot (F : L2.Fun K "bottom" "Number.bottom" sNBot f fd) (b : Binds K fd PNBot []) (NC : NumC K C) : FnR P w K mg base CX0 1 f (spBot C) := by
  refine fnR_of F b scNBot (fun vs H Q E h => ?_) (fun cdv A outer s H vs Q E hr h => ?_)
  · obtain ⟨a, t, b, rfl, _⟩ := h
    rfl
  · have sc := scNBot
    obtain ⟨a, t, b, rfl, ⟨dx, e⟩, k⟩ := h
    refine ⟨_, (pss_one (ps_ret (pe_fld (pv 0) rfl))), ?_⟩
    exact ⟨_, rfl, a, C, dx, _, _, rfl, e, NC.cl, NC.nB, nF_bot _ _, k⟩
theorem ok_neq (F : L2.Fun K "__eq__" "Number.__eq__" sNEq f fd) (b : Binds K fd PNEq []) (B : Bi mg) (NC : NumC K C) (gN : mg "Number" = some (.ref C)) : FnR P w K mg base CX0 1 f (spNEq C) := by
  refine fnR_of F b scNEq (fun vs H Q E h => ?_) (fun cdv A outer s H vs Q E hr h => ?_)
  · obtain ⟨a, c, t, b, p, q, rfl, _⟩ := h
    rfl
  · have sc := scNEq
    obtain ⟨a, c, t, b, p, q, rfl, ⟨dx, ea⟩, ⟨dy, ec⟩, k⟩ := h
    refine ⟨_, (pss_one (ps_ret (pe_and (pe_callB call_isi (by rfl) B.isinstance (by decide +kernel) (pa_cons (pv 1) (pa_cons (pe_glob (v := .ref C) rfl gN rfl) pa_nil))) (pe_and (pe_cmpR op_eq (pe_fld (pv 0) rfl) (pe_fld (pv 1) rfl) (nomark _)) (pe_one (pe_cmpR op_eq (pe_fld (pv 0) rfl) (pe_fld (pv 1) rfl) (nomark _))))))), ?_⟩
    refine ⟨_, rfl, _, _, _, _, true, rfl, .own C, NC.ty ec, NC.kk, true, rfl, iteT ?_⟩
    refine ⟨_, rfl, a, C, dx, _, _, rfl, ea, NC.cl, NC.nT, nF_top _ _, _, rfl, c, C, dy, _, _, rfl, ec, NC.cl, NC.nT, nF_top _ _, rfl, _, rfl, ?_⟩
    by_cases h1 : t = p
    · subst h1
      refine ifT (by simp) ?_
      refine ⟨_, rfl, a, C, dx, _, _, rfl, ea, NC.cl, NC.nB, nF_bot _ _, _, rfl, c, C, dy, _, _, rfl, ec, NC.cl, NC.nB, nF_bot _ _, rfl, ?_⟩
      simpa using k
    · refine ifF (by simpa using h1) ?_
      simpa [h1] using k
theorem ok_nbool (F : L2.Fun K "__bool__" "Number.__bool__" sNBool f fd) (b : Binds K fd PNBool []) (B : Bi mg) (NC : NumC K C) : FnR P w K mg base CX0 1 f (spNBool C) := by
  refine fnR_of F b scNBool (fun vs H Q E h => ?_) (fun cdv A outer s H vs Q E hr h => ?_)
  · obtain ⟨a, t, b, rfl, _⟩ := h
    rfl
  · have sc := scNBool
    obtain ⟨a, t, b, rfl, ⟨dx, ea⟩, k⟩ := h
    refine ⟨_, (pss_one (ps_ret (pe_callTy call_bool1 (by rfl) B.bool (by decide +kernel) (pa_cons (pe_fld (pv 0) rfl) pa_nil)))), ?_⟩
    exact ⟨_, rfl, a, C, dx, _, _, rfl, ea, NC.cl, NC.nT, nF_top _ _, .inl ⟨t, rfl, k⟩⟩
theorem ok_nadd (F : L2.Fun K "__add__" "Number.__add__" sNAdd f fd) (b : Binds K fd PNAdd []) (NC : NumC K C) (mN : MakF P w K mg base 2 "Number" C (spNum C)) : FnR P w K mg base CX0 4 f (spAdd C) := by
  refine fnR_of F b scNAdd (fun vs H Q E h => ?_) (fun cdv A outer s H vs Q E hr h => ?_)
  · obtain ⟨a, c, t, b, p, q, rfl, _⟩ := h
    rfl
  · have sc := scNAdd
    obtain ⟨a, c, t, b, p, q, rfl, ⟨dx, ea⟩, ⟨dy, ec⟩, z1, z2, z3, z4, h0, k⟩ := h
    refine ⟨_, (pss_one (ps_ret (pe_mk mN hr (by decide) rfl (pa_cons (pe_op op_add (pe_op op_mulW (pe_fld (pv 0) rfl) (pe_fld (pv 1) rfl)) (pe_op op_mulW (pe_fld (pv 1) rfl) (pe_fld (pv 0) rfl))) (pa_cons (pe_op op_mulW (pe_fld (pv 0) rfl) (pe_fld (pv 1) rfl)) pa_nil))))), ?_⟩
    refine ⟨_, rfl, a, C, dx, _, _, rfl, ea, NC.cl, NC.nT, nF_top _ _, _, rfl, c, C, dy, _, _, rfl, ec, NC.cl, NC.nB, nF_bot _ _, _, _, rfl, rfl, wide_mul z1 z4 (by decide) (by decide) (by decide), ?_⟩
    refine ⟨_, rfl, c, C, dy, _, _, rfl, ec, NC.cl, NC.nT, nF_top _ _, _, rfl, a, C, dx, _, _, rfl, ea, NC.cl, NC.nB, nF_bot _ _, _, _, rfl, rfl, wide_mul z3 z2 (by decide) (by decide) (by decide), _, _, rfl, rfl, ?_⟩
    refine ⟨_, rfl, a, C, dx, _, _, rfl, ea, NC.cl, NC.nB, nF_bot _ _, _, rfl, c, C, dy, _, _, rfl, ec, NC.cl, NC.nB, nF_bot _ _, _, _, rfl, rfl, wide_mul z2 z4 (by decide) (by decide) (by decide), ?_⟩
    intro x d nx nd ne
    refine ⟨x, d, _, _, rfl, h0, (z2.mul z4).mono (by decide), upd_same, fun H1 h1 k1 => ⟨rfl, ?_⟩⟩
    exact k x H1 nx h1 (Same.mk nx nd k1)
theorem ok_nsub (F : L2.Fun K "__sub__" "Number.__sub__" sNSub f fd) (b : Binds K fd PNSub []) (NC : NumC K C) (mN : MakF P w K mg base 2 "Number" C (spNum C)) : FnR P w K mg base CX0 4 f (spSub C) := by
  refine fnR_of F b scNSub (fun vs H Q E h => ?_) (fun cdv A outer s H vs Q E hr h => ?_)
  · obtain ⟨a, c, t, b, p, q, rfl, _⟩ := h
    rfl
  · have sc := scNSub
    obtain ⟨a, c, t, b, p, q, rfl, ⟨dx, ea⟩, ⟨dy, ec⟩, z1, z2, z3, z4, h0, k⟩ := h
    refine ⟨_, (pss_one (ps_ret (pe_mk mN hr (by decide) rfl (pa_cons (pe_op op_sub (pe_op op_mulW (pe_fld (pv 0) rfl) (pe_fld (pv 1) rfl)) (pe_op op_mulW (pe_fld (pv 1) rfl) (pe_fld (pv 0) rfl))) (pa_cons (pe_op op_mulW (pe_fld (pv 0) rfl) (pe_fld (pv 1) rfl)) pa_nil))))), ?_⟩
    refine ⟨_, rfl, a, C, dx, _, _, rfl, ea, NC.cl, NC.nT, nF_top _ _, _, rfl, c, C, dy, _, _, rfl, ec, NC.cl, NC.nB, nF_bot _ _, _, _, rfl, rfl, wide_mul z1 z4 (by decide) (by decide) (by decide), ?_⟩
    refine ⟨_, rfl, c, C, dy, _, _, rfl, ec, NC.cl, NC.nT, nF_top _ _, _, rfl, a, C, dx, _, _, rfl, ea, NC.cl, NC.nB, nF_bot _ _, _, _, rfl, rfl, wide_mul z3 z2 (by decide) (by decide) (by decide), _, _, rfl, rfl, ?_⟩
    refine ⟨_, rfl, a, C, dx, _, _, rfl, ea, NC.cl, NC.nB, nF_bot _ _, _, rfl, c, C, dy, _, _, rfl, ec, NC.cl, NC.nB, nF_bot _ _, _, _, rfl, rfl, wide_mul z2 z4 (by decide) (by decide) (by decide), ?_⟩
    intro x d nx nd ne
    refine ⟨x, d, _, _, rfl, h0, (z2.mul z4).mono (by decide), upd_same, fun H1 h1 k1 => ⟨rfl, ?_⟩⟩
    exact k x H1 nx h1 (Same.mk nx nd k1)
theorem ok_nmul (F : L2.Fun K "__mul__" "Number.__mul__" sNMul f fd) (b : Binds K fd PNMul []) (NC : NumC K C) (mN : MakF P w K mg base 2 "Number" C (spNum C)) : FnR P w K mg base CX0 4 f (spMul C) := by
  refine fnR_of F b scNMul (fun vs H Q E h => ?_) (fun cdv A outer s H vs Q E hr h => ?_)
  · obtain ⟨a, c, t, b, p, q, rfl, _⟩ := h
    rfl
  · have sc := scNMul
    obtain ⟨a, c, t, b, p, q, rfl, ⟨dx, ea⟩, ⟨dy, ec⟩, z1, z2, z3, z4, h0, k⟩ := h
    refine ⟨_, (pss_one (ps_ret (pe_mk mN hr (by decide) rfl (pa_cons (pe_op op_mulW (pe_fld (pv 0) rfl) (pe_fld (pv 1) rfl)) (pa_cons (pe_op op_mulW (pe_fld (pv 0) rfl) (pe_fld (pv 1) rfl)) pa_nil))))), ?_⟩
    refine ⟨_, rfl, a, C, dx, _, _, rfl, ea, NC.cl, NC.nT, nF_top _ _, _, rfl, c, C, dy, _, _, rfl, ec, NC.cl, NC.nT, nF_top _ _, _, _, rfl, rfl, wide_mul z1 z3 (by decide) (by decide) (by decide), ?_⟩
    refine ⟨_, rfl, a, C, dx, _, _, rfl, ea, NC.cl, NC.nB, nF_bot _ _, _, rfl, c, C, dy, _, _, rfl, ec, NC.cl, NC.nB, nF_bot _ _, _, _, rfl, rfl, wide_mul z2 z4 (by decide) (by decide) (by decide), ?_⟩
    intro x d nx nd ne
    refine ⟨x, d, _, _, rfl, h0, (z2.mul z4).mono (by decide), upd_same, fun H1 h1 k1 => ⟨rfl, ?_⟩⟩
    exact k x H1 nx h1 (Same.mk nx nd k1)
end
end Ws

namespace Ws
open PySem PySem.Spec PyProof.Rows L2
abbrev sPot : Stmt := (PySem.Challenge.pw_whatspeed_k05_lines.main.body.getD 10 (.Pass ⟨0, 0, 0, 0⟩))
abbrev NPot : List Str := ["script", "k", "cell", "own"]
abbrev PPot : List Str := ["script", "k"]
theorem scPot : FnScope NPot PPot (defScope sPot) := ⟨rfl, rfl, rfl, by decide +kernel, rfl, by decide +kernel, by decide +kernel⟩
abbrev sTake : Stmt := (PySem.Challenge.pw_whatspeed_k05_lines.main.body.getD 11 (.Pass ⟨0, 0, 0, 0⟩))
abbrev NTake : List Str := ["pot", "upto", "digit", "prime", "mixed"]
abbrev PTake : List Str := ["pot", "upto"]
theorem scTake : FnScope NTake PTake (defScope sTake) := ⟨rfl, rfl, rfl, by decide +kernel, rfl, by decide +kernel, by decide +kernel⟩
abbrev sOf : Stmt := (PySem.Challenge.pw_whatspeed_k05_lines.main.body.getD 12 (.Pass ⟨0, 0, 0, 0⟩))
abbrev NOf : List Str := ["pot", "some"]
abbrev POf : List Str := ["pot", "some"]
theorem scOf : FnScope NOf POf (defScope sOf) := ⟨rfl, rfl, rfl, by decide +kernel, rfl, by decide +kernel, by decide +kernel⟩
abbrev sLeast : Stmt := (PySem.Challenge.pw_whatspeed_k05_lines.main.body.getD 13 (.Pass ⟨0, 0, 0, 0⟩))
abbrev NLeast : List Str := ["above", "below", "one", "rest", "sign"]
abbrev PLeast : List Str := ["above", "below"]
theorem scLeast : FnScope NLeast PLeast (defScope sLeast) := ⟨rfl, rfl, rfl, by decide +kernel, rfl, by decide +kernel, by decide +kernel⟩
/-! ### the pot of drawn numbers -/
def PotAt (H : Hp) (p : Addr) (m : Int) : Prop := ∃ own seed n : Int, H p = some (.lst [.int own, .int seed, .int n]) ∧ 0 ≤ own ∧ 0 ≤ seed ∧ seed < 2305843009213693921 ∧ 0 ≤ n ∧ n ≤ m
theorem PotAt.mono {H : Hp} {p : Addr} {m m' : Int} (h : PotAt H p m) (l : m ≤ m') : PotAt H p m' := let ⟨a, b, c, e, h1, h2, h3, h4, h5⟩ := h; ⟨a, b, c, e, h1, h2, h3, h4, Int.le_trans h5 l⟩
theorem PotAt.same {H H' : Hp} {p : Addr} {m : Int} (h : PotAt H p m) (s : Same H H') : PotAt H' p m := let ⟨a, b, c, e, r⟩ := h; ⟨a, b, c, s _ _ e, r⟩
def spPot (K : PySem.W.Frag) : Sp := fun vs H Q _ => ∃ (s : Addr) (ns : List Int) (k : Nat), vs = [.ref s, .int k] ∧ SqL K H s (ns.map V.int) ∧ k < 100 ∧ ∀ p H', H p = none → PotAt H' p 0 → Same H H' → Q (.ref p) H'
def spTake : Sp := fun vs H Q _ => ∃ (p : Addr) (u m : Int), vs = [.ref p, .int u] ∧ PotAt H p m ∧ m ≤ 1000000 ∧ 1 ≤ u ∧ u < 1073741824 ∧ ∀ d H', 0 ≤ d → d < u → PotAt H' p (m + 1) → Ch p H H' → Q (.int d) H'
def spOf : Sp := fun vs H Q _ => ∃ (p l : Addr) (xs : List V) (m : Int), vs = [.ref p, .ref l] ∧ PotAt H p m ∧ m ≤ 1000000 ∧ H l = some (.lst xs) ∧ l ≠ p ∧ 1 ≤ xs.length ∧ xs.length ≤ 1000 ∧ ∀ v H', v ∈ xs → PotAt H' p (m + 1) → Ch p H H' → Q v H'
def spLeast : Sp := fun vs H Q _ => ∃ t b : Int, vs = [.int t, .int b] ∧ b ≠ 0 ∧ Sz 8000 b ∧ Sz 8000 t ∧ ∀ p H', H p = none → H' p = some (.tup [.int (nT t b), .int (nB t b)]) → Same H H' → Q (.ref p) H'
section
variable {P : Program} {w : World} {K : PySem.W.Frag} {mg : Str → Option Value} {base : Heap} {f : Addr} {fd : FuncData}
theorem at_map {ns : List Int} {k : Nat} (h : k < ns.length) : atI (ns.map V.int) (k : Int) = some (.int ns[k]) := atI_nat (by rw [List.getElem?_map, List.getElem?_eq_getElem h]; rfl)
theorem emod_lt {a b : Int} (h : 0 < b) : a % b < b := Int.emod_lt_of_pos a h
theorem emod_nn {a b : Int} (h : 0 < b) : 0 ≤ a % b := Int.emod_nonneg a (by omega)
theorem ok_pot (F : L2.Fun K "_law_pot" "_law_pot" sPot f fd) (b : Binds K fd PPot []) (B : Bi mg) : FnR P w K mg base CX0 1 f (spPot K) := by
  refine fnR_of F b scPot (fun vs H Q E h => ?_) (fun cdv A outer s H vs Q E hr h => ?_)
  · obtain ⟨s, ns, k, rfl, _⟩ := h
    rfl
  · have sc := scPot
    obtain ⟨s, ns, k, rfl, hS, hk, q⟩ := h
    refine ⟨_, (pss_cons (ps_set (i := 2) sc.nd rfl (Or.inl rfl) (pe_ifExp (pt_cmpR op_lt (pv 1) (pe_callB call_len_seq (by rfl) B.len PySem.boot_len (pa_cons (pv 0) pa_nil)) (nomark _)) (pe_callTy call_int1 (by rfl) B.int (by decide +kernel) (pa_cons (pe_ix ix_list (pv 0) (pv 1) (fun _ _ => rfl)) pa_nil)) (pe_op op_add (pe_op op_mul pe_int (pv 1)) pe_int))) (pss_cons (ps_set (i := 3) sc.nd rfl (Or.inl rfl) (pe_op op_mul (pe_op op_mod (pe_callTy call_int1 (by rfl) B.int (by decide +kernel) (pa_cons (pe_callB call_abs (by rfl) B.abs (by decide +kernel) (pa_cons (pv 2) pa_nil)) pa_nil)) (pe_op op_powW (pe_op op_pow pe_int pe_int) pe_int)) (pe_callTy call_int1 (by rfl) B.int (by decide +kernel) (pa_cons (pe_cmpR op_ge (pe_callB call_abs (by rfl) B.abs (by decide +kernel) (pa_cons (pv 2) pa_nil)) (pe_op op_pow pe_int pe_int) (nomark _)) pa_nil)))) (pss_one (ps_ret (pe_lst (pa_cons (pv 3) (pa_cons (pe_op op_mod (pe_callTy call_int1 (by rfl) B.int (by decide +kernel) (pa_cons (pe_op op_add (pe_op op_add (pe_op op_mul (pe_op op_mod (pe_callTy call_int1 (by rfl) B.int (by decide +kernel) (pa_cons (pv 2) pa_nil)) pe_int) pe_int) (pe_op op_mul (pe_op op_mul pe_int (pv 1)) (pv 1))) pe_int) pa_nil)) pe_int) (pa_cons pe_int pa_nil)))))))), ?_⟩
    refine ⟨_, rfl, _, rfl, s, _, rfl, .inl hS, _, _, rfl, rfl, _, rfl, ?_⟩
    have hA : ∀ z : Int, (if z < 0 then -z else z) = (if z < 0 then -z else z) := fun _ => rfl
    refine if2 (fun hc => ?_) (fun hc => ?_)
    · have hlt : k < ns.length := by
        have := of_decide_eq_true hc
        rw [List.length_map] at this
        omega
      refine ⟨_, rfl, _, rfl, s, _, _, _, rfl, rfl, hS, at_map hlt, .inl ⟨_, rfl, ?_⟩⟩
      generalize ns[k] = z
      refine ⟨_, rfl, _, rfl, .inl ⟨_, rfl, _, _, rfl, rfl, ⟨by decide, by decide, by decide⟩, _, _, rfl, rfl, ⟨by decide, by decide +kernel⟩, _, _, rfl, rfl, by show (0 : Int) < _; decide +kernel, ?_⟩⟩
      refine ⟨_, rfl, _, rfl, _, _, rfl, rfl, ⟨by decide, by decide, by decide⟩, _, _, rfl, rfl, .inr ⟨_, rfl, _, _, rfl, rfl, .inr (bit_lo _), ?_⟩⟩
      refine ⟨_, rfl, _, rfl, .inl ⟨_, rfl, _, _, rfl, rfl, by show (0 : Int) < _; decide +kernel, _, _, rfl, rfl, .inr ⟨by decide, by decide⟩, _, rfl, _, _, rfl, rfl, .inl ⟨by decide, by decide⟩, _, rfl, _, _, rfl, rfl, .inr ⟨by omega, by omega⟩, _, _, rfl, rfl, _, _, rfl, rfl, .inl ⟨_, rfl, _, _, rfl, rfl, by show (0 : Int) < _; decide +kernel, ?_⟩⟩⟩
      refine ⟨by show 3 ≤ sizeLine; decide, fun p hp => q p _ hp ⟨_, _, _, upd_same, ?_, emod_nn (by decide), emod_lt (by decide), by decide, by decide⟩ (Same.new hp)⟩
      exact Int.mul_nonneg (emod_nn (by decide +kernel)) (bit_nn _)
    · refine ⟨_, rfl, _, _, rfl, rfl, .inl ⟨by decide, by decide⟩, _, _, rfl, rfl, ?_⟩
      generalize (41 * (k : Int) + 19) = z
      refine ⟨_, rfl, _, rfl, .inl ⟨_, rfl, _, _, rfl, rfl, ⟨by decide, by decide, by decide⟩, _, _, rfl, rfl, ⟨by decide, by decide +kernel⟩, _, _, rfl, rfl, by show (0 : Int) < _; decide +kernel, ?_⟩⟩
      refine ⟨_, rfl, _, rfl, _, _, rfl, rfl, ⟨by decide, by decide, by decide⟩, _, _, rfl, rfl, .inr ⟨_, rfl, _, _, rfl, rfl, .inr (bit_lo _), ?_⟩⟩
      refine ⟨_, rfl, _, rfl, .inl ⟨_, rfl, _, _, rfl, rfl, by show (0 : Int) < _; decide +kernel, _, _, rfl, rfl, .inr ⟨by decide, by decide⟩, _, rfl, _, _, rfl, rfl, .inl ⟨by decide, by decide⟩, _, rfl, _, _, rfl, rfl, .inr ⟨by omega, by omega⟩, _, _, rfl, rfl, _, _, rfl, rfl, .inl ⟨_, rfl, _, _, rfl, rfl, by show (0 : Int) < _; decide +kernel, ?_⟩⟩⟩
      refine ⟨by show 3 ≤ sizeLine; decide, fun p hp => q p _ hp ⟨_, _, _, upd_same, ?_, emod_nn (by decide), emod_lt (by decide), by decide, by decide⟩ (Same.new hp)⟩
      exact Int.mul_nonneg (emod_nn (by decide +kernel)) (bit_nn _)
theorem ok_take (F : L2.Fun K "_law_take" "_law_take" sTake f fd) (b : Binds K fd PTake []) (B : Bi mg) : FnR P w K mg base CX0 1 f spTake := by
  refine fnR_of F b scTake (fun vs H Q E h => ?_) (fun cdv A outer s H vs Q E hr h => ?_)
  · obtain ⟨p, u, m, rfl, _⟩ := h
    rfl
  · have sc := scTake
    obtain ⟨p, u, m, rfl, ⟨own, seed, n, hp, h1, h2, h3, h4, h5⟩, hm, hu, hu2, q⟩ := h
    refine ⟨_, (pss_cons (ps_if (pt_cmpR op_gt (pe_ix ix_list (pv 0) pe_int (fun _ _ => rfl)) pe_int (nomark _)) (pss_cons (ps_set (i := 2) sc.nd rfl (Or.inl rfl) (pe_op op_mod (pe_callTy call_int1 (by rfl) B.int (by decide +kernel) (pa_cons (pe_ix ix_list (pv 0) pe_int (fun _ _ => rfl)) pa_nil)) (pv 1))) (pss_cons (ps_asg (pe_op op_fdiv (pe_ix ix_list (pv 0) pe_int (fun _ _ => rfl)) (pv 1)) (pg_sub (pv 0) pe_int set_list)) (pss_one (ps_ret (pv 2))))) pss_nil) (pss_cons (ps_asg (pe_op op_add (pe_ix ix_list (pv 0) pe_int (fun _ _ => rfl)) pe_int) (pg_sub (pv 0) pe_int set_list)) (pss_cons (ps_set (i := 3) sc.nd rfl (Or.inl rfl) (pe_ix ix_list (pe_lst (pa_cons pe_int (pa_cons pe_int (pa_cons pe_int (pa_cons pe_int (pa_cons pe_int pa_nil)))))) (pe_op op_mod (pe_callTy call_int1 (by rfl) B.int (by decide +kernel) (pa_cons (pe_ix ix_list (pv 0) pe_int (fun _ _ => rfl)) pa_nil)) pe_int) (fun _ _ => rfl))) (pss_cons (ps_set (i := 4) sc.nd rfl (Or.inl rfl) (pe_op op_mod (pe_callTy call_int1 (by rfl) B.int (by decide +kernel) (pa_cons (pe_op op_pow (pe_op op_add (pe_op op_add (pe_ix ix_list (pv 0) pe_int (fun _ _ => rfl)) (pe_op op_mul (pe_op op_mul pe_int (pe_ix ix_list (pv 0) pe_int (fun _ _ => rfl))) (pe_ix ix_list (pv 0) pe_int (fun _ _ => rfl)))) pe_int) pe_int) pa_nil)) (pv 3))) (pss_one (ps_ret (pe_op op_mod (pe_callTy call_int1 (by rfl) B.int (by decide +kernel) (pa_cons (pe_op op_fdiv (pe_op op_mul (pv 4) (pe_op op_add (pe_op op_mod (pe_callTy call_int1 (by rfl) B.int (by decide +kernel) (pa_cons (pv 4) pa_nil)) pe_int) (pe_op op_mul pe_int (pe_ix ix_list (pv 0) pe_int (fun _ _ => rfl))))) pe_int) pa_nil)) (pv 1)))))))), ?_⟩
    refine ⟨_, rfl, p, _, _, _, rfl, rfl, SqL.of hp, rfl, _, _, rfl, rfl, _, rfl, ?_⟩
    refine if2 (fun hc => ?_) (fun hc => ?_)
    · refine ⟨_, rfl, p, _, _, _, rfl, rfl, SqL.of hp, rfl, .inl ⟨_, rfl, _, rfl, _, _, rfl, rfl, by omega, ?_⟩⟩
      refine ⟨_, rfl, p, _, _, _, rfl, rfl, SqL.of hp, rfl, _, rfl, _, _, rfl, rfl, ⟨by omega, by omega⟩, ?_⟩
      refine ⟨_, rfl, p, _, _, _, rfl, rfl, hp, rfl, ?_⟩
      refine ⟨_, rfl, ?_⟩
      refine q _ _ (emod_nn (by omega)) (emod_lt (by omega)) ⟨_, _, _, upd_same, Int.ediv_nonneg h1 (by omega), h2, h3, h4, by omega⟩ Ch.upd
    · refine ⟨_, rfl, p, _, _, _, rfl, rfl, SqL.of hp, rfl, _, _, rfl, rfl, ?_⟩
      refine ⟨_, rfl, p, _, _, _, rfl, rfl, hp, rfl, ?_⟩
      refine ⟨by show 5 ≤ sizeLine; decide, fun l hl => ?_⟩
      have npl : p ≠ l := ne_of_none upd_same hl
      refine ⟨_, rfl, p, _, _, _, rfl, rfl, SqL.of ((upd_ne npl).trans upd_same), rfl, .inl ⟨_, rfl, _, _, rfl, rfl, by show (0 : Int) < _; decide +kernel, ?_⟩⟩
      have hi : ∃ (j : Nat) (pr : Int), (n + 1) % 5 = (j : Int) ∧ [V.int 2147483647, V.int 2147483629, V.int 2147483587, V.int 2147483579, V.int 2147483563][j]? = some (.int pr) ∧ 0 < pr ∧ pr ≤ 2147483647 := by
        have e1 : 0 ≤ (n + 1) % 5 := emod_nn (by decide)
        have e2 : (n + 1) % 5 < 5 := emod_lt (by decide)
        have : (n + 1) % 5 = 0 ∨ (n + 1) % 5 = 1 ∨ (n + 1) % 5 = 2 ∨ (n + 1) % 5 = 3 ∨ (n + 1) % 5 = 4 := by omega
        rcases this with e | e | e | e | e
        · exact ⟨0, _, e, rfl, by decide, by decide⟩
        · exact ⟨1, _, e, rfl, by decide, by decide⟩
        · exact ⟨2, _, e, rfl, by decide, by decide⟩
        · exact ⟨3, _, e, rfl, by decide, by decide⟩
        · exact ⟨4, _, e, rfl, by decide, by decide⟩
      obtain ⟨j, pr, ej, hj, hpr, hpr2⟩ := hi
      refine ⟨l, _, _, _, rfl, rfl, SqL.of upd_same, at_of ej hj, ?_⟩
      refine ⟨_, rfl, p, _, _, _, rfl, rfl, SqL.of ((upd_ne npl).trans upd_same), rfl, ?_⟩
      refine ⟨_, rfl, p, _, _, _, rfl, rfl, SqL.of ((upd_ne npl).trans upd_same), rfl, _, _, rfl, rfl, .inl ⟨by decide, by decide⟩, ?_⟩
      refine ⟨_, rfl, p, _, _, _, rfl, rfl, SqL.of ((upd_ne npl).trans upd_same), rfl, _, _, rfl, rfl, .inr ⟨by omega, by omega⟩, _, _, rfl, rfl, _, _, rfl, rfl, ?_⟩
      have hsq : 0 ≤ (n + 1) * (n + 1) ∧ (n + 1) * (n + 1) ≤ 1000001 * 1000001 := ⟨Int.mul_nonneg (by omega) (by omega), Int.mul_le_mul (by omega) (by omega) (by omega) (by decide)⟩
      have hb0 : 99961 * (n + 1) * (n + 1) = 99961 * ((n + 1) * (n + 1)) := Int.mul_assoc _ _ _
      refine ⟨_, _, rfl, rfl, ⟨by decide, by decide, ?_⟩, .inl ⟨_, rfl, _, rfl, _, _, rfl, rfl, hpr, ?_⟩⟩
      · rw [hb0]
        omega
      · generalize hmx : ((seed + 99961 * (n + 1) * (n + 1) + 47) ^ (3 : Int).toNat) % pr = mx
        have m1 : 0 ≤ mx := by rw [← hmx]; exact emod_nn hpr
        have m2 : mx < pr := by rw [← hmx]; exact emod_lt hpr
        refine ⟨_, rfl, _, rfl, .inl ⟨_, rfl, _, _, rfl, rfl, by show (0 : Int) < _; decide +kernel, ?_⟩⟩
        refine ⟨_, rfl, p, _, _, _, rfl, rfl, SqL.of ((upd_ne npl).trans upd_same), rfl, _, _, rfl, rfl, .inl ⟨by decide, by decide⟩, _, _, rfl, rfl, _, _, rfl, rfl, .inl ⟨by omega, by omega⟩, _, _, rfl, rfl, ⟨by decide, by decide⟩, .inl ⟨_, rfl, _, rfl, _, _, rfl, rfl, by omega, ?_⟩⟩
        exact q _ _ (emod_nn (by omega)) (emod_lt (by omega)) ⟨_, _, _, (upd_ne npl).trans upd_same, h1, h2, h3, by omega, by omega⟩ (Ch.upd.trans (Ch.new hl))
theorem ok_of (F : L2.Fun K "_law_of" "_law_of" sOf f fd) (b : Binds K fd POf []) (B : Bi mg) (cT : CalF P w K mg base 1 "_law_take" spTake) : FnR P w K mg base CX0 2 f spOf := by
  refine fnR_of F b scOf (fun vs H Q E h => ?_) (fun cdv A outer s H vs Q E hr h => ?_)
  · obtain ⟨p, l, xs, m, rfl, _⟩ := h
    rfl
  · have sc := scOf
    obtain ⟨p, l, xs, m, rfl, hp, hm, hl, n, h1, h2, q⟩ := h
    refine ⟨_, (pss_one (ps_ret (pe_ix ix_list (pv 1) (pe_f cT hr (by decide) rfl (pa_cons (pv 0) (pa_cons (pe_callB call_len_seq (by rfl) B.len PySem.boot_len (pa_cons (pv 1) pa_nil)) pa_nil))) (fun _ _ => rfl)))), ?_⟩
    refine ⟨_, rfl, _, rfl, _, rfl, l, xs, rfl, .inl (SqL.of hl), p, _, m, rfl, hp, hm, by omega, by omega, fun d H1 d0 d1 hp1 c1 => ?_⟩
    have hj : d.toNat < xs.length := by omega
    exact ⟨l, xs, _, _, rfl, rfl, SqL.of (c1 _ _ n hl), at_of (j := d.toNat) (by omega) (List.getElem?_eq_getElem hj), q _ _ (List.getElem_mem hj) hp1 c1⟩
theorem ok_least (F : L2.Fun K "_law_least" "_law_least" sLeast f fd) (b : Binds K fd PLeast []) (B : Bi mg) : FnR P w K mg base CX0 1 f spLeast := by
  refine fnR_of F b scLeast (fun vs H Q E h => ?_) (fun cdv A outer s H vs Q E hr h => ?_)
  · obtain ⟨t, b, rfl, _⟩ := h
    rfl
  · have sc := scLeast
    obtain ⟨t, b, rfl, hb, zb, zt, q⟩ := h
    refine ⟨_, (pss_cons (ps_par (i := 2) (j := 3) (by rfl) sc.nd rfl rfl (by decide) rfl rfl (pa_cons (pe_callB call_abs (by rfl) B.abs (by decide +kernel) (pa_cons (pv 0) pa_nil)) (pa_cons (pe_callB call_abs (by rfl) B.abs (by decide +kernel) (pa_cons (pv 1) pa_nil)) pa_nil)) (by rfl)) (pss_cons (ps_while PassesOwn.never (pt_cmpR op_ne (pv 3) pe_int (nomark _)) (pss_one (ps_par (i := 2) (j := 3) (by rfl) sc.nd rfl rfl (by decide) rfl rfl (pa_cons (pv 3) (pa_cons (pe_op op_mod (pe_callTy call_int1 (by rfl) B.int (by decide +kernel) (pa_cons (pv 2) pa_nil)) (pv 3)) pa_nil)) (by rfl)))) (pss_cons (ps_set (i := 4) sc.nd rfl (Or.inl rfl) (pe_ifExp (pt_cmpR op_lt (pv 1) pe_int (nomark _)) (pe_un un_neg pe_int) pe_int)) (pss_one (ps_ret (pe_tup (pa_cons (pe_op op_fdivW (pe_op op_mul (pv 4) (pv 0)) (pv 2)) (pa_cons (pe_op op_fdivW (pe_callB call_abs (by rfl) B.abs (by decide +kernel) (pa_cons (pv 1) pa_nil)) (pv 2)) pa_nil)))))))), ?_⟩
    refine ⟨_, rfl, _, rfl, _, rfl, _, rfl, _, _, rfl, ?_⟩
    refine while_by (fun σ H' => H' = H ∧ ∃ x y : Int, σ = [some (.int t), some (.int b), some (.int x), some (.int y), none] ∧ 0 ≤ x ∧ 0 ≤ y ∧ Nat.gcd x.natAbs y.natAbs = Nat.gcd t.natAbs b.natAbs) (fun σ _ => match σ with | [_, _, _, some (.int y), _] => y.toNat | _ => 0) ?_ ?_ ?_
    · refine ⟨rfl, _, _, rfl, by split <;> omega, by split <;> omega, ?_⟩
      have e : ∀ z : Int, (if z < 0 then -z else z).natAbs = z.natAbs := fun z => by split <;> omega
      rw [e, e]
    · rintro σ H' ⟨rfl, x, y, rfl, hx, hy, hg⟩
      refine ⟨_, rfl, rfl, _, rfl, ?_⟩
      by_cases h0 : y = 0
      · subst h0
        refine ifF rfl ?_
        have hxg : x = gI t b := by
          unfold gI
          rw [← hg]
          simp
          omega
        subst hxg
        have zg : Sz 8000 (gI t b) := Sz.gI hb zb
        have l9 : (gI t b).natAbs < 2 ^ 8000 := zg
        have nl := nf_least (t := t) hb
        refine ⟨_, rfl, _, _, rfl, rfl, _, rfl, ?_⟩
        refine if2 (fun hc => ?_) (fun hc => ?_)
        · have hn : b < 0 := of_decide_eq_true hc
          rw [if_pos hn, if_pos hn] at nl
          refine ⟨_, rfl, ?_⟩
          refine ⟨_, rfl, _, rfl, _, _, rfl, rfl, .inl ⟨by decide, by decide⟩, _, rfl, _, _, rfl, rfl, wide_div (gI_pos hb) l9 (by decide) (by decide), ?_⟩
          refine ⟨_, rfl, _, rfl, _, rfl, _, _, rfl, rfl, wide_div (gI_pos hb) l9 (by decide) (by decide), by show 2 ≤ sizeLine; decide, fun p hp => ?_⟩
          refine q p _ hp (upd_same.trans ?_) (Same.new hp)
          show some (HO.tup [V.int (-1 * t / gI t b), V.int ((if b < 0 then -b else b) / gI t b)]) = _
          rw [if_pos hn, nl.1, nl.2]
        · have hn : ¬ b < 0 := of_decide_eq_false hc
          rw [if_neg hn, if_neg hn] at nl
          refine ⟨_, rfl, _, rfl, _, _, rfl, rfl, .inl ⟨by decide, by decide⟩, _, rfl, _, _, rfl, rfl, wide_div (gI_pos hb) l9 (by decide) (by decide), ?_⟩
          refine ⟨_, rfl, _, rfl, _, rfl, _, _, rfl, rfl, wide_div (gI_pos hb) l9 (by decide) (by decide), by show 2 ≤ sizeLine; decide, fun p hp => ?_⟩
          refine q p _ hp (upd_same.trans ?_) (Same.new hp)
          show some (HO.tup [V.int (1 * t / gI t b), V.int ((if b < 0 then -b else b) / gI t b)]) = _
          rw [if_neg hn, nl.1, nl.2]
      · refine ifT (by simpa using h0) ?_
        refine ⟨_, rfl, _, rfl, .inl ⟨_, rfl, _, rfl, _, _, rfl, rfl, by omega, _, _, rfl, ?_⟩⟩
        have hy0 : 0 < y := by omega
        have := emod_lt (a := x) hy0
        have := emod_nn (a := x) hy0
        refine ⟨⟨rfl, y, x % y, rfl, hy, by omega, by rw [gcd_turn hx hy0, hg]⟩, ?_⟩
        show (x % y).toNat < y.toNat
        omega
    · rintro σ H Q Q' i ⟨v, e, h1, k, e2, h2⟩
      exact ⟨v, e, h1, k, e2, i _ _ h2⟩
end
end Ws

namespace Ws
open PySem PySem.Spec PyProof.Rows L2
abbrev sLine : Stmt := (inClass (PySem.Challenge.pw_whatspeed_k05_lines.main.body.getD 8 (.Pass ⟨0, 0, 0, 0⟩)) 0)
abbrev NLine : List Str := ["self", "base", "slope"]
abbrev PLine : List Str := ["self", "base", "slope"]
theorem scLine : FnScope NLine PLine (defScope sLine) := ⟨rfl, rfl, rfl, by decide +kernel, rfl, by decide +kernel, by decide +kernel⟩
abbrev sLCall : Stmt := (inClass (PySem.Challenge.pw_whatspeed_k05_lines.main.body.getD 8 (.Pass ⟨0, 0, 0, 0⟩)) 3)
abbrev NLCall : List Str := ["self", "s"]
abbrev PLCall : List Str := ["self", "s"]
theorem scLCall : FnScope NLCall PLCall (defScope sLCall) := ⟨rfl, rfl, rfl, by decide +kernel, rfl, by decide +kernel, by decide +kernel⟩
abbrev sLBase : Stmt := (inClass (PySem.Challenge.pw_whatspeed_k05_lines.main.body.getD 8 (.Pass ⟨0, 0, 0, 0⟩)) 1)
abbrev NLBase : List Str := ["self"]
abbrev PLBase : List Str := ["self"]
theorem scLBase : FnScope NLBase PLBase (defScope sLBase) := ⟨rfl, rfl, rfl, by decide +kernel, rfl, by decide +kernel, by decide +kernel⟩
abbrev sLSlope : Stmt := (inClass (PySem.Challenge.pw_whatspeed_k05_lines.main.body.getD 8 (.Pass ⟨0, 0, 0, 0⟩)) 2)
abbrev NLSlope : List Str := ["self"]
abbrev PLSlope : List Str := ["self"]
theorem scLSlope : FnScope NLSlope PLSlope (defScope sLSlope) := ⟨rfl, rfl, rfl, by decide +kernel, rfl, by decide +kernel, by decide +kernel⟩
abbrev sLEq : Stmt := (inClass (PySem.Challenge.pw_whatspeed_k05_lines.main.body.getD 8 (.Pass ⟨0, 0, 0, 0⟩)) 4)
abbrev NLEq : List Str := ["self", "other"]
abbrev PLEq : List Str := ["self", "other"]
theorem scLEq : FnScope NLEq PLEq (defScope sLEq) := ⟨rfl, rfl, rfl, by decide +kernel, rfl, by decide +kernel, by decide +kernel⟩
abbrev sLAdd : Stmt := (inClass (PySem.Challenge.pw_whatspeed_k05_lines.main.body.getD 8 (.Pass ⟨0, 0, 0, 0⟩)) 5)
abbrev NLAdd : List Str := ["self", "other"]
abbrev PLAdd : List Str := ["self", "other"]
theorem scLAdd : FnScope NLAdd PLAdd (defScope sLAdd) := ⟨rfl, rfl, rfl, by decide +kernel, rfl, by decide +kernel, by decide +kernel⟩
abbrev sLSub : Stmt := (inClass (PySem.Challenge.pw_whatspeed_k05_lines.main.body.getD 8 (.Pass ⟨0, 0, 0, 0⟩)) 6)
abbrev NLSub : List Str := ["self", "other"]
abbrev PLSub : List Str := ["self", "other"]
theorem scLSub : FnScope NLSub PLSub (defScope sLSub) := ⟨rfl, rfl, rfl, by decide +kernel, rfl, by decide +kernel, by decide +kernel⟩
def lF (a c : Addr) : List (Str × V) := [("_base", .ref a), ("_slope", .ref c)]
def LineAt (D : Addr) (H : Hp) (l a c : Addr) : Prop := ∃ dx, H l = some (.ins D dx (lF a c))
theorem lF_base (a c : Addr) : (lF a c).lookup ("_base" : Str) = some (.ref a) := lk_here
theorem lF_slope (a c : Addr) : (lF a c).lookup ("_slope" : Str) = some (.ref c) := (lk_past (by decide +kernel)).trans lk_here
theorem LineAt.same {D : Addr} {H H' : Hp} {l a c : Addr} (h : LineAt D H l a c) (s : Same H H') : LineAt D H' l a c := let ⟨dx, e⟩ := h; ⟨dx, s _ _ e⟩
structure LineC (K : PySem.W.Frag) (D : Addr) : Prop where
  cl : Cls K D
  nA : NoAttr K D "_base"
  nS : NoAttr K D "_slope"
/-- a Number that is the fraction t / b, reduced, of less than n bits -/
def NumV (C : Addr) (H : Hp) (a : Addr) (n : Nat) (t b : Int) : Prop := ∃ p q, NumAt C H a p q ∧ Low t b p q ∧ Sz n p ∧ Sz n q
theorem NumV.same {C : Addr} {H H' : Hp} {a : Addr} {n : Nat} {t b : Int} (h : NumV C H a n t b) (s : Same H H') : NumV C H' a n t b := let ⟨p, q, e, r⟩ := h; ⟨p, q, e.same s, r⟩
theorem NumV.mono {C : Addr} {H : Hp} {a : Addr} {n m : Nat} {t b : Int} (h : NumV C H a n t b) (l : n ≤ m) : NumV C H a m t b := let ⟨p, q, e, r, z1, z2⟩ := h; ⟨p, q, e, r, z1.mono l, z2.mono l⟩
theorem NumV.ins {C : Addr} {H : Hp} {a : Addr} {n : Nat} {t b : Int} (h : NumV C H a n t b) : ∃ dx fs, H a = some (.ins C dx fs) := let ⟨_, _, ⟨dx, e⟩, _⟩ := h; ⟨dx, _, e⟩
def spLine (D : Addr) : Sp := fun vs H Q _ => ∃ (x dx a c : Addr), vs = [.ref x, .ref a, .ref c] ∧ H x = some (.ins D dx []) ∧ ∀ H', LineAt D H' x a c → (∀ u o, H u = some o → u ≠ x → H' u = some o) → Q .non H'
def spLCall (C D : Addr) : Sp := fun vs H Q _ => ∃ (l a c z : Addr) (t b p q m n : Int), vs = [.ref l, .ref z] ∧ LineAt D H l a c ∧ NumV C H a 400 t b ∧ NumV C H c 400 p q ∧ NumV C H z 400 m n ∧ b ≠ 0 ∧ q ≠ 0 ∧ n ≠ 0 ∧
  ∀ x H', H x = none → NumV C H' x 2000 (t * (q * n) + p * m * b) (b * (q * n)) → Same H H' → Q (.ref x) H'
/-- an operator over two fractions in lowest terms -/
theorem op2_of {C : Addr} {f g : Int → Int → Int → Int → Int} {H : Hp} {a c : Addr} {Q : VK} {E : XK} {na nc : Nat} {t b p q : Int} (h1 : NumV C H a na t b) (h2 : NumV C H c nc p q) (za : na ≤ 2000) (zc : nc ≤ 2000) (hg : ∀ t' b' p' q', Low t b t' b' → Low p q p' q' → g t' b' p' q' ≠ 0)
    (k : ∀ t' b' p' q' x H', Low t b t' b' → Low p q p' q' → Sz na t' → Sz na b' → Sz nc p' → Sz nc q' → H x = none → NumAt C H' x (nT (f t' b' p' q') (g t' b' p' q')) (nB (f t' b' p' q') (g t' b' p' q')) → Same H H' → Q (.ref x) H') : spOp2 C f g [.ref a, .ref c] H Q E := by
  obtain ⟨t', b', e1, l1, z1, z2⟩ := h1
  obtain ⟨p', q', e2, l2, z3, z4⟩ := h2
  exact ⟨a, c, t', b', p', q', rfl, e1, e2, z1.mono za, z2.mono za, z3.mono zc, z4.mono zc, hg _ _ _ _ l1 l2, fun x H' nx hx s => k t' b' p' q' x H' l1 l2 z1 z2 z3 z4 nx hx s⟩
/-- the fields' getters -/
def spLBase (D : Addr) : Sp := fun vs H Q _ => ∃ l a c : Addr, vs = [.ref l] ∧ LineAt D H l a c ∧ Q (.ref a) H
def spLSlope (D : Addr) : Sp := fun vs H Q _ => ∃ l a c : Addr, vs = [.ref l] ∧ LineAt D H l a c ∧ Q (.ref c) H
/-- == of lines; with what is no line it is False -/
def spLEq (K : PySem.W.Frag) (C D : Addr) : Sp := fun vs H Q _ => ∃ (l a c : Addr) (y : V) (t b p q : Int), vs = [.ref l, y] ∧ LineAt D H l a c ∧ NumAt C H a t b ∧ NumAt C H c p q ∧
  ((∃ (m a' c' : Addr) (t' b' p' q' : Int), y = .ref m ∧ LineAt D H m a' c' ∧ NumAt C H a' t' b' ∧ NumAt C H c' p' q' ∧ Q (.bl (decide ((t = t' ∧ b = b') ∧ (p = p' ∧ q = q')))) H) ∨ (∃ ty : Value, TyX K H y ty ∧ PySem.W.kitOne K ty (.ref D) = some false ∧ Q (.bl false) H))
def spLOp (C D : Addr) (sg : Int) : Sp := fun vs H Q _ => ∃ (l m a c a' c' : Addr) (t b p q t' b' p' q' : Int), vs = [.ref l, .ref m] ∧ LineAt D H l a c ∧ LineAt D H m a' c' ∧ NumV C H a 180 t b ∧ NumV C H c 180 p q ∧ NumV C H a' 180 t' b' ∧ NumV C H c' 180 p' q' ∧ b ≠ 0 ∧ q ≠ 0 ∧ b' ≠ 0 ∧ q' ≠ 0 ∧
  ∀ x u v H', H x = none → LineAt D H' x u v → NumV C H' u 400 (t * b' + sg * t' * b) (b * b') → NumV C H' v 400 (p * q' + sg * p' * q) (q * q') → Same H H' → Q (.ref x) H'
/-- what the class Line must be, to be told from others -/
structure LineT (K : PySem.W.Frag) (D : Addr) : Prop where
  ha : PySem.W.findIn K (.ref D) "__class__" = some (some (.builtin "object.__class__"))
  hn : PySem.W.specialIn K (.builtin "object.__class__") "__get__" = some (some (.builtin "getset_descriptor.__get__"))
  htk : PySem.W.takesIn K (.builtin "object.__class__") = some true
  hm : PySem.W.mroIn K D (.type "object") = some true
  sf : PySem.W.selfFirst K D = true
  nf : PySem.W.notFirst K D (.ref D) = true
theorem LineC.ty {K : PySem.W.Frag} {D : Addr} (c : LineC K D) (t : LineT K D) {H : Hp} {a dx : Addr} {fs : List (Str × V)} (e : H a = some (.ins D dx fs)) : TyX K H (.ref a) (.ref D) := .base (.ins e c.cl t.ha t.hn t.htk t.hm)
section
variable {P : Program} {w : World} {K : PySem.W.Frag} {mg : Str → Option Value} {base : Heap} {C D f : Addr} {fd : FuncData}
theorem ok_lineF (F : L2.Fun K "__init__" "Line.__init__" sLine f fd) (LC : LineC K D) : FnOk P w K mg base CX0 1 f fd PLine (spLine D) := by
  refine F.ok scLine (fun vs H Q E h => ?_) (fun cdv A outer s H vs Q E hr h => ?_)
  · obtain ⟨x, dx, a, c, rfl, _⟩ := h
    rfl
  · have sc := scLine
    obtain ⟨x, dx, a, c, rfl, hx, k⟩ := h
    refine ⟨_, (pss_cons (ps_fld (pv 0) (pv 1) rfl) (pss_one (ps_fld (pv 0) (pv 2) rfl))), ?_⟩
    refine ⟨_, rfl, _, rfl, x, D, dx, [], rfl, hx, LC.cl, LC.nA, (by show 0 < 1000; decide), ?_⟩
    refine ⟨_, rfl, _, rfl, x, D, dx, _, rfl, upd_same, LC.cl, LC.nS, (by show 1 < 1000; decide), ?_⟩
    refine k _ ⟨dx, upd_same.trans (congrArg some (congrArg (HO.ins D dx) ?_))⟩ fun a o e n => ?_
    · exact (put_past (by decide +kernel)).trans rfl
    · rw [upd_ne n, upd_ne n]
      exact e
theorem ok_lcall (F : L2.Fun K "__call__" "Line.__call__" sLCall f fd) (b : Binds K fd PLCall []) (NC : NumC K C) (LC : LineC K D) (oA : OpnF P w K mg base 4 C (PySem.dunder Operator.Add.info.2) (spAdd C)) (oM : OpnF P w K mg base 4 C (PySem.dunder Operator.Mult.info.2) (spMul C)) : FnR P w K mg base CX0 5 f (spLCall C D) := by
  refine fnR_of F b scLCall (fun vs H Q E h => ?_) (fun cdv A outer s H vs Q E hr h => ?_)
  · obtain ⟨l, a, c, z, t, b, p, q, m, n, rfl, _⟩ := h
    rfl
  · have sc := scLCall
    obtain ⟨l, a, c, z, t, b, p, q, m, n, rfl, ⟨dl, el⟩, ha, hc, hz, b0, q0, n0, k⟩ := h
    refine ⟨_, (pss_one (ps_ret (pe_op (op_own oA NC.sf hr (by decide)) (pe_fld (pv 0) rfl) (pe_op (op_own oM NC.sf hr (by decide)) (pe_fld (pv 0) rfl) (pv 1))))), ?_⟩
    refine ⟨_, rfl, l, D, dl, _, _, rfl, el, LC.cl, LC.nA, lF_base _ _, _, rfl, l, D, dl, _, _, rfl, el, LC.cl, LC.nS, lF_slope _ _, _, rfl, ?_⟩
    obtain ⟨dc, fc, ec⟩ := hc.ins
    obtain ⟨dz, fz, ez⟩ := hz.ins
    refine ⟨c, dc, fc, z, dz, fz, rfl, ec, rfl, ez, op2_of hc hz (by decide) (by decide) (fun t' b' p' q' l1 l2 => Int.mul_ne_zero (by have := l1.pos; omega) (by have := l2.pos; omega)) ?_⟩
    intro p1 q1 m1 n1 x H1 l1 l2 y1 y2 y3 y4 nx hx s1
    have hq1 := l1.pos
    have hn1 := l2.pos
    have qn : q1 * n1 ≠ 0 := Int.mul_ne_zero (by omega) (by omega)
    have lx : Low (p * m) (q * n) (nT (p1 * m1) (q1 * n1)) (nB (p1 * m1) (q1 * n1)) := by
      refine (nf_low qn).base qn ?_
      have e1 := l1.cross
      have e2 := l2.cross
      grind
    have hx' : NumV C H1 x 800 (p * m) (q * n) := ⟨_, _, hx, lx, ((y1.mul y3).nT qn).mono (by decide), ((y2.mul y4).nB qn).mono (by decide)⟩
    have ha1 := ha.same s1
    obtain ⟨da, fa, ea⟩ := ha1.ins
    obtain ⟨dx, fx, ex⟩ := hx'.ins
    refine ⟨a, da, fa, x, dx, fx, rfl, ea, rfl, ex, op2_of ha1 hx' (by decide) (by decide) (fun t' b' p' q' l1 l2 => Int.mul_ne_zero (by have := l1.pos; omega) (by have := l2.pos; omega)) ?_⟩
    intro t2 b2 p2 q2 y H2 l3 l4 w1 w2 w3 w4 ny hy s2
    have bq : b2 * q2 ≠ 0 := Int.mul_ne_zero (by have := l3.pos; omega) (by have := l4.pos; omega)
    refine k y H2 (s1.free ny) ⟨_, _, hy, (nf_low bq).base bq ?_, Sz.nT bq (((w1.mul w4).mono (by decide : 400 + 800 ≤ 1999)).add ((w3.mul w2).mono (by decide : 800 + 400 ≤ 1999))), (Sz.nB bq (w2.mul w4)).mono (by decide)⟩ (s1.trans s2)
    have e1 := l3.cross
    have e2 := l4.cross
    grind
theorem ok_lbase (F : L2.Fun K "base" "Line.base" sLBase f fd) (b : Binds K fd PLBase []) (LC : LineC K D) : FnR P w K mg base CX0 1 f (spLBase D) := by
  refine fnR_of F b scLBase (fun vs H Q E h => ?_) (fun cdv A outer s H vs Q E hr h => ?_)
  · obtain ⟨l, a, c, rfl, _⟩ := h
    rfl
  · have sc := scLBase
    obtain ⟨l, a, c, rfl, ⟨dx, e⟩, k⟩ := h
    refine ⟨_, (pss_one (ps_ret (pe_fld (pv 0) rfl))), ?_⟩
    exact ⟨_, rfl, l, D, dx, _, _, rfl, e, LC.cl, LC.nA, lF_base _ _, k⟩
theorem ok_lslope (F : L2.Fun K "slope" "Line.slope" sLSlope f fd) (b : Binds K fd PLSlope []) (LC : LineC K D) : FnR P w K mg base CX0 1 f (spLSlope D) := by
  refine fnR_of F b scLSlope (fun vs H Q E h => ?_) (fun cdv A outer s H vs Q E hr h => ?_)
  · obtain ⟨l, a, c, rfl, _⟩ := h
    rfl
  · have sc := scLSlope
    obtain ⟨l, a, c, rfl, ⟨dx, e⟩, k⟩ := h
    refine ⟨_, (pss_one (ps_ret (pe_fld (pv 0) rfl))), ?_⟩
    exact ⟨_, rfl, l, D, dx, _, _, rfl, e, LC.cl, LC.nS, lF_slope _ _, k⟩
theorem ok_leq (F : L2.Fun K "__eq__" "Line.__eq__" sLEq f fd) (b : Binds K fd PLEq []) (B : Bi mg) (NC : NumC K C) (LC : LineC K D) (LT : LineT K D) (gL : mg "Line" = some (.ref D)) (oE : OpnF P w K mg base 1 C "__eq__" (spNEq C)) : FnR P w K mg base CX0 2 f (spLEq K C D) := by
  refine fnR_of F b scLEq (fun vs H Q E h => ?_) (fun cdv A outer s H vs Q E hr h => ?_)
  · obtain ⟨l, a, c, y, t, b, p, q, rfl, _⟩ := h
    rfl
  · have sc := scLEq
    obtain ⟨l, a, c, y, t, b, p, q, rfl, ⟨dl, el⟩, ha, hc, k⟩ := h
    refine ⟨_, (pss_one (ps_ret (pe_and (pe_callB call_isi (by rfl) B.isinstance (by decide +kernel) (pa_cons (pv 1) (pa_cons (pe_glob (v := .ref D) rfl gL rfl) pa_nil))) (pe_and (pe_cmpR (op_eqO oE hr (by decide)) (pe_fld (pv 0) rfl) (pe_fld (pv 1) rfl) (nomark _)) (pe_one (pe_cmpR (op_eqO oE hr (by decide)) (pe_fld (pv 0) rfl) (pe_fld (pv 1) rfl) (nomark _))))))), ?_⟩
    rcases k with ⟨m, a', c', t', b', p', q', rfl, ⟨dm, em⟩, ha', hc', k⟩ | ⟨ty, hty, hk, k⟩
    · refine ⟨_, rfl, _, _, _, _, true, rfl, .own D, LC.ty LT em, kit_self _, true, rfl, iteT ?_⟩
      obtain ⟨da, ea⟩ := id ha
      obtain ⟨da', ea'⟩ := id ha'
      refine ⟨_, rfl, l, D, dl, _, _, rfl, el, LC.cl, LC.nA, lF_base _ _, _, rfl, m, D, dm, _, _, rfl, em, LC.cl, LC.nA, lF_base _ _, a, da, _, _, rfl, ea, .ins ea', NC.nf, a, a', t, b, t', b', rfl, ha, ha', _, rfl, ?_⟩
      by_cases h1 : t = t' ∧ b = b'
      · refine ifT (decide_eq_true h1) ?_
        obtain ⟨dc, ec⟩ := id hc
        obtain ⟨dc', ec'⟩ := id hc'
        refine ⟨_, rfl, l, D, dl, _, _, rfl, el, LC.cl, LC.nS, lF_slope _ _, _, rfl, m, D, dm, _, _, rfl, em, LC.cl, LC.nS, lF_slope _ _, c, dc, _, _, rfl, ec, .ins ec', NC.nf, c, c', p, q, p', q', rfl, hc, hc', ?_⟩
        have e : decide ((t = t' ∧ b = b') ∧ (p = p' ∧ q = q')) = decide (p = p' ∧ q = q') := by simp [h1]
        rw [← e]
        exact k
      · refine ifF (decide_eq_false h1) ?_
        have e : decide ((t = t' ∧ b = b') ∧ (p = p' ∧ q = q')) = false := decide_eq_false fun z => h1 z.1
        rw [← e]
        exact k
    · exact ⟨_, rfl, _, _, _, _, false, rfl, .own D, hty, hk, false, rfl, iteF k⟩
theorem ok_ladd (F : L2.Fun K "__add__" "Line.__add__" sLAdd f fd) (b : Binds K fd PLAdd []) (NC : NumC K C) (LC : LineC K D) (oA : OpnF P w K mg base 4 C (PySem.dunder Operator.Add.info.2) (spAdd C)) (mL : MakF P w K mg base 1 "Line" D (spLine D)) : FnR P w K mg base CX0 5 f (spLOp C D 1) := by
  refine fnR_of F b scLAdd (fun vs H Q E h => ?_) (fun cdv A outer s H vs Q E hr h => ?_)
  · obtain ⟨l, m, a, c, a', c', t, b, p, q, t', b', p', q', rfl, _⟩ := h
    rfl
  · have sc := scLAdd
    obtain ⟨l, m, a, c, a', c', t, b, p, q, t', b', p', q', rfl, ⟨dl, el⟩, ⟨dm, em⟩, ha, hc, ha', hc', b0, q0, b0', q0', k⟩ := h
    refine ⟨_, (pss_one (ps_ret (pe_mk mL hr (by decide) rfl (pa_cons (pe_op (op_own oA NC.sf hr (by decide)) (pe_fld (pv 0) rfl) (pe_fld (pv 1) rfl)) (pa_cons (pe_op (op_own oA NC.sf hr (by decide)) (pe_fld (pv 0) rfl) (pe_fld (pv 1) rfl)) pa_nil))))), ?_⟩
    obtain ⟨da, fa, ea⟩ := ha.ins
    obtain ⟨da', fa', ea'⟩ := ha'.ins
    refine ⟨_, rfl, l, D, dl, _, _, rfl, el, LC.cl, LC.nA, lF_base _ _, _, rfl, m, D, dm, _, _, rfl, em, LC.cl, LC.nA, lF_base _ _, a, da, fa, a', da', fa', rfl, ea, rfl, ea', op2_of ha ha' (by decide) (by decide) (fun t' b' p' q' l1 l2 => Int.mul_ne_zero (by have := l1.pos; omega) (by have := l2.pos; omega)) ?_⟩
    intro t1 b1 t2 b2 x H1 l1 l2 y1 y2 y3 y4 nx hx s1
    have n1 : b1 * b2 ≠ 0 := Int.mul_ne_zero (by have := l1.pos; omega) (by have := l2.pos; omega)
    have vx : NumV C H1 x 400 (t * b' + 1 * t' * b) (b * b') := ⟨_, _, hx, (nf_low n1).base n1 (by have e1 := l1.cross; have e2 := l2.cross; grind), (Sz.nT n1 (Sz.add (y1.mul y4) (y3.mul y2))).mono (by decide), (Sz.nB n1 (y2.mul y4)).mono (by decide)⟩
    have hc1 := hc.same s1
    have hc1' := hc'.same s1
    obtain ⟨dc, fc, ec⟩ := hc1.ins
    obtain ⟨dc', fc', ec'⟩ := hc1'.ins
    refine ⟨_, rfl, l, D, dl, _, _, rfl, s1 _ _ el, LC.cl, LC.nS, lF_slope _ _, _, rfl, m, D, dm, _, _, rfl, s1 _ _ em, LC.cl, LC.nS, lF_slope _ _, c, dc, fc, c', dc', fc', rfl, ec, rfl, ec', op2_of hc1 hc1' (by decide) (by decide) (fun t' b' p' q' l1 l2 => Int.mul_ne_zero (by have := l1.pos; omega) (by have := l2.pos; omega)) ?_⟩
    intro t3 b3 t4 b4 y H2 l3 l4 w1 w2 w3 w4 ny hy s2
    have n2 : b3 * b4 ≠ 0 := Int.mul_ne_zero (by have := l3.pos; omega) (by have := l4.pos; omega)
    have vy : NumV C H2 y 400 (p * q' + 1 * p' * q) (q * q') := ⟨_, _, hy, (nf_low n2).base n2 (by have e1 := l3.cross; have e2 := l4.cross; grind), (Sz.nT n2 (Sz.add (w1.mul w4) (w3.mul w2))).mono (by decide), (Sz.nB n2 (w2.mul w4)).mono (by decide)⟩
    intro z dz nz nd ne
    refine ⟨z, dz, x, y, rfl, upd_same, fun H3 h3 k3 => ⟨rfl, ?_⟩⟩
    have s3 : Same H2 H3 := Same.mk nz nd k3
    exact k z x y H3 ((s1.trans s2).free nz) h3 ((vx.same s2).same s3) (vy.same s3) ((s1.trans s2).trans s3)
theorem ok_lsub (F : L2.Fun K "__sub__" "Line.__sub__" sLSub f fd) (b : Binds K fd PLSub []) (NC : NumC K C) (LC : LineC K D) (oA : OpnF P w K mg base 4 C (PySem.dunder Operator.Sub.info.2) (spSub C)) (mL : MakF P w K mg base 1 "Line" D (spLine D)) : FnR P w K mg base CX0 5 f (spLOp C D (-1)) := by
  refine fnR_of F b scLSub (fun vs H Q E h => ?_) (fun cdv A outer s H vs Q E hr h => ?_)
  · obtain ⟨l, m, a, c, a', c', t, b, p, q, t', b', p', q', rfl, _⟩ := h
    rfl
  · have sc := scLSub
    obtain ⟨l, m, a, c, a', c', t, b, p, q, t', b', p', q', rfl, ⟨dl, el⟩, ⟨dm, em⟩, ha, hc, ha', hc', b0, q0, b0', q0', k⟩ := h
    refine ⟨_, (pss_one (ps_ret (pe_mk mL hr (by decide) rfl (pa_cons (pe_op (op_own oA NC.sf hr (by decide)) (pe_fld (pv 0) rfl) (pe_fld (pv 1) rfl)) (pa_cons (pe_op (op_own oA NC.sf hr (by decide)) (pe_fld (pv 0) rfl) (pe_fld (pv 1) rfl)) pa_nil))))), ?_⟩
    obtain ⟨da, fa, ea⟩ := ha.ins
    obtain ⟨da', fa', ea'⟩ := ha'.ins
    refine ⟨_, rfl, l, D, dl, _, _, rfl, el, LC.cl, LC.nA, lF_base _ _, _, rfl, m, D, dm, _, _, rfl, em, LC.cl, LC.nA, lF_base _ _, a, da, fa, a', da', fa', rfl, ea, rfl, ea', op2_of ha ha' (by decide) (by decide) (fun t' b' p' q' l1 l2 => Int.mul_ne_zero (by have := l1.pos; omega) (by have := l2.pos; omega)) ?_⟩
    intro t1 b1 t2 b2 x H1 l1 l2 y1 y2 y3 y4 nx hx s1
    have n1 : b1 * b2 ≠ 0 := Int.mul_ne_zero (by have := l1.pos; omega) (by have := l2.pos; omega)
    have vx : NumV C H1 x 400 (t * b' + -1 * t' * b) (b * b') := ⟨_, _, hx, (nf_low n1).base n1 (by have e1 := l1.cross; have e2 := l2.cross; grind), (Sz.nT n1 (Sz.sub (y1.mul y4) (y3.mul y2))).mono (by decide), (Sz.nB n1 (y2.mul y4)).mono (by decide)⟩
    have hc1 := hc.same s1
    have hc1' := hc'.same s1
    obtain ⟨dc, fc, ec⟩ := hc1.ins
    obtain ⟨dc', fc', ec'⟩ := hc1'.ins
    refine ⟨_, rfl, l, D, dl, _, _, rfl, s1 _ _ el, LC.cl, LC.nS, lF_slope _ _, _, rfl, m, D, dm, _, _, rfl, s1 _ _ em, LC.cl, LC.nS, lF_slope _ _, c, dc, fc, c', dc', fc', rfl, ec, rfl, ec', op2_of hc1 hc1' (by decide) (by decide) (fun t' b' p' q' l1 l2 => Int.mul_ne_zero (by have := l1.pos; omega) (by have := l2.pos; omega)) ?_⟩
    intro t3 b3 t4 b4 y H2 l3 l4 w1 w2 w3 w4 ny hy s2
    have n2 : b3 * b4 ≠ 0 := Int.mul_ne_zero (by have := l3.pos; omega) (by have := l4.pos; omega)
    have vy : NumV C H2 y 400 (p * q' + -1 * p' * q) (q * q') := ⟨_, _, hy, (nf_low n2).base n2 (by have e1 := l3.cross; have e2 := l4.cross; grind), (Sz.nT n2 (Sz.sub (w1.mul w4) (w3.mul w2))).mono (by decide), (Sz.nB n2 (w2.mul w4)).mono (by decide)⟩
    intro z dz nz nd ne
    refine ⟨z, dz, x, y, rfl, upd_same, fun H3 h3 k3 => ⟨rfl, ?_⟩⟩
    have s3 : Same H2 H3 := Same.mk nz nd k3
    exact k z x y H3 ((s1.trans s2).free nz) h3 ((vx.same s2).same s3) (vy.same s3) ((s1.trans s2).trans s3)
end
end Ws

namespace Ws
open PySem PySem.Spec PyProof.Rows L2
abbrev sDrawn : Stmt := (PySem.Challenge.pw_whatspeed_k05_lines.main.body.getD 14 (.Pass ⟨0, 0, 0, 0⟩))
abbrev NDrawn : List Str := ["pot", "above"]
abbrev PDrawn : List Str := ["pot"]
theorem scDrawn : FnScope NDrawn PDrawn (defScope sDrawn) := ⟨rfl, rfl, rfl, by decide +kernel, rfl, by decide +kernel, by decide +kernel⟩
abbrev sMade : Stmt := (PySem.Challenge.pw_whatspeed_k05_lines.main.body.getD 15 (.Pass ⟨0, 0, 0, 0⟩))
abbrev NMade : List Str := ["pair"]
abbrev PMade : List Str := ["pair"]
theorem scMade : FnScope NMade PMade (defScope sMade) := ⟨rfl, rfl, rfl, by decide +kernel, rfl, by decide +kernel, by decide +kernel⟩
abbrev sIsNum : Stmt := (PySem.Challenge.pw_whatspeed_k05_lines.main.body.getD 16 (.Pass ⟨0, 0, 0, 0⟩))
abbrev NIsNum : List Str := ["told", "due"]
abbrev PIsNum : List Str := ["told", "due"]
theorem scIsNum : FnScope NIsNum PIsNum (defScope sIsNum) := ⟨rfl, rfl, rfl, by decide +kernel, rfl, by decide +kernel, by decide +kernel⟩
abbrev sLVal : Stmt := (PySem.Challenge.pw_whatspeed_k05_lines.main.body.getD 17 (.Pass ⟨0, 0, 0, 0⟩))
abbrev NLVal : List Str := ["a", "b", "s"]
abbrev PLVal : List Str := ["a", "b", "s"]
theorem scLVal : FnScope NLVal PLVal (defScope sLVal) := ⟨rfl, rfl, rfl, by decide +kernel, rfl, by decide +kernel, by decide +kernel⟩
abbrev sJoint : Stmt := (PySem.Challenge.pw_whatspeed_k05_lines.main.body.getD 18 (.Pass ⟨0, 0, 0, 0⟩))
abbrev NJoint : List Str := ["one", "two", "sign"]
abbrev PJoint : List Str := ["one", "two", "sign"]
theorem scJoint : FnScope NJoint PJoint (defScope sJoint) := ⟨rfl, rfl, rfl, by decide +kernel, rfl, by decide +kernel, by decide +kernel⟩
abbrev sRight : Stmt := (PySem.Challenge.pw_whatspeed_k05_lines.main.body.getD 19 (.Pass ⟨0, 0, 0, 0⟩))
abbrev NRight : List Str := ["pot", "a", "b", "c", "d", "first", "second", "more", "less", "s", "spot", "one", "two", "told", "again", "beside", "odd", "this", "due"]
abbrev PRight : List Str := ["pot"]
theorem scRight : FnScope NRight PRight (defScope sRight) := ⟨rfl, rfl, rfl, by decide +kernel, rfl, by decide +kernel, by decide +kernel⟩
abbrev sLaw : Stmt := (PySem.Challenge.pw_whatspeed_k05_lines.main.body.getD 20 (.Pass ⟨0, 0, 0, 0⟩))
abbrev NLaw : List Str := ["script", "k", "pot", "turn"]
abbrev PLaw : List Str := ["script"]
theorem scLaw : FnScope NLaw PLaw (defScope sLaw) := ⟨rfl, rfl, rfl, by decide +kernel, rfl, by decide +kernel, by decide +kernel⟩
/-- a reduced pair -/
structure RPair (t b : Int) : Prop where
  z : Sz 50 t
  lo : 1 ≤ b
  hi : b ≤ 40
  red : Nat.gcd t.natAbs b.natAbs = 1
theorem RPair.low {t b : Int} (h : RPair t b) : Low t b t b := ⟨by have := h.lo; omega, rfl, h.red⟩
theorem RPair.zb {t b : Int} (h : RPair t b) : Sz 6 b := by
  have := h.lo
  have := h.hi
  show b.natAbs < 2 ^ 6
  omega
theorem RPair.ne {t b : Int} (h : RPair t b) : b ≠ 0 := by have := h.lo; omega
theorem num_red {C : Addr} {H : Hp} {a : Addr} {n : Nat} {t b : Int} (h : NumV C H a n t b) (r : RPair t b) : NumAt C H a t b := by
  obtain ⟨p, q, e, l, _⟩ := h
  obtain ⟨rfl, rfl⟩ := l.eq r.low r.ne r.ne rfl
  exact e
theorem num_of {C : Addr} {H : Hp} {a : Addr} {n : Nat} {t b T B : Int} (h : NumV C H a n t b) (hb : b ≠ 0) (hB : B ≠ 0) (e : t * B = T * b) : NumAt C H a (nT T B) (nB T B) := by
  obtain ⟨p, q, e1, l, _⟩ := h
  obtain ⟨rfl, rfl⟩ := l.eq (nf_low hB) hb hB e
  exact e1
theorem dp2 {K : PySem.W.Frag} {H : Hp} (a b : Int) : DpAll K H [.int a, .int b] [.int a, .int b] := .cons (.int _) (.cons (.int _) .nil)
theorem eqvD (a b c d : Int) : PyData.eqv (.tuple [.int a, .int b]) (.tuple [.int c, .int d]) = decide (a = c ∧ b = d) := by
  simp only [PyData.eqv, PyData.eqvAll, Bool.and_true]
  by_cases h1 : a = c <;> by_cases h2 : b = d <;> simp [h1, h2]
def Tup2 (H : Hp) (r : Addr) (t b : Int) : Prop := H r = some (.tup [.int t, .int b])
theorem Tup2.same {H H' : Hp} {r : Addr} {t b : Int} (h : Tup2 H r t b) (s : Same H H') : Tup2 H' r t b := s _ _ h
def spDrawn : Sp := fun vs H Q _ => ∃ (p : Addr) (m : Int), vs = [.ref p] ∧ PotAt H p m ∧ m ≤ 100000 ∧ ∀ r H' t b, H r = none → Tup2 H' r t b → RPair t b → PotAt H' p (m + 4) → Ch p H H' → Q (.ref r) H'
def spMade (C : Addr) : Sp := fun vs H Q _ => ∃ (r : Addr) (t b : Int), vs = [.ref r] ∧ Tup2 H r t b ∧ b ≠ 0 ∧ Sz 170 t ∧ Sz 170 b ∧ ∀ x H', H x = none → NumV C H' x 170 t b → Same H H' → Q (.ref x) H'
def spIsNum (C : Addr) : Sp := fun vs H Q _ => ∃ (a r : Addr) (t b : Int), vs = [.ref a, .ref r] ∧ NumAt C H a t b ∧ Tup2 H r t b ∧ ∀ H', Same H H' → Q (.bl true) H'
def vT (a0 a1 b0 b1 s0 s1 : Int) : Int := a0 * b1 * s1 + b0 * s0 * a1
def vB (a1 b1 s1 : Int) : Int := a1 * b1 * s1
def spLVal : Sp := fun vs H Q _ => ∃ (a b s : Addr) (a0 a1 b0 b1 s0 s1 : Int), vs = [.ref a, .ref b, .ref s] ∧ Tup2 H a a0 a1 ∧ Tup2 H b b0 b1 ∧ Tup2 H s s0 s1 ∧ RPair a0 a1 ∧ RPair b0 b1 ∧ RPair s0 s1 ∧
  ∀ r H', H r = none → Tup2 H' r (nT (vT a0 a1 b0 b1 s0 s1) (vB a1 b1 s1)) (nB (vT a0 a1 b0 b1 s0 s1) (vB a1 b1 s1)) → Same H H' → Q (.ref r) H'
def spJoint : Sp := fun vs H Q _ => ∃ (a b : Addr) (a0 a1 b0 b1 sg : Int), vs = [.ref a, .ref b, .int sg] ∧ (sg = 1 ∨ sg = -1) ∧ Tup2 H a a0 a1 ∧ Tup2 H b b0 b1 ∧ Sz 120 a0 ∧ Sz 120 a1 ∧ Sz 120 b0 ∧ Sz 120 b1 ∧ a1 ≠ 0 ∧ b1 ≠ 0 ∧
  ∀ r H', H r = none → Tup2 H' r (nT (a0 * b1 + sg * b0 * a1) (a1 * b1)) (nB (a0 * b1 + sg * b0 * a1) (a1 * b1)) → Same H H' → Q (.ref r) H'
def spRight : Sp := fun vs H Q _ => ∃ (p : Addr) (m : Int), vs = [.ref p] ∧ PotAt H p m ∧ m ≤ 10000 ∧ ∀ H', PotAt H' p (m + 24) → Ch p H H' → Q (.bl true) H'
def spLaw (K : PySem.W.Frag) : Sp := fun vs H Q _ => ∃ (a : Addr) (ns : List Int), vs = [.ref a] ∧ SqL K H a (ns.map V.int) ∧ ns.length ≤ 63 ∧ ∀ H', Q (.bl true) H'
/-- what is no Line -/
structure LineX (K : PySem.W.Frag) (C D : Addr) : Prop where
  ic : PySem.W.isClsIn K D = true
  ty : PySem.W.typeIn K (.ref D) = some (.type "type")
  sN : PySem.W.subIn K (.type "NoneType") (.ref D) = some false
  sI : PySem.W.subIn K (.type "int") (.ref D) = some false
  sS : PySem.W.subIn K (.type "str") (.ref D) = some false
  sT : PySem.W.subIn K (.type "tuple") (.ref D) = some false
  sL : PySem.W.subIn K (.type "list") (.ref D) = some false
  sB : PySem.W.subIn K (.type "bool") (.ref D) = some false
  sC : PySem.W.subIn K (.ref C) (.ref D) = some false
  sD : PySem.W.subIn K (.ref D) (.ref D) = some true
theorem notFirst_of {K : PySem.W.Frag} {t : Value} {D : Addr} (h : PySem.W.subIn K t (.ref D) = some false) : PySem.W.notFirst K D t = true := by
  unfold PySem.W.notFirst
  rw [h]
  simp
section
variable {P : Program} {w : World} {K : PySem.W.Frag} {mg : Str → Option Value} {base : Heap} {C D f fI : Addr} {fd fdI : FuncData}
theorem ok_drawn (F : L2.Fun K "_law_drawn" "_law_drawn" sDrawn f fd) (b : Binds K fd PDrawn []) (cT : CalF P w K mg base 1 "_law_take" spTake) (cO : CalF P w K mg base 2 "_law_of" spOf) (cL : CalF P w K mg base 1 "_law_least" spLeast) : FnR P w K mg base CX0 3 f spDrawn := by
  refine fnR_of F b scDrawn (fun vs H Q E h => ?_) (fun cdv A outer s H vs Q E hr h => ?_)
  · obtain ⟨p, m, rfl, _⟩ := h
    rfl
  · have sc := scDrawn
    obtain ⟨p, m, rfl, hp, hm, q⟩ := h
    refine ⟨_, (pss_cons (ps_set (i := 1) sc.nd rfl (Or.inl rfl) (pe_f cO hr (by decide) rfl (pa_cons (pv 0) (pa_cons (pe_lst (pa_cons pe_int (pa_cons pe_int (pa_cons pe_int (pa_cons (pe_un un_neg pe_int) (pa_cons pe_int (pa_cons pe_int (pa_cons (pe_un un_neg pe_int) (pa_cons pe_int (pa_cons (pe_op op_sub (pe_f cT hr (by decide) rfl (pa_cons (pv 0) (pa_cons pe_int pa_nil))) pe_int) (pa_cons (pe_op op_pow pe_int pe_int) pa_nil))))))))))) pa_nil)))) (pss_one (ps_ret (pe_f cL hr (by decide) rfl (pa_cons (pv 1) (pa_cons (pe_f cO hr (by decide) rfl (pa_cons (pv 0) (pa_cons (pe_lst (pa_cons pe_int (pa_cons pe_int (pa_cons pe_int (pa_cons pe_int (pa_cons (pe_un un_neg pe_int) (pa_cons pe_int (pa_cons (pe_op op_add pe_int (pe_f cT hr (by decide) rfl (pa_cons (pv 0) (pa_cons pe_int pa_nil)))) pa_nil)))))))) pa_nil))) pa_nil)))))), ?_⟩
    refine ⟨_, rfl, _, rfl, _, rfl, ?_⟩
    refine ⟨_, rfl, p, 200, m, rfl, hp, by omega, by decide, by decide, fun d H1 d0 d1 hp1 c1 => ?_⟩
    refine ⟨_, _, rfl, rfl, _, _, rfl, rfl, ⟨by decide, by decide, by decide⟩, by show 10 ≤ sizeLine; decide, fun l hl => ?_⟩
    have npl : p ≠ l := by obtain ⟨_, _, _, e, _⟩ := hp1; exact ne_of_none e hl
    refine ⟨p, l, _, m + 1, rfl, ?_, by omega, upd_same, fun z => npl z.symm, by show 1 ≤ 10; decide, by show 10 ≤ 1000; decide, fun v H2 hv hp2 c2 => ?_⟩
    · obtain ⟨x, y, z, e, r⟩ := hp1
      exact ⟨x, y, z, (upd_ne npl).trans e, r⟩
    have hv' : ∃ t : Int, v = .int t ∧ Sz 50 t := by
      simp only [List.mem_cons, List.not_mem_nil, or_false] at hv
      rcases hv with rfl | rfl | rfl | rfl | rfl | rfl | rfl | rfl | rfl | rfl
      all_goals refine ⟨_, rfl, ?_⟩
      all_goals first
        | (show Int.natAbs _ < 2 ^ 50; decide)
        | (show Int.natAbs _ < 2 ^ 50; omega)
    obtain ⟨t, rfl, zt⟩ := hv'
    have c02 : Ch p H H2 := (c1.trans (Ch.new hl)).trans c2
    refine ⟨_, rfl, _, rfl, _, rfl, _, rfl, p, 40, m + 1 + 1, rfl, hp2, by omega, by decide, by decide, fun d H3 d0 d1 hp3 c3 => ?_⟩
    refine ⟨_, _, rfl, rfl, by show 7 ≤ sizeLine; decide, fun l hl => ?_⟩
    have npl : p ≠ l := by obtain ⟨_, _, _, e, _⟩ := hp3; exact ne_of_none e hl
    refine ⟨p, l, _, m + 1 + 1 + 1, rfl, ?_, by omega, upd_same, fun z => npl z.symm, by show 1 ≤ 7; decide, by show 7 ≤ 1000; decide, fun v H4 hv hp4 c4 => ?_⟩
    · obtain ⟨x, y, z, e, r⟩ := hp3
      exact ⟨x, y, z, (upd_ne npl).trans e, r⟩
    have hv' : ∃ b : Int, v = .int b ∧ b ≠ 0 ∧ b.natAbs ≤ 40 := by
      simp only [List.mem_cons, List.not_mem_nil, or_false] at hv
      rcases hv with rfl | rfl | rfl | rfl | rfl | rfl | rfl
      all_goals refine ⟨_, rfl, ?_⟩
      all_goals first
        | decide
        | (constructor <;> omega)
    obtain ⟨b, rfl, hb1, hb2⟩ := hv'
    have zb : Sz 8000 b := Nat.lt_of_le_of_lt hb2 (Nat.lt_of_lt_of_le (by decide : 40 < 2 ^ 6) (Nat.pow_le_pow_right (by decide) (by decide)))
    refine ⟨t, b, rfl, hb1, zb, zt.mono (by decide), fun r H5 nr er s5 => ?_⟩
    have c04 : Ch p H H4 := c02.trans ((c3.trans (Ch.new hl)).trans c4)
    have lw := nf_low (t := t) hb1
    have le := nf_le (t := t) hb1
    have hpos := lw.pos
    have npr : r ≠ p := by obtain ⟨_, _, _, e, _⟩ := hp4; exact fun z => by rw [z, e] at nr; cases nr
    refine q r _ _ _ (c04.free npr nr) er ⟨zt.nT hb1, by omega, by omega, lw.cop⟩ ?_ (c04.trans (Ch.of s5))
    obtain ⟨x, y, z, e, a1, a2, a3, a4, a5⟩ := hp4
    exact ⟨x, y, z, s5 _ _ e, a1, a2, a3, a4, by omega⟩
theorem ok_made (F : L2.Fun K "_law_made" "_law_made" sMade f fd) (b : Binds K fd PMade []) (mN : MakF P w K mg base 2 "Number" C (spNum C)) : FnR P w K mg base CX0 4 f (spMade C) := by
  refine fnR_of F b scMade (fun vs H Q E h => ?_) (fun cdv A outer s H vs Q E hr h => ?_)
  · obtain ⟨r, t, b, rfl, _⟩ := h
    rfl
  · have sc := scMade
    obtain ⟨r, t, b, rfl, e, hb, zt, zb, k⟩ := h
    refine ⟨_, (pss_one (ps_ret (pe_mk mN hr (by decide) rfl (pa_cons (pe_ix ix_tup (pv 0) pe_int (fun _ _ => rfl)) (pa_cons (pe_ix ix_tup (pv 0) pe_int (fun _ _ => rfl)) pa_nil))))), ?_⟩
    refine ⟨_, rfl, r, _, _, _, rfl, rfl, SqT.of e, rfl, _, rfl, r, _, _, _, rfl, rfl, SqT.of e, rfl, ?_⟩
    intro x d nx nd ne
    refine ⟨x, d, _, _, rfl, hb, zb.mono (by decide), upd_same, fun H1 h1 k1 => ⟨rfl, ?_⟩⟩
    exact k x H1 nx ⟨_, _, h1, nf_low hb, zt.nT hb, zb.nB hb⟩ (Same.mk nx nd k1)
theorem ok_isnum (F : L2.Fun K "_law_is_number" "_law_is_number" sIsNum f fd) (b : Binds K fd PIsNum []) (B : Bi mg) (NC : NumC K C) (gN : mg "Number" = some (.ref C)) (pT : PrpF P w K mg base 1 C "top" (spTop C)) (pB : PrpF P w K mg base 1 C "bottom" (spBot C)) : FnR P w K mg base CX0 3 f (spIsNum C) := by
  refine fnR_of F b scIsNum (fun vs H Q E h => ?_) (fun cdv A outer s H vs Q E hr h => ?_)
  · obtain ⟨a, r, t, b, rfl, _⟩ := h
    rfl
  · have sc := scIsNum
    obtain ⟨a, r, t, b, rfl, ha, er, k⟩ := h
    refine ⟨_, (pss_one (ps_ret (pe_and (pe_callB call_isi (by rfl) B.isinstance (by decide +kernel) (pa_cons (pv 0) (pa_cons (pe_glob (v := .ref C) rfl gN rfl) pa_nil))) (pe_one (pe_cmpR (op_eqD hr.units) (pe_tup (pa_cons (pe_pr pT hr (by decide) (pv 0)) (pa_cons (pe_pr pB hr (by decide) (pv 0)) pa_nil))) (pv 1) (nomark _)))))), ?_⟩
    obtain ⟨dx, e⟩ := id ha
    refine ⟨_, rfl, _, _, _, _, true, rfl, .own C, NC.ty e, NC.kk, true, rfl, iteT ?_⟩
    refine ⟨_, rfl, a, dx, _, rfl, e, a, t, b, rfl, ha, _, rfl, a, dx, _, rfl, e, a, t, b, rfl, ha, by show 2 ≤ sizeLine; decide, fun p hp => ?_⟩
    refine ⟨_, rfl, .tuple [.int t, .int b], .tuple [.int t, .int b], .tup (SqT.of upd_same) (dp2 t b), .tup (SqT.of ((Same.new hp) _ _ er)) (dp2 t b), rfl, rfl, ?_⟩
    rw [eqvD, decide_eq_true ⟨rfl, rfl⟩]
    exact k _ (Same.new hp)
theorem ok_lval (F : L2.Fun K "_law_value" "_law_value" sLVal f fd) (b : Binds K fd PLVal []) (cL : CalF P w K mg base 1 "_law_least" spLeast) : FnR P w K mg base CX0 2 f spLVal := by
  refine fnR_of F b scLVal (fun vs H Q E h => ?_) (fun cdv A outer s H vs Q E hr h => ?_)
  · obtain ⟨a, b, s, a0, a1, b0, b1, s0, s1, rfl, _⟩ := h
    rfl
  · have sc := scLVal
    obtain ⟨a, b, s, a0, a1, b0, b1, s0, s1, rfl, ea, eb, es, pa, pb, ps, k⟩ := h
    refine ⟨_, (pss_one (ps_ret (pe_f cL hr (by decide) rfl (pa_cons (pe_op op_add (pe_op op_mulW (pe_op op_mulW (pe_ix ix_tup (pv 0) pe_int (fun _ _ => rfl)) (pe_ix ix_tup (pv 1) pe_int (fun _ _ => rfl))) (pe_ix ix_tup (pv 2) pe_int (fun _ _ => rfl))) (pe_op op_mulW (pe_op op_mulW (pe_ix ix_tup (pv 1) pe_int (fun _ _ => rfl)) (pe_ix ix_tup (pv 2) pe_int (fun _ _ => rfl))) (pe_ix ix_tup (pv 0) pe_int (fun _ _ => rfl)))) (pa_cons (pe_op op_mulW (pe_op op_mulW (pe_ix ix_tup (pv 0) pe_int (fun _ _ => rfl)) (pe_ix ix_tup (pv 1) pe_int (fun _ _ => rfl))) (pe_ix ix_tup (pv 2) pe_int (fun _ _ => rfl))) pa_nil))))), ?_⟩
    have za := pa.zb
    have zb := pb.zb
    have zs := ps.zb
    refine ⟨_, rfl, a, _, _, _, rfl, rfl, SqT.of ea, rfl, _, rfl, b, _, _, _, rfl, rfl, SqT.of eb, rfl, _, _, rfl, rfl, wide_mul pa.z zb (by decide) (by decide) (by decide), _, rfl, s, _, _, _, rfl, rfl, SqT.of es, rfl, _, _, rfl, rfl, wide_mul (pa.z.mul zb) zs (by decide) (by decide) (by decide), ?_⟩
    refine ⟨_, rfl, b, _, _, _, rfl, rfl, SqT.of eb, rfl, _, rfl, s, _, _, _, rfl, rfl, SqT.of es, rfl, _, _, rfl, rfl, wide_mul pb.z ps.z (by decide) (by decide) (by decide), _, rfl, a, _, _, _, rfl, rfl, SqT.of ea, rfl, _, _, rfl, rfl, wide_mul (pb.z.mul ps.z) za (by decide) (by decide) (by decide), _, _, rfl, rfl, ?_⟩
    refine ⟨_, rfl, a, _, _, _, rfl, rfl, SqT.of ea, rfl, _, rfl, b, _, _, _, rfl, rfl, SqT.of eb, rfl, _, _, rfl, rfl, wide_mul za zb (by decide) (by decide) (by decide), _, rfl, s, _, _, _, rfl, rfl, SqT.of es, rfl, _, _, rfl, rfl, wide_mul (za.mul zb) zs (by decide) (by decide) (by decide), ?_⟩
    exact ⟨_, _, rfl, Int.mul_ne_zero (Int.mul_ne_zero pa.ne pb.ne) ps.ne, ((za.mul zb).mul zs).mono (by decide), (Sz.add (((pa.z.mul zb).mul zs).mono (by decide : 50 + 6 + 6 ≤ 106)) ((pb.z.mul ps.z).mul za)).mono (by decide), fun r H' nr er s => k r H' nr er s⟩
theorem ok_joint (F : L2.Fun K "_law_joint" "_law_joint" sJoint f fd) (b : Binds K fd PJoint []) (cL : CalF P w K mg base 1 "_law_least" spLeast) : FnR P w K mg base CX0 2 f spJoint := by
  refine fnR_of F b scJoint (fun vs H Q E h => ?_) (fun cdv A outer s H vs Q E hr h => ?_)
  · obtain ⟨a, b, a0, a1, b0, b1, sg, rfl, _⟩ := h
    rfl
  · have sc := scJoint
    obtain ⟨a, b, a0, a1, b0, b1, sg, rfl, hs, ea, eb, z1, z2, z3, z4, n1, n2, k⟩ := h
    refine ⟨_, (pss_one (ps_ret (pe_f cL hr (by decide) rfl (pa_cons (pe_op op_add (pe_op op_mulW (pe_ix ix_tup (pv 0) pe_int (fun _ _ => rfl)) (pe_ix ix_tup (pv 1) pe_int (fun _ _ => rfl))) (pe_op op_mulW (pe_op op_mulW (pv 2) (pe_ix ix_tup (pv 1) pe_int (fun _ _ => rfl))) (pe_ix ix_tup (pv 0) pe_int (fun _ _ => rfl)))) (pa_cons (pe_op op_mulW (pe_ix ix_tup (pv 0) pe_int (fun _ _ => rfl)) (pe_ix ix_tup (pv 1) pe_int (fun _ _ => rfl))) pa_nil))))), ?_⟩
    have zs : Sz 1 sg := by unfold Sz; rcases hs with rfl | rfl <;> decide
    refine ⟨_, rfl, a, _, _, _, rfl, rfl, SqT.of ea, rfl, _, rfl, b, _, _, _, rfl, rfl, SqT.of eb, rfl, _, _, rfl, rfl, wide_mul z1 z4 (by decide) (by decide) (by decide), ?_⟩
    refine ⟨_, rfl, _, rfl, b, _, _, _, rfl, rfl, SqT.of eb, rfl, _, _, rfl, rfl, wide_mul zs z3 (by decide) (by decide) (by decide), _, rfl, a, _, _, _, rfl, rfl, SqT.of ea, rfl, _, _, rfl, rfl, wide_mul (zs.mul z3) z2 (by decide) (by decide) (by decide), _, _, rfl, rfl, ?_⟩
    refine ⟨_, rfl, a, _, _, _, rfl, rfl, SqT.of ea, rfl, _, rfl, b, _, _, _, rfl, rfl, SqT.of eb, rfl, _, _, rfl, rfl, wide_mul z2 z4 (by decide) (by decide) (by decide), ?_⟩
    exact ⟨_, _, rfl, Int.mul_ne_zero n1 n2, (z2.mul z4).mono (by decide), (Sz.add ((z1.mul z4).mono (by decide : 120 + 120 ≤ 241)) ((zs.mul z3).mul z2)).mono (by decide), fun r H' nr er s => k r H' nr er s⟩
end
end Ws

namespace Ws
open PySem PySem.Spec PyProof.Rows L2
theorem joint_eq {V1 U1 V2 U2 o0 o1 w0 w1 T B sg : Int} (e1 : o0 * U1 = V1 * o1) (e2 : w0 * U2 = V2 * w1) (u1 : U1 ≠ 0) (u2 : U2 ≠ 0) (h : T * (U1 * U2) = B * (V1 * U2 + sg * V2 * U1)) : T * (o1 * w1) = (o0 * w1 + sg * w0 * o1) * B := by
  refine Int.eq_of_mul_eq_mul_right (Int.mul_ne_zero u1 u2) ?_
  have a : T * (o1 * w1) * (U1 * U2) = (T * (U1 * U2)) * (o1 * w1) := by grind
  have b : (o0 * w1 + sg * w0 * o1) * B * (U1 * U2) = B * ((o0 * U1) * U2 * w1 + sg * (w0 * U2) * U1 * o1) := by grind
  rw [a, b, h, e1, e2]
  grind
theorem line_joint (a0 a1 b0 b1 c0 c1 d0 d1 s0 s1 sg : Int) : ((a0 * c1 + sg * c0 * a1) * ((b1 * d1) * s1) + (b0 * d1 + sg * d0 * b1) * s0 * (a1 * c1)) * (vB a1 b1 s1 * vB c1 d1 s1) = ((a1 * c1) * ((b1 * d1) * s1)) * (vT a0 a1 b0 b1 s0 s1 * vB c1 d1 s1 + sg * vT c0 c1 d0 d1 s0 s1 * vB a1 b1 s1) := by
  unfold vT vB
  grind
section
variable {P : Program} {w : World} {K : PySem.W.Frag} {mg : Str → Option Value} {base : Heap} {C D f fI : Addr} {fd fdI : FuncData}
theorem ok_right (F : L2.Fun K "_law_is_right" "_law_is_right" sRight f fd) (b : Binds K fd PRight []) (B : Bi mg) (NC : NumC K C) (LC : LineC K D) (LT : LineT K D) (LX : LineX K C D) (NE : NeC K D) (gN : mg "Number" = some (.ref C)) (gL : mg "Line" = some (.ref D))
    (cD : CalF P w K mg base 3 "_law_drawn" spDrawn) (cM : CalF P w K mg base 4 "_law_made" (spMade C)) (cI : CalF P w K mg base 3 "_law_is_number" (spIsNum C)) (cV : CalF P w K mg base 2 "_law_value" spLVal) (cJ : CalF P w K mg base 2 "_law_joint" spJoint)
    (mL : MakF P w K mg base 1 "Line" D (spLine D)) (MI : Mk K D fI) (GI : FnOk P w K mg base CX0 1 fI fdI PLine (spLine D)) (bK : KBn K fdI PLine 1 ["slope", "base"] (fun us ws => us ++ ws.reverse) (fun vs zs => vs ++ zs.reverse))
    (pA : PrpF P w K mg base 1 D "base" (spLBase D)) (pS : PrpF P w K mg base 1 D "slope" (spLSlope D)) (cC : CloF P w K mg base 5 D (spLCall C D))
    (oA : OpnF P w K mg base 5 D (PySem.dunder Operator.Add.info.2) (spLOp C D 1)) (oS : OpnF P w K mg base 5 D (PySem.dunder Operator.Sub.info.2) (spLOp C D (-1))) (oE : OpnF P w K mg base 2 D "__eq__" (spLEq K C D)) :
    FnR P w K mg base CX0 6 f spRight := by
  refine fnR_of F b scRight (fun vs H Q E h => ?_) (fun cdv A outer s H vs Q E hr h => ?_)
  · obtain ⟨p, m, rfl, _⟩ := h
    rfl
  · have sc := scRight
    obtain ⟨p, m, rfl, hp, hm, q⟩ := h
    have tail : ∃ t : TS, PSs (cxOf CX0 P w K mg base NRight "_law_is_right" (defScope sRight) f cdv A outer s H E).nox (List.drop 11 (defBody sRight)) t ∧
        ∀ (ra rb l1 x1 x2 : Addr) (a0 a1 b0 b1 : Int) (o3 o4 o6 o7 o8 o9 o10 o11 o12 o13 o14 : Option V) (G : Hp), Tup2 G ra a0 a1 → Tup2 G rb b0 b1 → RPair a0 a1 → RPair b0 b1 → LineAt D G l1 x1 x2 → NumAt C G x1 a0 a1 → NumAt C G x2 b0 b1 → PotAt G p (m + 24) → Ch p H G →
          t { nx := fun _ H' => Q .non H', rt := Q } [some (.ref p), some (.ref ra), some (.ref rb), o3, o4, some (.ref l1), o6, o7, o8, o9, o10, o11, o12, o13, o14, none, none, none, none] G := by
      refine ⟨_, (pss_cons (ps_set (i := 15) sc.nd rfl (Or.inl rfl) (pe_lst (pa_cons (pe_mk mL hr (by decide) rfl (pa_cons (pe_f cM hr (by decide) rfl (pa_cons (pe_f cJ hr (by decide) rfl (pa_cons (pv 1) (pa_cons (pe_tup (pa_cons pe_int (pa_cons pe_int pa_nil))) (pa_cons pe_int pa_nil)))) pa_nil)) (pa_cons (pe_f cM hr (by decide) rfl (pa_cons (pv 2) pa_nil)) pa_nil))) pa_nil))) (pss_cons (ps_expr (pe_bm PySem.F.plainAttrs_list PySem.F.slot_list_append PySem.F.type_list_append mt_append (pv 15) (pa_cons (pe_mk mL hr (by decide) rfl (pa_cons (pe_f cM hr (by decide) rfl (pa_cons (pv 1) pa_nil)) (pa_cons (pe_f cM hr (by decide) rfl (pa_cons (pe_f cJ hr (by decide) rfl (pa_cons (pv 2) (pa_cons (pe_tup (pa_cons pe_int (pa_cons pe_int pa_nil))) (pa_cons (pe_un un_neg pe_int) pa_nil)))) pa_nil)) pa_nil))) pa_nil))) (pss_cons (ps_set (i := 15) sc.nd rfl (Or.inl rfl) (pe_op op_cat (pv 15) (pe_lst (pa_cons pe_non (pa_cons (pe_f cM hr (by decide) rfl (pa_cons (pv 1) pa_nil)) (pa_cons pe_int (pa_cons pe_str (pa_cons (pv 1) (pa_cons (pe_lst (pa_cons (pv 1) (pa_cons (pv 2) pa_nil))) (pa_cons pe_bl pa_nil)))))))))) (pss_one (ps_ret (pe_not (pe_callB (cr_any rfl) (by rfl) B.any (by decide +kernel) (pa_cons (pe_lc (own := [("odd", 16)]) rfl sc.nd (pi_list (pv 15)) (blkOk_by (N := NRight) (sc := defScope sRight) (by decide +kernel)) (fun _ _ _ _ _ => by exact (pg_name (i := 16) sc.nd rfl (Or.inl rfl))) (fun _ _ _ _ _ => by exact pts_nil) (fun _ _ _ _ _ => by exact (pe_cmpR (show OpR _ _ (rEqO K D (spLEq K C D)) from op_eqO oE hr (by decide)) (pv 5) (pv 16) (nomark _)))) pa_nil)))))))), ?_⟩
      intro ra rb l1 x1 x2 a0 a1 b0 b1 o3 o4 o6 o7 o8 o9 o10 o11 o12 o13 o14 G ta tb pa pb g1 A1 A2 hpot cc
      have an := pa.ne
      have bn := pb.ne
      have za := pa.zb
      have zb := pb.zb
      have S1 : Sz 120 1 := by unfold Sz; decide
      have S3 : Sz 2 3 := by unfold Sz; decide
      have S0 : Sz 1 (-1) := by unfold Sz; decide
      have J1 : a0 * 1 + 1 * 1 * a1 = a0 + a1 := by omega
      -- beside = [Line(made(joint(a, (1, 1), 1)), made(b))]
      refine ⟨_, rfl, by show 2 ≤ sizeLine; decide, fun t1 nt1 => ?_⟩
      have j1 := Same.new (o := .tup [.int 1, .int 1]) nt1
      have et1 : Tup2 (upd G t1 (.tup [.int 1, .int 1])) t1 1 1 := upd_same
      generalize upd G t1 (.tup [.int 1, .int 1]) = G1 at j1 et1
      refine ⟨ra, t1, a0, a1, 1, 1, 1, rfl, .inl rfl, ta.same j1, et1, pa.z.mono (by decide), za.mono (by decide), S1, S1, an, by decide, fun r1 G2 nr1 er1 j2 => ?_⟩
      have n1 : a1 * 1 ≠ 0 := by omega
      have low1 := nf_low (t := a0 * 1 + 1 * 1 * a1) n1
      have sT1 : Sz 170 (nT (a0 * 1 + 1 * 1 * a1) (a1 * 1)) := (Sz.nT n1 (by rw [J1]; exact pa.z.add (za.mono (by decide)))).mono (by decide : 51 ≤ 170)
      have sB1 : Sz 170 (nB (a0 * 1 + 1 * 1 * a1) (a1 * 1)) := (Sz.nB n1 (by rw [Int.mul_one]; exact za)).mono (by decide)
      refine ⟨r1, _, _, rfl, er1, by have := low1.pos; omega, sT1, sB1, fun u1 G3 nu1 vu1 j3 => ?_⟩
      have k3 := (j1.trans j2).trans j3
      refine ⟨_, rfl, rb, b0, b1, rfl, tb.same k3, bn, pb.z.mono (by decide), zb.mono (by decide), fun u2 G4 nu2 vu2 j4 => ?_⟩
      intro y1 dy1 ny1 nd1 ne1
      refine ⟨y1, dy1, u1, u2, rfl, upd_same, fun G5 gy1 k5 => ⟨rfl, ?_⟩⟩
      have j5 : Same G4 G5 := Same.mk ny1 nd1 k5
      refine ⟨by show 1 ≤ sizeLine; decide, fun BL nBL => ?_⟩
      have j6 := Same.new (o := .lst [.ref y1]) nBL
      have eBL := upd_same (H := G5) (a := BL) (o := .lst [.ref y1])
      generalize upd G5 BL (.lst [.ref y1]) = G6 at j6 eBL
      have k46 := (j4.trans j5).trans j6
      have k6 := k3.trans k46
      -- beside.append(Line(made(a), made(joint(b, (1, 3), -1))))
      refine ⟨_, rfl, .inl ⟨rfl, _, SqL.of eBL⟩, ?_⟩
      refine ⟨_, rfl, ra, a0, a1, rfl, ta.same k6, an, pa.z.mono (by decide), za.mono (by decide), fun u3 G7 nu3 vu3 j7 => ?_⟩
      refine ⟨_, rfl, by show 2 ≤ sizeLine; decide, fun t2 nt2 => ?_⟩
      have j8 := Same.new (o := .tup [.int 1, .int 3]) nt2
      have et2 : Tup2 (upd G7 t2 (.tup [.int 1, .int 3])) t2 1 3 := upd_same
      generalize upd G7 t2 (.tup [.int 1, .int 3]) = G8 at j8 et2
      have k68 := j7.trans j8
      have k8 := k6.trans k68
      refine ⟨1, rfl, rb, t2, b0, b1, 1, 3, -1, rfl, .inr rfl, tb.same k8, et2, pb.z.mono (by decide), zb.mono (by decide), S1, S3.mono (by decide), bn, by decide, fun r2 G9 nr2 er2 j9 => ?_⟩
      have n2 : b1 * 3 ≠ 0 := by omega
      have low2 := nf_low (t := b0 * 3 + -1 * 1 * b1) n2
      have J2 : b0 * 3 + -1 * 1 * b1 = b0 * 3 - b1 := by omega
      have sT2 : Sz 170 (nT (b0 * 3 + -1 * 1 * b1) (b1 * 3)) := (Sz.nT n2 (by rw [J2]; exact (pb.z.mul S3).sub (zb.mono (by decide)))).mono (by decide : 50 + 2 + 1 ≤ 170)
      have sB2 : Sz 170 (nB (b0 * 3 + -1 * 1 * b1) (b1 * 3)) := (Sz.nB n2 (zb.mul S3)).mono (by decide)
      refine ⟨r2, _, _, rfl, er2, by have := low2.pos; omega, sT2, sB2, fun u4 G10 nu4 vu4 j10 => ?_⟩
      intro y2 dy2 ny2 nd2 ne2
      refine ⟨y2, dy2, u3, u4, rfl, upd_same, fun G11 gy2 k11 => ⟨rfl, ?_⟩⟩
      have j11 : Same G10 G11 := Same.mk ny2 nd2 k11
      have k611 := ((k68.trans j9).trans j10).trans j11
      have eB11 := k611 _ _ eBL
      refine ⟨BL, _, _, rfl, rfl, eB11, by show 1 < sizeLine; decide, ?_⟩
      have c12 : Ch BL G11 (upd G11 BL (.lst ([.ref y1] ++ [.ref y2]))) := Ch.upd
      have eB12 := upd_same (H := G11) (a := BL) (o := .lst ([.ref y1] ++ [.ref y2]))
      generalize upd G11 BL (.lst ([.ref y1] ++ [.ref y2])) = G12 at c12 eB12
      have nBLs : ∀ {b : Addr} {o : HO}, G b = some o → b ≠ BL := fun e => ne_of_none (((k3.trans j4).trans j5) _ _ e) nBL
      have s12 : Same G G12 := fun b o e => c12 _ _ (nBLs e) (k611 _ _ (k6 _ _ e))
      have up : ∀ {b : Addr} {o : HO}, G11 b = some o → (∀ xs, o ≠ .lst xs) → G12 b = some o := fun {b o} e n => c12 _ _ (ne_of e eB11 (n _)) e
      have upN : ∀ {a : Addr} {n : Nat} {t b : Int}, NumV C G11 a n t b → NumV C G12 a n t b := fun ⟨x, y, ⟨dx, e⟩, r⟩ => ⟨x, y, ⟨dx, up e (fun _ z => by cases z)⟩, r⟩
      have upL : ∀ {l a c : Addr}, LineAt D G11 l a c → LineAt D G12 l a c := fun ⟨dx, e⟩ => ⟨dx, up e (fun _ z => by cases z)⟩
      have Ly1 : LineAt D G12 y1 u1 u2 := upL ((gy1.same j6).same k611)
      have Ly2 : LineAt D G12 y2 u3 u4 := upL gy2
      have V1 : NumV C G12 u1 170 _ _ := upN ((vu1.same k46).same k611)
      have V2 : NumV C G12 u2 170 b0 b1 := upN (((vu2.same j5).same j6).same k611)
      have V3 : NumV C G12 u3 170 a0 a1 := upN (vu3.same (((j8.trans j9).trans j10).trans j11))
      have V4 : NumV C G12 u4 170 _ _ := upN (vu4.same j11)
      -- beside + [..]
      refine ⟨_, rfl, _, rfl, ra, a0, a1, rfl, ta.same s12, an, pa.z.mono (by decide), za.mono (by decide), fun u5 G13 nu5 vu5 j13 => ?_⟩
      refine ⟨_, rfl, _, rfl, _, rfl, by show 2 ≤ sizeLine; decide, fun ab nab => ?_⟩
      have j14 := Same.new (o := .lst [.ref ra, .ref rb]) nab
      have eab := upd_same (H := G13) (a := ab) (o := .lst [.ref ra, .ref rb])
      generalize upd G13 ab (.lst [.ref ra, .ref rb]) = G14 at j14 eab
      refine ⟨by show 7 ≤ sizeLine; decide, fun rr nrr => ?_⟩
      have j15 := Same.new (o := .lst [.non, .ref u5, .int 0, .str "", .ref ra, .ref ab, .bl true]) nrr
      have err := upd_same (H := G14) (a := rr) (o := .lst [.non, .ref u5, .int 0, .str "", .ref ra, .ref ab, .bl true])
      generalize upd G14 rr (.lst [.non, .ref u5, .int 0, .str "", .ref ra, .ref ab, .bl true]) = G15 at j15 err
      have k15 := (j13.trans j14).trans j15
      refine ⟨BL, rr, _, _, rfl, rfl, k15 _ _ eB12, err, by show 9 ≤ sizeLine; decide, fun FL nFL => ?_⟩
      have j16 := Same.new (o := .lst ([.ref y1] ++ [.ref y2] ++ [.non, .ref u5, .int 0, .str "", .ref ra, .ref ab, .bl true])) nFL
      have eFL := upd_same (H := G15) (a := FL) (o := .lst ([.ref y1] ++ [.ref y2] ++ [.non, .ref u5, .int 0, .str "", .ref ra, .ref ab, .bl true]))
      generalize upd G15 FL (.lst ([.ref y1] ++ [.ref y2] ++ [.non, .ref u5, .int 0, .str "", .ref ra, .ref ab, .bl true])) = G16 at j16 eFL
      have k16 := k15.trans j16
      have s16 := s12.trans k16
      -- not any(..)
      refine ⟨_, rfl, FL, rfl, ⟨_, SqL.of eFL⟩, fun D1 hD1 => ?_⟩
      refine lcL (K := K) (a := FL) (xs := [.ref y1] ++ [.ref y2] ++ [.non, .ref u5, .int 0, .str "", .ref ra, .ref ab, .bl true]) (fun i acc H' => acc = List.replicate i (V.bl false) ∧ Same G16 H') ⟨rfl, Same.new hD1⟩ (fun i acc H' ⟨_, s⟩ => SqL.of (s _ _ eFL)) (by show 9 < sizeLine; decide) ?_ ?_
      · rintro i x Hc acc hx ⟨ha, sc'⟩ hD hl Qn kQ
        refine ⟨rfl, ?_⟩
        have s := s16.trans sc'
        have kq : Qn (.bl false) Hc := by
          refine kQ _ _ hD ⟨by rw [ha, List.replicate_succ'], fun b o e => ?_⟩
          rw [upd_ne (ne_of_none e hD1)]
          exact sc' _ _ e
        obtain ⟨q1, E1⟩ := g1.same s
        have no : ∀ {y : V} {t : Value}, TyL Hc y t → TyX K Hc y t → PySem.W.subIn K t (.ref D) = some false → t ≠ .ref D → rEqO K D (spLEq K C D) (.ref l1) y Hc Qn := fun tl tx hsub hne =>
          ⟨l1, q1, _, _, rfl, E1, tl, notFirst_of hsub, l1, x1, x2, _, a0, a1, b0, b1, rfl, ⟨q1, E1⟩, A1.same s, A2.same s, .inr ⟨_, tx, kit_no LX.ic LX.ty hsub hne, kq⟩⟩
        have line : ∀ {y v1 v2 : Addr} {t b p q : Int}, LineAt D Hc y v1 v2 → NumAt C Hc v1 t b → NumAt C Hc v2 p q → ¬ ((a0 = t ∧ a1 = b) ∧ (b0 = p ∧ b1 = q)) → rEqO K D (spLEq K C D) (.ref l1) (.ref y) Hc Qn := fun {y v1 v2 t b p q} ly h1 h2 hn => by
          obtain ⟨dy, ey⟩ := id ly
          refine ⟨l1, q1, _, _, rfl, E1, .ins ey, LT.nf, l1, x1, x2, _, a0, a1, b0, b1, rfl, ⟨q1, E1⟩, A1.same s, A2.same s, .inl ⟨y, v1, v2, t, b, p, q, rfl, ly, h1, h2, ?_⟩⟩
          rw [decide_eq_false hn]
          exact kq
        have sy := k16.trans sc'
        refine ⟨_, rfl, _, rfl, ?_⟩
        match i, hx with
        | 0, h =>
          cases Option.some.inj h
          obtain ⟨p1, p2, en, lw, _⟩ := V1.same sy
          obtain ⟨r1', r2', en2, _⟩ := V2.same sy
          refine line (Ly1.same sy) en en2 fun ⟨⟨h1, h2⟩, _⟩ => ?_
          have e1 := lw.cross
          have e2 := low1.cross
          have hp := low1.pos
          rw [← h1, ← h2] at e1
          generalize nT (a0 * 1 + 1 * 1 * a1) (a1 * 1) = T at *
          generalize nB (a0 * 1 + 1 * 1 * a1) (a1 * 1) = B' at *
          have : a1 * B' = 0 := by grind
          exact Int.mul_ne_zero an (by omega) this
        | 1, h =>
          cases Option.some.inj h
          obtain ⟨p1, p2, en, _⟩ := V3.same sy
          obtain ⟨r1', r2', en2, lw, _⟩ := V4.same sy
          refine line (Ly2.same sy) en en2 fun ⟨_, h1, h2⟩ => ?_
          have e1 := lw.cross
          have e2 := low2.cross
          have hp := low2.pos
          rw [← h1, ← h2] at e1
          generalize nT (b0 * 3 + -1 * 1 * b1) (b1 * 3) = T at *
          generalize nB (b0 * 3 + -1 * 1 * b1) (b1 * 3) = B' at *
          have : b1 * B' = 0 := by grind
          exact Int.mul_ne_zero bn (by omega) this
        | 2, h => cases Option.some.inj h; exact no .non (.base .non) LX.sN (fun z => by cases z)
        | 3, h =>
          cases Option.some.inj h
          obtain ⟨_, _, ⟨_, e⟩, _⟩ := vu5.same ((j14.trans j15).trans (j16.trans sc'))
          exact no (.ins e) (NC.ty e) LX.sC (fun z => by
            have z' : C = D := by injection z
            have := LX.sC
            rw [z'] at this
            obtain ⟨_, E1'⟩ := g1
            exact absurd this (by rw [LX.sD]; decide))
        | 4, h => cases Option.some.inj h; exact no (.int 0) (.base (.int 0)) LX.sI (fun z => by cases z)
        | 5, h => cases Option.some.inj h; exact no (.str _) (.base (.str _)) LX.sS (fun z => by cases z)
        | 6, h => cases Option.some.inj h; exact no (.tup (ta.same s)) (.base (.tup (ta.same s))) LX.sT (fun z => by cases z)
        | 7, h =>
          cases Option.some.inj h
          have e := sc' _ _ (j16 _ _ (j15 _ _ eab))
          exact no (.lst e) (.base (.lst e)) LX.sL (fun z => by cases z)
        | 8, h => cases Option.some.inj h; exact no (.bl true) (.base (.bl true)) LX.sB (fun z => by cases z)
        | n + 9, h => simp at h
      · rintro ys H2 ⟨hy, s2⟩ hD hl
        subst hy
        refine ⟨D1, List.replicate 9 false, rfl, SqL.of hD, false, rfl, ?_⟩
        exact q H2 (hpot.same (s16.trans s2)) (cc.trans (Ch.of (s16.trans s2)))
    obtain ⟨t, ht, hq⟩ := tail
    refine ⟨_, (pss_cons (ps_par (i := 1) (j := 2) (by rfl) sc.nd rfl rfl (by decide) rfl rfl (pa_cons (pe_f cD hr (by decide) rfl (pa_cons (pv 0) pa_nil)) (pa_cons (pe_f cD hr (by decide) rfl (pa_cons (pv 0) pa_nil)) pa_nil)) (by rfl)) (pss_cons (ps_par (i := 3) (j := 4) (by rfl) sc.nd rfl rfl (by decide) rfl rfl (pa_cons (pe_f cD hr (by decide) rfl (pa_cons (pv 0) pa_nil)) (pa_cons (pe_f cD hr (by decide) rfl (pa_cons (pv 0) pa_nil)) pa_nil)) (by rfl)) (pss_cons (ps_set (i := 5) sc.nd rfl (Or.inr rfl) (pe_mk mL hr (by decide) rfl (pa_cons (pe_f cM hr (by decide) rfl (pa_cons (pv 1) pa_nil)) (pa_cons (pe_f cM hr (by decide) rfl (pa_cons (pv 2) pa_nil)) pa_nil)))) (pss_cons (ps_set (i := 6) sc.nd rfl (Or.inl rfl) (pe_makeK0 MI GI (hr.mono (by decide)) rfl gL bK pass0 (pk_cons (pe_f cM hr (by decide) rfl (pa_cons (pv 4) pa_nil)) (pk_cons (pe_f cM hr (by decide) rfl (pa_cons (pv 3) pa_nil)) pk_nil)))) (pss_cons (ps_par (i := 7) (j := 8) (by rfl) sc.nd rfl rfl (by decide) rfl rfl (pa_cons (pe_op (op_own oA LT.sf hr (by decide)) (pv 5) (pv 6)) (pa_cons (pe_op (op_own oS LT.sf hr (by decide)) (pv 5) (pv 6)) pa_nil)) (by rfl)) (pss_cons (ps_if (PW.pt (pw_or (pt_not (pt_val (pe_f cI hr (by decide) rfl (pa_cons (pe_pr pA hr (by decide) (pv 5)) (pa_cons (pv 1) pa_nil))))) (pw_or1 (pt_not (pt_val (pe_f cI hr (by decide) rfl (pa_cons (pe_pr pS hr (by decide) (pv 5)) (pa_cons (pv 2) pa_nil)))))))) (pss_one (ps_ret pe_bl)) pss_nil) (pss_cons (ps_if (PW.pt (pw_or (pt_not (pt_val (pe_f cI hr (by decide) rfl (pa_cons (pe_pr pA hr (by decide) (pv 6)) (pa_cons (pv 3) pa_nil))))) (pw_or1 (pt_not (pt_val (pe_f cI hr (by decide) rfl (pa_cons (pe_pr pS hr (by decide) (pv 6)) (pa_cons (pv 4) pa_nil)))))))) (pss_one (ps_ret pe_bl)) pss_nil) (pss_cons (ps_if (PW.pt (pw_or (pt_not (pt_val (pe_callB call_isi (by rfl) B.isinstance (by decide +kernel) (pa_cons (pv 7) (pa_cons (pe_glob (v := .ref D) rfl gL rfl) pa_nil))))) (pw_or1 (pt_not (pt_val (pe_callB call_isi (by rfl) B.isinstance (by decide +kernel) (pa_cons (pv 8) (pa_cons (pe_glob (v := .ref D) rfl gL rfl) pa_nil)))))))) (pss_one (ps_ret pe_bl)) pss_nil) (pss_cons (ps_for PassesOwn.never rfl (pi_list (pe_lst (pa_cons (pe_tup (pa_cons pe_int (pa_cons pe_int pa_nil))) (pa_cons (pe_tup (pa_cons pe_int (pa_cons pe_int pa_nil))) (pa_cons (pe_tup (pa_cons pe_int (pa_cons pe_int pa_nil))) (pa_cons (pe_f cD hr (by decide) rfl (pa_cons (pv 0) pa_nil)) (pa_cons (pe_f cD hr (by decide) rfl (pa_cons (pv 0) pa_nil)) pa_nil))))))) (pg_name (i := 9) sc.nd rfl (Or.inl rfl)) (pss_cons (ps_par3 (i := 10) (j := 11) (l := 12) rfl sc.nd rfl rfl rfl (by decide) (by decide) (by decide) rfl rfl rfl (pa_cons (pe_f cM hr (by decide) rfl (pa_cons (pv 9) pa_nil)) (pa_cons (pe_f cV hr (by decide) rfl (pa_cons (pv 1) (pa_cons (pv 2) (pa_cons (pv 9) pa_nil)))) (pa_cons (pe_f cV hr (by decide) rfl (pa_cons (pv 3) (pa_cons (pv 4) (pa_cons (pv 9) pa_nil)))) pa_nil))) (by rfl)) (pss_cons (ps_set (i := 13) sc.nd rfl (Or.inl rfl) (pe_lst (pa_cons (pe_tup (pa_cons (pe_clo cC hr (by decide) (pv 5) (pa_cons (pv 10) pa_nil)) (pa_cons (pv 11) pa_nil))) (pa_cons (pe_tup (pa_cons (pe_clo cC hr (by decide) (pv 6) (pa_cons (pv 10) pa_nil)) (pa_cons (pv 12) pa_nil))) pa_nil)))) (pss_cons (ps_expr (pe_bm PySem.F.plainAttrs_list PySem.F.slot_list_append PySem.F.type_list_append mt_append (pv 13) (pa_cons (pe_tup (pa_cons (pe_clo cC hr (by decide) (pv 7) (pa_cons (pv 10) pa_nil)) (pa_cons (pe_f cJ hr (by decide) rfl (pa_cons (pv 11) (pa_cons (pv 12) (pa_cons pe_int pa_nil)))) pa_nil))) pa_nil))) (pss_cons (ps_expr (pe_bm PySem.F.plainAttrs_list PySem.F.slot_list_append PySem.F.type_list_append mt_append (pv 13) (pa_cons (pe_tup (pa_cons (pe_clo cC hr (by decide) (pv 8) (pa_cons (pv 10) pa_nil)) (pa_cons (pe_f cJ hr (by decide) rfl (pa_cons (pv 11) (pa_cons (pv 12) (pa_cons (pe_un un_neg pe_int) pa_nil)))) pa_nil))) pa_nil))) (pss_one (ps_if (pt_not (pt_val (pe_callB (cr_all rfl) (by rfl) B.all (by decide +kernel) (pa_cons (pe_lc (own := [("this", 17), ("due", 18)]) rfl sc.nd (pi_list (pv 13)) (blkOk_by (N := NRight) (sc := defScope sRight) (by decide +kernel)) (fun _ _ _ _ _ => by exact (show PG _ _ (gTup K 2 _) from (pg_tup rfl (pgs_cons (pg_name (i := 17) sc.nd rfl (Or.inl rfl)) (pgs_cons (pg_name (i := 18) sc.nd rfl (Or.inl rfl)) pgs_nil))))) (fun _ _ _ _ _ => by exact pts_nil) (fun _ _ _ _ _ => by exact (pe_f cI hr (by decide) rfl (pa_cons (pv 17) (pa_cons (pv 18) pa_nil))))) pa_nil)))) (pss_one (ps_ret pe_bl)) pss_nil))))))) (pss_cons (ps_set (i := 14) sc.nd rfl (Or.inl rfl) (pe_mk mL hr (by decide) rfl (pa_cons (pe_f cM hr (by decide) rfl (pa_cons (pv 1) pa_nil)) (pa_cons (pe_f cM hr (by decide) rfl (pa_cons (pv 2) pa_nil)) pa_nil)))) (pss_cons (ps_if (PW.pt (pw_or (pt_cmpR op_ne (pe_cmpR (op_eqO oE hr (by decide)) (pv 5) (pv 6) (nomark _)) (pe_and (pe_cmpR (op_eqD hr.units) (pv 1) (pv 3) (nomark _)) (pe_one (pe_cmpR (op_eqD hr.units) (pv 2) (pv 4) (nomark _)))) (nomark _)) (pw_or1 (pt_cmpR (op_neO NE oE hr (by decide)) (pv 5) (pv 14) (nomark _))))) (pss_one (ps_ret pe_bl)) pss_nil) ht))))))))))), ?_⟩
    have pn : ∀ {r : Addr} {H' : Hp} {n : Int}, PotAt H' p n → H' r = none → r ≠ p := fun ⟨_, _, _, e, _⟩ n z => by rw [z, e] at n; cases n
    refine ⟨_, rfl, p, m, rfl, hp, by omega, fun ra H1 a0 a1 na ea pa hp1 c1' => ?_⟩
    refine ⟨_, rfl, p, m + 4, rfl, hp1, by omega, fun rb H2 b0 b1 nb eb pb hp2 c2 => ?_⟩
    refine ⟨_, _, rfl, ?_⟩
    refine ⟨_, rfl, p, m + 4 + 4, rfl, hp2, by omega, fun rc H3 c0 c1 nc ec pc hp3 c3 => ?_⟩
    refine ⟨_, rfl, p, m + 4 + 4 + 4, rfl, hp3, by omega, fun rd H4 d0 d1 nd ed pd hp4 c4 => ?_⟩
    refine ⟨_, _, rfl, ?_⟩
    have ta : Tup2 H4 ra a0 a1 := c4 _ _ (pn hp na) (c3 _ _ (pn hp na) (c2 _ _ (pn hp na) ea))
    have tb : Tup2 H4 rb b0 b1 := c4 _ _ (pn hp1 nb) (c3 _ _ (pn hp1 nb) eb)
    have tc : Tup2 H4 rc c0 c1 := c4 _ _ (pn hp2 nc) ec
    have td : Tup2 H4 rd d0 d1 := ed
    have cc : Ch p H H4 := ((c1'.trans c2).trans c3).trans c4
    have nap := pn hp na
    have nbp := pn hp1 nb
    have ncp := pn hp2 nc
    have ndp := pn hp3 nd
    have hpot : PotAt H4 p (m + 16) := hp4.mono (by omega)
    clear ea eb ec ed hp1 hp2 hp3 hp4 c1' c2 c3 c4 na nb nc nd
    have za := pa.zb
    have zb := pb.zb
    have zc := pc.zb
    have zd := pd.zb
    have an := pa.ne
    have bn := pb.ne
    have cn := pc.ne
    have dn := pd.ne
    -- first
    refine ⟨_, rfl, ra, a0, a1, rfl, ta, an, pa.z.mono (by decide), za.mono (by decide), fun x1 H6 nx1 v1 s6 => ?_⟩
    refine ⟨_, rfl, rb, b0, b1, rfl, tb.same s6, bn, pb.z.mono (by decide), zb.mono (by decide), fun x2 H7 nx2 v2 s7 => ?_⟩
    intro l1 dl1 nl1 nd1 ne1
    refine ⟨l1, dl1, x1, x2, rfl, upd_same, fun H8 hl1 k8 => ⟨rfl, ?_⟩⟩
    have s8 : Same H7 H8 := Same.mk nl1 nd1 k8
    have s48 : Same H4 H8 := (s6.trans s7).trans s8
    -- second
    refine ⟨_, rfl, rd, d0, d1, rfl, td.same s48, dn, pd.z.mono (by decide), zd.mono (by decide), fun x4 H9 nx4 v4 s9 => ?_⟩
    refine ⟨_, rfl, rc, c0, c1, rfl, (tc.same s48).same s9, cn, pc.z.mono (by decide), zc.mono (by decide), fun x3 H10 nx3 v3 s10 => ?_⟩
    refine ⟨rfl, rfl, ?_⟩
    intro l2 dl2 nl2 nd2 ne2
    refine ⟨l2, dl2, x3, x4, rfl, upd_same, fun H11 hl2 k11 => ⟨rfl, ?_⟩⟩
    have s11 : Same H10 H11 := Same.mk nl2 nd2 k11
    have s8b : Same H8 H11 := (s9.trans s10).trans s11
    have s4b : Same H4 H11 := s48.trans s8b
    have w1 : NumV C H11 x1 170 a0 a1 := ((v1.same s7).same s8).same s8b
    have w2 : NumV C H11 x2 170 b0 b1 := (v2.same s8).same s8b
    have w3 : NumV C H11 x3 170 c0 c1 := v3.same s11
    have w4 : NumV C H11 x4 170 d0 d1 := (v4.same s10).same s11
    have g1 : LineAt D H11 l1 x1 x2 := hl1.same s8b
    have g2 : LineAt D H11 l2 x3 x4 := hl2
    clear v1 v2 v3 v4 hl1 hl2 k8 k11
    -- more, less
    obtain ⟨q1, e1⟩ := id g1
    obtain ⟨q2, e2⟩ := id g2
    refine ⟨_, rfl, _, rfl, l1, q1, _, l2, q2, _, rfl, e1, rfl, e2, l1, l2, x1, x2, x3, x4, a0, a1, b0, b1, c0, c1, d0, d1, rfl, g1, g2, w1.mono (by decide), w2.mono (by decide), w3.mono (by decide), w4.mono (by decide), an, bn, cn, dn, fun lm um vm H12 nm gm um' vm' s12 => ?_⟩
    refine ⟨_, rfl, _, rfl, l1, q1, _, l2, q2, _, rfl, s12 _ _ e1, rfl, s12 _ _ e2, l1, l2, x1, x2, x3, x4, a0, a1, b0, b1, c0, c1, d0, d1, rfl, g1.same s12, g2.same s12, (w1.same s12).mono (by decide), (w2.same s12).mono (by decide), (w3.same s12).mono (by decide), (w4.same s12).mono (by decide), an, bn, cn, dn, fun ll ul vl H13 nl gl ul' vl' s13 => ?_⟩
    refine ⟨_, _, rfl, ?_⟩
    have s11b := s12.trans s13
    have s4c : Same H4 H13 := s4b.trans s11b
    replace w1 := w1.same s11b
    replace w2 := w2.same s11b
    replace w3 := w3.same s11b
    replace w4 := w4.same s11b
    replace g1 := g1.same s11b
    replace g2 := g2.same s11b
    replace gm := gm.same s13
    replace um' := um'.same s13
    replace vm' := vm'.same s13
    replace e1 := s11b _ _ e1
    replace e2 := s11b _ _ e2
    replace ta := ta.same s4c
    replace tb := tb.same s4c
    replace tc := tc.same s4c
    replace td := td.same s4c
    -- base and slope of both
    refine ⟨_, rfl, l1, q1, _, rfl, e1, l1, x1, x2, rfl, g1, _, rfl, x1, ra, a0, a1, rfl, num_red w1 pa, ta, fun H14 s14 => ⟨true, rfl, iteF ?_⟩⟩
    refine ⟨_, rfl, l1, q1, _, rfl, s14 _ _ e1, l1, x1, x2, rfl, g1.same s14, _, rfl, x2, rb, b0, b1, rfl, num_red (w2.same s14) pb, tb.same s14, fun H15 s15 => ⟨true, rfl, iteF ?_⟩⟩
    have t15 := s14.trans s15
    refine ⟨_, rfl, l2, q2, _, rfl, t15 _ _ e2, l2, x3, x4, rfl, g2.same t15, _, rfl, x3, rc, c0, c1, rfl, num_red (w3.same t15) pc, tc.same t15, fun H16 s16 => ⟨true, rfl, iteF ?_⟩⟩
    have t16 := t15.trans s16
    refine ⟨_, rfl, l2, q2, _, rfl, t16 _ _ e2, l2, x3, x4, rfl, g2.same t16, _, rfl, x4, rd, d0, d1, rfl, num_red (w4.same t16) pd, td.same t16, fun H17 s17 => ⟨true, rfl, iteF ?_⟩⟩
    have t17 := t16.trans s17
    obtain ⟨qm, em⟩ := gm.same t17
    obtain ⟨ql, el⟩ := gl.same t17
    refine ⟨_, rfl, _, _, _, _, true, rfl, .own D, LC.ty LT em, kit_self _, true, rfl, iteF ?_⟩
    refine ⟨_, rfl, _, _, _, _, true, rfl, .own D, LC.ty LT el, kit_self _, true, rfl, iteF ?_⟩
    replace w1 := w1.same t17
    replace w2 := w2.same t17
    replace w3 := w3.same t17
    replace w4 := w4.same t17
    replace g1 := g1.same t17
    replace g2 := g2.same t17
    replace gm := gm.same t17
    replace um' := um'.same t17
    replace vm' := vm'.same t17
    replace gl := gl.same t17
    replace ul' := ul'.same t17
    replace vl' := vl'.same t17
    replace e1 := t17 _ _ e1
    replace e2 := t17 _ _ e2
    replace ta := ta.same t17
    replace tb := tb.same t17
    replace tc := tc.same t17
    replace td := td.same t17
    replace s4c := s4c.trans t17
    clear s14 s15 s16 s17 t15 t16 t17 s12 s13 s11b s4b s8b s48 s6 s7 s8 s9 s10 s11
    -- the places
    refine ⟨by show 2 ≤ sizeLine; decide, fun r1 n1 => ?_⟩
    refine ⟨by show 2 ≤ sizeLine; decide, fun r2 n2 => ?_⟩
    refine ⟨by show 2 ≤ sizeLine; decide, fun r3 n3 => ?_⟩
    have z1 := Same.new (o := .tup [.int 0, .int 1]) n1
    have z2 := Same.new (o := .tup [.int 1, .int 1]) n2
    have z3 := Same.new (o := .tup [.int 1, .int 2]) n3
    have zz := (z1.trans z2).trans z3
    have y1 := z3 _ _ (z2 _ _ (upd_same (H := H17) (a := r1) (o := .tup [.int 0, .int 1])))
    have y2 := z3 _ _ (upd_same (H := upd H17 r1 (.tup [.int 0, .int 1])) (a := r2) (o := .tup [.int 1, .int 1]))
    have y3 : (upd (upd (upd H17 r1 (.tup [.int 0, .int 1])) r2 (.tup [.int 1, .int 1])) r3 (.tup [.int 1, .int 2])) r3 = _ := upd_same
    generalize upd (upd (upd H17 r1 (.tup [.int 0, .int 1])) r2 (.tup [.int 1, .int 1])) r3 (.tup [.int 1, .int 2]) = H18 at y1 y2 y3 zz
    clear z1 z2 z3 n1 n2 n3
    have s18 : Same H4 H18 := s4c.trans zz
    refine ⟨_, rfl, p, m + 16, rfl, hpot.same s18, by omega, fun r4 H19 f0 f1 n4 y4 p4 hp5 c5 => ?_⟩
    refine ⟨_, rfl, p, m + 16 + 4, rfl, hp5, by omega, fun r5 H20 h0 h1 n5 y5 p5 hp6 c6 => ?_⟩
    refine ⟨by show 5 ≤ sizeLine; decide, fun rl nrl => ?_⟩
    have notp : ∀ {b : Addr} {o : HO}, H18 b = some o → (∀ x y z, o ≠ .lst [.int x, .int y, .int z]) → b ≠ p := fun {b o} e n z => by
      obtain ⟨x, y, w, e', _⟩ := hpot.same s18
      rw [z, e'] at e
      exact n x y w (Option.some.inj e).symm
    have lift : ∀ {b : Addr} {o : HO}, H18 b = some o → (∀ x y z, o ≠ .lst [.int x, .int y, .int z]) → (upd H20 rl (.lst [.ref r1, .ref r2, .ref r3, .ref r4, .ref r5])) b = some o := fun {b o} e n =>
      (Same.new nrl) _ _ (c6 _ _ (notp e n) (c5 _ _ (notp e n) e))
    have l17 : ∀ {b : Addr} {o : HO}, H17 b = some o → (∀ x y z, o ≠ .lst [.int x, .int y, .int z]) → (upd H20 rl (.lst [.ref r1, .ref r2, .ref r3, .ref r4, .ref r5])) b = some o := fun e n => lift (zz _ _ e) n
    have r4p : r4 ≠ p := pn (hpot.same s18) n4
    have r5p : r5 ≠ p := pn hp5 n5
    have Y1 : Tup2 (upd H20 rl (.lst [.ref r1, .ref r2, .ref r3, .ref r4, .ref r5])) r1 0 1 := lift y1 (fun _ _ _ z => by cases z)
    have Y2 : Tup2 (upd H20 rl (.lst [.ref r1, .ref r2, .ref r3, .ref r4, .ref r5])) r2 1 1 := lift y2 (fun _ _ _ z => by cases z)
    have Y3 : Tup2 (upd H20 rl (.lst [.ref r1, .ref r2, .ref r3, .ref r4, .ref r5])) r3 1 2 := lift y3 (fun _ _ _ z => by cases z)
    have Y4 : Tup2 (upd H20 rl (.lst [.ref r1, .ref r2, .ref r3, .ref r4, .ref r5])) r4 f0 f1 := (Same.new nrl) _ _ (c6 _ _ r4p y4)
    have Y5 : Tup2 (upd H20 rl (.lst [.ref r1, .ref r2, .ref r3, .ref r4, .ref r5])) r5 h0 h1 := (Same.new nrl) _ _ y5
    have liftN : ∀ {a : Addr} {n : Nat} {t b : Int}, NumV C H17 a n t b → NumV C (upd H20 rl (.lst [.ref r1, .ref r2, .ref r3, .ref r4, .ref r5])) a n t b := fun ⟨x, y, ⟨dx, e⟩, r⟩ => ⟨x, y, ⟨dx, l17 e (fun _ _ _ z => by cases z)⟩, r⟩
    have liftL : ∀ {l a c : Addr}, LineAt D H17 l a c → LineAt D (upd H20 rl (.lst [.ref r1, .ref r2, .ref r3, .ref r4, .ref r5])) l a c := fun ⟨dx, e⟩ => ⟨dx, l17 e (fun _ _ _ z => by cases z)⟩
    have liftT : ∀ {r : Addr} {t b : Int}, Tup2 H17 r t b → Tup2 (upd H20 rl (.lst [.ref r1, .ref r2, .ref r3, .ref r4, .ref r5])) r t b := fun e => l17 e (fun _ _ _ z => by cases z)
    replace w1 := liftN w1
    replace w2 := liftN w2
    replace w3 := liftN w3
    replace w4 := liftN w4
    replace um' := liftN um'
    replace vm' := liftN vm'
    replace ul' := liftN ul'
    replace vl' := liftN vl'
    replace g1 := liftL g1
    replace g2 := liftL g2
    replace gm := liftL gm
    replace gl := liftL gl
    replace ta := liftT ta
    replace tb := liftT tb
    replace tc := liftT tc
    replace td := liftT td
    have hpot2 : PotAt (upd H20 rl (.lst [.ref r1, .ref r2, .ref r3, .ref r4, .ref r5])) p (m + 24) := (hp6.same (Same.new nrl)).mono (by omega)
    have cc2 : Ch p H (upd H20 rl (.lst [.ref r1, .ref r2, .ref r3, .ref r4, .ref r5])) := ((cc.trans (Ch.of s18)).trans (c5.trans c6)).trans (Ch.new nrl)
    have yl : (upd H20 rl (.lst [.ref r1, .ref r2, .ref r3, .ref r4, .ref r5])) rl = some (.lst [.ref r1, .ref r2, .ref r3, .ref r4, .ref r5]) := upd_same
    clear liftN liftL liftT l17 lift notp
    generalize upd H20 rl (.lst [.ref r1, .ref r2, .ref r3, .ref r4, .ref r5]) = G at *
    clear e1 e2 em el
    have R1 : RPair 0 1 := ⟨by unfold Sz; decide, by decide, by decide, by decide⟩
    have R2 : RPair 1 1 := ⟨by unfold Sz; decide, by decide, by decide, by decide⟩
    have R3 : RPair 1 2 := ⟨by unfold Sz; decide, by decide, by decide, by decide⟩
    refine ⟨rl, rfl, ⟨_, SqL.of yl⟩, for_list (K := K) (a := rl) (xs := [.ref r1, .ref r2, .ref r3, .ref r4, .ref r5]) (fun i σ H' => ∃ o1 o2 o3 o4 o5, σ = [some (.ref p), some (.ref ra), some (.ref rb), some (.ref rc), some (.ref rd), some (.ref l1), some (.ref l2), some (.ref lm), some (.ref ll), o1, o2, o3, o4, o5, none, none, none, none, none] ∧ Same G H')
      ⟨_, _, _, _, _, rfl, Same.refl _⟩ (fun i σ H' _ ⟨_, _, _, _, _, _, s⟩ => SqL.of (s _ _ yl)) ?_ ?_⟩
    · rintro i x σ H' hi ⟨_, _, _, _, _, rfl, s0⟩
      have hx : ∃ (r : Addr) (k0 k1 : Int), x = .ref r ∧ Tup2 H' r k0 k1 ∧ RPair k0 k1 := by
        match i, hi with
        | 0, h => exact ⟨r1, _, _, (Option.some.inj h).symm, Y1.same s0, R1⟩
        | 1, h => exact ⟨r2, _, _, (Option.some.inj h).symm, Y2.same s0, R2⟩
        | 2, h => exact ⟨r3, _, _, (Option.some.inj h).symm, Y3.same s0, R3⟩
        | 3, h => exact ⟨r4, _, _, (Option.some.inj h).symm, Y4.same s0, p4⟩
        | 4, h => exact ⟨r5, _, _, (Option.some.inj h).symm, Y5.same s0, p5⟩
        | n + 5, h => simp at h
      obtain ⟨r, k0, k1, rfl, er, pr⟩ := hx
      have kn := pr.ne
      have zk := pr.zb
      -- spot, one, two
      refine ⟨_, rfl, r, k0, k1, rfl, er, kn, pr.z.mono (by decide), zk.mono (by decide), fun sp J1 nsp vsp j1 => ?_⟩
      refine ⟨_, rfl, _, rfl, _, rfl, ra, rb, r, a0, a1, b0, b1, k0, k1, rfl, (ta.same s0).same j1, (tb.same s0).same j1, er.same j1, pa, pb, pr, fun o1 J2 no1 eo1 j2 => ?_⟩
      have s02 := (s0.trans j1).trans j2
      refine ⟨_, rfl, _, rfl, _, rfl, rc, rd, r, c0, c1, d0, d1, k0, k1, rfl, tc.same s02, td.same s02, (er.same j1).same j2, pc, pd, pr, fun o2 J3 no2 eo2 j3 => ?_⟩
      refine ⟨_, _, _, rfl, ?_⟩
      have s03 := s02.trans j3
      have vs3 : NumV C J3 sp 400 k0 k1 := ((vsp.same j2).same j3).mono (by decide)
      have eo1' := eo1.same j3
      -- told
      obtain ⟨_, E1⟩ := g1.same s03
      refine ⟨_, rfl, l1, rfl, _, rfl, ⟨_, _, E1⟩, l1, x1, x2, sp, a0, a1, b0, b1, k0, k1, rfl, g1.same s03, (w1.same s03).mono (by decide), (w2.same s03).mono (by decide), vs3, an, bn, kn, fun f1' J4 nf1 vf1 j4 => ?_⟩
      refine ⟨_, rfl, by show 2 ≤ sizeLine; decide, fun t1 nt1 => ?_⟩
      have j5 := Same.new (o := .tup [.ref f1', .ref o1]) nt1
      have et1 := upd_same (H := J4) (a := t1) (o := .tup [.ref f1', .ref o1])
      generalize upd J4 t1 (.tup [.ref f1', .ref o1]) = J5 at j5 et1
      have s05 := (s03.trans j4).trans j5
      obtain ⟨_, E2⟩ := g2.same s05
      refine ⟨_, rfl, l2, rfl, _, rfl, ⟨_, _, E2⟩, l2, x3, x4, sp, c0, c1, d0, d1, k0, k1, rfl, g2.same s05, (w3.same s05).mono (by decide), (w4.same s05).mono (by decide), (vs3.same j4).same j5, cn, dn, kn, fun f2' J6 nf2 vf2 j6 => ?_⟩
      refine ⟨_, rfl, by show 2 ≤ sizeLine; decide, fun t2 nt2 => ?_⟩
      have j7 := Same.new (o := .tup [.ref f2', .ref o2]) nt2
      have et2 := upd_same (H := J6) (a := t2) (o := .tup [.ref f2', .ref o2])
      generalize upd J6 t2 (.tup [.ref f2', .ref o2]) = J7 at j7 et2
      refine ⟨by show 2 ≤ sizeLine; decide, fun T nT => ?_⟩
      have j8 := Same.new (o := .lst [.ref t1, .ref t2]) nT
      have eT := upd_same (H := J7) (a := T) (o := .lst [.ref t1, .ref t2])
      generalize upd J7 T (.lst [.ref t1, .ref t2]) = J8 at j8 eT
      have j68 := (j6.trans j7).trans j8
      have s38 : Same J3 J8 := ((j4.trans j5).trans j68)
      have s08 := s03.trans s38
      -- told.append((more(spot), ..))
      obtain ⟨_, E3⟩ := gm.same s08
      refine ⟨_, rfl, .inl ⟨rfl, _, SqL.of eT⟩, ?_⟩
      have mn1 : a1 * c1 ≠ 0 := Int.mul_ne_zero an cn
      have mn2 : b1 * d1 ≠ 0 := Int.mul_ne_zero bn dn
      refine ⟨_, rfl, lm, rfl, _, rfl, ⟨_, _, E3⟩, lm, um, vm, sp, _, _, _, _, k0, k1, rfl, gm.same s08, um'.same s08, vm'.same s08, vs3.same s38, mn1, mn2, kn, fun f3 J9 nf3 vf3 j9 => ?_⟩
      have uB1 : vB a1 b1 k1 ≠ 0 := Int.mul_ne_zero (Int.mul_ne_zero an bn) kn
      have uB2 : vB c1 d1 k1 ≠ 0 := Int.mul_ne_zero (Int.mul_ne_zero cn dn) kn
      have zT1 : Sz 120 (vT a0 a1 b0 b1 k0 k1) := (Sz.add (((pa.z.mul zb).mul zk).mono (by decide : 50 + 6 + 6 ≤ 106)) ((pb.z.mul pr.z).mul za)).mono (by decide)
      have zT2 : Sz 120 (vT c0 c1 d0 d1 k0 k1) := (Sz.add (((pc.z.mul zd).mul zk).mono (by decide : 50 + 6 + 6 ≤ 106)) ((pd.z.mul pr.z).mul zc)).mono (by decide)
      have zB1 : Sz 120 (vB a1 b1 k1) := ((za.mul zb).mul zk).mono (by decide)
      have zB2 : Sz 120 (vB c1 d1 k1) := ((zc.mul zd).mul zk).mono (by decide)
      have lo1 := nf_low (t := vT a0 a1 b0 b1 k0 k1) uB1
      have lo2 := nf_low (t := vT c0 c1 d0 d1 k0 k1) uB2
      have on1 : nB (vT a0 a1 b0 b1 k0 k1) (vB a1 b1 k1) ≠ 0 := by have := lo1.pos; omega
      have on2 : nB (vT c0 c1 d0 d1 k0 k1) (vB c1 d1 k1) ≠ 0 := by have := lo2.pos; omega
      refine ⟨_, rfl, _, rfl, o1, o2, _, _, _, _, 1, rfl, .inl rfl, (eo1'.same s38).same j9, (eo2.same s38).same j9, zT1.nT uB1, zB1.nB uB1, zT2.nT uB2, zB2.nB uB2, on1, on2, fun o3 J10 no3 eo3 j10 => ?_⟩
      refine ⟨by show 2 ≤ sizeLine; decide, fun t3 nt3 => ?_⟩
      have j11 := Same.new (o := .tup [.ref f3, .ref o3]) nt3
      have et3 := upd_same (H := J10) (a := t3) (o := .tup [.ref f3, .ref o3])
      generalize upd J10 t3 (.tup [.ref f3, .ref o3]) = J11 at j11 et3
      have s811 := (j9.trans j10).trans j11
      have eT11 := s811 _ _ eT
      refine ⟨T, _, _, rfl, rfl, eT11, by show 2 < sizeLine; decide, ?_⟩
      -- told.append((less(spot), ..))
      have cT1 : Ch T J11 (upd J11 T (.lst ([.ref t1, .ref t2] ++ [.ref t3]))) := Ch.upd
      have eT12 := upd_same (H := J11) (a := T) (o := .lst ([.ref t1, .ref t2] ++ [.ref t3]))
      generalize upd J11 T (.lst ([.ref t1, .ref t2] ++ [.ref t3])) = J12 at cT1 eT12
      have nl : ∀ {b : Addr} {o : HO}, J11 b = some o → (∀ xs, o ≠ .lst xs) → J12 b = some o := fun {b o} e n => cT1 _ _ (ne_of e eT11 (n _)) e
      have liftN : ∀ {a : Addr} {n : Nat} {t b : Int}, NumV C J11 a n t b → NumV C J12 a n t b := fun ⟨x, y, ⟨dx, e⟩, r⟩ => ⟨x, y, ⟨dx, nl e (fun _ z => by cases z)⟩, r⟩
      have liftL : ∀ {l a c : Addr}, LineAt D J11 l a c → LineAt D J12 l a c := fun ⟨dx, e⟩ => ⟨dx, nl e (fun _ z => by cases z)⟩
      have s011 := s08.trans s811
      have s311 := s38.trans s811
      obtain ⟨_, E4⟩ := liftL (gl.same s011)
      refine ⟨_, rfl, .inl ⟨rfl, _, SqL.of eT12⟩, ?_⟩
      refine ⟨_, rfl, ll, rfl, _, rfl, ⟨_, _, E4⟩, ll, ul, vl, sp, _, _, _, _, k0, k1, rfl, liftL (gl.same s011), liftN (ul'.same s011), liftN (vl'.same s011), liftN (vs3.same s311), mn1, mn2, kn, fun f4 J13 nf4 vf4 j13 => ?_⟩
      have eo1b : Tup2 J12 o1 _ _ := nl (eo1'.same s311) (fun _ z => by cases z)
      have eo2b : Tup2 J12 o2 _ _ := nl (eo2.same s311) (fun _ z => by cases z)
      refine ⟨_, rfl, _, rfl, _, rfl, o1, o2, _, _, _, _, -1, rfl, .inr rfl, eo1b.same j13, eo2b.same j13, zT1.nT uB1, zB1.nB uB1, zT2.nT uB2, zB2.nB uB2, on1, on2, fun o4 J14 no4 eo4 j14 => ?_⟩
      refine ⟨by show 2 ≤ sizeLine; decide, fun t4 nt4 => ?_⟩
      have j15 := Same.new (o := .tup [.ref f4, .ref o4]) nt4
      have et4 := upd_same (H := J14) (a := t4) (o := .tup [.ref f4, .ref o4])
      generalize upd J14 t4 (.tup [.ref f4, .ref o4]) = J15 at j15 et4
      have s1215 := (j13.trans j14).trans j15
      have eT15 := s1215 _ _ eT12
      refine ⟨T, _, _, rfl, rfl, eT15, by show 3 < sizeLine; decide, ?_⟩
      have cT2 : Ch T J15 (upd J15 T (.lst ([.ref t1, .ref t2] ++ [.ref t3] ++ [.ref t4]))) := Ch.upd
      have eT16 := upd_same (H := J15) (a := T) (o := .lst ([.ref t1, .ref t2] ++ [.ref t3] ++ [.ref t4]))
      generalize upd J15 T (.lst ([.ref t1, .ref t2] ++ [.ref t3] ++ [.ref t4])) = J16 at cT2 eT16
      have nl2 : ∀ {b : Addr} {o : HO}, J15 b = some o → (∀ xs, o ≠ .lst xs) → J16 b = some o := fun {b o} e n => cT2 _ _ (ne_of e eT15 (n _)) e
      have nl3 : ∀ {b : Addr} {o : HO}, J11 b = some o → (∀ xs, o ≠ .lst xs) → J16 b = some o := fun e n => nl2 (s1215 _ _ (nl e n)) n
      have up : ∀ {a : Addr} {t b : Int}, NumAt C J11 a t b → NumAt C J16 a t b := fun ⟨dx, e⟩ => ⟨dx, nl3 e (fun _ z => by cases z)⟩
      have up2 : ∀ {a : Addr} {t b : Int}, NumAt C J15 a t b → NumAt C J16 a t b := fun ⟨dx, e⟩ => ⟨dx, nl2 e (fun _ z => by cases z)⟩
      have upT : ∀ {a b c : Addr}, J11 a = some (.tup [.ref b, .ref c]) → J16 a = some (.tup [.ref b, .ref c]) := fun e => nl3 e (fun _ z => by cases z)
      have upP : ∀ {a : Addr} {t b : Int}, Tup2 J11 a t b → Tup2 J16 a t b := fun e => nl3 e (fun _ z => by cases z)
      have m1 : b1 * k1 ≠ 0 := Int.mul_ne_zero bn kn
      have m2 : d1 * k1 ≠ 0 := Int.mul_ne_zero dn kn
      have m3 : (b1 * d1) * k1 ≠ 0 := Int.mul_ne_zero mn2 kn
      have jn : nB (vT a0 a1 b0 b1 k0 k1) (vB a1 b1 k1) * nB (vT c0 c1 d0 d1 k0 k1) (vB c1 d1 k1) ≠ 0 := Int.mul_ne_zero on1 on2
      have q1 := num_of (T := vT a0 a1 b0 b1 k0 k1) (B := vB a1 b1 k1) vf1 (Int.mul_ne_zero an m1) uB1 (by unfold vT vB; grind)
      have q2 := num_of (T := vT c0 c1 d0 d1 k0 k1) (B := vB c1 d1 k1) vf2 (Int.mul_ne_zero cn m2) uB2 (by unfold vT vB; grind)
      have q3 := num_of vf3 (Int.mul_ne_zero mn1 m3) jn (joint_eq lo1.cross lo2.cross uB1 uB2 (line_joint _ _ _ _ _ _ _ _ _ _ 1))
      have q4 := num_of vf4 (Int.mul_ne_zero mn1 m3) jn (joint_eq lo1.cross lo2.cross uB1 uB2 (line_joint _ _ _ _ _ _ _ _ _ _ (-1)))
      have s8_11 := s811
      have item : ∀ {i : Nat} {x : V}, ([.ref t1, .ref t2] ++ [.ref t3] ++ [.ref t4] : List V)[i]? = some x → ∃ (t g o : Addr) (u v : Int), x = .ref t ∧ J16 t = some (.tup [.ref g, .ref o]) ∧ NumAt C J16 g u v ∧ Tup2 J16 o u v := fun {i x} h => by
        match i, h with
        | 0, h => exact ⟨t1, f1', o1, _, _, (Option.some.inj h).symm, upT (s811 _ _ (j68 _ _ et1)), up (((q1.same j5).same j68).same s811), upP (eo1'.same s311)⟩
        | 1, h => exact ⟨t2, f2', o2, _, _, (Option.some.inj h).symm, upT (s811 _ _ (j8 _ _ et2)), up (((q2.same j7).same j8).same s811), upP (eo2.same s311)⟩
        | 2, h => exact ⟨t3, f3, o3, _, _, (Option.some.inj h).symm, upT et3, up ((q3.same j10).same j11), upP (eo3.same j11)⟩
        | 3, h => exact ⟨t4, f4, o4, _, _, (Option.some.inj h).symm, nl2 et4 (fun _ z => by cases z), up2 ((q4.same j14).same j15), nl2 (eo4.same j15) (fun _ z => by cases z)⟩
        | n + 4, h => simp at h
      have nTs : ∀ {b : Addr} {o : HO}, G b = some o → b ≠ T := fun e => ne_of_none (((((s03.trans j4).trans j5).trans j6).trans j7) _ _ e) nT
      have sG : Same G J16 := fun b o e => cT2 _ _ (nTs e) (s1215 _ _ (cT1 _ _ (nTs e) (s011 _ _ e)))
      -- all(..)
      refine ⟨_, rfl, T, rfl, ⟨_, SqL.of eT16⟩, fun D1 hD1 => ?_⟩
      refine lcL (K := K) (a := T) (xs := [.ref t1, .ref t2] ++ [.ref t3] ++ [.ref t4]) (fun i acc H' => acc = List.replicate i (V.bl true) ∧ Same J16 H') ⟨rfl, Same.new hD1⟩ (fun i acc H' ⟨_, s⟩ => SqL.of (s _ _ eT16)) (by show 4 < sizeLine; decide) ?_ ?_
      · rintro i x Hc acc hx ⟨ha, sc'⟩ hD hl Qn kQ
        obtain ⟨t, g, o, u, v, rfl, et, eg, eo⟩ := item hx
        refine ⟨t, _, rfl, SqT.of (sc' _ _ et), rfl, _, _, rfl, _, _, rfl, rfl, rfl, ?_⟩
        refine ⟨_, rfl, _, rfl, g, o, u, v, rfl, eg.same sc', eo.same sc', fun H2 s2 => ?_⟩
        refine kQ _ _ (s2 _ _ hD) ⟨by rw [ha, List.replicate_succ'], fun b o e => ?_⟩
        rw [upd_ne (ne_of_none e hD1)]
        exact s2 _ _ (sc' _ _ e)
      · rintro ys H2 ⟨hy, s2⟩ hD hl
        subst hy
        refine ⟨D1, List.replicate 4 true, rfl, SqL.of hD, true, rfl, ifF rfl ?_⟩
        exact ⟨_, _, _, _, _, rfl, sG.trans s2⟩
    · rintro σ H' ⟨_, _, _, _, _, rfl, s0⟩
      -- again
      refine ⟨_, rfl, ra, a0, a1, rfl, ta.same s0, an, pa.z.mono (by decide), za.mono (by decide), fun x5 J1 nx5 v5 j1 => ?_⟩
      refine ⟨_, rfl, rb, b0, b1, rfl, (tb.same s0).same j1, bn, pb.z.mono (by decide), zb.mono (by decide), fun x6 J2 nx6 v6 j2 => ?_⟩
      intro l3 dl3 nl3 nd3 ne3
      refine ⟨l3, dl3, x5, x6, rfl, upd_same, fun J3 g3 k3 => ⟨rfl, ?_⟩⟩
      have j3 : Same J2 J3 := Same.mk nl3 nd3 k3
      have s3 := ((s0.trans j1).trans j2).trans j3
      have A1 := num_red (w1.same s3) pa
      have A2 := num_red (w2.same s3) pb
      have A3 := num_red (w3.same s3) pc
      have A4 := num_red (w4.same s3) pd
      obtain ⟨m1, E1⟩ := g1.same s3
      obtain ⟨m2, E2⟩ := g2.same s3
      refine ⟨_, rfl, _, rfl, l1, m1, _, _, rfl, E1, .ins E2, LT.nf, l1, x1, x2, .ref l2, a0, a1, b0, b1, rfl, ⟨m1, E1⟩, A1, A2, .inl ⟨l2, x3, x4, c0, c1, d0, d1, rfl, ⟨m2, E2⟩, A3, A4, ?_⟩⟩
      refine ⟨_, rfl, _, rfl, .tuple [.int a0, .int a1], .tuple [.int c0, .int c1], .tup (SqT.of (ta.same s3)) (dp2 _ _), .tup (SqT.of (tc.same s3)) (dp2 _ _), rfl, rfl, _, rfl, ?_⟩
      rw [eqvD]
      obtain ⟨m3, E3⟩ := id g3
      have A5 := num_red ((v5.same j2).same j3) pa
      have A6 := num_red (v6.same j3) pb
      by_cases h1 : a0 = c0 ∧ a1 = c1
      · refine ifT (decide_eq_true h1) ⟨_, rfl, _, rfl, .tuple [.int b0, .int b1], .tuple [.int d0, .int d1], .tup (SqT.of (tb.same s3)) (dp2 _ _), .tup (SqT.of (td.same s3)) (dp2 _ _), rfl, rfl, rfl, _, rfl, ifF (by rw [eqvD]; simp [h1]) ?_⟩
        refine ⟨_, rfl, _, rfl, l1, m1, _, _, rfl, E1, .ins E3, LT.nf, l1, x1, x2, .ref l3, a0, a1, b0, b1, rfl, ⟨m1, E1⟩, A1, A2, .inl ⟨l3, x5, x6, a0, a1, b0, b1, rfl, ⟨m3, E3⟩, A5, A6, _, rfl, _, rfl, ifF (by simp) ?_⟩⟩
        exact hq ra rb l1 x1 x2 a0 a1 b0 b1 _ _ _ _ _ _ _ _ _ _ _ J3 (ta.same s3) (tb.same s3) pa pb ⟨m1, E1⟩ A1 A2 (hpot2.same s3) (cc2.trans (Ch.of s3))
      · refine ifF (decide_eq_false h1) ⟨rfl, _, rfl, ifF (by simp [h1]) ?_⟩
        refine ⟨_, rfl, _, rfl, l1, m1, _, _, rfl, E1, .ins E3, LT.nf, l1, x1, x2, .ref l3, a0, a1, b0, b1, rfl, ⟨m1, E1⟩, A1, A2, .inl ⟨l3, x5, x6, a0, a1, b0, b1, rfl, ⟨m3, E3⟩, A5, A6, _, rfl, _, rfl, ifF (by simp) ?_⟩⟩
        exact hq ra rb l1 x1 x2 a0 a1 b0 b1 _ _ _ _ _ _ _ _ _ _ _ J3 (ta.same s3) (tb.same s3) pa pb ⟨m1, E1⟩ A1 A2 (hpot2.same s3) (cc2.trans (Ch.of s3))
end
end Ws

namespace Ws
open PySem PySem.Spec PyProof.Rows L2
section
variable {P : Program} {w : World} {K : PySem.W.Frag} {mg : Str → Option Value} {base : Heap} {f : Addr} {fd : FuncData}
theorem ok_law (F : L2.Fun K "law" "law" sLaw f fd) (B : Bi mg) (cP : CalF P w K mg base 1 "_law_pot" (spPot K)) (cR : CalF P w K mg base 6 "_law_is_right" spRight) : FnOk P w K mg base CX0 7 f fd PLaw (spLaw K) := by
  refine F.ok scLaw (fun vs H Q E h => ?_) (fun cdv A outer s H vs Q E hr h => ?_)
  · obtain ⟨a, ns, rfl, _⟩ := h
    rfl
  · have sc := scLaw
    obtain ⟨a, ns, rfl, hS, hlen, q⟩ := h
    refine ⟨_, (pss_cons (ps_for PassesOwn.never rfl (pi_range1 (by rfl) B.range (pa_cons (pe_callB (call_max2 rfl) (by rfl) B.max (by decide +kernel) (pa_cons pe_int (pa_cons (pe_callB (call_min2 rfl) (by rfl) B.min (by decide +kernel) (pa_cons pe_int (pa_cons (pe_callB call_len_seq (by rfl) B.len PySem.boot_len (pa_cons (pv 0) pa_nil)) pa_nil))) pa_nil))) pa_nil)) (pg_name (i := 1) sc.nd rfl (Or.inl rfl)) (pss_cons (ps_set (i := 2) sc.nd rfl (Or.inr rfl) (pe_f cP hr (by decide) rfl (pa_cons (pv 0) (pa_cons (pv 1) pa_nil)))) (pss_one (ps_if (pt_not (pt_val (pe_callB (cr_all rfl) (by rfl) B.all (by decide +kernel) (pa_cons (pe_lc (own := [("turn", 3)]) rfl sc.nd (pi_range1 (by rfl) B.range (pa_cons pe_int pa_nil)) (blkOk_by (N := NLaw) (sc := defScope sLaw) (by decide +kernel)) (fun _ _ _ _ _ => by exact (pg_name (i := 3) sc.nd rfl (Or.inl rfl))) (fun _ _ _ _ _ => by exact pts_nil) (fun _ _ _ _ _ => by exact (pe_f cR hr (by decide) rfl (pa_cons (pv 2) pa_nil)))) pa_nil)))) (pss_one (ps_ret pe_bl)) pss_nil)))) (pss_one (ps_ret pe_bl))), ?_⟩
    refine ⟨_, rfl, a, _, rfl, .inl hS, _, _, rfl, _, _, rfl, ?_⟩
    generalize hn : (if (if ((ns.map V.int).length : Int) < 3 then ((ns.map V.int).length : Int) else 3) > 1 then (if ((ns.map V.int).length : Int) < 3 then ((ns.map V.int).length : Int) else 3) else 1) = n
    have hn3 : n ≤ 3 ∧ 0 ≤ n := by
      rw [← hn]
      split <;> split <;> omega
    refine ⟨n, rfl, by omega, by omega, for_range (n := n.toNat) (fun i σ H' => ∃ x y, σ = [some (.ref a), x, y, none] ∧ SqL K H' a (ns.map V.int)) ⟨_, _, rfl, hS⟩ ?_ ?_⟩
    · rintro i σ H0 hi ⟨_, _, rfl, hS0⟩
      rw [Int.zero_add]
      refine ⟨_, rfl, _, rfl, a, ns, i, rfl, hS0, by omega, fun p H1 np hp s1 => ?_⟩
      refine ⟨6, rfl, by decide, by decide, fun D hD => ?_⟩
      have npD : p ≠ D := by obtain ⟨_, _, _, e, _⟩ := hp; exact ne_of_none e hD
      refine lcR (lo := 0) (n := 6) (fun j acc H' => acc = List.replicate j (V.bl true) ∧ PotAt H' p (24 * j) ∧ Same H0 H') ⟨rfl, ?_, s1.trans (Same.new hD)⟩ (by decide) ?_ ?_
      · exact hp.same (Same.new hD)
      · rintro j H acc hj ⟨ha, hpj, sj⟩ hDj hl Qn kQ
        refine ⟨rfl, _, rfl, p, 24 * (j : Int), rfl, hpj, by omega, fun H' hp' ch => ?_⟩
        have nD0 : ∀ {b : Addr} {o : HO}, H0 b = some o → b ≠ D := fun e => ne_of_none (s1 _ _ e) hD
        refine kQ _ _ (ch _ _ npD.symm hDj) ⟨?_, ?_, fun b o e => ?_⟩
        · rw [ha, List.replicate_succ']
        · obtain ⟨x, y, z, e, r1, r2, r3, r4, r5⟩ := hp'
          exact ⟨x, y, z, (upd_ne npD).trans e, r1, r2, r3, r4, by omega⟩
        · exact (upd_ne (nD0 e)).trans (ch _ _ (ne_of_none e np) (sj _ _ e))
      · rintro ys H2 ⟨hy, hp2, s2⟩ hD2 hl
        subst hy
        refine ⟨D, List.replicate 6 true, rfl, SqL.of hD2, true, rfl, ifF rfl ?_⟩
        exact ⟨_, _, rfl, L2.Same.seq s2 hS0⟩
    · rintro σ H' ⟨_, _, rfl, _⟩
      exact q H'
end
theorem all_mk {l : PySem.W.OpenLaw} {w : World} {K : PySem.W.Frag} {h : Heap} {mg : Str → Option Value} {fa : Addr} (X : K.In h) (G : h.Ns mainGlobals mg) (hfa : mg "law" = some (.ref fa)) {C : Addr} {D : Addr} {fWhole : Addr} {odWhole anWhole : Option Addr} {slWhole : Array (Option Value)} {ocWhole kVWhole dcWhole pmWhole cdWhole ctWhole : Value} {fNum : Addr} {odNum anNum : Option Addr} {slNum : Array (Option Value)} {ocNum kVNum dcNum pmNum cdNum ctNum : Value} {TNum : Addr} {oTNum : Obj} {nT : Nat} {tkT : Tok} {pNTop fNTop : Addr} {rNTop : List Value} {odNTop anNTop : Option Addr} {slNTop : Array (Option Value)} {ocNTop kVNTop dcNTop pmNTop cdNTop ctNTop : Value} {pNBot fNBot : Addr} {rNBot : List Value} {odNBot anNBot : Option Addr} {slNBot : Array (Option Value)} {ocNBot kVNBot dcNBot pmNBot cdNBot ctNBot : Value} {fNEq : Addr} {odNEq anNEq : Option Addr} {slNEq : Array (Option Value)} {ocNEq kVNEq dcNEq pmNEq cdNEq ctNEq : Value} {fNBool : Addr} {odNBool anNBool : Option Addr} {slNBool : Array (Option Value)} {ocNBool kVNBool dcNBool pmNBool cdNBool ctNBool : Value} {fNAdd : Addr} {odNAdd anNAdd : Option Addr} {slNAdd : Array (Option Value)} {ocNAdd kVNAdd dcNAdd pmNAdd cdNAdd ctNAdd : Value} {fNSub : Addr} {odNSub anNSub : Option Addr} {slNSub : Array (Option Value)} {ocNSub kVNSub dcNSub pmNSub cdNSub ctNSub : Value} {fNMul : Addr} {odNMul anNMul : Option Addr} {slNMul : Array (Option Value)} {ocNMul kVNMul dcNMul pmNMul cdNMul ctNMul : Value} {fLine : Addr} {odLine anLine : Option Addr} {slLine : Array (Option Value)} {ocLine kVLine dcLine pmLine cdLine ctLine : Value} {fLCall : Addr} {odLCall anLCall : Option Addr} {slLCall : Array (Option Value)} {ocLCall kVLCall dcLCall pmLCall cdLCall ctLCall : Value} {pLBase fLBase : Addr} {rLBase : List Value} {odLBase anLBase : Option Addr} {slLBase : Array (Option Value)} {ocLBase kVLBase dcLBase pmLBase cdLBase ctLBase : Value} {pLSlope fLSlope : Addr} {rLSlope : List Value} {odLSlope anLSlope : Option Addr} {slLSlope : Array (Option Value)} {ocLSlope kVLSlope dcLSlope pmLSlope cdLSlope ctLSlope : Value} {fLEq : Addr} {odLEq anLEq : Option Addr} {slLEq : Array (Option Value)} {ocLEq kVLEq dcLEq pmLEq cdLEq ctLEq : Value} {fLAdd : Addr} {odLAdd anLAdd : Option Addr} {slLAdd : Array (Option Value)} {ocLAdd kVLAdd dcLAdd pmLAdd cdLAdd ctLAdd : Value} {fLSub : Addr} {odLSub anLSub : Option Addr} {slLSub : Array (Option Value)} {ocLSub kVLSub dcLSub pmLSub cdLSub ctLSub : Value} {nmD qD : Str} {ND : Addr} {bsD bmD : List Value} {hdD : Bool} {snD : List Str} {subD : List Value} {abD : Bool} {colD : Option Bool} {ddD : Option Addr} {m0D m1D m2D m3D m5D : Option Value} {nidD : String} {fPot : Addr} {odPot anPot : Option Addr} {slPot : Array (Option Value)} {ocPot kVPot dcPot pmPot cdPot ctPot : Value} {fTake : Addr} {odTake anTake : Option Addr} {slTake : Array (Option Value)} {ocTake kVTake dcTake pmTake cdTake ctTake : Value} {fOf : Addr} {odOf anOf : Option Addr} {slOf : Array (Option Value)} {ocOf kVOf dcOf pmOf cdOf ctOf : Value} {fLeast : Addr} {odLeast anLeast : Option Addr} {slLeast : Array (Option Value)} {ocLeast kVLeast dcLeast pmLeast cdLeast ctLeast : Value} {fDrawn : Addr} {odDrawn anDrawn : Option Addr} {slDrawn : Array (Option Value)} {ocDrawn kVDrawn dcDrawn pmDrawn cdDrawn ctDrawn : Value} {fMade : Addr} {odMade anMade : Option Addr} {slMade : Array (Option Value)} {ocMade kVMade dcMade pmMade cdMade ctMade : Value} {fIsNum : Addr} {odIsNum anIsNum : Option Addr} {slIsNum : Array (Option Value)} {ocIsNum kVIsNum dcIsNum pmIsNum cdIsNum ctIsNum : Value} {fLVal : Addr} {odLVal anLVal : Option Addr} {slLVal : Array (Option Value)} {ocLVal kVLVal dcLVal pmLVal cdLVal ctLVal : Value} {fJoint : Addr} {odJoint anJoint : Option Addr} {slJoint : Array (Option Value)} {ocJoint kVJoint dcJoint pmJoint cdJoint ctJoint : Value} {fRight : Addr} {odRight anRight : Option Addr} {slRight : Array (Option Value)} {ocRight kVRight dcRight pmRight cdRight ctRight : Value} {fLaw : Addr} {odLaw anLaw : Option Addr} {slLaw : Array (Option Value)} {ocLaw kVLaw dcLaw pmLaw cdLaw ctLaw : Value} (g_C : PySem.W.nsIn K mainGlobals "Number" = some (some (.ref C))) (pg_C : PySem.W.plainGet K C Str.empty = true) (hd_C : PySem.W.hasDictIn K C = true) (po_C : PySem.W.plainOver K C = true) (sa_C : PySem.W.findIn K (.ref C) "__setattr__" = some (some (.builtin "object.__setattr__"))) (mk_C : PySem.W.makesIn K C = true) (kc_C : PySem.W.keepIn K (.ref C) = true) (n_top_C : PySem.W.findIn K (.ref C) "_top" = some none) (n_bottom_C : PySem.W.findIn K (.ref C) "_bottom" = some none) (ha_C : PySem.W.findIn K (.ref C) "__class__" = some (some (.builtin "object.__class__"))) (hn_C : PySem.W.specialIn K (.builtin "object.__class__") "__get__" = some (some (.builtin "getset_descriptor.__get__"))) (htk_C : PySem.W.takesIn K (.builtin "object.__class__") = some true) (hm_C : PySem.W.mroIn K C (.type "object") = some true) (sf_C : PySem.W.selfFirst K C = true) (nf_C : PySem.W.notFirst K C (.ref C) = true) (g_D : PySem.W.nsIn K mainGlobals "Line" = some (some (.ref D))) (pg_D : PySem.W.plainGet K D Str.empty = true) (hd_D : PySem.W.hasDictIn K D = true) (po_D : PySem.W.plainOver K D = true) (sa_D : PySem.W.findIn K (.ref D) "__setattr__" = some (some (.builtin "object.__setattr__"))) (mk_D : PySem.W.makesIn K D = true) (kc_D : PySem.W.keepIn K (.ref D) = true) (n_base_D : PySem.W.findIn K (.ref D) "_base" = some none) (n_slope_D : PySem.W.findIn K (.ref D) "_slope" = some none) (ha_D : PySem.W.findIn K (.ref D) "__class__" = some (some (.builtin "object.__class__"))) (hn_D : PySem.W.specialIn K (.builtin "object.__class__") "__get__" = some (some (.builtin "getset_descriptor.__get__"))) (htk_D : PySem.W.takesIn K (.builtin "object.__class__") = some true) (hm_D : PySem.W.mroIn K D (.type "object") = some true) (sf_D : PySem.W.selfFirst K D = true) (nf_D : PySem.W.notFirst K D (.ref D) = true) (gcd : PySem.W.nsIn K mainGlobals "gcd" = some (some (.builtin "math.gcd"))) (g_fWhole : PySem.W.nsIn K mainGlobals "is_whole" = some (some (.ref fWhole))) (l_Whole : K.lookup fWhole = some ⟨ocWhole, odWhole, .func (PySem.W.fnOf "is_whole" "is_whole" (defArgs sWhole) (defBody sWhole) (defScope sWhole) .none kVWhole dcWhole pmWhole anWhole cdWhole ctWhole), slWhole⟩) (c_Whole : PySem.W.codeIn K cdWhole "is_whole" = true) (k_Whole : PySem.W.keepIn K (.ref fWhole) = true) (a_Num : PySem.W.findIn K (.ref C) "__init__" = some (some (.ref fNum))) (i_Num : PySem.W.isFn K (.ref fNum) = true) (l_Num : K.lookup fNum = some ⟨ocNum, odNum, .func (PySem.W.fnOf "__init__" "Number.__init__" (defArgs sNum) (defBody sNum) (defScope sNum) (.ref TNum) kVNum dcNum pmNum anNum cdNum ctNum), slNum⟩) (c_Num : PySem.W.codeIn K cdNum "Number.__init__" = true) (k_Num : PySem.W.keepIn K (.ref fNum) = true) (lT : K.lookup TNum = some oTNum) (dT : oTNum.data = .seq #[.int 1 tkT] nT) (a_NTop : PySem.W.findIn K (.ref C) "top" = some (some (.ref pNTop))) (g_NTop : PySem.W.specialIn K (.ref pNTop) "__get__" = some (some (.builtin "property.__get__"))) (t_NTop : PySem.W.takesIn K (.ref pNTop) = some true) (r_NTop : PySem.W.recIn K pNTop "property" = some (.ref fNTop :: rNTop)) (l_NTop : K.lookup fNTop = some ⟨ocNTop, odNTop, .func (PySem.W.fnOf "top" "Number.top" (defArgs sNTop) (defBody sNTop) (defScope sNTop) .none kVNTop dcNTop pmNTop anNTop cdNTop ctNTop), slNTop⟩) (c_NTop : PySem.W.codeIn K cdNTop "Number.top" = true) (k_NTop : PySem.W.keepIn K (.ref fNTop) = true) (a_NBot : PySem.W.findIn K (.ref C) "bottom" = some (some (.ref pNBot))) (g_NBot : PySem.W.specialIn K (.ref pNBot) "__get__" = some (some (.builtin "property.__get__"))) (t_NBot : PySem.W.takesIn K (.ref pNBot) = some true) (r_NBot : PySem.W.recIn K pNBot "property" = some (.ref fNBot :: rNBot)) (l_NBot : K.lookup fNBot = some ⟨ocNBot, odNBot, .func (PySem.W.fnOf "bottom" "Number.bottom" (defArgs sNBot) (defBody sNBot) (defScope sNBot) .none kVNBot dcNBot pmNBot anNBot cdNBot ctNBot), slNBot⟩) (c_NBot : PySem.W.codeIn K cdNBot "Number.bottom" = true) (k_NBot : PySem.W.keepIn K (.ref fNBot) = true) (a_NEq : PySem.W.findIn K (.ref C) "__eq__" = some (some (.ref fNEq))) (i_NEq : PySem.W.isFn K (.ref fNEq) = true) (l_NEq : K.lookup fNEq = some ⟨ocNEq, odNEq, .func (PySem.W.fnOf "__eq__" "Number.__eq__" (defArgs sNEq) (defBody sNEq) (defScope sNEq) .none kVNEq dcNEq pmNEq anNEq cdNEq ctNEq), slNEq⟩) (c_NEq : PySem.W.codeIn K cdNEq "Number.__eq__" = true) (k_NEq : PySem.W.keepIn K (.ref fNEq) = true) (a_NBool : PySem.W.findIn K (.ref C) "__bool__" = some (some (.ref fNBool))) (i_NBool : PySem.W.isFn K (.ref fNBool) = true) (l_NBool : K.lookup fNBool = some ⟨ocNBool, odNBool, .func (PySem.W.fnOf "__bool__" "Number.__bool__" (defArgs sNBool) (defBody sNBool) (defScope sNBool) .none kVNBool dcNBool pmNBool anNBool cdNBool ctNBool), slNBool⟩) (c_NBool : PySem.W.codeIn K cdNBool "Number.__bool__" = true) (k_NBool : PySem.W.keepIn K (.ref fNBool) = true) (a_NAdd : PySem.W.findIn K (.ref C) "__add__" = some (some (.ref fNAdd))) (i_NAdd : PySem.W.isFn K (.ref fNAdd) = true) (l_NAdd : K.lookup fNAdd = some ⟨ocNAdd, odNAdd, .func (PySem.W.fnOf "__add__" "Number.__add__" (defArgs sNAdd) (defBody sNAdd) (defScope sNAdd) .none kVNAdd dcNAdd pmNAdd anNAdd cdNAdd ctNAdd), slNAdd⟩) (c_NAdd : PySem.W.codeIn K cdNAdd "Number.__add__" = true) (k_NAdd : PySem.W.keepIn K (.ref fNAdd) = true) (a_NSub : PySem.W.findIn K (.ref C) "__sub__" = some (some (.ref fNSub))) (i_NSub : PySem.W.isFn K (.ref fNSub) = true) (l_NSub : K.lookup fNSub = some ⟨ocNSub, odNSub, .func (PySem.W.fnOf "__sub__" "Number.__sub__" (defArgs sNSub) (defBody sNSub) (defScope sNSub) .none kVNSub dcNSub pmNSub anNSub cdNSub ctNSub), slNSub⟩) (c_NSub : PySem.W.codeIn K cdNSub "Number.__sub__" = true) (k_NSub : PySem.W.keepIn K (.ref fNSub) = true) (a_NMul : PySem.W.findIn K (.ref C) "__mul__" = some (some (.ref fNMul))) (i_NMul : PySem.W.isFn K (.ref fNMul) = true) (l_NMul : K.lookup fNMul = some ⟨ocNMul, odNMul, .func (PySem.W.fnOf "__mul__" "Number.__mul__" (defArgs sNMul) (defBody sNMul) (defScope sNMul) .none kVNMul dcNMul pmNMul anNMul cdNMul ctNMul), slNMul⟩) (c_NMul : PySem.W.codeIn K cdNMul "Number.__mul__" = true) (k_NMul : PySem.W.keepIn K (.ref fNMul) = true) (a_Line : PySem.W.findIn K (.ref D) "__init__" = some (some (.ref fLine))) (i_Line : PySem.W.isFn K (.ref fLine) = true) (l_Line : K.lookup fLine = some ⟨ocLine, odLine, .func (PySem.W.fnOf "__init__" "Line.__init__" (defArgs sLine) (defBody sLine) (defScope sLine) .none kVLine dcLine pmLine anLine cdLine ctLine), slLine⟩) (c_Line : PySem.W.codeIn K cdLine "Line.__init__" = true) (k_Line : PySem.W.keepIn K (.ref fLine) = true) (a_LCall : PySem.W.findIn K (.ref D) "__call__" = some (some (.ref fLCall))) (i_LCall : PySem.W.isFn K (.ref fLCall) = true) (l_LCall : K.lookup fLCall = some ⟨ocLCall, odLCall, .func (PySem.W.fnOf "__call__" "Line.__call__" (defArgs sLCall) (defBody sLCall) (defScope sLCall) .none kVLCall dcLCall pmLCall anLCall cdLCall ctLCall), slLCall⟩) (c_LCall : PySem.W.codeIn K cdLCall "Line.__call__" = true) (k_LCall : PySem.W.keepIn K (.ref fLCall) = true) (fi_LCall : PySem.W.fnIn K fLCall = true) (a_LBase : PySem.W.findIn K (.ref D) "base" = some (some (.ref pLBase))) (g_LBase : PySem.W.specialIn K (.ref pLBase) "__get__" = some (some (.builtin "property.__get__"))) (t_LBase : PySem.W.takesIn K (.ref pLBase) = some true) (r_LBase : PySem.W.recIn K pLBase "property" = some (.ref fLBase :: rLBase)) (l_LBase : K.lookup fLBase = some ⟨ocLBase, odLBase, .func (PySem.W.fnOf "base" "Line.base" (defArgs sLBase) (defBody sLBase) (defScope sLBase) .none kVLBase dcLBase pmLBase anLBase cdLBase ctLBase), slLBase⟩) (c_LBase : PySem.W.codeIn K cdLBase "Line.base" = true) (k_LBase : PySem.W.keepIn K (.ref fLBase) = true) (a_LSlope : PySem.W.findIn K (.ref D) "slope" = some (some (.ref pLSlope))) (g_LSlope : PySem.W.specialIn K (.ref pLSlope) "__get__" = some (some (.builtin "property.__get__"))) (t_LSlope : PySem.W.takesIn K (.ref pLSlope) = some true) (r_LSlope : PySem.W.recIn K pLSlope "property" = some (.ref fLSlope :: rLSlope)) (l_LSlope : K.lookup fLSlope = some ⟨ocLSlope, odLSlope, .func (PySem.W.fnOf "slope" "Line.slope" (defArgs sLSlope) (defBody sLSlope) (defScope sLSlope) .none kVLSlope dcLSlope pmLSlope anLSlope cdLSlope ctLSlope), slLSlope⟩) (c_LSlope : PySem.W.codeIn K cdLSlope "Line.slope" = true) (k_LSlope : PySem.W.keepIn K (.ref fLSlope) = true) (a_LEq : PySem.W.findIn K (.ref D) "__eq__" = some (some (.ref fLEq))) (i_LEq : PySem.W.isFn K (.ref fLEq) = true) (l_LEq : K.lookup fLEq = some ⟨ocLEq, odLEq, .func (PySem.W.fnOf "__eq__" "Line.__eq__" (defArgs sLEq) (defBody sLEq) (defScope sLEq) .none kVLEq dcLEq pmLEq anLEq cdLEq ctLEq), slLEq⟩) (c_LEq : PySem.W.codeIn K cdLEq "Line.__eq__" = true) (k_LEq : PySem.W.keepIn K (.ref fLEq) = true) (a_LAdd : PySem.W.findIn K (.ref D) "__add__" = some (some (.ref fLAdd))) (i_LAdd : PySem.W.isFn K (.ref fLAdd) = true) (l_LAdd : K.lookup fLAdd = some ⟨ocLAdd, odLAdd, .func (PySem.W.fnOf "__add__" "Line.__add__" (defArgs sLAdd) (defBody sLAdd) (defScope sLAdd) .none kVLAdd dcLAdd pmLAdd anLAdd cdLAdd ctLAdd), slLAdd⟩) (c_LAdd : PySem.W.codeIn K cdLAdd "Line.__add__" = true) (k_LAdd : PySem.W.keepIn K (.ref fLAdd) = true) (a_LSub : PySem.W.findIn K (.ref D) "__sub__" = some (some (.ref fLSub))) (i_LSub : PySem.W.isFn K (.ref fLSub) = true) (l_LSub : K.lookup fLSub = some ⟨ocLSub, odLSub, .func (PySem.W.fnOf "__sub__" "Line.__sub__" (defArgs sLSub) (defBody sLSub) (defScope sLSub) .none kVLSub dcLSub pmLSub anLSub cdLSub ctLSub), slLSub⟩) (c_LSub : PySem.W.codeIn K cdLSub "Line.__sub__" = true) (k_LSub : PySem.W.keepIn K (.ref fLSub) = true) (ne_D : PySem.W.findIn K (.ref D) "__ne__" = some (some (.builtin "object.__ne__"))) (xL_D : K.lookup D = some (excClassObj nmD qD D ND bsD bmD hdD snD subD abD colD ddD m0D m1D m2D m3D m5D nidD)) (bm_D : bmD.contains (.type "object") = true) (ic_D : PySem.W.isClsIn K D = true) (ty_D : PySem.W.typeIn K (.ref D) = some (.type "type")) (sN_D : PySem.W.subIn K (.type "NoneType") (.ref D) = some false) (sI_D : PySem.W.subIn K (.type "int") (.ref D) = some false) (sS_D : PySem.W.subIn K (.type "str") (.ref D) = some false) (sT_D : PySem.W.subIn K (.type "tuple") (.ref D) = some false) (sL_D : PySem.W.subIn K (.type "list") (.ref D) = some false) (sB_D : PySem.W.subIn K (.type "bool") (.ref D) = some false) (sC_D : PySem.W.subIn K (.ref C) (.ref D) = some false) (sD_D : PySem.W.subIn K (.ref D) (.ref D) = some true) (g_fPot : PySem.W.nsIn K mainGlobals "_law_pot" = some (some (.ref fPot))) (l_Pot : K.lookup fPot = some ⟨ocPot, odPot, .func (PySem.W.fnOf "_law_pot" "_law_pot" (defArgs sPot) (defBody sPot) (defScope sPot) .none kVPot dcPot pmPot anPot cdPot ctPot), slPot⟩) (c_Pot : PySem.W.codeIn K cdPot "_law_pot" = true) (k_Pot : PySem.W.keepIn K (.ref fPot) = true) (g_fTake : PySem.W.nsIn K mainGlobals "_law_take" = some (some (.ref fTake))) (l_Take : K.lookup fTake = some ⟨ocTake, odTake, .func (PySem.W.fnOf "_law_take" "_law_take" (defArgs sTake) (defBody sTake) (defScope sTake) .none kVTake dcTake pmTake anTake cdTake ctTake), slTake⟩) (c_Take : PySem.W.codeIn K cdTake "_law_take" = true) (k_Take : PySem.W.keepIn K (.ref fTake) = true) (g_fOf : PySem.W.nsIn K mainGlobals "_law_of" = some (some (.ref fOf))) (l_Of : K.lookup fOf = some ⟨ocOf, odOf, .func (PySem.W.fnOf "_law_of" "_law_of" (defArgs sOf) (defBody sOf) (defScope sOf) .none kVOf dcOf pmOf anOf cdOf ctOf), slOf⟩) (c_Of : PySem.W.codeIn K cdOf "_law_of" = true) (k_Of : PySem.W.keepIn K (.ref fOf) = true) (g_fLeast : PySem.W.nsIn K mainGlobals "_law_least" = some (some (.ref fLeast))) (l_Least : K.lookup fLeast = some ⟨ocLeast, odLeast, .func (PySem.W.fnOf "_law_least" "_law_least" (defArgs sLeast) (defBody sLeast) (defScope sLeast) .none kVLeast dcLeast pmLeast anLeast cdLeast ctLeast), slLeast⟩) (c_Least : PySem.W.codeIn K cdLeast "_law_least" = true) (k_Least : PySem.W.keepIn K (.ref fLeast) = true) (g_fDrawn : PySem.W.nsIn K mainGlobals "_law_drawn" = some (some (.ref fDrawn))) (l_Drawn : K.lookup fDrawn = some ⟨ocDrawn, odDrawn, .func (PySem.W.fnOf "_law_drawn" "_law_drawn" (defArgs sDrawn) (defBody sDrawn) (defScope sDrawn) .none kVDrawn dcDrawn pmDrawn anDrawn cdDrawn ctDrawn), slDrawn⟩) (c_Drawn : PySem.W.codeIn K cdDrawn "_law_drawn" = true) (k_Drawn : PySem.W.keepIn K (.ref fDrawn) = true) (g_fMade : PySem.W.nsIn K mainGlobals "_law_made" = some (some (.ref fMade))) (l_Made : K.lookup fMade = some ⟨ocMade, odMade, .func (PySem.W.fnOf "_law_made" "_law_made" (defArgs sMade) (defBody sMade) (defScope sMade) .none kVMade dcMade pmMade anMade cdMade ctMade), slMade⟩) (c_Made : PySem.W.codeIn K cdMade "_law_made" = true) (k_Made : PySem.W.keepIn K (.ref fMade) = true) (g_fIsNum : PySem.W.nsIn K mainGlobals "_law_is_number" = some (some (.ref fIsNum))) (l_IsNum : K.lookup fIsNum = some ⟨ocIsNum, odIsNum, .func (PySem.W.fnOf "_law_is_number" "_law_is_number" (defArgs sIsNum) (defBody sIsNum) (defScope sIsNum) .none kVIsNum dcIsNum pmIsNum anIsNum cdIsNum ctIsNum), slIsNum⟩) (c_IsNum : PySem.W.codeIn K cdIsNum "_law_is_number" = true) (k_IsNum : PySem.W.keepIn K (.ref fIsNum) = true) (g_fLVal : PySem.W.nsIn K mainGlobals "_law_value" = some (some (.ref fLVal))) (l_LVal : K.lookup fLVal = some ⟨ocLVal, odLVal, .func (PySem.W.fnOf "_law_value" "_law_value" (defArgs sLVal) (defBody sLVal) (defScope sLVal) .none kVLVal dcLVal pmLVal anLVal cdLVal ctLVal), slLVal⟩) (c_LVal : PySem.W.codeIn K cdLVal "_law_value" = true) (k_LVal : PySem.W.keepIn K (.ref fLVal) = true) (g_fJoint : PySem.W.nsIn K mainGlobals "_law_joint" = some (some (.ref fJoint))) (l_Joint : K.lookup fJoint = some ⟨ocJoint, odJoint, .func (PySem.W.fnOf "_law_joint" "_law_joint" (defArgs sJoint) (defBody sJoint) (defScope sJoint) .none kVJoint dcJoint pmJoint anJoint cdJoint ctJoint), slJoint⟩) (c_Joint : PySem.W.codeIn K cdJoint "_law_joint" = true) (k_Joint : PySem.W.keepIn K (.ref fJoint) = true) (g_fRight : PySem.W.nsIn K mainGlobals "_law_is_right" = some (some (.ref fRight))) (l_Right : K.lookup fRight = some ⟨ocRight, odRight, .func (PySem.W.fnOf "_law_is_right" "_law_is_right" (defArgs sRight) (defBody sRight) (defScope sRight) .none kVRight dcRight pmRight anRight cdRight ctRight), slRight⟩) (c_Right : PySem.W.codeIn K cdRight "_law_is_right" = true) (k_Right : PySem.W.keepIn K (.ref fRight) = true) (g_fLaw : PySem.W.nsIn K mainGlobals "law" = some (some (.ref fLaw))) (l_Law : K.lookup fLaw = some ⟨ocLaw, odLaw, .func (PySem.W.fnOf "law" "law" (defArgs sLaw) (defBody sLaw) (defScope sLaw) .none kVLaw dcLaw pmLaw anLaw cdLaw ctLaw), slLaw⟩) (c_Law : PySem.W.codeIn K cdLaw "law" = true) (k_Law : PySem.W.keepIn K (.ref fLaw) = true) (z_len : PySem.W.nsIn K mainGlobals "len" = some none) (z_abs : PySem.W.nsIn K mainGlobals "abs" = some none) (z_int : PySem.W.nsIn K mainGlobals "int" = some none) (z_bool : PySem.W.nsIn K mainGlobals "bool" = some none) (z_max : PySem.W.nsIn K mainGlobals "max" = some none) (z_min : PySem.W.nsIn K mainGlobals "min" = some none) (z_range : PySem.W.nsIn K mainGlobals "range" = some none) (z_all : PySem.W.nsIn K mainGlobals "all" = some none) (z_any : PySem.W.nsIn K mainGlobals "any" = some none) (z_isinstance : PySem.W.nsIn K mainGlobals "isinstance" = some none) :
    ∃ fd : FuncData, (∀ (s : Shared) (v : Value), BindsTo s fd ⟨[v], []⟩ [("script", v)]) ∧ ∀ base : Heap, K.In base → base.Ns mainGlobals mg → FnOk l.prog w K mg base CX0 7 fa fd ["script"] (spLaw K) := by
  have e := hfa.symm.trans (PySem.W.mg_of X G g_fLaw)
  cases e
  have mgo : ∀ {x : Str} {v : Value}, PySem.W.nsIn K mainGlobals x = some (some v) → mg x = some v := fun e => PySem.W.mg_of X G e
  have B : Bi mg := ⟨PySem.W.mg_none_of X G z_len, PySem.W.mg_none_of X G z_abs, PySem.W.mg_none_of X G z_int, PySem.W.mg_none_of X G z_bool, PySem.W.mg_none_of X G z_max, PySem.W.mg_none_of X G z_min, PySem.W.mg_none_of X G z_range, PySem.W.mg_none_of X G z_all, PySem.W.mg_none_of X G z_any, PySem.W.mg_none_of X G z_isinstance⟩
  have clC : Cls K C := ⟨pg_C, hd_C, po_C, sa_C⟩
  have NC : NumC K C := ⟨clC, n_top_C, n_bottom_C, ha_C, hn_C, htk_C, hm_C, kit_self _, sf_C, nf_C⟩
  have clD : Cls K D := ⟨pg_D, hd_D, po_D, sa_D⟩
  have LC : LineC K D := ⟨clD, n_base_D, n_slope_D⟩
  have LT : LineT K D := ⟨ha_D, hn_D, htk_D, hm_D, sf_D, nf_D⟩
  have LX : LineX K C D := ⟨ic_D, ty_D, sN_D, sI_D, sS_D, sT_D, sL_D, sB_D, sC_D, sD_D⟩
  have NE : NeC K D := ⟨ne_D, _, _, _, _, _, _, _, _, _, _, _, _, _, _, _, _, _, xL_D, bm_D⟩
  have FWhole := L2.fun_mk (st := sWhole) l_Whole c_Whole k_Whole
  have FNTop := L2.fun_mk (st := sNTop) l_NTop c_NTop k_NTop
  have FNBot := L2.fun_mk (st := sNBot) l_NBot c_NBot k_NBot
  have FNEq := L2.fun_mk (st := sNEq) l_NEq c_NEq k_NEq
  have FNBool := L2.fun_mk (st := sNBool) l_NBool c_NBool k_NBool
  have FNAdd := L2.fun_mk (st := sNAdd) l_NAdd c_NAdd k_NAdd
  have FNSub := L2.fun_mk (st := sNSub) l_NSub c_NSub k_NSub
  have FNMul := L2.fun_mk (st := sNMul) l_NMul c_NMul k_NMul
  have FLine := L2.fun_mk (st := sLine) l_Line c_Line k_Line
  have FLCall := L2.fun_mk (st := sLCall) l_LCall c_LCall k_LCall
  have FLBase := L2.fun_mk (st := sLBase) l_LBase c_LBase k_LBase
  have FLSlope := L2.fun_mk (st := sLSlope) l_LSlope c_LSlope k_LSlope
  have FLEq := L2.fun_mk (st := sLEq) l_LEq c_LEq k_LEq
  have FLAdd := L2.fun_mk (st := sLAdd) l_LAdd c_LAdd k_LAdd
  have FLSub := L2.fun_mk (st := sLSub) l_LSub c_LSub k_LSub
  have FPot := L2.fun_mk (st := sPot) l_Pot c_Pot k_Pot
  have FTake := L2.fun_mk (st := sTake) l_Take c_Take k_Take
  have FOf := L2.fun_mk (st := sOf) l_Of c_Of k_Of
  have FLeast := L2.fun_mk (st := sLeast) l_Least c_Least k_Least
  have FDrawn := L2.fun_mk (st := sDrawn) l_Drawn c_Drawn k_Drawn
  have FMade := L2.fun_mk (st := sMade) l_Made c_Made k_Made
  have FIsNum := L2.fun_mk (st := sIsNum) l_IsNum c_IsNum k_IsNum
  have FLVal := L2.fun_mk (st := sLVal) l_LVal c_LVal k_LVal
  have FJoint := L2.fun_mk (st := sJoint) l_Joint c_Joint k_Joint
  have FRight := L2.fun_mk (st := sRight) l_Right c_Right k_Right
  have FLaw := L2.fun_mk (st := sLaw) l_Law c_Law k_Law
  have bWhole := FWhole.binds (ps := PWhole) fun _ _ _ _ _ _ us hl => match us, hl with | [_], _ => rfl
  have bNTop := FNTop.binds (ps := PNTop) fun _ _ _ _ _ _ us hl => match us, hl with | [_], _ => rfl
  have bNBot := FNBot.binds (ps := PNBot) fun _ _ _ _ _ _ us hl => match us, hl with | [_], _ => rfl
  have bNEq := FNEq.binds (ps := PNEq) fun _ _ _ _ _ _ us hl => match us, hl with | [_, _], _ => rfl
  have bNBool := FNBool.binds (ps := PNBool) fun _ _ _ _ _ _ us hl => match us, hl with | [_], _ => rfl
  have bNAdd := FNAdd.binds (ps := PNAdd) fun _ _ _ _ _ _ us hl => match us, hl with | [_, _], _ => rfl
  have bNSub := FNSub.binds (ps := PNSub) fun _ _ _ _ _ _ us hl => match us, hl with | [_, _], _ => rfl
  have bNMul := FNMul.binds (ps := PNMul) fun _ _ _ _ _ _ us hl => match us, hl with | [_, _], _ => rfl
  have bLine := FLine.binds (ps := PLine) fun _ _ _ _ _ _ us hl => match us, hl with | [_, _, _], _ => rfl
  have bLCall := FLCall.binds (ps := PLCall) fun _ _ _ _ _ _ us hl => match us, hl with | [_, _], _ => rfl
  have bLBase := FLBase.binds (ps := PLBase) fun _ _ _ _ _ _ us hl => match us, hl with | [_], _ => rfl
  have bLSlope := FLSlope.binds (ps := PLSlope) fun _ _ _ _ _ _ us hl => match us, hl with | [_], _ => rfl
  have bLEq := FLEq.binds (ps := PLEq) fun _ _ _ _ _ _ us hl => match us, hl with | [_, _], _ => rfl
  have bLAdd := FLAdd.binds (ps := PLAdd) fun _ _ _ _ _ _ us hl => match us, hl with | [_, _], _ => rfl
  have bLSub := FLSub.binds (ps := PLSub) fun _ _ _ _ _ _ us hl => match us, hl with | [_, _], _ => rfl
  have bPot := FPot.binds (ps := PPot) fun _ _ _ _ _ _ us hl => match us, hl with | [_, _], _ => rfl
  have bTake := FTake.binds (ps := PTake) fun _ _ _ _ _ _ us hl => match us, hl with | [_, _], _ => rfl
  have bOf := FOf.binds (ps := POf) fun _ _ _ _ _ _ us hl => match us, hl with | [_, _], _ => rfl
  have bLeast := FLeast.binds (ps := PLeast) fun _ _ _ _ _ _ us hl => match us, hl with | [_, _], _ => rfl
  have bDrawn := FDrawn.binds (ps := PDrawn) fun _ _ _ _ _ _ us hl => match us, hl with | [_], _ => rfl
  have bMade := FMade.binds (ps := PMade) fun _ _ _ _ _ _ us hl => match us, hl with | [_], _ => rfl
  have bIsNum := FIsNum.binds (ps := PIsNum) fun _ _ _ _ _ _ us hl => match us, hl with | [_, _], _ => rfl
  have bLVal := FLVal.binds (ps := PLVal) fun _ _ _ _ _ _ us hl => match us, hl with | [_, _, _], _ => rfl
  have bJoint := FJoint.binds (ps := PJoint) fun _ _ _ _ _ _ us hl => match us, hl with | [_, _, _], _ => rfl
  have bRight := FRight.binds (ps := PRight) fun _ _ _ _ _ _ us hl => match us, hl with | [_], _ => rfl
  have FNum : FunD K "__init__" "Number.__init__" (defArgs sNum) (defBody sNum) (defScope sNum) [.int 1] [] fNum _ := ⟨⟨_, _, _, _, _, _, _, _, _, _, rfl, l_Num, c_Num, .inr ⟨(fun z => by cases z), TNum, oTNum, [.int 1 tkT], nT, rfl, lT, dT, .cons ⟨_, rfl⟩ .nil⟩, .inl rfl⟩, k_Num⟩
  obtain ⟨dsN, vN, bN⟩ := FNum.binds1 (ps := PNum) 3 1 (fun z => by cases z) rfl fun T kV doc pm an cdv ct us its h1 h2 => match us, its, h1, h2 with | [_, _, _], [_], _, _ => ⟨_, rfl, rfl⟩
  have bK : KBn K (PySem.W.fnOf "__init__" "Line.__init__" (defArgs sLine) (defBody sLine) (defScope sLine) .none kVLine dcLine pmLine anLine cdLine ctLine) PLine 1 ["slope", "base"] (fun us ws => us ++ ws.reverse) (fun vs zs => vs ++ zs.reverse) :=
    ⟨fun s us ws _ h1 h2 => match us, ws, h1, h2 with | [_], [_, _], _, _ => .of_eq rfl, fun r1 r2 => r1.append r2.reverse⟩
  refine ⟨PySem.W.fnOf "law" "law" (defArgs sLaw) (defBody sLaw) (defScope sLaw) .none kVLaw dcLaw pmLaw anLaw cdLaw ctLaw, fun s v => .of_eq rfl, fun base _ _ => ?_⟩
  have cW : CalF l.prog w K mg base 1 "is_whole" spWhole := ⟨_, ok_whole FWhole bWhole B, mgo g_fWhole, k_Whole⟩
  have mN : MakF l.prog w K mg base 2 "Number" C (spNum C) := ⟨_, ⟨mk_C, a_Num, i_Num, kc_C⟩, ok_num (dvs' := []) FNum bN vN (fun vs H Q E h => by rw [List.append_nil]; exact h) B NC (mgo gcd) cW, mgo g_C⟩
  have pT : PrpF l.prog w K mg base 1 C "top" (spTop C) := ⟨_, _, clC, ⟨a_NTop, g_NTop, t_NTop, _, r_NTop⟩, ok_top FNTop bNTop NC⟩
  have pB : PrpF l.prog w K mg base 1 C "bottom" (spBot C) := ⟨_, _, clC, ⟨a_NBot, g_NBot, t_NBot, _, r_NBot⟩, ok_bot FNBot bNBot NC⟩
  have oE : OpnF l.prog w K mg base 1 C "__eq__" (spNEq C) := ⟨_, a_NEq, i_NEq, ok_neq FNEq bNEq B NC (mgo g_C)⟩
  have oA : OpnF l.prog w K mg base 4 C (PySem.dunder Operator.Add.info.2) (spAdd C) := ⟨_, a_NAdd, i_NAdd, ok_nadd FNAdd bNAdd NC mN⟩
  have oS : OpnF l.prog w K mg base 4 C (PySem.dunder Operator.Sub.info.2) (spSub C) := ⟨_, a_NSub, i_NSub, ok_nsub FNSub bNSub NC mN⟩
  have oM : OpnF l.prog w K mg base 4 C (PySem.dunder Operator.Mult.info.2) (spMul C) := ⟨_, a_NMul, i_NMul, ok_nmul FNMul bNMul NC mN⟩
  have GI := ok_lineF (base := base) (P := l.prog) (w := w) (mg := mg) FLine LC
  have MI : Mk K D fLine := ⟨mk_D, a_Line, i_Line, kc_D⟩
  have mL : MakF l.prog w K mg base 1 "Line" D (spLine D) := ⟨_, MI, (GI.raw bLine .nil).imp fun vs H Q E h => by rw [List.append_nil]; exact h, mgo g_D⟩
  have cC : CloF l.prog w K mg base 5 D (spLCall C D) := ⟨_, ⟨a_LCall, i_LCall, fi_LCall⟩, ok_lcall FLCall bLCall NC LC oA oM⟩
  have pA : PrpF l.prog w K mg base 1 D "base" (spLBase D) := ⟨_, _, clD, ⟨a_LBase, g_LBase, t_LBase, _, r_LBase⟩, ok_lbase FLBase bLBase LC⟩
  have pS : PrpF l.prog w K mg base 1 D "slope" (spLSlope D) := ⟨_, _, clD, ⟨a_LSlope, g_LSlope, t_LSlope, _, r_LSlope⟩, ok_lslope FLSlope bLSlope LC⟩
  have oLA : OpnF l.prog w K mg base 5 D (PySem.dunder Operator.Add.info.2) (spLOp C D 1) := ⟨_, a_LAdd, i_LAdd, ok_ladd FLAdd bLAdd NC LC oA mL⟩
  have oLS : OpnF l.prog w K mg base 5 D (PySem.dunder Operator.Sub.info.2) (spLOp C D (-1)) := ⟨_, a_LSub, i_LSub, ok_lsub FLSub bLSub NC LC oS mL⟩
  have oLE : OpnF l.prog w K mg base 2 D "__eq__" (spLEq K C D) := ⟨_, a_LEq, i_LEq, ok_leq FLEq bLEq B NC LC LT (mgo g_D) oE⟩
  have cP : CalF l.prog w K mg base 1 "_law_pot" (spPot K) := ⟨_, ok_pot FPot bPot B, mgo g_fPot, k_Pot⟩
  have cT : CalF l.prog w K mg base 1 "_law_take" spTake := ⟨_, ok_take FTake bTake B, mgo g_fTake, k_Take⟩
  have cO : CalF l.prog w K mg base 2 "_law_of" spOf := ⟨_, ok_of FOf bOf B cT, mgo g_fOf, k_Of⟩
  have cL : CalF l.prog w K mg base 1 "_law_least" spLeast := ⟨_, ok_least FLeast bLeast B, mgo g_fLeast, k_Least⟩
  have cD : CalF l.prog w K mg base 3 "_law_drawn" spDrawn := ⟨_, ok_drawn FDrawn bDrawn cT cO cL, mgo g_fDrawn, k_Drawn⟩
  have cM : CalF l.prog w K mg base 4 "_law_made" (spMade C) := ⟨_, ok_made FMade bMade mN, mgo g_fMade, k_Made⟩
  have cI : CalF l.prog w K mg base 3 "_law_is_number" (spIsNum C) := ⟨_, ok_isnum FIsNum bIsNum B NC (mgo g_C) pT pB, mgo g_fIsNum, k_IsNum⟩
  have cV : CalF l.prog w K mg base 2 "_law_value" spLVal := ⟨_, ok_lval FLVal bLVal cL, mgo g_fLVal, k_LVal⟩
  have cJ : CalF l.prog w K mg base 2 "_law_joint" spJoint := ⟨_, ok_joint FJoint bJoint cL, mgo g_fJoint, k_Joint⟩
  have cR : CalF l.prog w K mg base 6 "_law_is_right" spRight := ⟨_, ok_right FRight bRight B NC LC LT LX NE (mgo g_C) (mgo g_D) cD cM cI cV cJ mL MI GI bK pA pS cC oLA oLS oLE, mgo g_fRight, k_Right⟩
  exact ok_law FLaw B cP cR

end Ws

open PySem PySem.W PyProof.Rows
set_option maxHeartbeats 0
open_top hdK for PySem.Challenge.rw_whatspeed_k05_lines

theorem PySem.Challenge.cw_whatspeed_k05_lines_holds : PySem.Challenge.rw_whatspeed_k05_lines.Holds := by
  refine hdK ?_
  k_fill
  refine L2.walk_of (l := PySem.Challenge.rw_whatspeed_k05_lines) (n := 63) (k := 7) (x := "script") (CX := fun _ => L2.CX0) (sp := fun w => Ws.spLaw _) rfl (by decide) rfl ⟨rfl, by decide, by decide⟩ (fun w h Y => PySem.W.kIn_of Y) ?F (fun _ _ a ns hl _ hS => ⟨a, ns, rfl, hS, hl, fun _ => rfl⟩) fun _ _ _ _ _ z => z
  case F =>
    intro w mg fa h KX G hmg
    refine' Ws.all_mk KX G hmg ?g_C ?pg_C ?hd_C ?po_C ?sa_C ?mk_C ?kc_C ?n_top_C ?n_bottom_C ?ha_C ?hn_C ?htk_C ?hm_C ?sf_C ?nf_C ?g_D ?pg_D ?hd_D ?po_D ?sa_D ?mk_D ?kc_D ?n_base_D ?n_slope_D ?ha_D ?hn_D ?htk_D ?hm_D ?sf_D ?nf_D ?gcd ?g_fWhole ?l_Whole ?c_Whole ?k_Whole ?a_Num ?i_Num ?l_Num ?c_Num ?k_Num ?lT ?dT ?a_NTop ?g_NTop ?t_NTop ?r_NTop ?l_NTop ?c_NTop ?k_NTop ?a_NBot ?g_NBot ?t_NBot ?r_NBot ?l_NBot ?c_NBot ?k_NBot ?a_NEq ?i_NEq ?l_NEq ?c_NEq ?k_NEq ?a_NBool ?i_NBool ?l_NBool ?c_NBool ?k_NBool ?a_NAdd ?i_NAdd ?l_NAdd ?c_NAdd ?k_NAdd ?a_NSub ?i_NSub ?l_NSub ?c_NSub ?k_NSub ?a_NMul ?i_NMul ?l_NMul ?c_NMul ?k_NMul ?a_Line ?i_Line ?l_Line ?c_Line ?k_Line ?a_LCall ?i_LCall ?l_LCall ?c_LCall ?k_LCall ?fi_LCall ?a_LBase ?g_LBase ?t_LBase ?r_LBase ?l_LBase ?c_LBase ?k_LBase ?a_LSlope ?g_LSlope ?t_LSlope ?r_LSlope ?l_LSlope ?c_LSlope ?k_LSlope ?a_LEq ?i_LEq ?l_LEq ?c_LEq ?k_LEq ?a_LAdd ?i_LAdd ?l_LAdd ?c_LAdd ?k_LAdd ?a_LSub ?i_LSub ?l_LSub ?c_LSub ?k_LSub ?ne_D ?xL_D ?bm_D ?ic_D ?ty_D ?sN_D ?sI_D ?sS_D ?sT_D ?sL_D ?sB_D ?sC_D ?sD_D ?g_fPot ?l_Pot ?c_Pot ?k_Pot ?g_fTake ?l_Take ?c_Take ?k_Take ?g_fOf ?l_Of ?c_Of ?k_Of ?g_fLeast ?l_Least ?c_Least ?k_Least ?g_fDrawn ?l_Drawn ?c_Drawn ?k_Drawn ?g_fMade ?l_Made ?c_Made ?k_Made ?g_fIsNum ?l_IsNum ?c_IsNum ?k_IsNum ?g_fLVal ?l_LVal ?c_LVal ?k_LVal ?g_fJoint ?l_Joint ?c_Joint ?k_Joint ?g_fRight ?l_Right ?c_Right ?k_Right ?g_fLaw ?l_Law ?c_Law ?k_Law ?z_len ?z_abs ?z_int ?z_bool ?z_max ?z_min ?z_range ?z_all ?z_any ?z_isinstance
    (case g_C => k_is)
    (case pg_C => k_is)
    (case hd_C => k_is)
    (case po_C => k_is)
    (case sa_C => k_is)
    (case mk_C => k_is)
    (case kc_C => k_is)
    (case n_top_C => k_is)
    (case n_bottom_C => k_is)
    (case ha_C => k_is)
    (case hn_C => k_is)
    (case htk_C => k_is)
    (case hm_C => k_is)
    (case sf_C => k_is)
    (case nf_C => k_is)
    (case g_D => k_is)
    (case pg_D => k_is)
    (case hd_D => k_is)
    (case po_D => k_is)
    (case sa_D => k_is)
    (case mk_D => k_is)
    (case kc_D => k_is)
    (case n_base_D => k_is)
    (case n_slope_D => k_is)
    (case ha_D => k_is)
    (case hn_D => k_is)
    (case htk_D => k_is)
    (case hm_D => k_is)
    (case sf_D => k_is)
    (case nf_D => k_is)
    (case gcd => k_is)
    (case g_fWhole => k_is)
    (case l_Whole => k_is)
    (case c_Whole => k_is)
    (case k_Whole => k_is)
    (case a_Num => k_is)
    (case i_Num => k_is)
    (case l_Num => k_is)
    (case c_Num => k_is)
    (case k_Num => k_is)
    (case lT => k_is)
    (case dT => rfl)
    (case a_NTop => k_is)
    (case g_NTop => k_is)
    (case t_NTop => k_is)
    (case r_NTop => k_is)
    (case l_NTop => k_is)
    (case c_NTop => k_is)
    (case k_NTop => k_is)
    (case a_NBot => k_is)
    (case g_NBot => k_is)
    (case t_NBot => k_is)
    (case r_NBot => k_is)
    (case l_NBot => k_is)
    (case c_NBot => k_is)
    (case k_NBot => k_is)
    (case a_NEq => k_is)
    (case i_NEq => k_is)
    (case l_NEq => k_is)
    (case c_NEq => k_is)
    (case k_NEq => k_is)
    (case a_NBool => k_is)
    (case i_NBool => k_is)
    (case l_NBool => k_is)
    (case c_NBool => k_is)
    (case k_NBool => k_is)
    (case a_NAdd => k_is)
    (case i_NAdd => k_is)
    (case l_NAdd => k_is)
    (case c_NAdd => k_is)
    (case k_NAdd => k_is)
    (case a_NSub => k_is)
    (case i_NSub => k_is)
    (case l_NSub => k_is)
    (case c_NSub => k_is)
    (case k_NSub => k_is)
    (case a_NMul => k_is)
    (case i_NMul => k_is)
    (case l_NMul => k_is)
    (case c_NMul => k_is)
    (case k_NMul => k_is)
    (case a_Line => k_is)
    (case i_Line => k_is)
    (case l_Line => k_is)
    (case c_Line => k_is)
    (case k_Line => k_is)
    (case a_LCall => k_is)
    (case i_LCall => k_is)
    (case l_LCall => k_is)
    (case c_LCall => k_is)
    (case k_LCall => k_is)
    (case fi_LCall => k_is)
    (case a_LBase => k_is)
    (case g_LBase => k_is)
    (case t_LBase => k_is)
    (case r_LBase => k_is)
    (case l_LBase => k_is)
    (case c_LBase => k_is)
    (case k_LBase => k_is)
    (case a_LSlope => k_is)
    (case g_LSlope => k_is)
    (case t_LSlope => k_is)
    (case r_LSlope => k_is)
    (case l_LSlope => k_is)
    (case c_LSlope => k_is)
    (case k_LSlope => k_is)
    (case a_LEq => k_is)
    (case i_LEq => k_is)
    (case l_LEq => k_is)
    (case c_LEq => k_is)
    (case k_LEq => k_is)
    (case a_LAdd => k_is)
    (case i_LAdd => k_is)
    (case l_LAdd => k_is)
    (case c_LAdd => k_is)
    (case k_LAdd => k_is)
    (case a_LSub => k_is)
    (case i_LSub => k_is)
    (case l_LSub => k_is)
    (case c_LSub => k_is)
    (case k_LSub => k_is)
    (case ne_D => k_is)
    (case xL_D => k_is)
    (case bm_D => rfl)
    (case ic_D => k_is)
    (case ty_D => k_is)
    (case sN_D => k_is)
    (case sI_D => k_is)
    (case sS_D => k_is)
    (case sT_D => k_is)
    (case sL_D => k_is)
    (case sB_D => k_is)
    (case sC_D => k_is)
    (case sD_D => k_is)
    (case g_fPot => k_is)
    (case l_Pot => k_is)
    (case c_Pot => k_is)
    (case k_Pot => k_is)
    (case g_fTake => k_is)
    (case l_Take => k_is)
    (case c_Take => k_is)
    (case k_Take => k_is)
    (case g_fOf => k_is)
    (case l_Of => k_is)
    (case c_Of => k_is)
    (case k_Of => k_is)
    (case g_fLeast => k_is)
    (case l_Least => k_is)
    (case c_Least => k_is)
    (case k_Least => k_is)
    (case g_fDrawn => k_is)
    (case l_Drawn => k_is)
    (case c_Drawn => k_is)
    (case k_Drawn => k_is)
    (case g_fMade => k_is)
    (case l_Made => k_is)
    (case c_Made => k_is)
    (case k_Made => k_is)
    (case g_fIsNum => k_is)
    (case l_IsNum => k_is)
    (case c_IsNum => k_is)
    (case k_IsNum => k_is)
    (case g_fLVal => k_is)
    (case l_LVal => k_is)
    (case c_LVal => k_is)
    (case k_LVal => k_is)
    (case g_fJoint => k_is)
    (case l_Joint => k_is)
    (case c_Joint => k_is)
    (case k_Joint => k_is)
    (case g_fRight => k_is)
    (case l_Right => k_is)
    (case c_Right => k_is)
    (case k_Right => k_is)
    (case g_fLaw => k_is)
    (case l_Law => k_is)
    (case c_Law => k_is)
    (case k_Law => k_is)
    (case z_len => k_is)
    (case z_abs => k_is)
    (case z_int => k_is)
    (case z_bool => k_is)
    (case z_max => k_is)
    (case z_min => k_is)
    (case z_range => k_is)
    (case z_all => k_is)
    (case z_any => k_is)
    (case z_isinstance => k_is)
#print axioms PySem.Challenge.cw_whatspeed_k05_lines_holds

