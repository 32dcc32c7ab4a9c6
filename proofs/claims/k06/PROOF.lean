import PyProof.Rows.All
import Wide.All
import OpenK.AllK
import Wide.FinOn
import HandS.ForMost
import HandS.Star
import HandS.OwnEq
import HandS.Property
import HandS.Gcd
import HandS.Wide
import HandS.IsInst
import HandS.Defaults
import KE.KOpsOwn
import PySem.Challenge.RW_whatspeed_k06_where_lines_meet
set_option Elab.async false
set_option linter.all false
set_option maxRecDepth 100000
set_option maxHeartbeats 4000000
namespace Ws
open PySem PySem.Spec PyProof.Rows L2
/-! ### promises of defs, methods, makers, operators: by show (0 : Int) < _; decide +kernelitional values -/
abbrev Fr1 := FnR
section
variable (P : Program) (w : World) (K : PySem.W.Frag) (mg : Str → Option Value) (base : Heap)
/-- a def of the module, called by its name -/
def CalF (k : Nat) (x : Str) (sp : Sp) : Prop := ∃ f : Addr, FnR P w K mg base CX0 k f sp ∧ mg x = some (.ref f) ∧ PySem.W.keepIn K (.ref f) = true
/-- a class that makes instances, called by its name -/
def MakF (k : Nat) (x : Str) (C : Addr) (sp : Sp) : Prop := ∃ f : Addr, Mk K C f ∧ FnR P w K mg base CX0 k f sp ∧ mg x = some (.ref C)
/-- a method -/
def MetF (k : Nat) (C : Addr) (m : Str) (sp : Sp) : Prop := ∃ f : Addr, Cls K C ∧ Meth K C m f ∧ FnR P w K mg base CX0 k f sp
/-- a special method that an operator calls -/
def OpnF (k : Nat) (C : Addr) (m : Str) (sp : Sp) : Prop := ∃ f : Addr, PySem.W.findIn K (.ref C) m = some (some (.ref f)) ∧ PySem.W.isFn K (.ref f) = true ∧ FnR P w K mg base CX0 k f sp
/-- a property -/
def PrpF (k : Nat) (C : Addr) (m : Str) (sp : Sp) : Prop := ∃ p g : Addr, Cls K C ∧ PropOf K C m p g ∧ FnR P w K mg base CX0 k g sp
/-- instances are called -/
def CloF (k : Nat) (C : Addr) (sp : Sp) : Prop := ∃ g : Addr, StX.CallO K C g ∧ FnR P w K mg base CX0 k g sp
end
section
variable {X : Cx} {k j : Nat} {C f : Addr} {sp : Sp} {x m : Str} {p pos apos : Pos} {e o : Expr} {es : List Expr} {ta : TE} {t : TA}
abbrev CalX (X : Cx) := CalF X.prog X.w X.K X.mg X.base
theorem run_R {pins : List (Addr × Obj)} {σ : L2.St} {H : Hp} {s : Shared} {Q : VK} {us : List Value} {vs : List V} {E : XK} {CX : CXT} (F : FnR X.prog X.w X.K X.mg X.base CX k f sp) (hr : Room k X.A) (hx : Passes CX X E)
    (I : Inv X pins σ H s) (r : Vals vs us) (h : sp vs H Q E) : wpAny (model X.prog X.w) X.A (call (.ref f) us) (EP X pins σ Q) X.xe s := by
  refine wpAny_call (codeAny_mono (run_fnR F hr hx I r h) fun r s' q => ?_)
  cases r with
  | error e => exact q
  | ok fl => cases fl with
    | ret u => exact q
    | next => exact q.elim
    | brk => exact q.elim
    | cont => exact q.elim
/-- f(e, ..) -/
def tF (sp : Sp) (t : TA) : TE := fun σ H Q => t σ H fun vs H1 => sp vs H1 Q E0
theorem pe_f (c : CalF X.prog X.w X.K X.mg X.base k x sp) (hr : Room j X.A) (hk : k ≤ j) (hg : Gl X x) (ha : PA X (e :: es) t) (hdb : (x == ("__debug__" : Str)) = false := by decide)
    (he : starEach (e :: es) X.env = (false, eval e X.env) :: starEach es X.env := by rfl) (hpl : (backTo pos (starEach es X.env)).any (·.1) = false := by rfl) : PE X (.Call (.Name x p) (e :: es) [] pos) (tF sp t) := by
  obtain ⟨f, F, hm, hkp⟩ := c
  refine ⟨fun pins s σ H Q I h => ?_⟩
  refine wpAny_Call_Name_kw (ld_glob I hg hm ?_ hdb)
  refine PySem.W.callWith_K (h₀ := X.base) I.ok.mod.kin hkp (thn (ha.run pos pins s σ H _ I h) fun us s1 ⟨vs, H1, I1, r, q⟩ => ⟨I1.kIn, ?_⟩) he hpl
  exact run_R F (hr.mono hk) pass0 I1 r q
/-- C(e, ..) -/
def tMk (C : Addr) (sp : Sp) (t : TA) : TE := fun σ H Q => t σ H fun vs H1 => ∀ x dx, H1 x = Option.none → H1 dx = Option.none → dx ≠ x → sp (V.ref x :: vs) (upd (upd H1 dx (.own x)) x (.ins C dx [])) (fun v H2 => v = .non ∧ Q (.ref x) H2) E0
theorem pe_mk (c : MakF X.prog X.w X.K X.mg X.base k x C sp) (hr : Room j X.A) (hk : k + 1 ≤ j) (hg : Gl X x) (ha : PA X (e :: es) t) (hdb : (x == ("__debug__" : Str)) = false := by decide)
    (he : starEach (e :: es) X.env = (false, eval e X.env) :: starEach es X.env := by rfl) (hpl : (backTo pos (starEach es X.env)).any (·.1) = false := by rfl) : PE X (.Call (.Name x p) (e :: es) [] pos) (tMk C sp t) := by
  obtain ⟨f, M, F, hm⟩ := c
  exact StX.pe_makeR M F (hr.mono hk) hg hm pass0 ha hdb he hpl
/-- o.m(e, ..) -/
def tMt (C : Addr) (m : Str) (sp : Sp) (ta : TE) (t : TA) : TE := fun σ H Q => ta σ H fun x H1 => ∃ a dx fs, x = .ref a ∧ H1 a = some (.ins C dx fs) ∧ fs.lookup m = none ∧ t σ H1 fun vs H2 => sp (x :: vs) H2 Q E0
theorem pe_mt {pl : Sem Bool} (c : MetF X.prog X.w X.K X.mg X.base k C m sp) (hr : Room j X.A) (hk : k ≤ j) (he : PE X o ta) (ha : PA X (e :: es) t)
    (hst : starEach (e :: es) X.env = (false, eval e X.env) :: starEach es X.env := by rfl) (hpl : (backTo pos (starEach es X.env)).any (·.1) = false := by rfl)
    (ht : eval (.Call (.Attribute o m apos) (e :: es) [] pos) X.env = (do
      let ov ← eval o X.env
      standAt apos.atName
      let (f, first) ← holding [ov] (getMethod ov m pl)
      callWith pos f first (backTo pos (starEach (e :: es) X.env)) (backToKw pos (keywordEach [] X.env))) := by rfl) :
    PE X (.Call (.Attribute o m apos) (e :: es) [] pos) (tMt C m sp ta t) := by
  obtain ⟨f, hc, hm, F⟩ := c
  refine ⟨fun pins s σ H Q I h => ?_⟩
  refine PySem.W.methodCall_KW (pl := pl) (thn (he.run pins s σ H _ I h) fun u s1 ⟨x, H1, I1, rx, a, dx, fs, ex, ea, l, q⟩ => ?_) ht
  subst ex
  obtain rfl : u = Value.ref a := rx
  refine getmeth_ok I1 ea hc hm l ?_
  refine PySem.W.callWith_K (first := [.ref a]) (h₀ := X.base) I.ok.mod.kin hm.kp (thn (ha.run pos pins s1 σ H1 _ I1 q) fun us s2 ⟨vs, H2, I2, r, q2⟩ => ⟨I2.kIn, ?_⟩) hst hpl
  exact run_R (us := .ref a :: us) (vs := .ref a :: vs) F (hr.mono hk) pass0 I2 (.cons rfl r) q2
/-- e.f, a property -/
def tPr (C : Addr) (sp : Sp) (ta : TE) : TE := fun σ H Q => ta σ H fun x H1 => ∃ a dx fs, x = .ref a ∧ H1 a = some (.ins C dx fs) ∧ sp [.ref a] H1 Q E0
theorem pe_pr (c : PrpF X.prog X.w X.K X.mg X.base k C m sp) (hr : Room j X.A) (hk : k + 1 ≤ j) (he : PE X e ta) (hab : attributeBase e m X.env (eval e X.env) = eval e X.env := by rfl) : PE X (.Attribute e m pos) (tPr C sp ta) := by
  obtain ⟨p, g, hc, hp, F⟩ := c
  refine ⟨fun pins s σ H Q I h => ?_⟩
  refine attr_of hab (thn (he.run pins s σ H _ I h) fun u s1 ⟨x, H1, I1, rx, a, dx, fs, ex, ea, q⟩ => ?_)
  subst ex
  obtain rfl : u = Value.ref a := rx
  obtain ⟨mA, O, _, _, _, _⟩ := ins_get I1.hok ea
  obtain ⟨od, J, _⟩ := O.look
  obtain ⟨rest, hrec⟩ := hp.rec_
  have hcs : (PySem.W.clsIn X.K C).isSome = true := by
    obtain ⟨cd, hcd, _⟩ := PySem.W.any_some hc.hd
    rw [hcd]
    rfl
  have I2 := I1.tok (s1.toks + 1)
  have hr1 : Room (k + 1) X.A := hr.mono hk
  refine PySem.W.get_bind I1.kIn J (PySem.W.plainGet_of (hc.get m)).1 (PySem.W.findObj_data hcs hp.at_ hp.get hp.tak) (PySem.W.plainGet_of (hc.get m)).2 (wpAny_call (PySem.W.prop_get (s := { s1 with toks := s1.toks + 1 }) I1.kIn hrec ?_))
  refine codeAny_mono (F X.A.in1 X.stack { s1 with toks := s1.toks + 1 } H1 [.ref a] [.ref a] Q E0 hr1.in1 I2.env0.in1 (.cons rfl .nil) q) fun r s' hq => ?_
  cases r with
  | error er => exact hq.elim
  | ok fl =>
    cases fl with
    | ret u =>
      obtain ⟨v, H', I3, rv, q3⟩ := I2.after hq
      show wpAny _ _ (handedOut u) _ _ _
      rw [PySem.W.handedOut_of (handed_of rv)]
      exact wpAny_pure ⟨v, H', I3, rv, q3⟩
    | next => exact False.elim hq
    | brk => exact False.elim hq
    | cont => exact False.elim hq
/-- an instance called -/
def tClo (C : Addr) (sp : Sp) (tf : TE) (t : TA) : TE := fun σ H Q => tf σ H fun y H1 => ∃ a, y = V.ref a ∧ t σ H1 fun vs H2 => (∃ dx fs, H2 a = some (.ins C dx fs)) ∧ sp (V.ref a :: vs) H2 Q E0
theorem pe_clo {tf : TE} {fe : Expr} (c : CloF X.prog X.w X.K X.mg X.base k C sp) (hr : Room j X.A) (hk : k ≤ j) (hf : PE X fe tf) (ha : PA X (e :: es) t)
    (ht : eval (.Call fe (e :: es) [] pos) X.env = (do callWith pos (← eval fe X.env) [] (backTo pos (starEach (e :: es) X.env)) (backToKw pos (keywordEach [] X.env))) := by rfl)
    (he : starEach (e :: es) X.env = (false, eval e X.env) :: starEach es X.env := by rfl) (hpl : (backTo pos (starEach es X.env)).any (·.1) = false := by rfl) : PE X (.Call fe (e :: es) [] pos) (tClo C sp tf t) := by
  obtain ⟨g, c, F⟩ := c
  refine ⟨fun pins s σ H Q I h => ?_⟩
  refine Call_ (thn (hf.run pins s σ H _ I h) fun u s1 ⟨y, H1, I1, ry, a, ey, q⟩ => ?_) ht
  subst ey
  obtain rfl : u = Value.ref a := ry
  refine StX.callO_with (thn (ha.run pos pins s1 σ H1 _ I1 q) fun us s2 ⟨vs, H2, I2, r, ⟨dx, fs, hi⟩, q2⟩ => ?_) he hpl
  have hi' : StX.InsC X H2 a C := .inr ⟨dx, fs, hi⟩
  obtain ⟨ox, od, J, hd⟩ := StX.insC_at I2 hi'
  exact ⟨⟨C, ox, od, J, hd⟩, StX.run_callO c F (hr.mono hk) pass0 I2 hi' r q2⟩
/-! ### operators -/
/-- the value handed back by an operator's method is never NotImplemented -/
theorem cmpBack {pins : List (Addr × Obj)} {σ : L2.St} {Q : VK} {v : Value} {s : Shared} (h : EP X pins σ Q v s) : PySem.W.CmpBack (EP X pins σ Q) v s := by
  obtain ⟨y, H, I, r, q⟩ := h
  have fin : EP X pins σ Q v s := ⟨y, H, I, r, q⟩
  cases y with
  | non => cases (show v = Value.none from r); exact fin
  | bl b => cases (show v = Value.bool b from r); exact fin
  | int i => obtain ⟨t, e⟩ := (show ∃ t, v = Value.int i t from r); subst e; exact fin
  | str i => obtain ⟨t, e⟩ := (show ∃ t, v = Value.str i t from r); subst e; exact fin
  | byt i => obtain ⟨t, e⟩ := (show ∃ t, v = Value.bytes i t from r); subst e; exact fin
  | flt i => obtain ⟨t, e⟩ := (show ∃ t, v = Value.float i t from r); subst e; exact fin
  | ref a => cases (show v = Value.ref a from r); exact fin
  | ty n => cases (show v = Value.type n from r); exact fin
theorem inst_of {pins : List (Addr × Obj)} {σ : L2.St} {H : Hp} {s : Shared} {a dx : Addr} {fs : List (Str × V)} (I : Inv X pins σ H s) (h : H a = some (.ins C dx fs)) : ∃ ox od, PySem.W.InstAt s.heap a ox C od := by
  obtain ⟨mA, O, _⟩ := ins_get I.hok h
  obtain ⟨od, J, _⟩ := O.look
  exact ⟨_, _, J⟩
/-- a op b, both of the class at C, by its own method -/
def rOwn (C : Addr) (sp : Sp) : R2 := fun x y H Q => ∃ a dx fs b dy gs, x = .ref a ∧ H a = some (.ins C dx fs) ∧ y = .ref b ∧ H b = some (.ins C dy gs) ∧ sp [.ref a, .ref b] H Q E0
theorem op_own {op : Operator} (c : OpnF X.prog X.w X.K X.mg X.base k C (PySem.dunder op.info.2) sp) (hs : PySem.W.selfFirst X.K C = true) (hr : Room j X.A) (hk : k ≤ j) : OpR X (binaryOp op) (rOwn C sp) := by
  obtain ⟨f, h1, h2, F⟩ := c
  intro pins s σ H x y v u Q I rx ry h
  obtain ⟨a, dx, fs, b, dy, gs, rfl, ea, rfl, eb, q⟩ := h
  cases (show v = Value.ref a from rx)
  cases (show u = Value.ref b from ry)
  obtain ⟨ox, od, J⟩ := inst_of I ea
  obtain ⟨oy, oe, J2⟩ := inst_of I eb
  obtain ⟨m, hF⟩ := I.fr
  refine PySem.W.binop_K hF I.ok.mod.kin J J2.type hs h1 h2 ?_
  exact wpAny_mono (run_R (us := [.ref a, .ref b]) (vs := [.ref a, .ref b]) F (hr.mono hk) pass0 I (.cons rfl (.cons rfl .nil)) q) (fun v s' hv => cmpBack hv) fun _ _ z => z
/-- what a value's type is to ==: its typeOf -/
inductive TyL (H : Hp) : V → Value → Prop where
  | non : TyL H .non (.type "NoneType")
  | bl (b : Bool) : TyL H (.bl b) (.type "bool")
  | int (i : Int) : TyL H (.int i) (.type "int")
  | str (x : Str) : TyL H (.str x) (.type "str")
  | lst {a : Addr} {xs : List V} (e : H a = some (.lst xs)) : TyL H (.ref a) (.type "list")
  | tup {a : Addr} {xs : List V} (e : H a = some (.tup xs)) : TyL H (.ref a) (.type "tuple")
  | dK {a : Addr} {xs : List (Key × V)} (e : H a = some (.dK xs)) : TyL H (.ref a) (.type "dict")
  | ins {a C dx : Addr} {fs : List (Str × V)} (e : H a = some (.ins C dx fs)) : TyL H (.ref a) (.ref C)
theorem looks_ref {M : Model} {h : Heap} {a : Addr} {o : Obj} {t : Value} (e : h.get? a = some o) (c : o.cls = t) : PySem.W.Looks M h (typeOf (.ref a)) t := by
  intro A Q E s k q
  subst c
  exact wpAny_typeOf_ref (k _ _ e) q
theorem TyL.looks {pins : List (Addr × Obj)} {σ : L2.St} {H : Hp} {s : Shared} {M : Model} {x : V} {u t : Value} (I : Inv X pins σ H s) (rx : RelV x u) (ty : TyL H x t) : PySem.W.Looks M s.heap (typeOf u) t := by
  cases ty with
  | non => cases (show u = Value.none from rx); exact .of_pure rfl
  | bl b => cases (show u = Value.bool b from rx); exact .of_pure rfl
  | int i => obtain ⟨t, q⟩ := (show ∃ t, u = Value.int i t from rx); subst q; exact .of_pure rfl
  | str i => obtain ⟨t, q⟩ := (show ∃ t, u = Value.str i t from rx); subst q; exact .of_pure rfl
  | @lst a xs e =>
    cases (show u = Value.ref a from rx)
    obtain ⟨_, its, n, _, h1⟩ := (show ObjOk X.prog X.w H s.heap a (.lst xs) from I.hok a _ e)
    exact looks_ref h1 rfl
  | @tup a xs e =>
    cases (show u = Value.ref a from rx)
    obtain ⟨_, its, _, ob, h1, c, _⟩ := (show ObjOk X.prog X.w H s.heap a (.tup xs) from I.hok a _ e)
    exact looks_ref h1 c
  | @dK a xs e =>
    cases (show u = Value.ref a from rx)
    obtain ⟨_, _, vs, _, o, es, ep, h1, h2, _⟩ := (show ObjOk X.prog X.w H s.heap a (.dK xs) from I.hok a _ e)
    exact looks_ref h1 h2.1
  | @ins a C dx fs e =>
    cases (show u = Value.ref a from rx)
    obtain ⟨ox, od, J⟩ := inst_of I e
    exact J.type
/-- a == b by a's own __eq__ -/
def rEqO (K : PySem.W.Frag) (C : Addr) (sp : Sp) : R2 := fun x y H Q => ∃ a dx fs t, x = .ref a ∧ H a = some (.ins C dx fs) ∧ TyL H y t ∧ PySem.W.notFirst K C t = true ∧ sp [.ref a, y] H Q E0
theorem op_eqO (c : OpnF X.prog X.w X.K X.mg X.base k C "__eq__" sp) (hr : Room j X.A) (hk : k ≤ j) : OpR X (compareOp .Eq) (rEqO X.K C sp) := by
  obtain ⟨f, h1, h2, F⟩ := c
  intro pins s σ H x y v u Q I rx ry h
  obtain ⟨a, dx, fs, t, rfl, ea, ty, nf, q⟩ := h
  cases (show v = Value.ref a from rx)
  obtain ⟨ox, od, J⟩ := inst_of I ea
  obtain ⟨m, hF⟩ := I.fr
  refine PySem.W.cmp_ofEq (PySem.W.cmp_K (op := .Eq) hr.units0 hF I.ok.mod.kin J (ty.looks I ry) nf h1 h2 ?_)
  exact wpAny_mono (run_R (us := [.ref a, u]) (vs := [.ref a, y]) F (hr.mono hk) pass0 I (.cons rfl (.cons ry .nil)) q) (fun v s' hv => cmpBack hv) fun _ _ z => z
/-- -a by its own __neg__ -/
def rUnO (C : Addr) (sp : Sp) : V → Hp → VK → Prop := fun x H Q => ∃ a dx fs, x = .ref a ∧ H a = some (.ins C dx fs) ∧ sp [.ref a] H Q E0
theorem un_negO (c : OpnF X.prog X.w X.K X.mg X.base k C "__neg__" sp) (hr : Room j X.A) (hk : k ≤ j) : UnR X (unaryOp .USub) (rUnO C sp) := by
  obtain ⟨f, h1, h2, F⟩ := c
  intro pins s σ H x v Q I rx h
  obtain ⟨a, dx, fs, rfl, ea, q⟩ := h
  cases (show v = Value.ref a from rx)
  obtain ⟨ox, od, J⟩ := inst_of I ea
  obtain ⟨m, hF⟩ := I.fr
  exact PySem.W.ksp_neg hF I.ok.mod.kin J h1 h2 (run_R (us := [.ref a]) (vs := [.ref a]) F (hr.mono hk) pass0 I (.cons rfl .nil) q)
/-- a's truth by its own __bool__ -/
def rTruO (C : Addr) (sp : Sp) : V → Hp → (Bool → Hp → Prop) → Prop := fun x H Q => ∃ a dx fs, x = .ref a ∧ H a = some (.ins C dx fs) ∧ sp [.ref a] H (fun v H' => ∃ b, v = .bl b ∧ Q b H') E0
theorem tru_own (c : OpnF X.prog X.w X.K X.mg X.base k C "__bool__" sp) (hr : Room j X.A) (hk : k ≤ j) : TruR X (rTruO C sp) := by
  obtain ⟨f, h1, h2, F⟩ := c
  intro pins s σ H x v Q I rx h
  obtain ⟨a, dx, fs, rfl, ea, q⟩ := h
  cases (show v = Value.ref a from rx)
  obtain ⟨ox, od, J⟩ := inst_of I ea
  obtain ⟨m, hF⟩ := I.fr
  refine PySem.W.truthy_K hF I.ok.mod.kin J h1 h2 (wpAny_mono (run_R (us := [.ref a]) (vs := [.ref a]) F (hr.mono hk) pass0 I (.cons rfl .nil) q) (fun r s' hv => ?_) fun _ _ z => z)
  obtain ⟨y, H', I', ry, b, rfl, qb⟩ := hv
  cases (show r = Value.bool b from ry)
  exact ⟨H', I', qb⟩
/-- a test by a value's truth -/
def tTru (r : V → Hp → (Bool → Hp → Prop) → Prop) (ta : TE) : TT := fun σ H Q => ta σ H fun x H1 => r x H1 Q
theorem pt_tru {r : V → Hp → (Bool → Hp → Prop) → Prop} {a : Expr} (hT : TruR X r) (ha : PE X a ta) (he : ∀ whole, isTrue a X.env whole = (do let v ← whole; standAt a.pos; holding [v] (truthy v)) := by intro _; rfl) : PT X a (tTru r ta) := by
  refine ⟨fun pins s σ H Q I h => ?_⟩
  exact isTrue_plain (thn (ha.run pins s σ H _ I h) fun v s1 ⟨x, H1, I1, r1, q1⟩ => hT pins s1 σ H1 x v Q I1 r1 q1) (he _)
/-! ### great ints -/
theorem op_powW : OpR X (binaryOp .Pow) (rI (fun i j => 0 ≤ j ∧ (Builtin.Int.intBits i : Int) * j ≤ 2 ^ 27) fun i j => .int (i ^ j.toNat)) := opI fun _ _ _ _ _ _ _ hc q => pow_int hc.1 hc.2 q
theorem op_fdivZ : OpR X (binaryOp .FloorDiv) (rI (fun _ j => j ≠ 0 ∧ j.natAbs.log2 < 9000) fun i j => .int (i.fdiv j)) := opI fun _ _ _ _ _ _ _ hc q => floordiv_int hc.1 q (.inl (PyProof.noPylong_of_log2 hc.2))
end
end Ws
namespace Ws
open PySem PySem.Spec PyProof.Rows L2
/-! ### from a def of the text to its promise -/
section
variable {P : Program} {w : World} {K : PySem.W.Frag} {mg : Str → Option Value} {base : Heap}
theorem fnR_of {x qual : Str} {st : Stmt} {f : Addr} {fd : FuncData} {N ps : List Str} {k : Nat} {sp : Sp} (F : L2.Fun K x qual st f fd) (b : Binds K fd ps []) (S : FnScope N ps (defScope st)) (len : ∀ vs H Q E, sp vs H Q E → vs.length = ps.length)
    (hbody : ∀ (cdv : Value) (A : Around) (outer : List Env) (s : Shared) (H : Hp) (vs : List V) (Q : VK) (E : XK), Room k (A.deeper (envOfC qual (defScope st) s.heap.objs.size f cdv)) → sp vs H Q E →
      ∃ t, PSs (cxOf CX0 P w K mg base N qual (defScope st) f cdv A outer s H E).nox (defBody st) t ∧ t { nx := fun _ H' => Q .non H', rt := Q } (start N vs) H) : FnR P w K mg base CX0 (k + 1) f sp :=
  ((F.ok S len hbody).raw b .nil).imp fun vs H Q E h => by rw [List.append_nil]; exact h
/-- a def with defaults: all of them are handed in, or the last ones are filled up -/
theorem fnD_of {x qual : Str} {st : Stmt} {f : Addr} {fd : FuncData} {N ps : List Str} {k : Nat} {sp sp' : Sp} {dvs dvs' : List V} {ds : List Value} (F : FunD K x qual (defArgs st) (defBody st) (defScope st) dvs [] f fd) (b : Binds K fd ps ds) (d : Vals dvs' ds) (S : FnScope N ps (defScope st)) (len : ∀ vs H Q E, sp vs H Q E → vs.length = ps.length)
    (imp : ∀ vs H Q E, sp' vs H Q E → sp (vs ++ dvs') H Q E)
    (hbody : ∀ (cdv : Value) (A : Around) (outer : List Env) (s : Shared) (H : Hp) (vs : List V) (Q : VK) (E : XK), Room k (A.deeper (envOfC qual (defScope st) s.heap.objs.size f cdv)) → sp vs H Q E →
      ∃ t, PSs (cxOf CX0 P w K mg base N qual (defScope st) f cdv A outer s H E).nox (defBody st) t ∧ t { nx := fun _ H' => Q .non H', rt := Q } (start N vs) H) : FnR P w K mg base CX0 (k + 1) f sp' :=
  ((F.ok (CX := CX0) S len fun cdv A outer s H vs Q E hr h => let ⟨t, h1, h2⟩ := hbody cdv A outer s H vs Q E hr h; ⟨t, h1.nox, h2⟩).raw b d).imp imp
end
/-- names of built-ins that the module doesn't bind -/
structure Bi (mg : Str → Option Value) : Prop where
  len : mg "len" = none
  abs : mg "abs" = none
  int : mg "int" = none
  bool : mg "bool" = none
  max : mg "max" = none
  min : mg "min" = none
  range : mg "range" = none
  all : mg "all" = none
  any : mg "any" = none
  isinstance : mg "isinstance" = none
/-! ### heaps -/
/-- all but what stands at p is as it was -/
def Ch (p : Addr) (H H' : Hp) : Prop := ∀ b o, b ≠ p → H b = some o → H' b = some o
theorem Ch.refl {p : Addr} {H : Hp} : Ch p H H := fun _ _ _ h => h
theorem Ch.trans {p : Addr} {H H1 H2 : Hp} (a : Ch p H H1) (b : Ch p H1 H2) : Ch p H H2 := fun c o n h => b c o n (a c o n h)
theorem Ch.of {p : Addr} {H H' : Hp} (h : Same H H') : Ch p H H' := fun b o _ e => h b o e
theorem Ch.upd {p : Addr} {H : Hp} {o : HO} : Ch p H (L2.upd H p o) := fun b u n e => by rw [upd_ne n]; exact e
theorem Same.new {H : Hp} {p : Addr} {o : HO} (h : H p = none) : Same H (upd H p o) := fun b u e => by rw [upd_ne (ne_of_none e h)]; exact e
theorem Ch.new {q p : Addr} {H : Hp} {o : HO} (h : H p = none) : Ch q H (L2.upd H p o) := Ch.of (Same.new h)
theorem Ch.free {p q : Addr} {H H' : Hp} (c : Ch p H H') (n : q ≠ p) (h : H' q = none) : H q = none := by
  cases e : H q with
  | none => rfl
  | some o => rw [c q o n e] at h; cases h
/-- a fresh instance is laid, then filled by its __init__ -/
theorem Same.mk {H H1 : Hp} {x dx C : Addr} (nx : H x = none) (nd : H dx = none) (k : ∀ b o, (upd (upd H dx (.own x)) x (.ins C dx [])) b = some o → b ≠ x → H1 b = some o) : Same H H1 := fun b o e =>
  k b o (by rw [upd_ne (ne_of_none e nx), upd_ne (ne_of_none e nd)]; exact e) (ne_of_none e nx)
/-! ### fields -/
theorem lk_here {k : Str} {v : V} {r : List (Str × V)} : List.lookup k ((k, v) :: r) = some v := by
  have e : (k == k) = true := beq_self_eq_true k
  simp only [List.lookup, e]
theorem lk_past {k g : Str} {v : V} {r : List (Str × V)} (h : (k == g) = false) : List.lookup k ((g, v) :: r) = List.lookup k r := by
  simp only [List.lookup, h]
theorem put_here {f : Str} {v x : V} {r : List (Str × V)} : putF f v ((f, x) :: r) = (f, v) :: r := if_pos rfl
theorem put_past {f g : Str} {v x : V} {r : List (Str × V)} (h : ¬ g = f) : putF f v ((g, x) :: r) = (g, x) :: putF f v r := if_neg h
end Ws
namespace Ws
theorem ifT {c : Bool} {A B : Prop} (hc : c = true) (h : A) : if c = true then A else B := by rw [if_pos hc]; exact h
theorem ifF {c : Bool} {A B : Prop} (hc : c = false) (h : B) : if c = true then A else B := by rw [hc, if_neg Bool.false_ne_true]; exact h
theorem if2 {c : Bool} {A B : Prop} (h1 : c = true → A) (h2 : c = false → B) : if c = true then A else B := by
  cases c with
  | true => exact ifT rfl (h1 rfl)
  | false => exact ifF rfl (h2 rfl)
end Ws
namespace Ws
open PySem PySem.Spec PyProof.Rows L2
section
variable {X : Cx} {CX : CXT} {k n : Nat} {f C : Addr} {fd : FuncData} {ps ks : List Str} {sp : Sp} {E : XK} {m : Str} {pos apos : Pos} {e o : Expr} {kws : List Keyword} {ta : TE} {tk : TA} {g : List Value → List Value → List Value} {gV : List V → List V → List V}
/-- o.m(k = v, ..) -/
def tMtK (C : Addr) (m : Str) (n : Nat) (sp : Sp) (gV : List V → List V → List V) (E : XK) (ta : TE) (tk : TA) : TE := fun σ H Q => ta σ H fun x H1 => ∃ a dx fs, x = .ref a ∧ H1 a = some (.ins C dx fs) ∧ fs.lookup m = none ∧ tk σ H1 fun zs H2 => zs.length = n ∧ sp (gV [x] zs) H2 Q E
theorem pe_mtK0 {pl : Sem Bool} (c : Cls X.K C) (hm : Meth X.K C m f) (F : FnOk X.prog X.w X.K X.mg X.base CX k f fd ps sp) (hr : Room k X.A) (hb : KBn X.K fd ps 1 ks g gV) (hx : Passes CX X E) (he : PE X o ta) (hkw : PK X kws tk)
    (hall : (backToKw pos (keywordEach kws X.env)).all (·.1.isSome) = true := by rfl) (hks : (backToKw pos (keywordEach kws X.env)).filterMap (·.1) = ks := by rfl)
    (hpl : ((backTo pos (starEach [] X.env)).any (·.1) || (backToKw pos (keywordEach kws X.env)).any (·.1.isNone)) = false := by rfl)
    (ht : eval (.Call (.Attribute o m apos) [] kws pos) X.env = (do
      let ov ← eval o X.env
      standAt apos.atName
      let (f, first) ← holding [ov] (getMethod ov m pl)
      callWith pos f first (backTo pos (starEach [] X.env)) (backToKw pos (keywordEach kws X.env))) := by rfl) :
    PE X (.Call (.Attribute o m apos) [] kws pos) (tMtK C m ks.length sp gV E ta tk) := by
  refine ⟨fun pins s σ H Q I h => ?_⟩
  refine PySem.W.methodCall_KW (pl := pl) (thn (he.run pins s σ H _ I h) fun u s1 ⟨x, H1, I1, rx, a, dx, fs, ex, ea, l, q⟩ => ?_) ht
  subst ex
  obtain rfl : u = Value.ref a := rx
  refine getmeth_ok I1 ea c hm l ?_
  refine PySem.W.callWith_KW0 (first := [.ref a]) (h₀ := X.base) I.ok.mod.kin hm.kp hall ?_ hpl
  refine thn (hkw.run pos pins s1 σ H1 _ I1 q) fun ws s2 ⟨zs, H2, I2, rz, l2, q2⟩ => ⟨I2.kIn, ?_⟩
  rw [hks]
  exact run_fnN (us := [.ref a]) (vs := [.ref a]) F hr hb hx I2 (.cons rfl .nil) rz rfl l2 q2
end
end Ws
namespace Ws
theorem bit_lo (c : Bool) : -(2 ^ 64) < (if c = true then (1 : Int) else 0) ∧ (if c = true then (1 : Int) else 0) < 2 ^ 64 := by cases c <;> decide
theorem bit_nn (c : Bool) : 0 ≤ (if c = true then (1 : Int) else 0) := by cases c <;> decide
end Ws
namespace Ws
open PySem
theorem kit_self {K : PySem.W.Frag} (t : Value) : PySem.W.kitOne K t t = some true := by
  unfold PySem.W.kitOne
  rw [if_pos (by simp)]
end Ws

namespace Ws
/-! ### fractions in lowest terms -/
def gI (t b : Int) : Int := ((Nat.gcd t.natAbs b.natAbs : Nat) : Int)
def gS (t b : Int) : Int := if b < 0 then -(gI t b) else gI t b
def nT (t b : Int) : Int := t.fdiv (gS t b)
def nB (t b : Int) : Int := b.fdiv (gS t b)
theorem gI_pos {t b : Int} (hb : b ≠ 0) : 0 < gI t b := by
  have : 0 < Nat.gcd t.natAbs b.natAbs := Nat.gcd_pos_of_pos_right _ (by omega)
  unfold gI; omega
theorem gS_ne {t b : Int} (hb : b ≠ 0) : gS t b ≠ 0 := by
  have := gI_pos (t := t) hb
  unfold gS; split <;> omega
/-- the reduced pair -/
structure Low (t b p q : Int) : Prop where
  pos : 0 < q
  cross : p * b = t * q
  cop : Nat.gcd p.natAbs q.natAbs = 1
theorem nf_parts {t b : Int} (hb : b ≠ 0) : ∃ t' b' : Int, t = gI t b * t' ∧ b = gI t b * b' ∧ Nat.gcd t'.natAbs b'.natAbs = 1 ∧ b' ≠ 0 := by
  have hg := gI_pos (t := t) hb
  have h1 : gI t b ∣ t := by
    have : Nat.gcd t.natAbs b.natAbs ∣ t.natAbs := Nat.gcd_dvd_left _ _
    have := Int.ofNat_dvd.mpr this
    exact Int.dvd_natAbs.mp this
  have h2 : gI t b ∣ b := by
    have : Nat.gcd t.natAbs b.natAbs ∣ b.natAbs := Nat.gcd_dvd_right _ _
    have := Int.ofNat_dvd.mpr this
    exact Int.dvd_natAbs.mp this
  obtain ⟨t', e1⟩ := h1
  obtain ⟨b', e2⟩ := h2
  refine ⟨t', b', e1, e2, ?_, ?_⟩
  · have e3 : t.natAbs = (gI t b).natAbs * t'.natAbs := by rw [← Int.natAbs_mul, ← e1]
    have e4 : b.natAbs = (gI t b).natAbs * b'.natAbs := by rw [← Int.natAbs_mul, ← e2]
    have e5 : Nat.gcd t.natAbs b.natAbs = (gI t b).natAbs := by unfold gI; simp
    rw [e3, e4, Nat.gcd_mul_left] at e5
    have h0 : 0 < (gI t b).natAbs := by omega
    exact Nat.eq_of_mul_eq_mul_left h0 (by rw [e5, Nat.mul_one])
  · intro z
    rw [z, Int.mul_zero] at e2
    exact hb e2
theorem nf_vals {t b : Int} (hb : b ≠ 0) : ∃ t' b' : Int, t = gI t b * t' ∧ b = gI t b * b' ∧ Nat.gcd t'.natAbs b'.natAbs = 1 ∧ b' ≠ 0 ∧ nT t b = (if b < 0 then -t' else t') ∧ nB t b = (if b < 0 then -b' else b') ∧ (b < 0 ↔ b' < 0) := by
  obtain ⟨t', b', e1, e2, hc, h0⟩ := nf_parts (t := t) hb
  have hg := gI_pos (t := t) hb
  have hs : b < 0 ↔ b' < 0 := by
    constructor
    · intro h
      apply Int.lt_of_not_ge
      intro h2
      have : 0 ≤ gI t b * b' := Int.mul_nonneg (by omega) h2
      omega
    · intro h
      have : gI t b * b' < gI t b * 0 := Int.mul_lt_mul_of_pos_left h hg
      omega
  refine ⟨t', b', e1, e2, hc, h0, ?_, ?_, hs⟩
  · unfold nT gS
    split
    · generalize gI t b = g at *
      subst e1
      rw [show g * t' = -g * -t' by grind, Int.mul_fdiv_cancel_left _ (by omega)]
    · generalize gI t b = g at *
      subst e1
      rw [Int.mul_fdiv_cancel_left _ (by omega)]
  · unfold nB gS
    split
    · generalize gI t b = g at *
      rw [e2, show g * b' = -g * -b' by grind, Int.mul_fdiv_cancel_left _ (by omega)]
    · generalize gI t b = g at *
      rw [e2, Int.mul_fdiv_cancel_left _ (by omega)]
theorem nf_low {t b : Int} (hb : b ≠ 0) : Low t b (nT t b) (nB t b) := by
  obtain ⟨t', b', e1, e2, hc, h0, eT, eB, hs⟩ := nf_vals (t := t) hb
  generalize gI t b = g at *
  rw [eT, eB]
  split
  · rename_i h
    have := hs.mp h
    refine ⟨by omega, by grind, by simpa using hc⟩
  · rename_i h
    have : ¬ b' < 0 := fun z => h (hs.mpr z)
    exact ⟨by omega, by grind, hc⟩
theorem nf_le {t b : Int} (hb : b ≠ 0) : (nT t b).natAbs ≤ t.natAbs ∧ (nB t b).natAbs ≤ b.natAbs := by
  obtain ⟨t', b', e1, e2, hc, h0, eT, eB, hs⟩ := nf_vals (t := t) hb
  have hg := gI_pos (t := t) hb
  have e3 : t.natAbs = (gI t b).natAbs * t'.natAbs := by rw [← Int.natAbs_mul, ← e1]
  have e4 : b.natAbs = (gI t b).natAbs * b'.natAbs := by rw [← Int.natAbs_mul, ← e2]
  have h0 : 1 ≤ (gI t b).natAbs := by omega
  have k1 : t'.natAbs ≤ t.natAbs := by rw [e3]; exact Nat.le_mul_of_pos_left _ h0
  have k2 : b'.natAbs ≤ b.natAbs := by rw [e4]; exact Nat.le_mul_of_pos_left _ h0
  rw [eT, eB]
  by_cases h : b < 0
  · rw [if_pos h, if_pos h]
    constructor <;> omega
  · rw [if_neg h, if_neg h]
    exact ⟨k1, k2⟩
theorem low_uniq {p q r s : Int} (h : p * s = r * q) (hq : 0 < q) (hs : 0 < s) (h1 : Nat.gcd p.natAbs q.natAbs = 1) (h2 : Nat.gcd r.natAbs s.natAbs = 1) : p = r ∧ q = s := by
  have e : p.natAbs * s.natAbs = r.natAbs * q.natAbs := by rw [← Int.natAbs_mul, ← Int.natAbs_mul, h]
  have d1 : q.natAbs ∣ s.natAbs := by
    have c : Nat.Coprime q.natAbs p.natAbs := by rw [Nat.coprime_comm]; exact h1
    exact c.dvd_of_dvd_mul_left ⟨r.natAbs, by rw [e, Nat.mul_comm]⟩
  have d2 : s.natAbs ∣ q.natAbs := by
    have c : Nat.Coprime s.natAbs r.natAbs := by rw [Nat.coprime_comm]; exact h2
    exact c.dvd_of_dvd_mul_left ⟨p.natAbs, by rw [← e, Nat.mul_comm]⟩
  have e2 : q.natAbs = s.natAbs := Nat.dvd_antisymm d1 d2
  have e3 : q = s := by omega
  subst e3
  exact ⟨Int.eq_of_mul_eq_mul_right (by omega) h, rfl⟩
/-- a reduced pair is the reduced pair of anything that it crosses with -/
theorem Low.eq {t b p q c d r s : Int} (h : Low t b p q) (h' : Low c d r s) (hb : b ≠ 0) (hd : d ≠ 0) (e : t * d = c * b) : p = r ∧ q = s := by
  refine low_uniq ?_ h.pos h'.pos h.cop h'.cop
  have e1 := h.cross
  have e2 := h'.cross
  have : (p * s) * (b * d) = (r * q) * (b * d) := by grind
  exact Int.eq_of_mul_eq_mul_right (Int.mul_ne_zero hb hd) this
theorem Low.ne {t b p q c d r s : Int} (h : Low t b p q) (h' : Low c d r s) (hb : b ≠ 0) (hd : d ≠ 0) (e : t * d ≠ c * b) : ¬ (p = r ∧ q = s) := by
  rintro ⟨rfl, rfl⟩
  refine e ?_
  have e1 := h.cross
  have e2 := h'.cross
  have : (t * d) * q = (c * b) * q := by grind
  exact Int.eq_of_mul_eq_mul_right (by have := h.pos; omega) this
theorem nf_eq {t b c d : Int} (hb : b ≠ 0) (hd : d ≠ 0) (e : t * d = c * b) : nT t b = nT c d ∧ nB t b = nB c d := (nf_low hb).eq (nf_low hd) hb hd e
theorem nf_ne {t b c d : Int} (hb : b ≠ 0) (hd : d ≠ 0) (e : t * d ≠ c * b) : ¬ (nT t b = nT c d ∧ nB t b = nB c d) := (nf_low hb).ne (nf_low hd) hb hd e
/-- the law's own reckoning -/
theorem nf_least {t b : Int} (hb : b ≠ 0) : ((if b < 0 then -1 else 1) * t) / gI t b = nT t b ∧ (if b < 0 then -b else b) / gI t b = nB t b := by
  obtain ⟨t', b', e1, e2, hc, h0, eT, eB, hs⟩ := nf_vals (t := t) hb
  have hg := gI_pos (t := t) hb
  rw [eT, eB]
  generalize gI t b = g at *
  subst e1
  split
  · refine ⟨?_, ?_⟩
    · rw [show -1 * (g * t') = g * -t' by grind, Int.mul_ediv_cancel_left _ (by omega)]
    · rw [e2, show -(g * b') = g * -b' by grind, Int.mul_ediv_cancel_left _ (by omega)]
  · refine ⟨?_, ?_⟩
    · rw [Int.one_mul, Int.mul_ediv_cancel_left _ (by omega)]
    · rw [e2, Int.mul_ediv_cancel_left _ (by omega)]
/-- one turn of Euclid's loop -/
theorem gcd_turn {a b : Int} (ha : 0 ≤ a) (hb : 0 < b) : Nat.gcd b.natAbs (a % b).natAbs = Nat.gcd a.natAbs b.natAbs := by
  rw [Int.natAbs_emod_of_nonneg ha, Nat.gcd_comm a.natAbs, Nat.gcd_rec b.natAbs a.natAbs, Nat.gcd_comm]
/-! ### sizes -/
/-- less than n bits -/
def Sz (n : Nat) (i : Int) : Prop := i.natAbs < 2 ^ n
theorem Sz.mono {n m : Nat} {i : Int} (h : Sz n i) (hm : n ≤ m) : Sz m i := Nat.lt_of_lt_of_le h (Nat.pow_le_pow_right (by decide) hm)
theorem Sz.mul {n m : Nat} {i j : Int} (h : Sz n i) (h' : Sz m j) : Sz (n + m) (i * j) := by
  unfold Sz at *
  rw [Int.natAbs_mul, Nat.pow_add]
  exact Nat.mul_lt_mul'' h h'
theorem Sz.add {n : Nat} {i j : Int} (h : Sz n i) (h' : Sz n j) : Sz (n + 1) (i + j) := by
  unfold Sz at *
  rw [Nat.pow_succ]
  omega
theorem Sz.sub {n : Nat} {i j : Int} (h : Sz n i) (h' : Sz n j) : Sz (n + 1) (i - j) := by
  unfold Sz at *
  rw [Nat.pow_succ]
  omega
theorem Sz.neg {n : Nat} {i : Int} (h : Sz n i) : Sz n (-i) := by
  unfold Sz at *
  omega
theorem Sz.nT {n : Nat} {t b : Int} (hb : b ≠ 0) (h : Sz n t) : Sz n (nT t b) := Nat.lt_of_le_of_lt (nf_le hb).1 h
theorem Sz.nB {n : Nat} {t b : Int} (hb : b ≠ 0) (h : Sz n b) : Sz n (nB t b) := Nat.lt_of_le_of_lt (nf_le hb).2 h
theorem Sz.gI {n : Nat} {t b : Int} (hb : b ≠ 0) (h : Sz n b) : Sz n (gI t b) := by
  refine Nat.lt_of_le_of_lt ?_ h
  unfold Ws.gI
  exact Nat.le_of_dvd (by omega) (Nat.gcd_dvd_right _ _)
theorem Sz.of_abs {n : Nat} {i : Int} (h : i.natAbs < 2 ^ n) : Sz n i := h
end Ws
namespace Ws
/-- a reduced pair is that of any other pair that crosses with the first one -/
theorem Low.base {t b p q c d : Int} (h : Low t b p q) (hb : b ≠ 0) (e : t * d = c * b) : Low c d p q := by
  refine ⟨h.pos, ?_, h.cop⟩
  have e1 := h.cross
  have : (p * d) * b = (c * q) * b := by grind
  exact Int.eq_of_mul_eq_mul_right hb this
theorem Low.nf {t b p q : Int} (h : Low t b p q) (hb : b ≠ 0) : p = nT t b ∧ q = nB t b := h.eq (nf_low hb) hb hb rfl
theorem Low.szT {t b p q : Int} {n : Nat} (h : Low t b p q) (hb : b ≠ 0) (z : Sz n t) : Sz n p := by rw [(h.nf hb).1]; exact z.nT hb
theorem Low.szB {t b p q : Int} {n : Nat} (h : Low t b p q) (hb : b ≠ 0) (z : Sz n b) : Sz n q := by rw [(h.nf hb).2]; exact z.nB hb
theorem Low.zero {t b p q : Int} (h : Low t b p q) (hb : b ≠ 0) : p = 0 ↔ t = 0 := by
  have e := h.cross
  have hq := h.pos
  constructor
  · intro z
    rw [z, Int.zero_mul] at e
    rcases Int.mul_eq_zero.mp e.symm with z | z
    · exact z
    · omega
  · intro z
    rw [z, Int.zero_mul] at e
    rcases Int.mul_eq_zero.mp e with z | z
    · exact z
    · exact absurd z hb
theorem Low.self {t b p q : Int} (h : Low t b p q) (hb : b ≠ 0) : Low p q p q := ⟨h.pos, rfl, h.cop⟩
end Ws

namespace Ws
open PySem PySem.Spec PyProof.Rows L2
section
variable {K : PySem.W.Frag} {a : Addr} {xs : List V} {g : TG} {te : TE} {vs : List Nat} {σ : L2.St} {H1 : Hp} {D : Addr} {Qd : Hp → Prop}
/-- a comprehension without a test: what is made so far stands at D, J tells of it -/
def PvJ (D : Addr) (J : Nat → List V → Hp → Prop) : Nat → Hp → Prop := fun i H => ∃ acc, acc.length = i ∧ H D = some (.lst acc) ∧ J i acc H
theorem step_J {J : Nat → List V → Hp → Prop} {i : Nat} {x : V} {H : Hp} (hz : i < sizeLine) (h : PvJ D J i H)
    (hs : ∀ acc, J i acc H → H D = some (.lst acc) → acc.length = i → ∀ Qn : VK, (∀ y H4, H4 D = some (.lst acc) → J (i + 1) (acc ++ [y]) (upd H4 D (.lst (acc ++ [y]))) → Qn y H4) → g x (wipe σ vs) H fun σ2 H2 => wipe σ2 vs = wipe σ vs ∧ te σ2 H2 Qn) :
    g x (wipe σ vs) H fun σ2 H2 => wipe σ2 vs = wipe σ vs ∧ tYes σ2 H2 fun b H3 => if b = true then te σ2 H3 fun y H4 => ∃ acc, H4 D = some (.lst acc) ∧ acc.length < sizeLine ∧ PvJ D J (i + 1) (upd H4 D (.lst (acc ++ [y]))) else PvJ D J (i + 1) H3 := by
  obtain ⟨acc, hl, hD, j⟩ := h
  have := hs acc j hD hl (fun y H4 => ∃ acc, H4 D = some (.lst acc) ∧ acc.length < sizeLine ∧ PvJ D J (i + 1) (upd H4 D (.lst (acc ++ [y])))) fun y H4 e jj => ⟨acc, e, by rw [hl]; exact hz, acc ++ [y], by rw [List.length_append, hl] <;> rfl, upd_same, jj⟩
  have e : (fun (σ2 : L2.St) (H2 : Hp) => wipe σ2 vs = wipe σ vs ∧ tYes σ2 H2 fun b H3 => if b = true then te σ2 H3 fun y H4 => ∃ acc, H4 D = some (.lst acc) ∧ acc.length < sizeLine ∧ PvJ D J (i + 1) (upd H4 D (.lst (acc ++ [y]))) else PvJ D J (i + 1) H3)
      = fun σ2 H2 => wipe σ2 vs = wipe σ vs ∧ te σ2 H2 fun y H4 => ∃ acc, H4 D = some (.lst acc) ∧ acc.length < sizeLine ∧ PvJ D J (i + 1) (upd H4 D (.lst (acc ++ [y]))) := by
    funext σ2 H2
    show (wipe σ2 vs = wipe σ vs ∧ (if true = true then (te σ2 H2 fun y H4 => ∃ acc, H4 D = some (.lst acc) ∧ acc.length < sizeLine ∧ PvJ D J (i + 1) (upd H4 D (.lst (acc ++ [y])))) else PvJ D J (i + 1) H2)) = _
    rw [if_pos rfl]
  rw [e]
  exact this
theorem lcT (J : Nat → List V → Hp → Prop) (h0 : J 0 [] (upd H1 D (.lst []))) (hl : ∀ i acc H, J i acc H → SqT K H a xs) (hz : xs.length < sizeLine)
    (hs : ∀ i x H acc, xs[i]? = some x → J i acc H → H D = some (.lst acc) → acc.length = i → ∀ Qn : VK, (∀ y H4, H4 D = some (.lst acc) → J (i + 1) (acc ++ [y]) (upd H4 D (.lst (acc ++ [y]))) → Qn y H4) → g x (wipe σ vs) H fun σ2 H2 => wipe σ2 vs = wipe σ vs ∧ te σ2 H2 Qn)
    (hd : ∀ ys H, J xs.length ys H → H D = some (.lst ys) → ys.length = xs.length → Qd H) :
    ∃ W : Nat → Nat → Hp → Prop, (∃ m, W 0 m (upd H1 D (.lst []))) ∧ ∀ i m H, W i m H →
      ((Itt K a).stop i H ∧ Qd H) ∨ ((Itt K a).go i H ∧ ∃ Nx : Hp → Prop, (∀ H', Nx H' → ∃ m', m' < m ∧ W (i + 1) m' H') ∧ ∀ x H', (Itt K a).yld i H x H' → g x (wipe σ vs) H' fun σ2 H2 => wipe σ2 vs = wipe σ vs ∧ tYes σ2 H2 fun b H3 =>
        if b = true then te σ2 H3 fun y H4 => ∃ acc, H4 D = some (.lst acc) ∧ acc.length < sizeLine ∧ Nx (upd H4 D (.lst (acc ++ [y]))) else Nx H3) :=
  lc_tup (K := K) (a := a) (xs := xs) (PvJ D J) ⟨[], rfl, upd_same, h0⟩ (fun i H _ h => let ⟨acc, _, _, j⟩ := h; hl i acc H j)
    (fun i x H hx h => step_J (Nat.lt_trans (List.getElem?_eq_some_iff.mp hx).1 hz) h fun acc j e l => hs i x H acc hx j e l) fun H h => let ⟨ys, l, e, j⟩ := h; hd ys H j e l
theorem lcL (J : Nat → List V → Hp → Prop) (h0 : J 0 [] (upd H1 D (.lst []))) (hl : ∀ i acc H, J i acc H → SqL K H a xs) (hz : xs.length < sizeLine)
    (hs : ∀ i x H acc, xs[i]? = some x → J i acc H → H D = some (.lst acc) → acc.length = i → ∀ Qn : VK, (∀ y H4, H4 D = some (.lst acc) → J (i + 1) (acc ++ [y]) (upd H4 D (.lst (acc ++ [y]))) → Qn y H4) → g x (wipe σ vs) H fun σ2 H2 => wipe σ2 vs = wipe σ vs ∧ te σ2 H2 Qn)
    (hd : ∀ ys H, J xs.length ys H → H D = some (.lst ys) → ys.length = xs.length → Qd H) :
    ∃ W : Nat → Nat → Hp → Prop, (∃ m, W 0 m (upd H1 D (.lst []))) ∧ ∀ i m H, W i m H →
      ((Itl K a).stop i H ∧ Qd H) ∨ ((Itl K a).go i H ∧ ∃ Nx : Hp → Prop, (∀ H', Nx H' → ∃ m', m' < m ∧ W (i + 1) m' H') ∧ ∀ x H', (Itl K a).yld i H x H' → g x (wipe σ vs) H' fun σ2 H2 => wipe σ2 vs = wipe σ vs ∧ tYes σ2 H2 fun b H3 =>
        if b = true then te σ2 H3 fun y H4 => ∃ acc, H4 D = some (.lst acc) ∧ acc.length < sizeLine ∧ Nx (upd H4 D (.lst (acc ++ [y]))) else Nx H3) :=
  lc_list (K := K) (a := a) (xs := xs) (PvJ D J) ⟨[], rfl, upd_same, h0⟩ (fun i H _ h => let ⟨acc, _, _, j⟩ := h; hl i acc H j)
    (fun i x H hx h => step_J (Nat.lt_trans (List.getElem?_eq_some_iff.mp hx).1 hz) h fun acc j e l => hs i x H acc hx j e l) fun H h => let ⟨ys, l, e, j⟩ := h; hd ys H j e l
theorem lcR {lo : Int} {n : Nat} (J : Nat → List V → Hp → Prop) (h0 : J 0 [] (upd H1 D (.lst []))) (hz : n < sizeLine)
    (hs : ∀ i H acc, i < n → J i acc H → H D = some (.lst acc) → acc.length = i → ∀ Qn : VK, (∀ y H4, H4 D = some (.lst acc) → J (i + 1) (acc ++ [y]) (upd H4 D (.lst (acc ++ [y]))) → Qn y H4) → g (.int (lo + i)) (wipe σ vs) H fun σ2 H2 => wipe σ2 vs = wipe σ vs ∧ te σ2 H2 Qn)
    (hd : ∀ ys H, J n ys H → H D = some (.lst ys) → ys.length = n → Qd H) :
    ∃ W : Nat → Nat → Hp → Prop, (∃ m, W 0 m (upd H1 D (.lst []))) ∧ ∀ i m H, W i m H →
      ((Itr lo n).stop i H ∧ Qd H) ∨ ((Itr lo n).go i H ∧ ∃ Nx : Hp → Prop, (∀ H', Nx H' → ∃ m', m' < m ∧ W (i + 1) m' H') ∧ ∀ x H', (Itr lo n).yld i H x H' → g x (wipe σ vs) H' fun σ2 H2 => wipe σ2 vs = wipe σ vs ∧ tYes σ2 H2 fun b H3 =>
        if b = true then te σ2 H3 fun y H4 => ∃ acc, H4 D = some (.lst acc) ∧ acc.length < sizeLine ∧ Nx (upd H4 D (.lst (acc ++ [y]))) else Nx H3) :=
  lc_range (PvJ D J) ⟨[], rfl, upd_same, h0⟩ (fun i H hi h => step_J (Nat.lt_trans hi hz) h fun acc j e l => hs i H acc hi j e l) fun H h => let ⟨ys, l, e, j⟩ := h; hd ys H j e l
end
end Ws

namespace Ws
open PySem PySem.Spec PyProof.Rows L2
abbrev sWhole : Stmt := (PySem.Challenge.pw_whatspeed_k06_where_lines_meet.main.body.getD 6 (.Pass ⟨0, 0, 0, 0⟩))
abbrev NWhole : List Str := ["value"]
abbrev PWhole : List Str := ["value"]
theorem scWhole : FnScope NWhole PWhole (defScope sWhole) := ⟨rfl, rfl, rfl, by decide +kernel, rfl, by decide +kernel, by decide +kernel⟩
abbrev sNum : Stmt := (inClass (PySem.Challenge.pw_whatspeed_k06_where_lines_meet.main.body.getD 7 (.Pass ⟨0, 0, 0, 0⟩)) 0)
abbrev NNum : List Str := ["self", "top", "bottom", "shared"]
abbrev PNum : List Str := ["self", "top", "bottom"]
theorem scNum : FnScope NNum PNum (defScope sNum) := ⟨rfl, rfl, rfl, by decide +kernel, rfl, by decide +kernel, by decide +kernel⟩
abbrev sNTop : Stmt := (inClass (PySem.Challenge.pw_whatspeed_k06_where_lines_meet.main.body.getD 7 (.Pass ⟨0, 0, 0, 0⟩)) 1)
abbrev NNTop : List Str := ["self"]
abbrev PNTop : List Str := ["self"]
theorem scNTop : FnScope NNTop PNTop (defScope sNTop) := ⟨rfl, rfl, rfl, by decide +kernel, rfl, by decide +kernel, by decide +kernel⟩
abbrev sNBot : Stmt := (inClass (PySem.Challenge.pw_whatspeed_k06_where_lines_meet.main.body.getD 7 (.Pass ⟨0, 0, 0, 0⟩)) 2)
abbrev NNBot : List Str := ["self"]
abbrev PNBot : List Str := ["self"]
theorem scNBot : FnScope NNBot PNBot (defScope sNBot) := ⟨rfl, rfl, rfl, by decide +kernel, rfl, by decide +kernel, by decide +kernel⟩
abbrev sNEq : Stmt := (inClass (PySem.Challenge.pw_whatspeed_k06_where_lines_meet.main.body.getD 7 (.Pass ⟨0, 0, 0, 0⟩)) 3)
abbrev NNEq : List Str := ["self", "other"]
abbrev PNEq : List Str := ["self", "other"]
theorem scNEq : FnScope NNEq PNEq (defScope sNEq) := ⟨rfl, rfl, rfl, by decide +kernel, rfl, by decide +kernel, by decide +kernel⟩
abbrev sNBool : Stmt := (inClass (PySem.Challenge.pw_whatspeed_k06_where_lines_meet.main.body.getD 7 (.Pass ⟨0, 0, 0, 0⟩)) 4)
abbrev NNBool : List Str := ["self"]
abbrev PNBool : List Str := ["self"]
theorem scNBool : FnScope NNBool PNBool (defScope sNBool) := ⟨rfl, rfl, rfl, by decide +kernel, rfl, by decide +kernel, by decide +kernel⟩
abbrev sNAdd : Stmt := (inClass (PySem.Challenge.pw_whatspeed_k06_where_lines_meet.main.body.getD 7 (.Pass ⟨0, 0, 0, 0⟩)) 5)
abbrev NNAdd : List Str := ["self", "other"]
abbrev PNAdd : List Str := ["self", "other"]
theorem scNAdd : FnScope NNAdd PNAdd (defScope sNAdd) := ⟨rfl, rfl, rfl, by decide +kernel, rfl, by decide +kernel, by decide +kernel⟩
abbrev sNSub : Stmt := (inClass (PySem.Challenge.pw_whatspeed_k06_where_lines_meet.main.body.getD 7 (.Pass ⟨0, 0, 0, 0⟩)) 6)
abbrev NNSub : List Str := ["self", "other"]
abbrev PNSub : List Str := ["self", "other"]
theorem scNSub : FnScope NNSub PNSub (defScope sNSub) := ⟨rfl, rfl, rfl, by decide +kernel, rfl, by decide +kernel, by decide +kernel⟩
abbrev sNMul : Stmt := (inClass (PySem.Challenge.pw_whatspeed_k06_where_lines_meet.main.body.getD 7 (.Pass ⟨0, 0, 0, 0⟩)) 7)
abbrev NNMul : List Str := ["self", "other"]
abbrev PNMul : List Str := ["self", "other"]
theorem scNMul : FnScope NNMul PNMul (defScope sNMul) := ⟨rfl, rfl, rfl, by decide +kernel, rfl, by decide +kernel, by decide +kernel⟩
/-! ### a Number, a Line in the heap -/
def nF (t b : Int) : List (Str × V) := [("_top", .int t), ("_bottom", .int b)]
def NumAt (C : Addr) (H : Hp) (a : Addr) (t b : Int) : Prop := ∃ dx, H a = some (.ins C dx (nF t b))
theorem nF_top (t b : Int) : (nF t b).lookup ("_top" : Str) = some (.int t) := lk_here
theorem nF_bot (t b : Int) : (nF t b).lookup ("_bottom" : Str) = some (.int b) := (lk_past (by decide +kernel)).trans lk_here
theorem NumAt.same {C : Addr} {H H' : Hp} {a : Addr} {t b : Int} (h : NumAt C H a t b) (s : Same H H') : NumAt C H' a t b := let ⟨dx, e⟩ := h; ⟨dx, s _ _ e⟩
theorem NumAt.ch {C : Addr} {H H' : Hp} {p a : Addr} {t b : Int} (h : NumAt C H a t b) (s : Ch p H H') (n : a ≠ p) : NumAt C H' a t b := let ⟨dx, e⟩ := h; ⟨dx, s _ _ n e⟩
/-- what the class Number must be -/
structure NumC (K : PySem.W.Frag) (C : Addr) : Prop where
  cl : Cls K C
  nT : NoAttr K C "_top"
  nB : NoAttr K C "_bottom"
  ha : PySem.W.findIn K (.ref C) "__class__" = some (some (.builtin "object.__class__"))
  hn : PySem.W.specialIn K (.builtin "object.__class__") "__get__" = some (some (.builtin "getset_descriptor.__get__"))
  htk : PySem.W.takesIn K (.builtin "object.__class__") = some true
  hm : PySem.W.mroIn K C (.type "object") = some true
  kk : PySem.W.kitOne K (.ref C) (.ref C) = some true
  sf : PySem.W.selfFirst K C = true
  nf : PySem.W.notFirst K C (.ref C) = true
theorem NumC.ty {K : PySem.W.Frag} {C : Addr} (c : NumC K C) {H : Hp} {a dx : Addr} {fs : List (Str × V)} (e : H a = some (.ins C dx fs)) : TyX K H (.ref a) (.ref C) := .base (.ins e c.cl c.ha c.hn c.htk c.hm)
/-! ### promises -/
def spWhole : Sp := fun vs H Q _ => ∃ i : Int, vs = [.int i] ∧ Q (.bl true) H
def spNum (C : Addr) : Sp := fun vs H Q _ => ∃ (x dx : Addr) (t b : Int), vs = [.ref x, .int t, .int b] ∧ b ≠ 0 ∧ Sz 8000 b ∧ H x = some (.ins C dx []) ∧
  ∀ H', NumAt C H' x (nT t b) (nB t b) → (∀ a o, H a = some o → a ≠ x → H' a = some o) → Q .non H'
def spTop (C : Addr) : Sp := fun vs H Q _ => ∃ (a : Addr) (t b : Int), vs = [.ref a] ∧ NumAt C H a t b ∧ Q (.int t) H
def spBot (C : Addr) : Sp := fun vs H Q _ => ∃ (a : Addr) (t b : Int), vs = [.ref a] ∧ NumAt C H a t b ∧ Q (.int b) H
def spNEq (C : Addr) : Sp := fun vs H Q _ => ∃ (a c : Addr) (t b p q : Int), vs = [.ref a, .ref c] ∧ NumAt C H a t b ∧ NumAt C H c p q ∧ Q (.bl (decide (t = p ∧ b = q))) H
def spNBool (C : Addr) : Sp := fun vs H Q _ => ∃ (a : Addr) (t b : Int), vs = [.ref a] ∧ NumAt C H a t b ∧ Q (.bl (t != 0)) H
/-- a new Number at a place that was free -/
def spOp2 (C : Addr) (f g : Int → Int → Int → Int → Int) : Sp := fun vs H Q _ => ∃ (a c : Addr) (t b p q : Int), vs = [.ref a, .ref c] ∧ NumAt C H a t b ∧ NumAt C H c p q ∧ Sz 2000 t ∧ Sz 2000 b ∧ Sz 2000 p ∧ Sz 2000 q ∧ g t b p q ≠ 0 ∧
  ∀ x H', H x = none → NumAt C H' x (nT (f t b p q) (g t b p q)) (nB (f t b p q) (g t b p q)) → Same H H' → Q (.ref x) H'
abbrev spAdd (C : Addr) : Sp := spOp2 C (fun t b p q => t * q + p * b) (fun _ b _ q => b * q)
abbrev spSub (C : Addr) : Sp := spOp2 C (fun t b p q => t * q - p * b) (fun _ b _ q => b * q)
abbrev spMul (C : Addr) : Sp := spOp2 C (fun t b p q => t * p) (fun _ b _ q => b * q)
section
variable {P : Program} {w : World} {K : PySem.W.Frag} {mg : Str → Option Value} {base : Heap} {C f : Addr} {fd : FuncData}
theorem ok_whole (F : L2.Fun K "is_whole" "is_whole" sWhole f fd) (b : Binds K fd PWhole []) (B : Bi mg) : FnR P w K mg base CX0 1 f spWhole := by
  refine fnR_of F b scWhole (fun vs H Q E h => ?_) (fun cdv A outer s H vs Q E hr h => ?_)
  · obtain ⟨i, rfl, _⟩ := h
    rfl
  · have sc := scWhole
    obtain ⟨i, rfl, k⟩ := h
    refine ⟨_, (pss_one (ps_ret (pe_and (pe_callB call_isi (by rfl) B.isinstance (by decide +kernel) (pa_cons (pv 0) (pa_cons (pe_bltn (v := .ty "int") (by rfl) B.int (by decide +kernel) rfl) pa_nil))) (pe_one (pe_not (pe_callB call_isi (by rfl) B.isinstance (by decide +kernel) (pa_cons (pv 0) (pa_cons (pe_bltn (v := .ty "bool") (by rfl) B.bool (by decide +kernel) rfl) pa_nil)))))))), ?_⟩
    refine ⟨_, rfl, _, _, _, _, true, rfl, .ty _, .base (.int i), kit_ty (by decide +kernel), true, rfl, iteT ?_⟩
    exact ⟨_, rfl, _, _, _, _, false, rfl, .ty _, .base (.int i), kit_ty (by decide +kernel), false, rfl, k⟩
theorem ok_num {dvs' : List V} {ds : List Value} {dvs : List V} {sp' : Sp} (F : FunD K "__init__" "Number.__init__" (defArgs sNum) (defBody sNum) (defScope sNum) dvs [] f fd) (b : Binds K fd PNum ds) (d : Vals dvs' ds) (imp : ∀ vs H Q E, sp' vs H Q E → spNum C (vs ++ dvs') H Q E)
    (B : Bi mg) (NC : NumC K C) (hgcd : mg "gcd" = some (.builtin "math.gcd")) (cW : CalF P w K mg base 1 "is_whole" spWhole) : FnR P w K mg base CX0 2 f sp' := by
  refine fnD_of F b d scNum (sp := spNum C) (fun vs H Q E h => ?_) imp (fun cdv A outer s H vs Q E hr h => ?_)
  · obtain ⟨x, dx, t, b, rfl, _⟩ := h
    rfl
  · have sc := scNum
    obtain ⟨x, dx, t, b, rfl, hb, hz, hx, k⟩ := h
    refine ⟨_, (pss_cons (ps_if (PW.pt (pw_or (pt_not (pt_val (pe_f cW hr (by decide) rfl (pa_cons (pv 1) pa_nil)))) (pw_or (pt_not (pt_val (pe_f cW hr (by decide) rfl (pa_cons (pv 2) pa_nil)))) (pw_or1 (pt_cmpR op_eq (pv 2) pe_int (nomark _)))))) (pss_one ps_never) pss_nil) (pss_cons (ps_set (i := 3) sc.nd rfl (Or.inl rfl) (pe_callBfun cr_gcd (by rfl) hgcd (pa_cons (pv 1) (pa_cons (pv 2) pa_nil)))) (pss_cons (ps_if (pt_cmpR op_lt (pv 2) pe_int (nomark _)) (pss_one (ps_set (i := 3) sc.nd rfl (Or.inl rfl) (pe_un un_neg (pv 3)))) pss_nil) (pss_cons (ps_fld (pv 0) (pe_op op_fdivZ (pv 1) (pv 3)) rfl) (pss_one (ps_fld (pv 0) (pe_op op_fdivZ (pv 2) (pv 3)) rfl)))))), ?_⟩
    refine ⟨_, rfl, t, rfl, true, rfl, iteF ?_⟩
    refine ⟨_, rfl, b, rfl, true, rfl, iteF ?_⟩
    refine ⟨_, rfl, rfl, _, rfl, ?_⟩
    refine ifF (by simpa using hb) ?_
    refine ⟨_, rfl, _, rfl, _, _, rfl, ?_⟩
    refine ⟨_, rfl, _, _, rfl, rfl, _, rfl, ?_⟩
    have hs : Sz 8000 (gS t b) := by
      have := Sz.gI (t := t) hb hz
      unfold gS
      split
      · exact this.neg
      · exact this
    have fin : ∀ {Qn : Ends} {y : Int}, y = gS t b → tSeq (sFld K (tVar 0) (tOp (rI (fun _ j => j ≠ 0 ∧ j.natAbs.log2 < 9000) fun i j => .int (i.fdiv j)) (tVar 1) (tVar 3)) "_top") (sFld K (tVar 0) (tOp (rI (fun _ j => j ≠ 0 ∧ j.natAbs.log2 < 9000) fun i j => .int (i.fdiv j)) (tVar 2) (tVar 3)) "_bottom")
        { nx := fun _ H' => Q .non H', rt := Q } [some (.ref x), some (.int t), some (.int b), some (.int y)] H := by
      rintro Qn y rfl
      have h9 : (gS t b).natAbs.log2 < 9000 := Nat.lt_of_lt_of_le (PySem.Flt.log2_lt_of (by decide) hs) (by decide)
      refine ⟨_, rfl, _, rfl, _, _, rfl, rfl, ⟨gS_ne hb, h9⟩, _, rfl, x, C, dx, [], rfl, hx, NC.cl, NC.nT, (by show 0 < 1000; decide), ?_⟩
      refine ⟨_, rfl, _, rfl, _, _, rfl, rfl, ⟨gS_ne hb, h9⟩, _, rfl, x, C, dx, _, rfl, upd_same, NC.cl, NC.nB, (by show 1 < 1000; decide), ?_⟩
      refine k _ ⟨dx, upd_same.trans (congrArg some (congrArg (HO.ins C dx) ?_))⟩ fun a o e n => ?_
      · exact (put_past (by decide +kernel)).trans rfl
      · rw [upd_ne n, upd_ne n]
        exact e
    by_cases hn : b < 0
    · refine ifT (by simpa using hn) ?_
      refine ⟨_, rfl, _, rfl, ?_⟩
      refine fin (Qn := { nx := fun _ H' => Q .non H', rt := Q }) ?_
      unfold gS gI
      rw [if_pos hn]
    · refine ifF (by simpa using hn) ?_
      refine fin (Qn := { nx := fun _ H' => Q .non H', rt := Q }) ?_
      unfold gS gI
      rw [if_neg hn]
theorem ok_top (F : L2.Fun K "top" "Number.top" sNTop f fd) (b : Binds K fd PNTop []) (NC : NumC K C) : FnR P w K mg base CX0 1 f (spTop C) := by
  refine fnR_of F b scNTop (fun vs H Q E h => ?_) (fun cdv A outer s H vs Q E hr h => ?_)
  · obtain ⟨a, t, b, rfl, _⟩ := h
    rfl
  · have sc := scNTop
    obtain ⟨a, t, b, rfl, ⟨dx, e⟩, k⟩ := h
    refine ⟨_, (pss_one (ps_ret (pe_fld (pv 0) rfl))), ?_⟩
    exact ⟨_, rfl, a, C, dx, _, _, rfl, e, NC.cl, NC.nT, nF_top _ _, k⟩
theorem ok_bot (F : L2.Fun K "bottom" "Number.bottom" sNBot f fd) (b : Binds K fd PNBot []) (NC : NumC K C) : FnR P w K mg base CX0 1 f (spBot C) := by
  refine fnR_of F b scNBot (fun vs H Q E h => ?_) (fun cdv A outer s H vs Q E hr h => ?_)
  · obtain ⟨a, t, b, rfl, _⟩ := h
    rfl
  · have sc := scNBot
    obtain ⟨a, t, b, rfl, ⟨dx, e⟩, k⟩ := h
    refine ⟨_, (pss_one (ps_ret (pe_fld (pv 0) rfl))), ?_⟩
    exact ⟨_, rfl, a, C, dx, _, _, rfl, e, NC.cl, NC.nB, nF_bot _ _, k⟩
theorem ok_neq (F : L2.Fun K "__eq__" "Number.__eq__" sNEq f fd) (b : Binds K fd PNEq []) (B : Bi mg) (NC : NumC K C) (gN : mg "Number" = some (.ref C)) : FnR P w K mg base CX0 1 f (spNEq C) := by
  refine fnR_of F b scNEq (fun vs H Q E h => ?_) (fun cdv A outer s H vs Q E hr h => ?_)
  · obtain ⟨a, c, t, b, p, q, rfl, _⟩ := h
    rfl
  · have sc := scNEq
    obtain ⟨a, c, t, b, p, q, rfl, ⟨dx, ea⟩, ⟨dy, ec⟩, k⟩ := h
    refine ⟨_, (pss_one (ps_ret (pe_and (pe_callB call_isi (by rfl) B.isinstance (by decide +kernel) (pa_cons (pv 1) (pa_cons (pe_glob (v := .ref C) rfl gN rfl) pa_nil))) (pe_and (pe_cmpR op_eq (pe_fld (pv 0) rfl) (pe_fld (pv 1) rfl) (nomark _)) (pe_one (pe_cmpR op_eq (pe_fld (pv 0) rfl) (pe_fld (pv 1) rfl) (nomark _))))))), ?_⟩
    refine ⟨_, rfl, _, _, _, _, true, rfl, .own C, NC.ty ec, NC.kk, true, rfl, iteT ?_⟩
    refine ⟨_, rfl, a, C, dx, _, _, rfl, ea, NC.cl, NC.nT, nF_top _ _, _, rfl, c, C, dy, _, _, rfl, ec, NC.cl, NC.nT, nF_top _ _, rfl, _, rfl, ?_⟩
    by_cases h1 : t = p
    · subst h1
      refine ifT (by simp) ?_
      refine ⟨_, rfl, a, C, dx, _, _, rfl, ea, NC.cl, NC.nB, nF_bot _ _, _, rfl, c, C, dy, _, _, rfl, ec, NC.cl, NC.nB, nF_bot _ _, rfl, ?_⟩
      simpa using k
    · refine ifF (by simpa using h1) ?_
      simpa [h1] using k
theorem ok_nbool (F : L2.Fun K "__bool__" "Number.__bool__" sNBool f fd) (b : Binds K fd PNBool []) (B : Bi mg) (NC : NumC K C) : FnR P w K mg base CX0 1 f (spNBool C) := by
  refine fnR_of F b scNBool (fun vs H Q E h => ?_) (fun cdv A outer s H vs Q E hr h => ?_)
  · obtain ⟨a, t, b, rfl, _⟩ := h
    rfl
  · have sc := scNBool
    obtain ⟨a, t, b, rfl, ⟨dx, ea⟩, k⟩ := h
    refine ⟨_, (pss_one (ps_ret (pe_callTy call_bool1 (by rfl) B.bool (by decide +kernel) (pa_cons (pe_fld (pv 0) rfl) pa_nil)))), ?_⟩
    exact ⟨_, rfl, a, C, dx, _, _, rfl, ea, NC.cl, NC.nT, nF_top _ _, .inl ⟨t, rfl, k⟩⟩
theorem ok_nadd (F : L2.Fun K "__add__" "Number.__add__" sNAdd f fd) (b : Binds K fd PNAdd []) (NC : NumC K C) (mN : MakF P w K mg base 2 "Number" C (spNum C)) : FnR P w K mg base CX0 4 f (spAdd C) := by
  refine fnR_of F b scNAdd (fun vs H Q E h => ?_) (fun cdv A outer s H vs Q E hr h => ?_)
  · obtain ⟨a, c, t, b, p, q, rfl, _⟩ := h
    rfl
  · have sc := scNAdd
    obtain ⟨a, c, t, b, p, q, rfl, ⟨dx, ea⟩, ⟨dy, ec⟩, z1, z2, z3, z4, h0, k⟩ := h
    refine ⟨_, (pss_one (ps_ret (pe_mk mN hr (by decide) rfl (pa_cons (pe_op op_add (pe_op op_mulW (pe_fld (pv 0) rfl) (pe_fld (pv 1) rfl)) (pe_op op_mulW (pe_fld (pv 1) rfl) (pe_fld (pv 0) rfl))) (pa_cons (pe_op op_mulW (pe_fld (pv 0) rfl) (pe_fld (pv 1) rfl)) pa_nil))))), ?_⟩
    refine ⟨_, rfl, a, C, dx, _, _, rfl, ea, NC.cl, NC.nT, nF_top _ _, _, rfl, c, C, dy, _, _, rfl, ec, NC.cl, NC.nB, nF_bot _ _, _, _, rfl, rfl, wide_mul z1 z4 (by decide) (by decide) (by decide), ?_⟩
    refine ⟨_, rfl, c, C, dy, _, _, rfl, ec, NC.cl, NC.nT, nF_top _ _, _, rfl, a, C, dx, _, _, rfl, ea, NC.cl, NC.nB, nF_bot _ _, _, _, rfl, rfl, wide_mul z3 z2 (by decide) (by decide) (by decide), _, _, rfl, rfl, ?_⟩
    refine ⟨_, rfl, a, C, dx, _, _, rfl, ea, NC.cl, NC.nB, nF_bot _ _, _, rfl, c, C, dy, _, _, rfl, ec, NC.cl, NC.nB, nF_bot _ _, _, _, rfl, rfl, wide_mul z2 z4 (by decide) (by decide) (by decide), ?_⟩
    intro x d nx nd ne
    refine ⟨x, d, _, _, rfl, h0, (z2.mul z4).mono (by decide), upd_same, fun H1 h1 k1 => ⟨rfl, ?_⟩⟩
    exact k x H1 nx h1 (Same.mk nx nd k1)
theorem ok_nsub (F : L2.Fun K "__sub__" "Number.__sub__" sNSub f fd) (b : Binds K fd PNSub []) (NC : NumC K C) (mN : MakF P w K mg base 2 "Number" C (spNum C)) : FnR P w K mg base CX0 4 f (spSub C) := by
  refine fnR_of F b scNSub (fun vs H Q E h => ?_) (fun cdv A outer s H vs Q E hr h => ?_)
  · obtain ⟨a, c, t, b, p, q, rfl, _⟩ := h
    rfl
  · have sc := scNSub
    obtain ⟨a, c, t, b, p, q, rfl, ⟨dx, ea⟩, ⟨dy, ec⟩, z1, z2, z3, z4, h0, k⟩ := h
    refine ⟨_, (pss_one (ps_ret (pe_mk mN hr (by decide) rfl (pa_cons (pe_op op_sub (pe_op op_mulW (pe_fld (pv 0) rfl) (pe_fld (pv 1) rfl)) (pe_op op_mulW (pe_fld (pv 1) rfl) (pe_fld (pv 0) rfl))) (pa_cons (pe_op op_mulW (pe_fld (pv 0) rfl) (pe_fld (pv 1) rfl)) pa_nil))))), ?_⟩
    refine ⟨_, rfl, a, C, dx, _, _, rfl, ea, NC.cl, NC.nT, nF_top _ _, _, rfl, c, C, dy, _, _, rfl, ec, NC.cl, NC.nB, nF_bot _ _, _, _, rfl, rfl, wide_mul z1 z4 (by decide) (by decide) (by decide), ?_⟩
    refine ⟨_, rfl, c, C, dy, _, _, rfl, ec, NC.cl, NC.nT, nF_top _ _, _, rfl, a, C, dx, _, _, rfl, ea, NC.cl, NC.nB, nF_bot _ _, _, _, rfl, rfl, wide_mul z3 z2 (by decide) (by decide) (by decide), _, _, rfl, rfl, ?_⟩
    refine ⟨_, rfl, a, C, dx, _, _, rfl, ea, NC.cl, NC.nB, nF_bot _ _, _, rfl, c, C, dy, _, _, rfl, ec, NC.cl, NC.nB, nF_bot _ _, _, _, rfl, rfl, wide_mul z2 z4 (by decide) (by decide) (by decide), ?_⟩
    intro x d nx nd ne
    refine ⟨x, d, _, _, rfl, h0, (z2.mul z4).mono (by decide), upd_same, fun H1 h1 k1 => ⟨rfl, ?_⟩⟩
    exact k x H1 nx h1 (Same.mk nx nd k1)
theorem ok_nmul (F : L2.Fun K "__mul__" "Number.__mul__" sNMul f fd) (b : Binds K fd PNMul []) (NC : NumC K C) (mN : MakF P w K mg base 2 "Number" C (spNum C)) : FnR P w K mg base CX0 4 f (spMul C) := by
  refine fnR_of F b scNMul (fun vs H Q E h => ?_) (fun cdv A outer s H vs Q E hr h => ?_)
  · obtain ⟨a, c, t, b, p, q, rfl, _⟩ := h
    rfl
  · have sc := scNMul
    obtain ⟨a, c, t, b, p, q, rfl, ⟨dx, ea⟩, ⟨dy, ec⟩, z1, z2, z3, z4, h0, k⟩ := h
    refine ⟨_, (pss_one (ps_ret (pe_mk mN hr (by decide) rfl (pa_cons (pe_op op_mulW (pe_fld (pv 0) rfl) (pe_fld (pv 1) rfl)) (pa_cons (pe_op op_mulW (pe_fld (pv 0) rfl) (pe_fld (pv 1) rfl)) pa_nil))))), ?_⟩
    refine ⟨_, rfl, a, C, dx, _, _, rfl, ea, NC.cl, NC.nT, nF_top _ _, _, rfl, c, C, dy, _, _, rfl, ec, NC.cl, NC.nT, nF_top _ _, _, _, rfl, rfl, wide_mul z1 z3 (by decide) (by decide) (by decide), ?_⟩
    refine ⟨_, rfl, a, C, dx, _, _, rfl, ea, NC.cl, NC.nB, nF_bot _ _, _, rfl, c, C, dy, _, _, rfl, ec, NC.cl, NC.nB, nF_bot _ _, _, _, rfl, rfl, wide_mul z2 z4 (by decide) (by decide) (by decide), ?_⟩
    intro x d nx nd ne
    refine ⟨x, d, _, _, rfl, h0, (z2.mul z4).mono (by decide), upd_same, fun H1 h1 k1 => ⟨rfl, ?_⟩⟩
    exact k x H1 nx h1 (Same.mk nx nd k1)
end
end Ws

namespace Ws
open PySem PySem.Spec PyProof.Rows L2
abbrev sPot : Stmt := (PySem.Challenge.pw_whatspeed_k06_where_lines_meet.main.body.getD 10 (.Pass ⟨0, 0, 0, 0⟩))
abbrev NPot : List Str := ["script", "k", "cell", "own"]
abbrev PPot : List Str := ["script", "k"]
theorem scPot : FnScope NPot PPot (defScope sPot) := ⟨rfl, rfl, rfl, by decide +kernel, rfl, by decide +kernel, by decide +kernel⟩
abbrev sTake : Stmt := (PySem.Challenge.pw_whatspeed_k06_where_lines_meet.main.body.getD 11 (.Pass ⟨0, 0, 0, 0⟩))
abbrev NTake : List Str := ["pot", "upto", "digit", "prime", "mixed"]
abbrev PTake : List Str := ["pot", "upto"]
theorem scTake : FnScope NTake PTake (defScope sTake) := ⟨rfl, rfl, rfl, by decide +kernel, rfl, by decide +kernel, by decide +kernel⟩
abbrev sOf : Stmt := (PySem.Challenge.pw_whatspeed_k06_where_lines_meet.main.body.getD 12 (.Pass ⟨0, 0, 0, 0⟩))
abbrev NOf : List Str := ["pot", "some"]
abbrev POf : List Str := ["pot", "some"]
theorem scOf : FnScope NOf POf (defScope sOf) := ⟨rfl, rfl, rfl, by decide +kernel, rfl, by decide +kernel, by decide +kernel⟩
abbrev sLeast : Stmt := (PySem.Challenge.pw_whatspeed_k06_where_lines_meet.main.body.getD 15 (.Pass ⟨0, 0, 0, 0⟩))
abbrev NLeast : List Str := ["above", "below", "one", "rest", "sign"]
abbrev PLeast : List Str := ["above", "below"]
theorem scLeast : FnScope NLeast PLeast (defScope sLeast) := ⟨rfl, rfl, rfl, by decide +kernel, rfl, by decide +kernel, by decide +kernel⟩
/-! ### the pot of drawn numbers -/
def PotAt (H : Hp) (p : Addr) (m : Int) : Prop := ∃ own seed n : Int, H p = some (.lst [.int own, .int seed, .int n]) ∧ 0 ≤ own ∧ 0 ≤ seed ∧ seed < 2305843009213693921 ∧ 0 ≤ n ∧ n ≤ m
theorem PotAt.mono {H : Hp} {p : Addr} {m m' : Int} (h : PotAt H p m) (l : m ≤ m') : PotAt H p m' := let ⟨a, b, c, e, h1, h2, h3, h4, h5⟩ := h; ⟨a, b, c, e, h1, h2, h3, h4, Int.le_trans h5 l⟩
theorem PotAt.same {H H' : Hp} {p : Addr} {m : Int} (h : PotAt H p m) (s : Same H H') : PotAt H' p m := let ⟨a, b, c, e, r⟩ := h; ⟨a, b, c, s _ _ e, r⟩
def spPot (K : PySem.W.Frag) : Sp := fun vs H Q _ => ∃ (s : Addr) (ns : List Int) (k : Nat), vs = [.ref s, .int k] ∧ SqL K H s (ns.map V.int) ∧ k < 100 ∧ ∀ p H', H p = none → PotAt H' p 0 → Same H H' → Q (.ref p) H'
def spTake : Sp := fun vs H Q _ => ∃ (p : Addr) (u m : Int), vs = [.ref p, .int u] ∧ PotAt H p m ∧ m ≤ 1000000 ∧ 1 ≤ u ∧ u < 1073741824 ∧ ∀ d H', 0 ≤ d → d < u → PotAt H' p (m + 1) → Ch p H H' → Q (.int d) H'
def spOf : Sp := fun vs H Q _ => ∃ (p l : Addr) (xs : List V) (m : Int), vs = [.ref p, .ref l] ∧ PotAt H p m ∧ m ≤ 1000000 ∧ H l = some (.lst xs) ∧ l ≠ p ∧ 1 ≤ xs.length ∧ xs.length ≤ 1000 ∧ ∀ v H', v ∈ xs → PotAt H' p (m + 1) → Ch p H H' → Q v H'
def spLeast : Sp := fun vs H Q _ => ∃ t b : Int, vs = [.int t, .int b] ∧ b ≠ 0 ∧ Sz 8000 b ∧ Sz 8000 t ∧ ∀ p H', H p = none → H' p = some (.tup [.int (nT t b), .int (nB t b)]) → Same H H' → Q (.ref p) H'
section
variable {P : Program} {w : World} {K : PySem.W.Frag} {mg : Str → Option Value} {base : Heap} {f : Addr} {fd : FuncData}
theorem at_map {ns : List Int} {k : Nat} (h : k < ns.length) : atI (ns.map V.int) (k : Int) = some (.int ns[k]) := atI_nat (by rw [List.getElem?_map, List.getElem?_eq_getElem h]; rfl)
theorem emod_lt {a b : Int} (h : 0 < b) : a % b < b := Int.emod_lt_of_pos a h
theorem emod_nn {a b : Int} (h : 0 < b) : 0 ≤ a % b := Int.emod_nonneg a (by omega)
theorem ok_pot (F : L2.Fun K "_law_pot" "_law_pot" sPot f fd) (b : Binds K fd PPot []) (B : Bi mg) : FnR P w K mg base CX0 1 f (spPot K) := by
  refine fnR_of F b scPot (fun vs H Q E h => ?_) (fun cdv A outer s H vs Q E hr h => ?_)
  · obtain ⟨s, ns, k, rfl, _⟩ := h
    rfl
  · have sc := scPot
    obtain ⟨s, ns, k, rfl, hS, hk, q⟩ := h
    refine ⟨_, (pss_cons (ps_set (i := 2) sc.nd rfl (Or.inl rfl) (pe_ifExp (pt_cmpR op_lt (pv 1) (pe_callB call_len_seq (by rfl) B.len PySem.boot_len (pa_cons (pv 0) pa_nil)) (nomark _)) (pe_callTy call_int1 (by rfl) B.int (by decide +kernel) (pa_cons (pe_ix ix_list (pv 0) (pv 1) (fun _ _ => rfl)) pa_nil)) (pe_op op_add (pe_op op_mul pe_int (pv 1)) pe_int))) (pss_cons (ps_set (i := 3) sc.nd rfl (Or.inl rfl) (pe_op op_mul (pe_op op_mod (pe_callTy call_int1 (by rfl) B.int (by decide +kernel) (pa_cons (pe_callB call_abs (by rfl) B.abs (by decide +kernel) (pa_cons (pv 2) pa_nil)) pa_nil)) (pe_op op_powW (pe_op op_pow pe_int pe_int) pe_int)) (pe_callTy call_int1 (by rfl) B.int (by decide +kernel) (pa_cons (pe_cmpR op_ge (pe_callB call_abs (by rfl) B.abs (by decide +kernel) (pa_cons (pv 2) pa_nil)) (pe_op op_pow pe_int pe_int) (nomark _)) pa_nil)))) (pss_one (ps_ret (pe_lst (pa_cons (pv 3) (pa_cons (pe_op op_mod (pe_callTy call_int1 (by rfl) B.int (by decide +kernel) (pa_cons (pe_op op_add (pe_op op_add (pe_op op_mul (pe_op op_mod (pe_callTy call_int1 (by rfl) B.int (by decide +kernel) (pa_cons (pv 2) pa_nil)) pe_int) pe_int) (pe_op op_mul (pe_op op_mul pe_int (pv 1)) (pv 1))) pe_int) pa_nil)) pe_int) (pa_cons pe_int pa_nil)))))))), ?_⟩
    refine ⟨_, rfl, _, rfl, s, _, rfl, .inl hS, _, _, rfl, rfl, _, rfl, ?_⟩
    have hA : ∀ z : Int, (if z < 0 then -z else z) = (if z < 0 then -z else z) := fun _ => rfl
    refine if2 (fun hc => ?_) (fun hc => ?_)
    · have hlt : k < ns.length := by
        have := of_decide_eq_true hc
        rw [List.length_map] at this
        omega
      refine ⟨_, rfl, _, rfl, s, _, _, _, rfl, rfl, hS, at_map hlt, .inl ⟨_, rfl, ?_⟩⟩
      generalize ns[k] = z
      refine ⟨_, rfl, _, rfl, .inl ⟨_, rfl, _, _, rfl, rfl, ⟨by decide, by decide, by decide⟩, _, _, rfl, rfl, ⟨by decide, by decide +kernel⟩, _, _, rfl, rfl, by show (0 : Int) < _; decide +kernel, ?_⟩⟩
      refine ⟨_, rfl, _, rfl, _, _, rfl, rfl, ⟨by decide, by decide, by decide⟩, _, _, rfl, rfl, .inr ⟨_, rfl, _, _, rfl, rfl, .inr (bit_lo _), ?_⟩⟩
      refine ⟨_, rfl, _, rfl, .inl ⟨_, rfl, _, _, rfl, rfl, by show (0 : Int) < _; decide +kernel, _, _, rfl, rfl, .inr ⟨by decide, by decide⟩, _, rfl, _, _, rfl, rfl, .inl ⟨by decide, by decide⟩, _, rfl, _, _, rfl, rfl, .inr ⟨by omega, by omega⟩, _, _, rfl, rfl, _, _, rfl, rfl, .inl ⟨_, rfl, _, _, rfl, rfl, by show (0 : Int) < _; decide +kernel, ?_⟩⟩⟩
      refine ⟨by show 3 ≤ sizeLine; decide, fun p hp => q p _ hp ⟨_, _, _, upd_same, ?_, emod_nn (by decide), emod_lt (by decide), by decide, by decide⟩ (Same.new hp)⟩
      exact Int.mul_nonneg (emod_nn (by decide +kernel)) (bit_nn _)
    · refine ⟨_, rfl, _, _, rfl, rfl, .inl ⟨by decide, by decide⟩, _, _, rfl, rfl, ?_⟩
      generalize (41 * (k : Int) + 19) = z
      refine ⟨_, rfl, _, rfl, .inl ⟨_, rfl, _, _, rfl, rfl, ⟨by decide, by decide, by decide⟩, _, _, rfl, rfl, ⟨by decide, by decide +kernel⟩, _, _, rfl, rfl, by show (0 : Int) < _; decide +kernel, ?_⟩⟩
      refine ⟨_, rfl, _, rfl, _, _, rfl, rfl, ⟨by decide, by decide, by decide⟩, _, _, rfl, rfl, .inr ⟨_, rfl, _, _, rfl, rfl, .inr (bit_lo _), ?_⟩⟩
      refine ⟨_, rfl, _, rfl, .inl ⟨_, rfl, _, _, rfl, rfl, by show (0 : Int) < _; decide +kernel, _, _, rfl, rfl, .inr ⟨by decide, by decide⟩, _, rfl, _, _, rfl, rfl, .inl ⟨by decide, by decide⟩, _, rfl, _, _, rfl, rfl, .inr ⟨by omega, by omega⟩, _, _, rfl, rfl, _, _, rfl, rfl, .inl ⟨_, rfl, _, _, rfl, rfl, by show (0 : Int) < _; decide +kernel, ?_⟩⟩⟩
      refine ⟨by show 3 ≤ sizeLine; decide, fun p hp => q p _ hp ⟨_, _, _, upd_same, ?_, emod_nn (by decide), emod_lt (by decide), by decide, by decide⟩ (Same.new hp)⟩
      exact Int.mul_nonneg (emod_nn (by decide +kernel)) (bit_nn _)
theorem ok_take (F : L2.Fun K "_law_take" "_law_take" sTake f fd) (b : Binds K fd PTake []) (B : Bi mg) : FnR P w K mg base CX0 1 f spTake := by
  refine fnR_of F b scTake (fun vs H Q E h => ?_) (fun cdv A outer s H vs Q E hr h => ?_)
  · obtain ⟨p, u, m, rfl, _⟩ := h
    rfl
  · have sc := scTake
    obtain ⟨p, u, m, rfl, ⟨own, seed, n, hp, h1, h2, h3, h4, h5⟩, hm, hu, hu2, q⟩ := h
    refine ⟨_, (pss_cons (ps_if (pt_cmpR op_gt (pe_ix ix_list (pv 0) pe_int (fun _ _ => rfl)) pe_int (nomark _)) (pss_cons (ps_set (i := 2) sc.nd rfl (Or.inl rfl) (pe_op op_mod (pe_callTy call_int1 (by rfl) B.int (by decide +kernel) (pa_cons (pe_ix ix_list (pv 0) pe_int (fun _ _ => rfl)) pa_nil)) (pv 1))) (pss_cons (ps_asg (pe_op op_fdiv (pe_ix ix_list (pv 0) pe_int (fun _ _ => rfl)) (pv 1)) (pg_sub (pv 0) pe_int set_list)) (pss_one (ps_ret (pv 2))))) pss_nil) (pss_cons (ps_asg (pe_op op_add (pe_ix ix_list (pv 0) pe_int (fun _ _ => rfl)) pe_int) (pg_sub (pv 0) pe_int set_list)) (pss_cons (ps_set (i := 3) sc.nd rfl (Or.inl rfl) (pe_ix ix_list (pe_lst (pa_cons pe_int (pa_cons pe_int (pa_cons pe_int (pa_cons pe_int (pa_cons pe_int pa_nil)))))) (pe_op op_mod (pe_callTy call_int1 (by rfl) B.int (by decide +kernel) (pa_cons (pe_ix ix_list (pv 0) pe_int (fun _ _ => rfl)) pa_nil)) pe_int) (fun _ _ => rfl))) (pss_cons (ps_set (i := 4) sc.nd rfl (Or.inl rfl) (pe_op op_mod (pe_callTy call_int1 (by rfl) B.int (by decide +kernel) (pa_cons (pe_op op_pow (pe_op op_add (pe_op op_add (pe_ix ix_list (pv 0) pe_int (fun _ _ => rfl)) (pe_op op_mul (pe_op op_mul pe_int (pe_ix ix_list (pv 0) pe_int (fun _ _ => rfl))) (pe_ix ix_list (pv 0) pe_int (fun _ _ => rfl)))) pe_int) pe_int) pa_nil)) (pv 3))) (pss_one (ps_ret (pe_op op_mod (pe_callTy call_int1 (by rfl) B.int (by decide +kernel) (pa_cons (pe_op op_fdiv (pe_op op_mul (pv 4) (pe_op op_add (pe_op op_mod (pe_callTy call_int1 (by rfl) B.int (by decide +kernel) (pa_cons (pv 4) pa_nil)) pe_int) (pe_op op_mul pe_int (pe_ix ix_list (pv 0) pe_int (fun _ _ => rfl))))) pe_int) pa_nil)) (pv 1)))))))), ?_⟩
    refine ⟨_, rfl, p, _, _, _, rfl, rfl, SqL.of hp, rfl, _, _, rfl, rfl, _, rfl, ?_⟩
    refine if2 (fun hc => ?_) (fun hc => ?_)
    · refine ⟨_, rfl, p, _, _, _, rfl, rfl, SqL.of hp, rfl, .inl ⟨_, rfl, _, rfl, _, _, rfl, rfl, by omega, ?_⟩⟩
      refine ⟨_, rfl, p, _, _, _, rfl, rfl, SqL.of hp, rfl, _, rfl, _, _, rfl, rfl, ⟨by omega, by omega⟩, ?_⟩
      refine ⟨_, rfl, p, _, _, _, rfl, rfl, hp, rfl, ?_⟩
      refine ⟨_, rfl, ?_⟩
      refine q _ _ (emod_nn (by omega)) (emod_lt (by omega)) ⟨_, _, _, upd_same, Int.ediv_nonneg h1 (by omega), h2, h3, h4, by omega⟩ Ch.upd
    · refine ⟨_, rfl, p, _, _, _, rfl, rfl, SqL.of hp, rfl, _, _, rfl, rfl, ?_⟩
      refine ⟨_, rfl, p, _, _, _, rfl, rfl, hp, rfl, ?_⟩
      refine ⟨by show 5 ≤ sizeLine; decide, fun l hl => ?_⟩
      have npl : p ≠ l := ne_of_none upd_same hl
      refine ⟨_, rfl, p, _, _, _, rfl, rfl, SqL.of ((upd_ne npl).trans upd_same), rfl, .inl ⟨_, rfl, _, _, rfl, rfl, by show (0 : Int) < _; decide +kernel, ?_⟩⟩
      have hi : ∃ (j : Nat) (pr : Int), (n + 1) % 5 = (j : Int) ∧ [V.int 2147483647, V.int 2147483629, V.int 2147483587, V.int 2147483579, V.int 2147483563][j]? = some (.int pr) ∧ 0 < pr ∧ pr ≤ 2147483647 := by
        have e1 : 0 ≤ (n + 1) % 5 := emod_nn (by decide)
        have e2 : (n + 1) % 5 < 5 := emod_lt (by decide)
        have : (n + 1) % 5 = 0 ∨ (n + 1) % 5 = 1 ∨ (n + 1) % 5 = 2 ∨ (n + 1) % 5 = 3 ∨ (n + 1) % 5 = 4 := by omega
        rcases this with e | e | e | e | e
        · exact ⟨0, _, e, rfl, by decide, by decide⟩
        · exact ⟨1, _, e, rfl, by decide, by decide⟩
        · exact ⟨2, _, e, rfl, by decide, by decide⟩
        · exact ⟨3, _, e, rfl, by decide, by decide⟩
        · exact ⟨4, _, e, rfl, by decide, by decide⟩
      obtain ⟨j, pr, ej, hj, hpr, hpr2⟩ := hi
      refine ⟨l, _, _, _, rfl, rfl, SqL.of upd_same, at_of ej hj, ?_⟩
      refine ⟨_, rfl, p, _, _, _, rfl, rfl, SqL.of ((upd_ne npl).trans upd_same), rfl, ?_⟩
      refine ⟨_, rfl, p, _, _, _, rfl, rfl, SqL.of ((upd_ne npl).trans upd_same), rfl, _, _, rfl, rfl, .inl ⟨by decide, by decide⟩, ?_⟩
      refine ⟨_, rfl, p, _, _, _, rfl, rfl, SqL.of ((upd_ne npl).trans upd_same), rfl, _, _, rfl, rfl, .inr ⟨by omega, by omega⟩, _, _, rfl, rfl, _, _, rfl, rfl, ?_⟩
      have hsq : 0 ≤ (n + 1) * (n + 1) ∧ (n + 1) * (n + 1) ≤ 1000001 * 1000001 := ⟨Int.mul_nonneg (by omega) (by omega), Int.mul_le_mul (by omega) (by omega) (by omega) (by decide)⟩
      have hb0 : 99961 * (n + 1) * (n + 1) = 99961 * ((n + 1) * (n + 1)) := Int.mul_assoc _ _ _
      refine ⟨_, _, rfl, rfl, ⟨by decide, by decide, ?_⟩, .inl ⟨_, rfl, _, rfl, _, _, rfl, rfl, hpr, ?_⟩⟩
      · rw [hb0]
        omega
      · generalize hmx : ((seed + 99961 * (n + 1) * (n + 1) + 47) ^ (3 : Int).toNat) % pr = mx
        have m1 : 0 ≤ mx := by rw [← hmx]; exact emod_nn hpr
        have m2 : mx < pr := by rw [← hmx]; exact emod_lt hpr
        refine ⟨_, rfl, _, rfl, .inl ⟨_, rfl, _, _, rfl, rfl, by show (0 : Int) < _; decide +kernel, ?_⟩⟩
        refine ⟨_, rfl, p, _, _, _, rfl, rfl, SqL.of ((upd_ne npl).trans upd_same), rfl, _, _, rfl, rfl, .inl ⟨by decide, by decide⟩, _, _, rfl, rfl, _, _, rfl, rfl, .inl ⟨by omega, by omega⟩, _, _, rfl, rfl, ⟨by decide, by decide⟩, .inl ⟨_, rfl, _, rfl, _, _, rfl, rfl, by omega, ?_⟩⟩
        exact q _ _ (emod_nn (by omega)) (emod_lt (by omega)) ⟨_, _, _, (upd_ne npl).trans upd_same, h1, h2, h3, by omega, by omega⟩ (Ch.upd.trans (Ch.new hl))
theorem ok_of (F : L2.Fun K "_law_of" "_law_of" sOf f fd) (b : Binds K fd POf []) (B : Bi mg) (cT : CalF P w K mg base 1 "_law_take" spTake) : FnR P w K mg base CX0 2 f spOf := by
  refine fnR_of F b scOf (fun vs H Q E h => ?_) (fun cdv A outer s H vs Q E hr h => ?_)
  · obtain ⟨p, l, xs, m, rfl, _⟩ := h
    rfl
  · have sc := scOf
    obtain ⟨p, l, xs, m, rfl, hp, hm, hl, n, h1, h2, q⟩ := h
    refine ⟨_, (pss_one (ps_ret (pe_ix ix_list (pv 1) (pe_f cT hr (by decide) rfl (pa_cons (pv 0) (pa_cons (pe_callB call_len_seq (by rfl) B.len PySem.boot_len (pa_cons (pv 1) pa_nil)) pa_nil))) (fun _ _ => rfl)))), ?_⟩
    refine ⟨_, rfl, _, rfl, _, rfl, l, xs, rfl, .inl (SqL.of hl), p, _, m, rfl, hp, hm, by omega, by omega, fun d H1 d0 d1 hp1 c1 => ?_⟩
    have hj : d.toNat < xs.length := by omega
    exact ⟨l, xs, _, _, rfl, rfl, SqL.of (c1 _ _ n hl), at_of (j := d.toNat) (by omega) (List.getElem?_eq_getElem hj), q _ _ (List.getElem_mem hj) hp1 c1⟩
theorem ok_least (F : L2.Fun K "_law_least" "_law_least" sLeast f fd) (b : Binds K fd PLeast []) (B : Bi mg) : FnR P w K mg base CX0 1 f spLeast := by
  refine fnR_of F b scLeast (fun vs H Q E h => ?_) (fun cdv A outer s H vs Q E hr h => ?_)
  · obtain ⟨t, b, rfl, _⟩ := h
    rfl
  · have sc := scLeast
    obtain ⟨t, b, rfl, hb, zb, zt, q⟩ := h
    refine ⟨_, (pss_cons (ps_par (i := 2) (j := 3) (by rfl) sc.nd rfl rfl (by decide) rfl rfl (pa_cons (pe_callB call_abs (by rfl) B.abs (by decide +kernel) (pa_cons (pv 0) pa_nil)) (pa_cons (pe_callB call_abs (by rfl) B.abs (by decide +kernel) (pa_cons (pv 1) pa_nil)) pa_nil)) (by rfl)) (pss_cons (ps_while PassesOwn.never (pt_cmpR op_ne (pv 3) pe_int (nomark _)) (pss_one (ps_par (i := 2) (j := 3) (by rfl) sc.nd rfl rfl (by decide) rfl rfl (pa_cons (pv 3) (pa_cons (pe_op op_mod (pe_callTy call_int1 (by rfl) B.int (by decide +kernel) (pa_cons (pv 2) pa_nil)) (pv 3)) pa_nil)) (by rfl)))) (pss_cons (ps_set (i := 4) sc.nd rfl (Or.inl rfl) (pe_ifExp (pt_cmpR op_lt (pv 1) pe_int (nomark _)) (pe_un un_neg pe_int) pe_int)) (pss_one (ps_ret (pe_tup (pa_cons (pe_op op_fdivW (pe_op op_mul (pv 4) (pv 0)) (pv 2)) (pa_cons (pe_op op_fdivW (pe_callB call_abs (by rfl) B.abs (by decide +kernel) (pa_cons (pv 1) pa_nil)) (pv 2)) pa_nil)))))))), ?_⟩
    refine ⟨_, rfl, _, rfl, _, rfl, _, rfl, _, _, rfl, ?_⟩
    refine while_by (fun σ H' => H' = H ∧ ∃ x y : Int, σ = [some (.int t), some (.int b), some (.int x), some (.int y), none] ∧ 0 ≤ x ∧ 0 ≤ y ∧ Nat.gcd x.natAbs y.natAbs = Nat.gcd t.natAbs b.natAbs) (fun σ _ => match σ with | [_, _, _, some (.int y), _] => y.toNat | _ => 0) ?_ ?_ ?_
    · refine ⟨rfl, _, _, rfl, by split <;> omega, by split <;> omega, ?_⟩
      have e : ∀ z : Int, (if z < 0 then -z else z).natAbs = z.natAbs := fun z => by split <;> omega
      rw [e, e]
    · rintro σ H' ⟨rfl, x, y, rfl, hx, hy, hg⟩
      refine ⟨_, rfl, rfl, _, rfl, ?_⟩
      by_cases h0 : y = 0
      · subst h0
        refine ifF rfl ?_
        have hxg : x = gI t b := by
          unfold gI
          rw [← hg]
          simp
          omega
        subst hxg
        have zg : Sz 8000 (gI t b) := Sz.gI hb zb
        have l9 : (gI t b).natAbs < 2 ^ 8000 := zg
        have nl := nf_least (t := t) hb
        refine ⟨_, rfl, _, _, rfl, rfl, _, rfl, ?_⟩
        refine if2 (fun hc => ?_) (fun hc => ?_)
        · have hn : b < 0 := of_decide_eq_true hc
          rw [if_pos hn, if_pos hn] at nl
          refine ⟨_, rfl, ?_⟩
          refine ⟨_, rfl, _, rfl, _, _, rfl, rfl, .inl ⟨by decide, by decide⟩, _, rfl, _, _, rfl, rfl, wide_div (gI_pos hb) l9 (by decide) (by decide), ?_⟩
          refine ⟨_, rfl, _, rfl, _, rfl, _, _, rfl, rfl, wide_div (gI_pos hb) l9 (by decide) (by decide), by show 2 ≤ sizeLine; decide, fun p hp => ?_⟩
          refine q p _ hp (upd_same.trans ?_) (Same.new hp)
          show some (HO.tup [V.int (-1 * t / gI t b), V.int ((if b < 0 then -b else b) / gI t b)]) = _
          rw [if_pos hn, nl.1, nl.2]
        · have hn : ¬ b < 0 := of_decide_eq_false hc
          rw [if_neg hn, if_neg hn] at nl
          refine ⟨_, rfl, _, rfl, _, _, rfl, rfl, .inl ⟨by decide, by decide⟩, _, rfl, _, _, rfl, rfl, wide_div (gI_pos hb) l9 (by decide) (by decide), ?_⟩
          refine ⟨_, rfl, _, rfl, _, rfl, _, _, rfl, rfl, wide_div (gI_pos hb) l9 (by decide) (by decide), by show 2 ≤ sizeLine; decide, fun p hp => ?_⟩
          refine q p _ hp (upd_same.trans ?_) (Same.new hp)
          show some (HO.tup [V.int (1 * t / gI t b), V.int ((if b < 0 then -b else b) / gI t b)]) = _
          rw [if_neg hn, nl.1, nl.2]
      · refine ifT (by simpa using h0) ?_
        refine ⟨_, rfl, _, rfl, .inl ⟨_, rfl, _, rfl, _, _, rfl, rfl, by omega, _, _, rfl, ?_⟩⟩
        have hy0 : 0 < y := by omega
        have := emod_lt (a := x) hy0
        have := emod_nn (a := x) hy0
        refine ⟨⟨rfl, y, x % y, rfl, hy, by omega, by rw [gcd_turn hx hy0, hg]⟩, ?_⟩
        show (x % y).toNat < y.toNat
        omega
    · rintro σ H Q Q' i ⟨v, e, h1, k, e2, h2⟩
      exact ⟨v, e, h1, k, e2, i _ _ h2⟩
end
end Ws

namespace Ws
open PySem PySem.Spec PyProof.Rows L2
abbrev sNDiv : Stmt := (inClass (PySem.Challenge.pw_whatspeed_k06_where_lines_meet.main.body.getD 7 (.Pass ⟨0, 0, 0, 0⟩)) 11)
abbrev NNDiv : List Str := ["self", "other"]
abbrev PNDiv : List Str := ["self", "other"]
theorem scNDiv : FnScope NNDiv PNDiv (defScope sNDiv) := ⟨rfl, rfl, rfl, by decide +kernel, rfl, by decide +kernel, by decide +kernel⟩
abbrev sLine : Stmt := (inClass (PySem.Challenge.pw_whatspeed_k06_where_lines_meet.main.body.getD 8 (.Pass ⟨0, 0, 0, 0⟩)) 0)
abbrev NLine : List Str := ["self", "base", "slope"]
abbrev PLine : List Str := ["self", "base", "slope"]
theorem scLine : FnScope NLine PLine (defScope sLine) := ⟨rfl, rfl, rfl, by decide +kernel, rfl, by decide +kernel, by decide +kernel⟩
abbrev sLCall : Stmt := (inClass (PySem.Challenge.pw_whatspeed_k06_where_lines_meet.main.body.getD 8 (.Pass ⟨0, 0, 0, 0⟩)) 3)
abbrev NLCall : List Str := ["self", "s"]
abbrev PLCall : List Str := ["self", "s"]
theorem scLCall : FnScope NLCall PLCall (defScope sLCall) := ⟨rfl, rfl, rfl, by decide +kernel, rfl, by decide +kernel, by decide +kernel⟩
abbrev sLMeets : Stmt := (inClass (PySem.Challenge.pw_whatspeed_k06_where_lines_meet.main.body.getD 8 (.Pass ⟨0, 0, 0, 0⟩)) 7)
abbrev NLMeets : List Str := ["self", "other", "gap"]
abbrev PLMeets : List Str := ["self", "other"]
theorem scLMeets : FnScope NLMeets PLMeets (defScope sLMeets) := ⟨rfl, rfl, rfl, by decide +kernel, rfl, by decide +kernel, by decide +kernel⟩
abbrev sDrawn : Stmt := (PySem.Challenge.pw_whatspeed_k06_where_lines_meet.main.body.getD 13 (.Pass ⟨0, 0, 0, 0⟩))
abbrev NDrawn : List Str := ["pot", "top"]
abbrev PDrawn : List Str := ["pot"]
theorem scDrawn : FnScope NDrawn PDrawn (defScope sDrawn) := ⟨rfl, rfl, rfl, by decide +kernel, rfl, by decide +kernel, by decide +kernel⟩
abbrev sLNum : Stmt := (PySem.Challenge.pw_whatspeed_k06_where_lines_meet.main.body.getD 14 (.Pass ⟨0, 0, 0, 0⟩))
abbrev NLNum : List Str := ["pair"]
abbrev PLNum : List Str := ["pair"]
theorem scLNum : FnScope NLNum PLNum (defScope sLNum) := ⟨rfl, rfl, rfl, by decide +kernel, rfl, by decide +kernel, by decide +kernel⟩
abbrev sDue : Stmt := (PySem.Challenge.pw_whatspeed_k06_where_lines_meet.main.body.getD 16 (.Pass ⟨0, 0, 0, 0⟩))
abbrev NDue : List Str := ["a", "b", "c", "d", "above", "below", "under", "over"]
abbrev PDue : List Str := ["a", "b", "c", "d"]
theorem scDue : FnScope NDue PDue (defScope sDue) := ⟨rfl, rfl, rfl, by decide +kernel, rfl, by decide +kernel, by decide +kernel⟩
abbrev spDiv (C : Addr) : Sp := spOp2 C (fun t _ _ q => t * q) (fun _ b p _ => b * p)
def lF (a c : Addr) : List (Str × V) := [("_base", .ref a), ("_slope", .ref c)]
def LineAt (D : Addr) (H : Hp) (l a c : Addr) : Prop := ∃ dx, H l = some (.ins D dx (lF a c))
theorem lF_base (a c : Addr) : (lF a c).lookup ("_base" : Str) = some (.ref a) := lk_here
theorem lF_slope (a c : Addr) : (lF a c).lookup ("_slope" : Str) = some (.ref c) := (lk_past (by decide +kernel)).trans lk_here
theorem LineAt.same {D : Addr} {H H' : Hp} {l a c : Addr} (h : LineAt D H l a c) (s : Same H H') : LineAt D H' l a c := let ⟨dx, e⟩ := h; ⟨dx, s _ _ e⟩
structure LineC (K : PySem.W.Frag) (D : Addr) : Prop where
  cl : Cls K D
  nA : NoAttr K D "_base"
  nS : NoAttr K D "_slope"
/-- a Number that is the fraction t / b, reduced, of less than n bits -/
def NumV (C : Addr) (H : Hp) (a : Addr) (n : Nat) (t b : Int) : Prop := ∃ p q, NumAt C H a p q ∧ Low t b p q ∧ Sz n p ∧ Sz n q
theorem NumV.same {C : Addr} {H H' : Hp} {a : Addr} {n : Nat} {t b : Int} (h : NumV C H a n t b) (s : Same H H') : NumV C H' a n t b := let ⟨p, q, e, r⟩ := h; ⟨p, q, e.same s, r⟩
theorem NumV.mono {C : Addr} {H : Hp} {a : Addr} {n m : Nat} {t b : Int} (h : NumV C H a n t b) (l : n ≤ m) : NumV C H a m t b := let ⟨p, q, e, r, z1, z2⟩ := h; ⟨p, q, e, r, z1.mono l, z2.mono l⟩
theorem NumV.ins {C : Addr} {H : Hp} {a : Addr} {n : Nat} {t b : Int} (h : NumV C H a n t b) : ∃ dx fs, H a = some (.ins C dx fs) := let ⟨_, _, ⟨dx, e⟩, _⟩ := h; ⟨dx, _, e⟩
def spLine (D : Addr) : Sp := fun vs H Q _ => ∃ (x dx a c : Addr), vs = [.ref x, .ref a, .ref c] ∧ H x = some (.ins D dx []) ∧ ∀ H', LineAt D H' x a c → (∀ u o, H u = some o → u ≠ x → H' u = some o) → Q .non H'
def spLCall (C D : Addr) : Sp := fun vs H Q _ => ∃ (l a c z : Addr) (t b p q m n : Int), vs = [.ref l, .ref z] ∧ LineAt D H l a c ∧ NumV C H a 400 t b ∧ NumV C H c 400 p q ∧ NumV C H z 400 m n ∧ b ≠ 0 ∧ q ≠ 0 ∧ n ≠ 0 ∧
  ∀ x H', H x = none → NumV C H' x 2000 (t * (q * n) + p * m * b) (b * (q * n)) → Same H H' → Q (.ref x) H'
def spMeets (C D : Addr) : Sp := fun vs H Q _ => ∃ (l m a c a' c' : Addr) (t b p q t' b' p' q' : Int), vs = [.ref l, .ref m] ∧ LineAt D H l a c ∧ LineAt D H m a' c' ∧ NumV C H a 200 t b ∧ NumV C H c 200 p q ∧ NumV C H a' 200 t' b' ∧ NumV C H c' 200 p' q' ∧ b ≠ 0 ∧ q ≠ 0 ∧ b' ≠ 0 ∧ q' ≠ 0 ∧
  (p * q' - p' * q = 0 → ∀ H', Same H H' → Q .non H') ∧ (p * q' - p' * q ≠ 0 → ∀ x H', H x = none → NumV C H' x 2000 ((t' * b - t * b') * (q * q')) (b' * b * (p * q' - p' * q)) → Same H H' → Q (.ref x) H')
/-- a drawn pair -/
structure PairOk (t b : Int) : Prop where
  zt : Sz 41 t
  lo : 1 ≤ b
  hi : b ≤ 40
def spDrawn : Sp := fun vs H Q _ => ∃ (p : Addr) (m : Int), vs = [.ref p] ∧ PotAt H p m ∧ m ≤ 100000 ∧ ∀ r H' t b, H r = none → H' r = some (.tup [.int t, .int b]) → PairOk t b → PotAt H' p (m + 4) → Ch p H H' → Q (.ref r) H'
def spLNum (C : Addr) : Sp := fun vs H Q _ => ∃ (r : Addr) (t b : Int), vs = [.ref r] ∧ H r = some (.tup [.int t, .int b]) ∧ b ≠ 0 ∧ Sz 200 t ∧ Sz 200 b ∧ ∀ x H', H x = none → NumV C H' x 200 t b → Same H H' → Q (.ref x) H'
/-- what _law_due tells of four pairs -/
def dueT (a0 a1 b0 b1 c0 c1 d0 d1 : Int) : Int := (c0 * a1 - a0 * c1) * (b1 * d1)
def dueB (a0 a1 b0 b1 c0 c1 d0 d1 : Int) : Int := c1 * a1 * (b0 * d1 - d0 * b1)
def spDue : Sp := fun vs H Q _ => ∃ (a b c d : Addr) (a0 a1 b0 b1 c0 c1 d0 d1 : Int), vs = [.ref a, .ref b, .ref c, .ref d] ∧ H a = some (.tup [.int a0, .int a1]) ∧ H b = some (.tup [.int b0, .int b1]) ∧ H c = some (.tup [.int c0, .int c1]) ∧ H d = some (.tup [.int d0, .int d1]) ∧
  PairOk a0 a1 ∧ PairOk b0 b1 ∧ PairOk c0 c1 ∧ PairOk d0 d1 ∧ (b0 * d1 - d0 * b1 = 0 → Q .non H) ∧
  (b0 * d1 - d0 * b1 ≠ 0 → ∀ p H', H p = none → H' p = some (.tup [.int (nT (dueT a0 a1 b0 b1 c0 c1 d0 d1) (dueB a0 a1 b0 b1 c0 c1 d0 d1)), .int (nB (dueT a0 a1 b0 b1 c0 c1 d0 d1) (dueB a0 a1 b0 b1 c0 c1 d0 d1))]) → Same H H' → Q (.ref p) H')
theorem PairOk.zb {t b : Int} (h : PairOk t b) : Sz 6 b := by
  have := h.lo
  have := h.hi
  show b.natAbs < 2 ^ 6
  omega
/-- an operator over two fractions in lowest terms -/
theorem op2_of {C : Addr} {f g : Int → Int → Int → Int → Int} {H : Hp} {a c : Addr} {Q : VK} {E : XK} {na nc : Nat} {t b p q : Int} (h1 : NumV C H a na t b) (h2 : NumV C H c nc p q) (za : na ≤ 2000) (zc : nc ≤ 2000) (hg : ∀ t' b' p' q', Low t b t' b' → Low p q p' q' → g t' b' p' q' ≠ 0)
    (k : ∀ t' b' p' q' x H', Low t b t' b' → Low p q p' q' → Sz na t' → Sz na b' → Sz nc p' → Sz nc q' → H x = none → NumAt C H' x (nT (f t' b' p' q') (g t' b' p' q')) (nB (f t' b' p' q') (g t' b' p' q')) → Same H H' → Q (.ref x) H') : spOp2 C f g [.ref a, .ref c] H Q E := by
  obtain ⟨t', b', e1, l1, z1, z2⟩ := h1
  obtain ⟨p', q', e2, l2, z3, z4⟩ := h2
  exact ⟨a, c, t', b', p', q', rfl, e1, e2, z1.mono za, z2.mono za, z3.mono zc, z4.mono zc, hg _ _ _ _ l1 l2, fun x H' nx hx s => k t' b' p' q' x H' l1 l2 z1 z2 z3 z4 nx hx s⟩
section
variable {P : Program} {w : World} {K : PySem.W.Frag} {mg : Str → Option Value} {base : Heap} {C D f : Addr} {fd : FuncData}
theorem ok_ndiv (F : L2.Fun K "divided_by" "Number.divided_by" sNDiv f fd) (b : Binds K fd PNDiv []) (NC : NumC K C) (mN : MakF P w K mg base 2 "Number" C (spNum C)) (oB : OpnF P w K mg base 1 C "__bool__" (spNBool C)) : FnR P w K mg base CX0 4 f (spDiv C) := by
  refine fnR_of F b scNDiv (fun vs H Q E h => ?_) (fun cdv A outer s H vs Q E hr h => ?_)
  · obtain ⟨a, c, t, b, p, q, rfl, _⟩ := h
    rfl
  · have sc := scNDiv
    obtain ⟨a, c, t, b, p, q, rfl, ⟨dx, ea⟩, ⟨dy, ec⟩, z1, z2, z3, z4, h0, k⟩ := h
    refine ⟨_, (pss_cons (ps_if (pt_not (pt_tru (tru_own oB hr (by decide)) (pv 1))) (pss_one ps_never) pss_nil) (pss_one (ps_ret (pe_mk mN hr (by decide) rfl (pa_cons (pe_op op_mulW (pe_fld (pv 0) rfl) (pe_fld (pv 1) rfl)) (pa_cons (pe_op op_mulW (pe_fld (pv 0) rfl) (pe_fld (pv 1) rfl)) pa_nil)))))), ?_⟩
    have hp : p ≠ 0 := fun z => h0 (by show b * p = 0; rw [z, Int.mul_zero])
    refine ⟨_, rfl, c, dy, _, rfl, ec, c, p, q, rfl, ⟨dy, ec⟩, _, rfl, ifF (by simpa using hp) ?_⟩
    refine ⟨_, rfl, a, C, dx, _, _, rfl, ea, NC.cl, NC.nT, nF_top _ _, _, rfl, c, C, dy, _, _, rfl, ec, NC.cl, NC.nB, nF_bot _ _, _, _, rfl, rfl, wide_mul z1 z4 (by decide) (by decide) (by decide), ?_⟩
    refine ⟨_, rfl, a, C, dx, _, _, rfl, ea, NC.cl, NC.nB, nF_bot _ _, _, rfl, c, C, dy, _, _, rfl, ec, NC.cl, NC.nT, nF_top _ _, _, _, rfl, rfl, wide_mul z2 z3 (by decide) (by decide) (by decide), ?_⟩
    intro x d nx nd ne
    refine ⟨x, d, _, _, rfl, h0, (z2.mul z3).mono (by decide), upd_same, fun H1 h1 k1 => ⟨rfl, ?_⟩⟩
    exact k x H1 nx h1 (Same.mk nx nd k1)
theorem ok_line (F : L2.Fun K "__init__" "Line.__init__" sLine f fd) (b : Binds K fd PLine []) (LC : LineC K D) : FnR P w K mg base CX0 1 f (spLine D) := by
  refine fnR_of F b scLine (fun vs H Q E h => ?_) (fun cdv A outer s H vs Q E hr h => ?_)
  · obtain ⟨x, dx, a, c, rfl, _⟩ := h
    rfl
  · have sc := scLine
    obtain ⟨x, dx, a, c, rfl, hx, k⟩ := h
    refine ⟨_, (pss_cons (ps_fld (pv 0) (pv 1) rfl) (pss_one (ps_fld (pv 0) (pv 2) rfl))), ?_⟩
    refine ⟨_, rfl, _, rfl, x, D, dx, [], rfl, hx, LC.cl, LC.nA, (by show 0 < 1000; decide), ?_⟩
    refine ⟨_, rfl, _, rfl, x, D, dx, _, rfl, upd_same, LC.cl, LC.nS, (by show 1 < 1000; decide), ?_⟩
    refine k _ ⟨dx, upd_same.trans (congrArg some (congrArg (HO.ins D dx) ?_))⟩ fun a o e n => ?_
    · exact (put_past (by decide +kernel)).trans rfl
    · rw [upd_ne n, upd_ne n]
      exact e
theorem ok_lcall (F : L2.Fun K "__call__" "Line.__call__" sLCall f fd) (b : Binds K fd PLCall []) (NC : NumC K C) (LC : LineC K D) (oA : OpnF P w K mg base 4 C (PySem.dunder Operator.Add.info.2) (spAdd C)) (oM : OpnF P w K mg base 4 C (PySem.dunder Operator.Mult.info.2) (spMul C)) : FnR P w K mg base CX0 5 f (spLCall C D) := by
  refine fnR_of F b scLCall (fun vs H Q E h => ?_) (fun cdv A outer s H vs Q E hr h => ?_)
  · obtain ⟨l, a, c, z, t, b, p, q, m, n, rfl, _⟩ := h
    rfl
  · have sc := scLCall
    obtain ⟨l, a, c, z, t, b, p, q, m, n, rfl, ⟨dl, el⟩, ha, hc, hz, b0, q0, n0, k⟩ := h
    refine ⟨_, (pss_one (ps_ret (pe_op (op_own oA NC.sf hr (by decide)) (pe_fld (pv 0) rfl) (pe_op (op_own oM NC.sf hr (by decide)) (pe_fld (pv 0) rfl) (pv 1))))), ?_⟩
    refine ⟨_, rfl, l, D, dl, _, _, rfl, el, LC.cl, LC.nA, lF_base _ _, _, rfl, l, D, dl, _, _, rfl, el, LC.cl, LC.nS, lF_slope _ _, _, rfl, ?_⟩
    obtain ⟨dc, fc, ec⟩ := hc.ins
    obtain ⟨dz, fz, ez⟩ := hz.ins
    refine ⟨c, dc, fc, z, dz, fz, rfl, ec, rfl, ez, op2_of hc hz (by decide) (by decide) (fun t' b' p' q' l1 l2 => Int.mul_ne_zero (by have := l1.pos; omega) (by have := l2.pos; omega)) ?_⟩
    intro p1 q1 m1 n1 x H1 l1 l2 y1 y2 y3 y4 nx hx s1
    have hq1 := l1.pos
    have hn1 := l2.pos
    have qn : q1 * n1 ≠ 0 := Int.mul_ne_zero (by omega) (by omega)
    have lx : Low (p * m) (q * n) (nT (p1 * m1) (q1 * n1)) (nB (p1 * m1) (q1 * n1)) := by
      refine (nf_low qn).base qn ?_
      have e1 := l1.cross
      have e2 := l2.cross
      grind
    have hx' : NumV C H1 x 800 (p * m) (q * n) := ⟨_, _, hx, lx, ((y1.mul y3).nT qn).mono (by decide), ((y2.mul y4).nB qn).mono (by decide)⟩
    have ha1 := ha.same s1
    obtain ⟨da, fa, ea⟩ := ha1.ins
    obtain ⟨dx, fx, ex⟩ := hx'.ins
    refine ⟨a, da, fa, x, dx, fx, rfl, ea, rfl, ex, op2_of ha1 hx' (by decide) (by decide) (fun t' b' p' q' l1 l2 => Int.mul_ne_zero (by have := l1.pos; omega) (by have := l2.pos; omega)) ?_⟩
    intro t2 b2 p2 q2 y H2 l3 l4 w1 w2 w3 w4 ny hy s2
    have bq : b2 * q2 ≠ 0 := Int.mul_ne_zero (by have := l3.pos; omega) (by have := l4.pos; omega)
    refine k y H2 (s1.free ny) ⟨_, _, hy, (nf_low bq).base bq ?_, Sz.nT bq (((w1.mul w4).mono (by decide : 400 + 800 ≤ 1999)).add ((w3.mul w2).mono (by decide : 800 + 400 ≤ 1999))), (Sz.nB bq (w2.mul w4)).mono (by decide)⟩ (s1.trans s2)
    have e1 := l3.cross
    have e2 := l4.cross
    grind
theorem ok_lmeetsF (F : L2.Fun K "meets" "Line.meets" sLMeets f fd) (NC : NumC K C) (LC : LineC K D) (oS : OpnF P w K mg base 4 C (PySem.dunder Operator.Sub.info.2) (spSub C)) (oB : OpnF P w K mg base 1 C "__bool__" (spNBool C)) (tD : MetF P w K mg base 4 C "divided_by" (spDiv C)) : FnOk P w K mg base CX0 5 f fd PLMeets (spMeets C D) := by
  refine F.ok scLMeets (fun vs H Q E h => ?_) (fun cdv A outer s H vs Q E hr h => ?_)
  · obtain ⟨l, m, a, c, a', c', t, b, p, q, t', b', p', q', rfl, _⟩ := h
    rfl
  · have sc := scLMeets
    obtain ⟨l, m, a, c, a', c', t, b, p, q, t', b', p', q', rfl, ⟨dl, el⟩, ⟨dm, em⟩, ha, hc, ha', hc', b0, q0, b0', q0', k0, k1⟩ := h
    refine ⟨_, (pss_cons (ps_set (i := 2) sc.nd rfl (Or.inl rfl) (pe_op (op_own oS NC.sf hr (by decide)) (pe_fld (pv 0) rfl) (pe_fld (pv 1) rfl))) (pss_cons (ps_if (pt_not (pt_tru (tru_own oB hr (by decide)) (pv 2))) (pss_one (ps_ret pe_non)) pss_nil) (pss_one (ps_ret (pe_mt tD hr (by decide) (pe_op (op_own oS NC.sf hr (by decide)) (pe_fld (pv 1) rfl) (pe_fld (pv 0) rfl)) (pa_cons (pv 2) pa_nil)))))), ?_⟩
    -- gap
    refine ⟨_, rfl, l, D, dl, _, _, rfl, el, LC.cl, LC.nS, lF_slope _ _, _, rfl, m, D, dm, _, _, rfl, em, LC.cl, LC.nS, lF_slope _ _, ?_⟩
    obtain ⟨dc, fc, ec⟩ := hc.ins
    obtain ⟨dc', fc', ec'⟩ := hc'.ins
    refine ⟨c, dc, fc, c', dc', fc', rfl, ec, rfl, ec', op2_of hc hc' (by decide) (by decide) (fun t' b' p' q' l1 l2 => Int.mul_ne_zero (by have := l1.pos; omega) (by have := l2.pos; omega)) ?_⟩
    intro p1 q1 p2 q2 x H1 l1 l2 y1 y2 y3 y4 nx hx s1
    have qq : q1 * q2 ≠ 0 := Int.mul_ne_zero (by have := l1.pos; omega) (by have := l2.pos; omega)
    have lx : Low (p * q' - p' * q) (q * q') (nT (p1 * q2 - p2 * q1) (q1 * q2)) (nB (p1 * q2 - p2 * q1) (q1 * q2)) := by
      refine (nf_low qq).base qq ?_
      have e1 := l1.cross
      have e2 := l2.cross
      grind
    have zx1 : Sz 401 (nT (p1 * q2 - p2 * q1) (q1 * q2)) := (Sz.sub (y1.mul y4) (y3.mul y2)).nT qq
    have zx2 : Sz 401 (nB (p1 * q2 - p2 * q1) (q1 * q2)) := (Sz.nB qq (y2.mul y4)).mono (by decide)
    have qq0 : q * q' ≠ 0 := Int.mul_ne_zero q0 q0'
    -- if not gap
    obtain ⟨dx, ex⟩ := id hx
    refine ⟨_, rfl, x, dx, _, rfl, ex, x, _, _, rfl, hx, _, rfl, ?_⟩
    by_cases h0 : p * q' - p' * q = 0
    · refine ifT (by rw [(lx.zero qq0).mpr h0]; rfl) ?_
      exact k0 h0 H1 s1
    · refine ifF (by have := mt (lx.zero qq0).mp h0; simpa using this) ?_
      -- other._base - self._base
      refine ⟨_, rfl, m, D, dm, _, _, rfl, s1 _ _ em, LC.cl, LC.nA, lF_base _ _, _, rfl, l, D, dl, _, _, rfl, s1 _ _ el, LC.cl, LC.nA, lF_base _ _, ?_⟩
      have ha1 := ha.same s1
      have ha1' := ha'.same s1
      obtain ⟨da, fa, ea⟩ := ha1.ins
      obtain ⟨da', fa', ea'⟩ := ha1'.ins
      refine ⟨a', da', fa', a, da, fa, rfl, ea', rfl, ea, op2_of ha1' ha1 (by decide) (by decide) (fun t' b' p' q' l1 l2 => Int.mul_ne_zero (by have := l1.pos; omega) (by have := l2.pos; omega)) ?_⟩
      intro t1 b1 t2 b2 y H2 l3 l4 w1 w2 w3 w4 ny hy s2
      have bb : b1 * b2 ≠ 0 := Int.mul_ne_zero (by have := l3.pos; omega) (by have := l4.pos; omega)
      have ly : Low (t' * b - t * b') (b' * b) (nT (t1 * b2 - t2 * b1) (b1 * b2)) (nB (t1 * b2 - t2 * b1) (b1 * b2)) := by
        refine (nf_low bb).base bb ?_
        have e1 := l3.cross
        have e2 := l4.cross
        grind
      have zy1 : Sz 401 (nT (t1 * b2 - t2 * b1) (b1 * b2)) := (Sz.sub (w1.mul w4) (w3.mul w2)).nT bb
      have zy2 : Sz 401 (nB (t1 * b2 - t2 * b1) (b1 * b2)) := (Sz.nB bb (w2.mul w4)).mono (by decide)
      obtain ⟨dy, ey⟩ := id hy
      -- .divided_by(gap)
      refine ⟨y, dy, _, rfl, ey, (lk_past (by decide +kernel)).trans ((lk_past (by decide +kernel)).trans rfl), _, rfl, ?_⟩
      have hy' : NumV C H2 y 401 (t' * b - t * b') (b' * b) := ⟨_, _, hy, ly, zy1, zy2⟩
      have hx' : NumV C H2 x 401 (p * q' - p' * q) (q * q') := ⟨_, _, hx.same s2, lx, zx1, zx2⟩
      have bb0 : b' * b ≠ 0 := Int.mul_ne_zero b0' b0
      refine op2_of (E := E0) hy' hx' (by decide) (by decide) (fun t' b' p' q' l5 l6 => Int.mul_ne_zero (by have := l5.pos; omega) (mt (l6.zero qq0).mp h0)) ?_
      intro t3 b3 p3 q3 z H3 l5 l6 v1 v2 v3 v4 nz hz s3
      have hb3 := l5.pos
      have hp3 := mt (l6.zero qq0).mp h0
      have bp : b3 * p3 ≠ 0 := Int.mul_ne_zero (by omega) hp3
      refine k1 h0 z H3 ((s1.trans s2).free nz) ⟨_, _, hz, (nf_low bp).base bp ?_, (Sz.nT bp (v1.mul v4)).mono (by decide), (Sz.nB bp (v2.mul v3)).mono (by decide)⟩ ((s1.trans s2).trans s3)
      have e1 := l5.cross
      have e2 := l6.cross
      generalize t' * b - t * b' = A at *
      generalize b' * b = B at *
      generalize p * q' - p' * q = G at *
      generalize q * q' = J at *
      show t3 * q3 * (B * G) = A * J * (b3 * p3)
      grind
theorem ok_drawn (F : L2.Fun K "_law_drawn" "_law_drawn" sDrawn f fd) (b : Binds K fd PDrawn []) (B : Bi mg) (cT : CalF P w K mg base 1 "_law_take" spTake) (cO : CalF P w K mg base 2 "_law_of" spOf) : FnR P w K mg base CX0 3 f spDrawn := by
  refine fnR_of F b scDrawn (fun vs H Q E h => ?_) (fun cdv A outer s H vs Q E hr h => ?_)
  · obtain ⟨p, m, rfl, _⟩ := h
    rfl
  · have sc := scDrawn
    obtain ⟨p, m, rfl, hp, hm, q⟩ := h
    refine ⟨_, (pss_cons (ps_set (i := 1) sc.nd rfl (Or.inl rfl) (pe_f cO hr (by decide) rfl (pa_cons (pv 0) (pa_cons (pe_lst (pa_cons pe_int (pa_cons pe_int (pa_cons pe_int (pa_cons (pe_un un_neg pe_int) (pa_cons pe_int (pa_cons pe_int (pa_cons (pe_un un_neg pe_int) (pa_cons pe_int (pa_cons (pe_op op_sub (pe_f cT hr (by decide) rfl (pa_cons (pv 0) (pa_cons pe_int pa_nil))) pe_int) (pa_cons (pe_op op_pow pe_int pe_int) pa_nil))))))))))) pa_nil)))) (pss_one (ps_ret (pe_tup (pa_cons (pv 1) (pa_cons (pe_f cO hr (by decide) rfl (pa_cons (pv 0) (pa_cons (pe_lst (pa_cons pe_int (pa_cons pe_int (pa_cons pe_int (pa_cons pe_int (pa_cons pe_int (pa_cons pe_int (pa_cons (pe_op op_add pe_int (pe_f cT hr (by decide) rfl (pa_cons (pv 0) (pa_cons pe_int pa_nil)))) pa_nil)))))))) pa_nil))) pa_nil)))))), ?_⟩
    refine ⟨_, rfl, _, rfl, _, rfl, ?_⟩
    refine ⟨_, rfl, p, 200, m, rfl, hp, by omega, by decide, by decide, fun d H1 d0 d1 hp1 c1 => ?_⟩
    refine ⟨_, _, rfl, rfl, _, _, rfl, rfl, ⟨by decide, by decide, by decide⟩, by show 10 ≤ sizeLine; decide, fun l hl => ?_⟩
    have npl : p ≠ l := by obtain ⟨_, _, _, e, _⟩ := hp1; exact ne_of_none e hl
    refine ⟨p, l, _, m + 1, rfl, ?_, by omega, upd_same, fun z => npl z.symm, by show 1 ≤ 10; decide, by show 10 ≤ 1000; decide, fun v H2 hv hp2 c2 => ?_⟩
    · obtain ⟨x, y, z, e, r⟩ := hp1
      exact ⟨x, y, z, (upd_ne npl).trans e, r⟩
    have hv' : ∃ t : Int, v = .int t ∧ Sz 41 t := by
      simp only [List.mem_cons, List.not_mem_nil, or_false] at hv
      rcases hv with rfl | rfl | rfl | rfl | rfl | rfl | rfl | rfl | rfl | rfl
      all_goals refine ⟨_, rfl, ?_⟩
      all_goals first
        | (show Int.natAbs _ < 2 ^ 41; decide)
        | (show Int.natAbs _ < 2 ^ 41; omega)
    obtain ⟨t, rfl, zt⟩ := hv'
    have c02 : Ch p H H2 := (c1.trans (Ch.new hl)).trans c2
    refine ⟨_, rfl, _, rfl, _, rfl, p, 40, m + 1 + 1, rfl, hp2, by omega, by decide, by decide, fun d H3 d0 d1 hp3 c3 => ?_⟩
    refine ⟨_, _, rfl, rfl, by show 7 ≤ sizeLine; decide, fun l hl => ?_⟩
    have npl : p ≠ l := by obtain ⟨_, _, _, e, _⟩ := hp3; exact ne_of_none e hl
    refine ⟨p, l, _, m + 1 + 1 + 1, rfl, ?_, by omega, upd_same, fun z => npl z.symm, by show 1 ≤ 7; decide, by show 7 ≤ 1000; decide, fun v H4 hv hp4 c4 => ?_⟩
    · obtain ⟨x, y, z, e, r⟩ := hp3
      exact ⟨x, y, z, (upd_ne npl).trans e, r⟩
    have hv' : ∃ b : Int, v = .int b ∧ 1 ≤ b ∧ b ≤ 40 := by
      simp only [List.mem_cons, List.not_mem_nil, or_false] at hv
      rcases hv with rfl | rfl | rfl | rfl | rfl | rfl | rfl
      all_goals refine ⟨_, rfl, ?_⟩
      all_goals first
        | decide
        | (constructor <;> omega)
    obtain ⟨b, rfl, hb1, hb2⟩ := hv'
    refine ⟨by show 2 ≤ sizeLine; decide, fun r hr => ?_⟩
    have npr : p ≠ r := by obtain ⟨_, _, _, e, _⟩ := hp4; exact ne_of_none e hr
    have c04 : Ch p H H4 := c02.trans ((c3.trans (Ch.new hl)).trans c4)
    refine q r _ t b (c04.free (fun z => npr z.symm) hr) upd_same ⟨zt, hb1, hb2⟩ ?_ (c04.trans (Ch.new hr))
    obtain ⟨x, y, z, e, a1, a2, a3, a4, a5⟩ := hp4
    exact ⟨x, y, z, (upd_ne npr).trans e, a1, a2, a3, a4, by omega⟩
theorem ok_lnum (F : L2.Fun K "_law_number" "_law_number" sLNum f fd) (b : Binds K fd PLNum []) (mN : MakF P w K mg base 2 "Number" C (spNum C)) : FnR P w K mg base CX0 4 f (spLNum C) := by
  refine fnR_of F b scLNum (fun vs H Q E h => ?_) (fun cdv A outer s H vs Q E hr h => ?_)
  · obtain ⟨r, t, b, rfl, _⟩ := h
    rfl
  · have sc := scLNum
    obtain ⟨r, t, b, rfl, e, hb, zt, zb, k⟩ := h
    refine ⟨_, (pss_one (ps_ret (pe_mk mN hr (by decide) rfl (pa_cons (pe_ix ix_tup (pv 0) pe_int (fun _ _ => rfl)) (pa_cons (pe_ix ix_tup (pv 0) pe_int (fun _ _ => rfl)) pa_nil))))), ?_⟩
    refine ⟨_, rfl, r, _, _, _, rfl, rfl, SqT.of e, rfl, _, rfl, r, _, _, _, rfl, rfl, SqT.of e, rfl, ?_⟩
    intro x d nx nd ne
    refine ⟨x, d, _, _, rfl, hb, zb.mono (by decide), upd_same, fun H1 h1 k1 => ⟨rfl, ?_⟩⟩
    exact k x H1 nx ⟨_, _, h1, nf_low hb, zt.nT hb, zb.nB hb⟩ (Same.mk nx nd k1)
theorem ok_due (F : L2.Fun K "_law_due" "_law_due" sDue f fd) (b : Binds K fd PDue []) (cL : CalF P w K mg base 1 "_law_least" spLeast) : FnR P w K mg base CX0 2 f spDue := by
  refine fnR_of F b scDue (fun vs H Q E h => ?_) (fun cdv A outer s H vs Q E hr h => ?_)
  · obtain ⟨a, b, c, d, a0, a1, b0, b1, c0, c1, d0, d1, rfl, _⟩ := h
    rfl
  · have sc := scDue
    obtain ⟨a, b, c, d, a0, a1, b0, b1, c0, c1, d0, d1, rfl, ea, eb, ec, ed, pa, pb, pc, pd, k0, k1⟩ := h
    refine ⟨_, (pss_cons (ps_par (i := 4) (j := 5) (by rfl) sc.nd rfl rfl (by decide) rfl rfl (pa_cons (pe_op op_sub (pe_op op_mulW (pe_ix ix_tup (pv 2) pe_int (fun _ _ => rfl)) (pe_ix ix_tup (pv 0) pe_int (fun _ _ => rfl))) (pe_op op_mulW (pe_ix ix_tup (pv 0) pe_int (fun _ _ => rfl)) (pe_ix ix_tup (pv 2) pe_int (fun _ _ => rfl)))) (pa_cons (pe_op op_mulW (pe_ix ix_tup (pv 2) pe_int (fun _ _ => rfl)) (pe_ix ix_tup (pv 0) pe_int (fun _ _ => rfl))) pa_nil)) (by rfl)) (pss_cons (ps_par (i := 6) (j := 7) (by rfl) sc.nd rfl rfl (by decide) rfl rfl (pa_cons (pe_op op_sub (pe_op op_mulW (pe_ix ix_tup (pv 1) pe_int (fun _ _ => rfl)) (pe_ix ix_tup (pv 3) pe_int (fun _ _ => rfl))) (pe_op op_mulW (pe_ix ix_tup (pv 3) pe_int (fun _ _ => rfl)) (pe_ix ix_tup (pv 1) pe_int (fun _ _ => rfl)))) (pa_cons (pe_op op_mulW (pe_ix ix_tup (pv 1) pe_int (fun _ _ => rfl)) (pe_ix ix_tup (pv 3) pe_int (fun _ _ => rfl))) pa_nil)) (by rfl)) (pss_one (ps_ret (pe_ifExp (pt_cmpR op_eq (pv 6) pe_int (nomark _)) pe_non (pe_f cL hr (by decide) rfl (pa_cons (pe_op op_mulW (pv 4) (pv 7)) (pa_cons (pe_op op_mulW (pv 5) (pv 6)) pa_nil)))))))), ?_⟩
    have za := pa.zb
    have zb := pb.zb
    have zc := pc.zb
    have zd := pd.zb
    refine ⟨_, rfl, c, _, _, _, rfl, rfl, SqT.of ec, rfl, _, rfl, a, _, _, _, rfl, rfl, SqT.of ea, rfl, _, _, rfl, rfl, wide_mul pc.zt za (by decide) (by decide) (by decide), _, rfl, a, _, _, _, rfl, rfl, SqT.of ea, rfl, _, rfl, c, _, _, _, rfl, rfl, SqT.of ec, rfl, _, _, rfl, rfl, wide_mul pa.zt zc (by decide) (by decide) (by decide), _, _, rfl, rfl, ?_⟩
    refine ⟨_, rfl, c, _, _, _, rfl, rfl, SqT.of ec, rfl, _, rfl, a, _, _, _, rfl, rfl, SqT.of ea, rfl, _, _, rfl, rfl, wide_mul zc za (by decide) (by decide) (by decide), _, _, rfl, ?_⟩
    refine ⟨_, rfl, b, _, _, _, rfl, rfl, SqT.of eb, rfl, _, rfl, d, _, _, _, rfl, rfl, SqT.of ed, rfl, _, _, rfl, rfl, wide_mul pb.zt zd (by decide) (by decide) (by decide), _, rfl, d, _, _, _, rfl, rfl, SqT.of ed, rfl, _, rfl, b, _, _, _, rfl, rfl, SqT.of eb, rfl, _, _, rfl, rfl, wide_mul pd.zt zb (by decide) (by decide) (by decide), _, _, rfl, rfl, ?_⟩
    refine ⟨_, rfl, b, _, _, _, rfl, rfl, SqT.of eb, rfl, _, rfl, d, _, _, _, rfl, rfl, SqT.of ed, rfl, _, _, rfl, rfl, wide_mul zb zd (by decide) (by decide) (by decide), _, _, rfl, ?_⟩
    refine ⟨_, rfl, rfl, _, rfl, ?_⟩
    by_cases h0 : b0 * d1 - d0 * b1 = 0
    · exact ifT (by simpa using h0) (k0 h0)
    · refine ifF (by simpa using h0) ?_
      have zA : Sz 48 (c0 * a1 - a0 * c1) := (pc.zt.mul za).sub (pa.zt.mul zc)
      have zU : Sz 48 (b0 * d1 - d0 * b1) := (pb.zt.mul zd).sub (pd.zt.mul zb)
      refine ⟨_, rfl, _, rfl, _, _, rfl, rfl, wide_mul zA (zb.mul zd) (by decide) (by decide) (by decide), ?_⟩
      refine ⟨_, rfl, _, rfl, _, _, rfl, rfl, wide_mul (zc.mul za) zU (by decide) (by decide) (by decide), ?_⟩
      have ca : c1 * a1 ≠ 0 := Int.mul_ne_zero (by have := pc.lo; omega) (by have := pa.lo; omega)
      exact ⟨_, _, rfl, Int.mul_ne_zero ca h0, ((zc.mul za).mul zU).mono (by decide), (zA.mul (zb.mul zd)).mono (by decide), fun p H' hp e s => k1 h0 p H' hp e s⟩
end
end Ws

namespace Ws
open PySem PySem.Spec PyProof.Rows L2
abbrev sRight : Stmt := (PySem.Challenge.pw_whatspeed_k06_where_lines_meet.main.body.getD 17 (.Pass ⟨0, 0, 0, 0⟩))
abbrev NRight : List Str := ["pot", "a", "b", "c", "d", "way", "first", "mate", "due", "found", "s", "spots", "told", "one", "two", "k"]
abbrev PRight : List Str := ["pot"]
theorem scRight : FnScope NRight PRight (defScope sRight) := ⟨rfl, rfl, rfl, by decide +kernel, rfl, by decide +kernel, by decide +kernel⟩
abbrev sLaw : Stmt := (PySem.Challenge.pw_whatspeed_k06_where_lines_meet.main.body.getD 18 (.Pass ⟨0, 0, 0, 0⟩))
abbrev NLaw : List Str := ["script", "k", "pot", "turn"]
abbrev PLaw : List Str := ["script"]
theorem scLaw : FnScope NLaw PLaw (defScope sLaw) := ⟨rfl, rfl, rfl, by decide +kernel, rfl, by decide +kernel, by decide +kernel⟩
def spRight : Sp := fun vs H Q _ => ∃ (p : Addr) (m : Int), vs = [.ref p] ∧ PotAt H p m ∧ m ≤ 10000 ∧ ∀ H', PotAt H' p (m + 17) → Ch p H H' → Q (.bl true) H'
def spLaw (K : PySem.W.Frag) : Sp := fun vs H Q _ => ∃ (a : Addr) (ns : List Int), vs = [.ref a] ∧ SqL K H a (ns.map V.int) ∧ ns.length ≤ 63 ∧ ∀ H', Q (.bl true) H'
theorem lF_no (a c : Addr) {m : Str} (h1 : (m == "_base") = false) (h2 : (m == "_slope") = false) : (lF a c).lookup m = none := (lk_past h1).trans ((lk_past h2).trans rfl)
theorem dp2 {K : PySem.W.Frag} {H : Hp} (a b : Int) : DpAll K H [.int a, .int b] [.int a, .int b] := .cons (.int _) (.cons (.int _) .nil)
theorem eqv2 (a b : Int) : PyData.eqv (.tuple [.int a, .int b]) (.tuple [.int a, .int b]) = true := PySem.SeqAt.eqv_refl _ rfl
/-- == of two fractions -/
theorem eqV {C : Addr} {H : Hp} {a c : Addr} {Q : VK} {E : XK} {na nc : Nat} {t b p q : Int} (h1 : NumV C H a na t b) (h2 : NumV C H c nc p q) (b0 : b ≠ 0) (q0 : q ≠ 0) (k : Q (.bl (decide (t * q = p * b))) H) : spNEq C [.ref a, .ref c] H Q E := by
  obtain ⟨t', b', e1, l1, _, _⟩ := h1
  obtain ⟨p', q', e2, l2, _, _⟩ := h2
  refine ⟨a, c, t', b', p', q', rfl, e1, e2, ?_⟩
  have e : decide (t' = p' ∧ b' = q') = decide (t * q = p * b) := by
    by_cases h : t * q = p * b
    · rw [decide_eq_true h, decide_eq_true (l1.eq l2 b0 q0 h)]
    · rw [decide_eq_false h, decide_eq_false (l1.ne l2 b0 q0 h)]
  rw [e]
  exact k
theorem key1 (a0 a1 b0 b1 c0 c1 d0 d1 u v k : Int) : (a0 * (b1 * (v * 7)) + b0 * (u * 7 + v * k) * a1) * (c1 * (d1 * (v * 7))) - (c0 * (d1 * (v * 7)) + d0 * (u * 7 + v * k) * c1) * (a1 * (b1 * (v * 7))) = (v * 7) * ((u * 7 + v * k) * dueB a0 a1 b0 b1 c0 c1 d0 d1 - (v * 7) * dueT a0 a1 b0 b1 c0 c1 d0 d1) := by
  unfold dueB dueT
  grind
theorem key2 {u v T B k : Int} (h : u * B = T * v) : (v * 7) * ((u * 7 + v * k) * B - (v * 7) * T) = 7 * v * v * k * B := by grind
/-- both lines have one value at (7 u + v k) / 7 v exactly if k is 0 -/
theorem key {a0 a1 b0 b1 c0 c1 d0 d1 u v k : Int} (h : u * dueB a0 a1 b0 b1 c0 c1 d0 d1 = dueT a0 a1 b0 b1 c0 c1 d0 d1 * v) (hv : v ≠ 0) (hB : dueB a0 a1 b0 b1 c0 c1 d0 d1 ≠ 0) :
    decide ((a0 * (b1 * (v * 7)) + b0 * (u * 7 + v * k) * a1) * (c1 * (d1 * (v * 7))) = (c0 * (d1 * (v * 7)) + d0 * (u * 7 + v * k) * c1) * (a1 * (b1 * (v * 7)))) = decide (k = 0) := by
  have e := (key1 a0 a1 b0 b1 c0 c1 d0 d1 u v k).trans (key2 (k := k) h)
  by_cases hk : k = 0
  · rw [decide_eq_true hk]
    refine decide_eq_true ?_
    have e0 : 7 * v * v * k * dueB a0 a1 b0 b1 c0 c1 d0 d1 = 0 := by rw [hk, Int.mul_zero, Int.zero_mul]
    omega
  · rw [decide_eq_false hk]
    refine decide_eq_false fun z => ?_
    have : 7 * v * v * k * dueB a0 a1 b0 b1 c0 c1 d0 d1 ≠ 0 := Int.mul_ne_zero (Int.mul_ne_zero (Int.mul_ne_zero (Int.mul_ne_zero (by decide) hv) hv) hk) hB
    omega
theorem num_of {C : Addr} {H : Hp} {a : Addr} {n : Nat} {t b T B : Int} (h : NumV C H a n t b) (hb : b ≠ 0) (hB : B ≠ 0) (e : t * B = T * b) : NumAt C H a (nT T B) (nB T B) := by
  obtain ⟨p, q, e1, l, _⟩ := h
  obtain ⟨rfl, rfl⟩ := l.eq (nf_low hB) hb hB e
  exact e1
theorem NumV.upd {C : Addr} {H : Hp} {z D : Addr} {n : Nat} {t b : Int} {xs : List V} {o : HO} (h : NumV C H z n t b) (hD : H D = some (.lst xs)) : NumV C (L2.upd H D o) z n t b := by
  obtain ⟨p, q, ⟨dx, e⟩, r⟩ := h
  have n : z ≠ D := ne_of e hD (by intro z; cases z)
  exact ⟨p, q, ⟨dx, (upd_ne n).trans e⟩, r⟩
section
variable {P : Program} {w : World} {K : PySem.W.Frag} {mg : Str → Option Value} {base : Heap} {C D f fM : Addr} {fd fdM : FuncData}
theorem ok_right (F : L2.Fun K "_law_is_right" "_law_is_right" sRight f fd) (b : Binds K fd PRight []) (B : Bi mg) (NC : NumC K C) (LC : LineC K D) (gN : mg "Number" = some (.ref C))
    (cD : CalF P w K mg base 3 "_law_drawn" spDrawn) (cT : CalF P w K mg base 1 "_law_take" spTake) (cN : CalF P w K mg base 4 "_law_number" (spLNum C)) (cU : CalF P w K mg base 2 "_law_due" spDue)
    (mL : MakF P w K mg base 1 "Line" D (spLine D)) (mN : MakF P w K mg base 2 "Number" C (spNum C)) (tM : MetF P w K mg base 5 D "meets" (spMeets C D)) (pT : PrpF P w K mg base 1 C "top" (spTop C)) (pB : PrpF P w K mg base 1 C "bottom" (spBot C))
    (oE : OpnF P w K mg base 1 C "__eq__" (spNEq C)) (cC : CloF P w K mg base 5 D (spLCall C D)) (MM : Meth K D "meets" fM) (GM : FnOk P w K mg base CX0 5 fM fdM PLMeets (spMeets C D)) (bK : KBn K fdM PLMeets 1 ["other"] (fun us ws => us ++ ws) (fun vs zs => vs ++ zs)) :
    FnR P w K mg base CX0 6 f spRight := by
  refine fnR_of F b scRight (fun vs H Q E h => ?_) (fun cdv A outer s H vs Q E hr h => ?_)
  · obtain ⟨p, m, rfl, _⟩ := h
    rfl
  · have sc := scRight
    obtain ⟨p, m, rfl, hp, hm, q⟩ := h
    have tail : ∃ t : TS, PSs (cxOf CX0 P w K mg base NRight "_law_is_right" (defScope sRight) f cdv A outer s H E).nox (List.drop 4 (defBody sRight)) t ∧
        ∀ (ra rb rc rd : Addr) (wy : Int) (H5 : Hp) (a0 a1 b0 b1 c0 c1 d0 d1 : Int), H5 ra = some (.tup [.int a0, .int a1]) → H5 rb = some (.tup [.int b0, .int b1]) → H5 rc = some (.tup [.int c0, .int c1]) → H5 rd = some (.tup [.int d0, .int d1]) →
          PairOk a0 a1 → PairOk b0 b1 → PairOk c0 c1 → PairOk d0 d1 → PotAt H5 p (m + 17) → Ch p H H5 →
          t { nx := fun _ H' => Q .non H', rt := Q } [some (.ref p), some (.ref ra), some (.ref rb), some (.ref rc), some (.ref rd), some (.int wy), none, none, none, none, none, none, none, none, none, none] H5 := by
      refine ⟨_, (pss_cons (ps_set (i := 6) sc.nd rfl (Or.inr rfl) (pe_mk mL hr (by decide) rfl (pa_cons (pe_f cN hr (by decide) rfl (pa_cons (pv 1) pa_nil)) (pa_cons (pe_f cN hr (by decide) rfl (pa_cons (pv 2) pa_nil)) pa_nil)))) (pss_cons (ps_set (i := 7) sc.nd rfl (Or.inr rfl) (pe_mk mL hr (by decide) rfl (pa_cons (pe_f cN hr (by decide) rfl (pa_cons (pv 3) pa_nil)) (pa_cons (pe_f cN hr (by decide) rfl (pa_cons (pv 4) pa_nil)) pa_nil)))) (pss_cons (ps_set (i := 8) sc.nd rfl (Or.inr rfl) (pe_f cU hr (by decide) rfl (pa_cons (pv 1) (pa_cons (pv 2) (pa_cons (pv 3) (pa_cons (pv 4) pa_nil)))))) (pss_cons (ps_set (i := 9) sc.nd rfl (Or.inl rfl) (pe_lst (pa_cons (pe_mt tM hr (by decide) (pv 6) (pa_cons (pv 7) pa_nil)) (pa_cons (pe_mt tM hr (by decide) (pv 7) (pa_cons (pv 6) pa_nil)) (pa_cons (pe_mtK0 LC.cl MM GM hr bK pass0 (pv 6) (pk_cons (pv 7) pk_nil)) pa_nil))))) (pss_cons (ps_if (pt_cmpR op_isN (pv 8) pe_non (nomark _)) (pss_one (ps_ret (pe_cmpR (op_eqD hr.units) (pv 9) (pe_op op_rep (pe_lst (pa_cons pe_non pa_nil)) pe_int) (nomark _)))) pss_nil) (pss_cons (ps_for PassesOwn.never rfl (pi_list (pv 9)) (pg_name (i := 10) sc.nd rfl (Or.inl rfl)) (pss_one (ps_if (PW.pt (pw_or (pt_not (pt_val (pe_callB call_isi (by rfl) B.isinstance (by decide +kernel) (pa_cons (pv 10) (pa_cons (pe_glob (v := .ref C) rfl gN rfl) pa_nil))))) (pw_or1 (pt_cmpR (op_neD hr.units) (pe_tup (pa_cons (pe_pr pT hr (by decide) (pv 10)) (pa_cons (pe_pr pB hr (by decide) (pv 10)) pa_nil))) (pv 8) (nomark _))))) (pss_one (ps_ret pe_bl)) pss_nil))) (pss_cons (ps_setLc (i := 11) (own := [("k", 15)]) rfl sc.nd rfl rfl (sw_true rfl rfl rfl (by decide +kernel)) (pi_tup (pe_tup (pa_cons pe_int (pa_cons pe_int (pa_cons (pe_un un_neg pe_int) pa_nil))))) (blkOk_by (N := NRight) (sc := defScope sRight) (by decide +kernel)) (fun _ _ _ _ _ => by exact (pg_name (i := 15) sc.nd rfl (Or.inl rfl))) (fun _ _ _ _ _ => by exact pts_nil) (fun _ _ _ _ _ => by exact (pe_mk mN hr (by decide) rfl (pa_cons (pe_op op_add (pe_op op_mulW (pe_ix (show IxR _ (rIxT K) from ix_tup) (pv 8) pe_int (fun _ _ => rfl)) pe_int) (pe_op op_mulW (pe_ix (show IxR _ (rIxT K) from ix_tup) (pv 8) pe_int (fun _ _ => rfl)) (pv 15))) (pa_cons (pe_op op_mulW (pe_ix (show IxR _ (rIxT K) from ix_tup) (pv 8) pe_int (fun _ _ => rfl)) pe_int) pa_nil))))) (pss_cons (ps_setLc (i := 12) (own := [("s", 10)]) rfl sc.nd rfl rfl (sw_true rfl rfl rfl (by decide +kernel)) (pi_list (pv 11)) (blkOk_by (N := NRight) (sc := defScope sRight) (by decide +kernel)) (fun _ _ _ _ _ => by exact (pg_name (i := 10) sc.nd rfl (Or.inl rfl))) (fun _ _ _ _ _ => by exact pts_nil) (fun _ _ _ _ _ => by exact (pe_tup (pa_cons (pe_clo cC hr (by decide) (pv 6) (pa_cons (pv 10) pa_nil)) (pa_cons (pe_clo cC hr (by decide) (pv 7) (pa_cons (pv 10) pa_nil)) pa_nil))))) (pss_cons (ps_for PassesOwn.never rfl (pi_list (pv 12)) (pg_tup rfl (pgs_cons (pg_name (i := 13) sc.nd rfl (Or.inl rfl)) (pgs_cons (pg_name (i := 14) sc.nd rfl (Or.inl rfl)) pgs_nil))) (pss_one (ps_if (PW.pt (pw_or (pt_not (pt_val (pe_callB call_isi (by rfl) B.isinstance (by decide +kernel) (pa_cons (pv 13) (pa_cons (pe_glob (v := .ref C) rfl gN rfl) pa_nil))))) (pw_or1 (pt_not (pt_val (pe_callB call_isi (by rfl) B.isinstance (by decide +kernel) (pa_cons (pv 14) (pa_cons (pe_glob (v := .ref C) rfl gN rfl) pa_nil)))))))) (pss_one (ps_ret pe_bl)) pss_nil))) (pss_one (ps_ret (pe_cmpR (op_eqD hr.units) (pe_lc (own := [("one", 13), ("two", 14)]) rfl sc.nd (pi_list (pv 12)) (blkOk_by (N := NRight) (sc := defScope sRight) (by decide +kernel)) (fun _ _ _ _ _ => by exact (show PG _ _ (gTup K 2 _) from (pg_tup rfl (pgs_cons (pg_name (i := 13) sc.nd rfl (Or.inl rfl)) (pgs_cons (pg_name (i := 14) sc.nd rfl (Or.inl rfl)) pgs_nil))))) (fun _ _ _ _ _ => by exact pts_nil) (fun _ _ _ _ _ => by exact (pe_cmpR (show OpR _ _ (rEqO K C (spNEq C)) from op_eqO oE hr (by decide)) (pv 13) (pv 14) (nomark _)))) (pe_lst (pa_cons pe_bl (pa_cons pe_bl (pa_cons pe_bl pa_nil)))) (nomark _))))))))))))), ?_⟩
      intro ra rb rc rd wy H5 a0 a1 b0 b1 c0 c1 d0 d1 ea eb ec ed pa pb pc pd hp5 c5
      have za : Sz 200 a1 := pa.zb.mono (by decide)
      have zb : Sz 200 b1 := pb.zb.mono (by decide)
      have zc : Sz 200 c1 := pc.zb.mono (by decide)
      have zd : Sz 200 d1 := pd.zb.mono (by decide)
      have a1n : a1 ≠ 0 := by have := pa.lo; omega
      have b1n : b1 ≠ 0 := by have := pb.lo; omega
      have c1n : c1 ≠ 0 := by have := pc.lo; omega
      have d1n : d1 ≠ 0 := by have := pd.lo; omega
      -- first
      refine ⟨_, rfl, ra, a0, a1, rfl, ea, a1n, pa.zt.mono (by decide), za, fun x1 H6 nx1 v1 s6 => ?_⟩
      refine ⟨_, rfl, rb, b0, b1, rfl, s6 _ _ eb, b1n, pb.zt.mono (by decide), zb, fun x2 H7 nx2 v2 s7 => ?_⟩
      intro l1 dl1 nl1 nd1 ne1
      refine ⟨l1, dl1, x1, x2, rfl, upd_same, fun H8 hl1 k8 => ⟨rfl, ?_⟩⟩
      have s8 : Same H7 H8 := Same.mk nl1 nd1 k8
      have s58 : Same H5 H8 := (s6.trans s7).trans s8
      -- mate
      refine ⟨_, rfl, rc, c0, c1, rfl, s58 _ _ ec, c1n, pc.zt.mono (by decide), zc, fun x3 H9 nx3 v3 s9 => ?_⟩
      refine ⟨_, rfl, rd, d0, d1, rfl, s9 _ _ (s58 _ _ ed), d1n, pd.zt.mono (by decide), zd, fun x4 H10 nx4 v4 s10 => ?_⟩
      intro l2 dl2 nl2 nd2 ne2
      refine ⟨l2, dl2, x3, x4, rfl, upd_same, fun H11 hl2 k11 => ⟨rfl, ?_⟩⟩
      have s11 : Same H10 H11 := Same.mk nl2 nd2 k11
      have s8b : Same H8 H11 := (s9.trans s10).trans s11
      have s5b : Same H5 H11 := s58.trans s8b
      have w1 : NumV C H11 x1 200 a0 a1 := ((v1.same s7).same s8).same s8b
      have w2 : NumV C H11 x2 200 b0 b1 := (v2.same s8).same s8b
      have w3 : NumV C H11 x3 200 c0 c1 := (v3.same s10).same s11
      have w4 : NumV C H11 x4 200 d0 d1 := v4.same s11
      have hl1 : LineAt D H11 l1 x1 x2 := hl1.same s8b
      -- due
      refine ⟨_, rfl, _, rfl, _, rfl, _, rfl, ra, rb, rc, rd, a0, a1, b0, b1, c0, c1, d0, d1, rfl, s5b _ _ ea, s5b _ _ eb, s5b _ _ ec, s5b _ _ ed, pa, pb, pc, pd, fun hU => ?_, fun hU rdue H12 nrd edue s12 => ?_⟩
      · -- the slopes are alike
        have hU' : d0 * b1 - b0 * d1 = 0 := by omega
        obtain ⟨q1, e1⟩ := hl1
        obtain ⟨q2, e2⟩ := hl2
        refine ⟨_, rfl, l1, q1, _, rfl, e1, lF_no _ _ (by decide +kernel) (by decide +kernel), _, rfl, l1, l2, x1, x2, x3, x4, a0, a1, b0, b1, c0, c1, d0, d1, rfl, ⟨q1, e1⟩, ⟨q2, e2⟩, w1, w2, w3, w4, a1n, b1n, c1n, d1n, fun _ H13 s13 => ?_, fun z => absurd hU z⟩
        refine ⟨_, rfl, l2, q2, _, rfl, s13 _ _ e2, lF_no _ _ (by decide +kernel) (by decide +kernel), _, rfl, l2, l1, x3, x4, x1, x2, c0, c1, d0, d1, a0, a1, b0, b1, rfl, ⟨q2, s13 _ _ e2⟩, ⟨q1, s13 _ _ e1⟩, w3.same s13, w4.same s13, w1.same s13, w2.same s13, c1n, d1n, a1n, b1n, fun _ H14 s14 => ?_, fun z => absurd hU' z⟩
        have s1 := s13.trans s14
        refine ⟨_, rfl, l1, q1, _, rfl, s1 _ _ e1, lF_no _ _ (by decide +kernel) (by decide +kernel), _, rfl, rfl, l1, l2, x1, x2, x3, x4, a0, a1, b0, b1, c0, c1, d0, d1, rfl, ⟨q1, s1 _ _ e1⟩, ⟨q2, s1 _ _ e2⟩, w1.same s1, w2.same s1, w3.same s1, w4.same s1, a1n, b1n, c1n, d1n, fun _ H15 s15 => ?_, fun z => absurd hU z⟩
        refine ⟨by show 3 ≤ sizeLine; decide, fun fo hfo => ?_⟩
        refine ⟨_, rfl, rfl, _, rfl, ifT rfl ?_⟩
        refine ⟨_, rfl, by show 1 ≤ sizeLine; decide, fun y hy => ?_⟩
        refine ⟨y, 3, [.non], rfl, rfl, upd_same, by decide, by decide, by show 3 ≤ sizeLine; decide, fun z hz => ?_⟩
        have nfy : fo ≠ y := ne_of_none upd_same hy
        have nfz : fo ≠ z := ne_of_none ((upd_ne nfy).trans upd_same) hz
        have da : ∀ {H : Hp}, DpAll K H [.non, .non, .non] [.none, .none, .none] := .cons .non (.cons .non (.cons .non .nil))
        refine ⟨.list [.none, .none, .none], .list [.none, .none, .none], .lst (SqL.of ((upd_ne nfz).trans ((upd_ne nfy).trans upd_same))) da, .lst (SqL.of upd_same) da, rfl, rfl, ?_⟩
        have sB : Same H5 _ := s5b.trans (s1.trans s15)
        have npf : p ≠ fo := by obtain ⟨_, _, _, e, _⟩ := hp5; exact ne_of_none (sB _ _ e) hfo
        have npy : p ≠ y := by obtain ⟨_, _, _, e, _⟩ := hp5; exact ne_of_none ((upd_ne npf).trans (sB _ _ e)) hy
        have npz : p ≠ z := by obtain ⟨_, _, _, e, _⟩ := hp5; exact ne_of_none ((upd_ne npy).trans ((upd_ne npf).trans (sB _ _ e))) hz
        refine q _ ?_ (((c5.trans (Ch.of sB)).trans ((Ch.new hfo).trans (Ch.new hy))).trans (Ch.new hz))
        obtain ⟨x, y, z, e, r⟩ := hp5
        exact ⟨x, y, z, (upd_ne npz).trans ((upd_ne npy).trans ((upd_ne npf).trans (sB _ _ e))), r⟩
      · have hB : dueB a0 a1 b0 b1 c0 c1 d0 d1 ≠ 0 := Int.mul_ne_zero (Int.mul_ne_zero c1n a1n) hU
        obtain ⟨q1, e1⟩ := hl1
        obtain ⟨q2, e2⟩ := hl2
        have y1 := w1.same s12
        have y2 := w2.same s12
        have y3 := w3.same s12
        have y4 := w4.same s12
        have f1 := s12 _ _ e1
        have f2 := s12 _ _ e2
        have hU' : d0 * b1 - b0 * d1 ≠ 0 := by omega
        refine ⟨_, rfl, l1, q1, _, rfl, f1, lF_no _ _ (by decide +kernel) (by decide +kernel), _, rfl, l1, l2, x1, x2, x3, x4, a0, a1, b0, b1, c0, c1, d0, d1, rfl, ⟨q1, f1⟩, ⟨q2, f2⟩, y1, y2, y3, y4, a1n, b1n, c1n, d1n, fun z => absurd z hU, fun _ z1 H13 nz1 u1 s13 => ?_⟩
        refine ⟨_, rfl, l2, q2, _, rfl, s13 _ _ f2, lF_no _ _ (by decide +kernel) (by decide +kernel), _, rfl, l2, l1, x3, x4, x1, x2, c0, c1, d0, d1, a0, a1, b0, b1, rfl, ⟨q2, s13 _ _ f2⟩, ⟨q1, s13 _ _ f1⟩, y3.same s13, y4.same s13, y1.same s13, y2.same s13, c1n, d1n, a1n, b1n, fun z => absurd z hU', fun _ z2 H14 nz2 u2 s14 => ?_⟩
        have s1 := s13.trans s14
        refine ⟨_, rfl, l1, q1, _, rfl, s1 _ _ f1, lF_no _ _ (by decide +kernel) (by decide +kernel), _, rfl, rfl, l1, l2, x1, x2, x3, x4, a0, a1, b0, b1, c0, c1, d0, d1, rfl, ⟨q1, s1 _ _ f1⟩, ⟨q2, s1 _ _ f2⟩, y1.same s1, y2.same s1, y3.same s1, y4.same s1, a1n, b1n, c1n, d1n, fun z => absurd z hU, fun _ z3 H15 nz3 u3 s15 => ?_⟩
        refine ⟨by show 3 ≤ sizeLine; decide, fun fo hfo => ?_⟩
        have g1 : NumAt C H15 z1 (nT (dueT a0 a1 b0 b1 c0 c1 d0 d1) (dueB a0 a1 b0 b1 c0 c1 d0 d1)) (nB (dueT a0 a1 b0 b1 c0 c1 d0 d1) (dueB a0 a1 b0 b1 c0 c1 d0 d1)) := ((num_of u1 hB hB rfl).same s14).same s15
        have g2 : NumAt C H15 z2 (nT (dueT a0 a1 b0 b1 c0 c1 d0 d1) (dueB a0 a1 b0 b1 c0 c1 d0 d1)) (nB (dueT a0 a1 b0 b1 c0 c1 d0 d1) (dueB a0 a1 b0 b1 c0 c1 d0 d1)) :=
          (num_of u2 (Int.mul_ne_zero (Int.mul_ne_zero a1n c1n) hU') hB (by unfold dueT dueB; grind)).same s15
        have g3 : NumAt C H15 z3 (nT (dueT a0 a1 b0 b1 c0 c1 d0 d1) (dueB a0 a1 b0 b1 c0 c1 d0 d1)) (nB (dueT a0 a1 b0 b1 c0 c1 d0 d1) (dueB a0 a1 b0 b1 c0 c1 d0 d1)) := num_of u3 hB hB rfl
        have luv := nf_low (t := dueT a0 a1 b0 b1 c0 c1 d0 d1) hB
        have zT : Sz 60 (dueT a0 a1 b0 b1 c0 c1 d0 d1) := ((pc.zt.mul pa.zb).sub (pa.zt.mul pc.zb)).mul (pb.zb.mul pd.zb)
        have zB : Sz 60 (dueB a0 a1 b0 b1 c0 c1 d0 d1) := (pc.zb.mul pa.zb).mul ((pb.zt.mul pd.zb).sub (pd.zt.mul pb.zb))
        have zu : Sz 60 (nT (dueT a0 a1 b0 b1 c0 c1 d0 d1) (dueB a0 a1 b0 b1 c0 c1 d0 d1)) := zT.nT hB
        have zv : Sz 60 (nB (dueT a0 a1 b0 b1 c0 c1 d0 d1) (dueB a0 a1 b0 b1 c0 c1 d0 d1)) := zB.nB hB
        have hkey : ∀ k : Int, _ := fun k => key (k := k) luv.cross (by have := luv.pos; omega) hB
        have vpos := luv.pos
        generalize nT (dueT a0 a1 b0 b1 c0 c1 d0 d1) (dueB a0 a1 b0 b1 c0 c1 d0 d1) = u at *
        generalize nB (dueT a0 a1 b0 b1 c0 c1 d0 d1) (dueB a0 a1 b0 b1 c0 c1 d0 d1) = v at *
        have sF : Same H15 (upd H15 fo (.lst [.ref z1, .ref z2, .ref z3])) := Same.new hfo
        have eF : (upd H15 fo (.lst [.ref z1, .ref z2, .ref z3])) fo = some (.lst [.ref z1, .ref z2, .ref z3]) := upd_same
        refine ⟨_, rfl, rfl, _, rfl, ifF rfl ?_⟩
        generalize upd H15 fo (.lst [.ref z1, .ref z2, .ref z3]) = H16 at sF eF
        have s1F : Same H12 H16 := (s1.trans s15).trans sF
        refine ⟨_, rfl, fo, rfl, ⟨_, SqL.of eF⟩, for_list (K := K) (a := fo) (xs := [.ref z1, .ref z2, .ref z3]) (fun i σ H' => ∃ x, σ = [some (.ref p), some (.ref ra), some (.ref rb), some (.ref rc), some (.ref rd), some (.int wy), some (.ref l1), some (.ref l2), some (.ref rdue), some (.ref fo), x, none, none, none, none, none] ∧ Same H16 H')
          ⟨none, rfl, Same.refl _⟩ (fun i σ H' _ ⟨_, _, s⟩ => SqL.of (s _ _ eF)) ?_ ?_⟩
        · rintro i x σ H' hi ⟨_, rfl, s⟩
          have hx : ∃ y, x = V.ref y ∧ NumAt C H' y u v := by
            match i, hi with
            | 0, h => exact ⟨z1, (Option.some.inj h).symm, (g1.same sF).same s⟩
            | 1, h => exact ⟨z2, (Option.some.inj h).symm, (g2.same sF).same s⟩
            | 2, h => exact ⟨z3, (Option.some.inj h).symm, (g3.same sF).same s⟩
            | n + 3, h => simp at h
          obtain ⟨y, rfl, dy, ey⟩ := hx
          refine ⟨_, rfl, _, _, _, _, true, rfl, .own C, NC.ty ey, NC.kk, true, rfl, iteF ?_⟩
          refine ⟨_, rfl, y, dy, _, rfl, ey, y, u, v, rfl, ⟨dy, ey⟩, _, rfl, y, dy, _, rfl, ey, y, u, v, rfl, ⟨dy, ey⟩, by show 2 ≤ sizeLine; decide, fun tp htp => ?_⟩
          have edue' := (Same.new (o := .tup [.int u, .int v]) htp) _ _ (s _ _ (s1F _ _ edue))
          refine ⟨_, rfl, .tuple [.int u, .int v], .tuple [.int u, .int v], .tup (SqT.of upd_same) (dp2 u v), .tup (SqT.of edue') (dp2 u v), rfl, rfl, _, rfl, ifF (by rw [eqv2]; rfl) ?_⟩
          exact ⟨_, rfl, s.trans (Same.new htp)⟩
        · rintro σ H17 ⟨_, rfl, s17⟩
          have s12b : Same H12 H17 := s1F.trans s17
          have edue17 := s12b _ _ edue
          -- spots
          refine ⟨1, rfl, by show 3 ≤ sizeLine; decide, fun tp htp => ⟨tp, rfl, ⟨_, SqT.of upd_same⟩, fun D1 hD1 => ?_⟩⟩
          have sT : Same H17 (upd H17 tp (.tup [.int 0, .int 1, .int (-1)])) := Same.new htp
          have eT : (upd H17 tp (.tup [.int 0, .int 1, .int (-1)])) tp = some (.tup [.int 0, .int 1, .int (-1)]) := upd_same
          generalize upd H17 tp (.tup [.int 0, .int 1, .int (-1)]) = H18 at sT eT hD1
          have kk : ∀ {j : Nat} {x : V}, [V.int 0, V.int 1, V.int (-1)][j]? = some x → ∃ k : Int, x = .int k ∧ [0, 1, -1][j]? = some k ∧ Sz 1 k := fun {j x} h => by
            match j, h with
            | 0, h => exact ⟨0, (Option.some.inj h).symm, rfl, by unfold Sz; decide⟩
            | 1, h => exact ⟨1, (Option.some.inj h).symm, rfl, by unfold Sz; decide⟩
            | 2, h => exact ⟨-1, (Option.some.inj h).symm, rfl, by unfold Sz; decide⟩
            | n + 3, h => simp at h
          refine lcT (K := K) (a := tp) (xs := [.int 0, .int 1, .int (-1)]) (fun i acc H' => ∃ zs : List Addr, acc = zs.map V.ref ∧ Ch D1 H18 H' ∧ ∀ (j : Nat) (z : Addr) (k : Int), zs[j]? = some z → [0, 1, -1][j]? = some k → NumV C H' z 400 (u * 7 + v * k) (v * 7))
            ⟨[], rfl, Ch.new hD1, fun j z k h => by simp at h⟩ (fun i acc H' ⟨_, _, c, _⟩ => SqT.of (c _ _ (ne_of_none eT hD1) eT)) (by show 3 < sizeLine; decide) ?_ ?_
          · rintro i x H acc hx ⟨zs, rfl, ch, hz⟩ hD hl Qn kQ
            obtain ⟨k, rfl, hk, zk⟩ := kk hx
            have nd : rdue ≠ D1 := ne_of_none (sT _ _ edue17) hD1
            have ed : H rdue = some (.tup [.int u, .int v]) := ch _ _ nd (sT _ _ edue17)
            refine ⟨rfl, ?_⟩
            have z7 : Sz 3 7 := by unfold Sz; decide
            refine ⟨_, rfl, rdue, _, _, _, rfl, rfl, SqT.of ed, rfl, _, _, rfl, rfl, wide_mul zu z7 (by decide) (by decide) (by decide), _, rfl, rdue, _, _, _, rfl, rfl, SqT.of ed, rfl, _, rfl, _, _, rfl, rfl, wide_mul zv zk (by decide) (by decide) (by decide), _, _, rfl, rfl, ?_⟩
            refine ⟨_, rfl, rdue, _, _, _, rfl, rfl, SqT.of ed, rfl, _, _, rfl, rfl, wide_mul zv z7 (by decide) (by decide) (by decide), ?_⟩
            intro xz dz nz nd ne
            have v7 : v * 7 ≠ 0 := by omega
            refine ⟨xz, dz, _, _, rfl, v7, (zv.mul z7).mono (by decide), upd_same, fun H1 h1 k1 => ⟨rfl, ?_⟩⟩
            have s1 : Same H H1 := Same.mk nz nd k1
            refine kQ _ _ (s1 _ _ hD) ⟨zs ++ [xz], by rw [List.map_append]; rfl, (ch.trans (Ch.of s1)).trans Ch.upd, fun j z k' hj hk' => ?_⟩
            rw [List.length_map] at hl
            by_cases hjl : j < zs.length
            · rw [List.getElem?_append_left hjl] at hj
              exact ((hz j z k' hj hk').same s1).upd (s1 _ _ hD)
            · have ej : j = zs.length := by
                have := (List.getElem?_eq_some_iff.mp hj).1
                rw [List.length_append] at this
                have : j < zs.length + 1 := this
                omega
              subst ej
              rw [List.getElem?_append_right (Nat.le_refl _), Nat.sub_self] at hj
              cases Option.some.inj hj
              rw [hl] at hk'
              cases Option.some.inj (hk'.symm.trans hk)
              exact NumV.upd ⟨_, _, h1, nf_low v7, (((zu.mul z7).mono (by decide : 60 + 3 ≤ 399)).add ((zv.mul zk).mono (by decide : 60 + 1 ≤ 399))).nT v7, ((zv.mul z7).mono (by decide)).nB v7⟩ (s1 _ _ hD)
          · rintro ys H19 ⟨zs, rfl, ch19, hz⟩ hD1' hl
            rw [List.length_map] at hl
            have hl3 : zs.length = 3 := hl
            have c19 : ∀ b o, b ≠ D1 → H12 b = some o → H19 b = some o := fun b o n e => ch19 _ _ n (sT _ _ (s12b _ _ e))
            have nD1 : ∀ {b : Addr} {o : HO}, H12 b = some o → b ≠ D1 := fun e => ne_of_none (sT _ _ (s12b _ _ e)) hD1
            have s19 : Same H12 H19 := fun b o e => c19 b o (nD1 e) e
            -- told
            refine ⟨_, rfl, D1, rfl, ⟨_, SqL.of hD1'⟩, fun D2 hD2 => ?_⟩
            refine lcL (K := K) (a := D1) (xs := zs.map V.ref) (fun i acc H' => ∃ rs : List Addr, acc = rs.map V.ref ∧ Ch D2 H19 H' ∧ ∀ (j : Nat) (r : Addr) (k : Int), rs[j]? = some r → [0, 1, -1][j]? = some k → ∃ f g, H' r = some (.tup [.ref f, .ref g]) ∧
                NumV C H' f 2000 (a0 * (b1 * (v * 7)) + b0 * (u * 7 + v * k) * a1) (a1 * (b1 * (v * 7))) ∧ NumV C H' g 2000 (c0 * (d1 * (v * 7)) + d0 * (u * 7 + v * k) * c1) (c1 * (d1 * (v * 7))))
              ⟨[], rfl, Ch.new hD2, fun j z k h => by simp at h⟩ (fun i acc H' ⟨_, _, c, _⟩ => SqL.of (c _ _ (ne_of_none hD1' hD2) hD1')) (by rw [List.length_map, hl3]; decide) ?_ ?_
            · rintro i x H acc hx ⟨rs, rfl, ch, hrs⟩ hD hll Qn kQ
              rw [List.getElem?_map] at hx
              obtain ⟨z, hzi, rfl⟩ : ∃ z, zs[i]? = some z ∧ x = V.ref z := by
                cases e : zs[i]? with
                | none => rw [e] at hx; cases hx
                | some z => rw [e] at hx; exact ⟨z, rfl, (Option.some.inj hx).symm⟩
              have hi3 : i < 3 := by rw [← hl3]; exact (List.getElem?_eq_some_iff.mp hzi).1
              obtain ⟨k, hk⟩ : ∃ k : Int, [0, 1, -1][i]? = some k := ⟨_, List.getElem?_eq_getElem hi3⟩
              have vz : NumV C H z 400 (u * 7 + v * k) (v * 7) := by
                obtain ⟨pp, qq, ⟨dz, ez⟩, r⟩ := hz i z k hzi hk
                exact ⟨pp, qq, ⟨dz, ch _ _ (ne_of_none ez hD2) ez⟩, r⟩
              have sH : Same H12 H := fun b o e => ch _ _ (ne_of_none (s19 _ _ e) hD2) (s19 _ _ e)
              have v7 : v * 7 ≠ 0 := by omega
              refine ⟨rfl, ?_⟩
              obtain ⟨_, fz, ez⟩ := vz.ins
              refine ⟨_, rfl, l1, rfl, _, rfl, ⟨q1, _, sH _ _ f1⟩, l1, x1, x2, z, a0, a1, b0, b1, u * 7 + v * k, v * 7, rfl, ⟨q1, sH _ _ f1⟩, (y1.same sH).mono (by decide), (y2.same sH).mono (by decide), vz, a1n, b1n, v7, fun f H1 nf hf s1 => ?_⟩
              refine ⟨_, rfl, l2, rfl, _, rfl, ⟨q2, _, s1 _ _ (sH _ _ f2)⟩, l2, x3, x4, z, c0, c1, d0, d1, u * 7 + v * k, v * 7, rfl, ⟨q2, s1 _ _ (sH _ _ f2)⟩, ((y3.same sH).same s1).mono (by decide), ((y4.same sH).same s1).mono (by decide), vz.same s1, c1n, d1n, v7, fun g H2 ng hg s2 => ?_⟩
              refine ⟨by show 2 ≤ sizeLine; decide, fun r hr => ?_⟩
              have s3 : Same H (upd H2 r (.tup [.ref f, .ref g])) := (s1.trans s2).trans (Same.new hr)
              refine kQ _ _ (s3 _ _ hD) ⟨rs ++ [r], by rw [List.map_append]; rfl, (ch.trans (Ch.of s3)).trans Ch.upd, fun j y k' hj hk' => ?_⟩
              rw [List.length_map] at hll
              have up : ∀ {b : Addr} {a c : Addr}, (upd H2 r (.tup [.ref f, .ref g])) b = some (.tup [.ref a, .ref c]) → (upd (upd H2 r (.tup [.ref f, .ref g])) D2 (.lst (rs.map V.ref ++ [V.ref r]))) b = some (.tup [.ref a, .ref c]) := fun {b a c} e =>
                (upd_ne (ne_of e (s3 _ _ hD) (by intro z; cases z))).trans e
              by_cases hjl : j < rs.length
              · rw [List.getElem?_append_left hjl] at hj
                obtain ⟨f', g', e, n1, n2⟩ := hrs j y k' hj hk'
                exact ⟨f', g', up (s3 _ _ e), (n1.same s3).upd (s3 _ _ hD), (n2.same s3).upd (s3 _ _ hD)⟩
              · have ej : j = rs.length := by
                  have := (List.getElem?_eq_some_iff.mp hj).1
                  rw [List.length_append] at this
                  have : j < rs.length + 1 := this
                  omega
                subst ej
                rw [List.getElem?_append_right (Nat.le_refl _), Nat.sub_self] at hj
                cases Option.some.inj hj
                rw [hll] at hk'
                cases Option.some.inj (hk'.symm.trans hk)
                exact ⟨f, g, up upd_same, (((hf.same s2).same (Same.new hr))).upd (s3 _ _ hD), (hg.same (Same.new hr)).upd (s3 _ _ hD)⟩
            · rintro ys H20 ⟨rs, rfl, ch20, hrs⟩ hD2' hll
              rw [List.length_map, List.length_map, hl3] at hll
              have s20 : Same H19 H20 := fun b o e => ch20 b o (ne_of_none e hD2) e
              have item : ∀ {i : Nat} {x : V}, (rs.map V.ref)[i]? = some x → ∃ (r f g : Addr) (k : Int), x = .ref r ∧ [0, 1, -1][i]? = some k ∧ H20 r = some (.tup [.ref f, .ref g]) ∧
                  NumV C H20 f 2000 (a0 * (b1 * (v * 7)) + b0 * (u * 7 + v * k) * a1) (a1 * (b1 * (v * 7))) ∧ NumV C H20 g 2000 (c0 * (d1 * (v * 7)) + d0 * (u * 7 + v * k) * c1) (c1 * (d1 * (v * 7))) := fun {i x} hx => by
                rw [List.getElem?_map] at hx
                cases e : rs[i]? with
                | none => rw [e] at hx; cases hx
                | some r =>
                  rw [e] at hx
                  have hi3 : i < 3 := by rw [← hll]; exact (List.getElem?_eq_some_iff.mp e).1
                  obtain ⟨k, hk⟩ : ∃ k : Int, [0, 1, -1][i]? = some k := ⟨_, List.getElem?_eq_getElem hi3⟩
                  obtain ⟨f, g, a⟩ := hrs i r k e hk
                  exact ⟨r, f, g, k, (Option.some.inj hx).symm, hk, a⟩
              -- for one, two in told
              refine ⟨_, rfl, D2, rfl, ⟨_, SqL.of hD2'⟩, for_list (K := K) (a := D2) (xs := rs.map V.ref) (fun i σ H' => ∃ x y1 y2, σ = [some (.ref p), some (.ref ra), some (.ref rb), some (.ref rc), some (.ref rd), some (.int wy), some (.ref l1), some (.ref l2), some (.ref rdue), some (.ref fo), x, some (.ref D1), some (.ref D2), y1, y2, none] ∧ H20 = H')
                ⟨_, _, _, rfl, rfl⟩ (fun i σ H' _ ⟨_, _, _, _, e⟩ => by rw [← e]; exact SqL.of hD2') ?_ ?_⟩
              · rintro i x σ H' hi ⟨_, _, _, rfl, rfl⟩
                obtain ⟨r, f, g, k, rfl, hk, er, nf, ng⟩ := item hi
                obtain ⟨_, _, ef⟩ := nf.ins
                obtain ⟨_, _, eg⟩ := ng.ins
                refine ⟨r, _, rfl, SqT.of er, rfl, _, _, rfl, _, _, rfl, rfl, ?_⟩
                refine ⟨_, rfl, _, _, _, _, true, rfl, .own C, NC.ty ef, NC.kk, true, rfl, iteF ?_⟩
                refine ⟨_, rfl, _, _, _, _, true, rfl, .own C, NC.ty eg, NC.kk, true, rfl, iteF ?_⟩
                exact ⟨_, _, _, rfl, rfl⟩
              · rintro σ H' ⟨_, _, _, rfl, rfl⟩
                -- the end
                refine ⟨_, rfl, D2, rfl, ⟨_, SqL.of hD2'⟩, fun D3 hD3 => ?_⟩
                refine lcL (K := K) (a := D2) (xs := rs.map V.ref) (fun i acc H' => acc = ([V.bl true, V.bl false, V.bl false] : List V).take i ∧ Ch D3 H20 H')
                  ⟨rfl, Ch.new hD3⟩ (fun i acc H' ⟨_, c⟩ => SqL.of (c _ _ (ne_of_none hD2' hD3) hD2')) (by rw [List.length_map, hll]; decide) ?_ ?_
                · rintro i x H acc hx ⟨ha, ch⟩ hD hl3' Qn kQ
                  obtain ⟨r, f, g, k, rfl, hk, er, nf, ng⟩ := item hx
                  have tr : ∀ {b : Addr} {o : HO}, H20 b = some o → H b = some o := fun {b o} e => ch b o (ne_of_none e hD3) e
                  have sH : Same H20 H := fun b o e => tr e
                  obtain ⟨_, _, ef⟩ := (nf.same sH).ins
                  obtain ⟨_, _, eg⟩ := (ng.same sH).ins
                  refine ⟨r, _, rfl, SqT.of (tr er), rfl, _, _, rfl, _, _, rfl, rfl, rfl, ?_⟩
                  have v7 : v * 7 ≠ 0 := by omega
                  have nz : ∀ {a b : Int}, a ≠ 0 → b ≠ 0 → a * (b * (v * 7)) ≠ 0 := fun ha hb => Int.mul_ne_zero ha (Int.mul_ne_zero hb v7)
                  refine ⟨_, rfl, _, rfl, f, _, _, _, rfl, ef, .ins eg, NC.nf, eqV (nf.same sH) (ng.same sH) (nz a1n b1n) (nz c1n d1n) ?_⟩
                  rw [hkey k]
                  refine kQ _ _ hD ⟨?_, ch.trans Ch.upd⟩
                  rw [ha]
                  match i, hk with
                  | 0, h => cases Option.some.inj h; rfl
                  | 1, h => cases Option.some.inj h; rfl
                  | 2, h => cases Option.some.inj h; rfl
                  | n + 3, h => simp at h
                · rintro ys H21 ⟨hys, ch⟩ hD3' hl3'
                  rw [List.length_map, hll] at hys
                  subst hys
                  refine ⟨by show 3 ≤ sizeLine; decide, fun w hw => ?_⟩
                  have da : ∀ {H : Hp}, DpAll K H [.bl true, .bl false, .bl false] [.bool true, .bool false, .bool false] := .cons (.bl _) (.cons (.bl _) (.cons (.bl _) .nil))
                  refine ⟨.list [.bool true, .bool false, .bool false], .list [.bool true, .bool false, .bool false], .lst (SqL.of ((Same.new hw) _ _ hD3')) da, .lst (SqL.of upd_same) da, rfl, rfl, ?_⟩
                  have sE : Same H5 (upd H21 w (.lst [.bl true, .bl false, .bl false])) := fun b o e =>
                    (Same.new hw) _ _ (ch _ _ (ne_of_none (s20 _ _ (s19 _ _ (s12 _ _ (s5b _ _ e)))) hD3) (s20 _ _ (s19 _ _ (s12 _ _ (s5b _ _ e)))))
                  exact q _ (hp5.same sE) (c5.trans (Ch.of sE))
    obtain ⟨t, ht, hq⟩ := tail
    refine ⟨_, (pss_cons (ps_par (i := 1) (j := 2) (by rfl) sc.nd rfl rfl (by decide) rfl rfl (pa_cons (pe_f cD hr (by decide) rfl (pa_cons (pv 0) pa_nil)) (pa_cons (pe_f cD hr (by decide) rfl (pa_cons (pv 0) pa_nil)) pa_nil)) (by rfl)) (pss_cons (ps_par (i := 3) (j := 4) (by rfl) sc.nd rfl rfl (by decide) rfl rfl (pa_cons (pe_f cD hr (by decide) rfl (pa_cons (pv 0) pa_nil)) (pa_cons (pe_f cD hr (by decide) rfl (pa_cons (pv 0) pa_nil)) pa_nil)) (by rfl)) (pss_cons (ps_set (i := 5) sc.nd rfl (Or.inl rfl) (pe_f cT hr (by decide) rfl (pa_cons (pv 0) (pa_cons pe_int pa_nil)))) (pss_cons (ps_if (pt_cmpR op_eq (pv 5) pe_int (nomark _)) (pss_one (ps_set (i := 4) sc.nd rfl (Or.inl rfl) (pv 2))) (pss_one (ps_if (pt_cmpR op_eq (pv 5) pe_int (nomark _)) (pss_one (ps_par (i := 3) (j := 4) (by rfl) sc.nd rfl rfl (by decide) rfl rfl (pa_cons (pv 1) (pa_cons (pv 2) pa_nil)) (by rfl))) pss_nil))) ht)))), ?_⟩
    have pn : ∀ {r : Addr} {H' : Hp} {n : Int}, PotAt H' p n → H' r = none → r ≠ p := fun ⟨_, _, _, e, _⟩ n z => by rw [z, e] at n; cases n
    refine ⟨_, rfl, p, m, rfl, hp, by omega, fun ra H1 a0 a1 na ea pa hp1 c1 => ?_⟩
    refine ⟨_, rfl, p, m + 4, rfl, hp1, by omega, fun rb H2 b0 b1 nb eb pb hp2 c2 => ?_⟩
    refine ⟨_, _, rfl, ?_⟩
    refine ⟨_, rfl, p, m + 4 + 4, rfl, hp2, by omega, fun rc H3 c0 c1' nc ec pc hp3 c3 => ?_⟩
    refine ⟨_, rfl, p, m + 4 + 4 + 4, rfl, hp3, by omega, fun rd H4 d0 d1 nd ed pd hp4 c4 => ?_⟩
    refine ⟨_, _, rfl, ?_⟩
    refine ⟨_, rfl, p, 4, m + 4 + 4 + 4 + 4, rfl, hp4, by omega, by decide, by decide, fun wy H5 w0 w1 hp5 c5 => ?_⟩
    have na' : ra ≠ p := pn hp na
    have nb' : rb ≠ p := pn hp1 nb
    have nc' : rc ≠ p := pn hp2 nc
    have nd' : rd ≠ p := pn hp3 nd
    have ea5 := c5 _ _ na' (c4 _ _ na' (c3 _ _ na' (c2 _ _ na' ea)))
    have eb5 := c5 _ _ nb' (c4 _ _ nb' (c3 _ _ nb' eb))
    have ec5 := c5 _ _ nc' (c4 _ _ nc' ec)
    have ed5 := c5 _ _ nd' ed
    have hp17 : PotAt H5 p (m + 17) := hp5.mono (by omega)
    have cc : Ch p H H5 := (((c1.trans c2).trans c3).trans c4).trans c5
    refine ⟨_, rfl, rfl, _, rfl, if2 (fun _ => ?_) (fun _ => ?_)⟩
    · exact ⟨_, rfl, hq ra rb rc rb wy H5 _ _ _ _ _ _ _ _ ea5 eb5 ec5 eb5 pa pb pc pb hp17 cc⟩
    · refine ⟨_, rfl, rfl, _, rfl, if2 (fun _ => ?_) (fun _ => ?_)⟩
      · exact ⟨_, rfl, _, rfl, _, _, rfl, hq ra rb ra rb wy H5 _ _ _ _ _ _ _ _ ea5 eb5 ea5 eb5 pa pb pa pb hp17 cc⟩
      · exact hq ra rb rc rd wy H5 _ _ _ _ _ _ _ _ ea5 eb5 ec5 ed5 pa pb pc pd hp17 cc
end
end Ws

namespace Ws
open PySem PySem.Spec PyProof.Rows L2
section
variable {P : Program} {w : World} {K : PySem.W.Frag} {mg : Str → Option Value} {base : Heap} {f : Addr} {fd : FuncData}
theorem ok_law (F : L2.Fun K "law" "law" sLaw f fd) (B : Bi mg) (cP : CalF P w K mg base 1 "_law_pot" (spPot K)) (cR : CalF P w K mg base 6 "_law_is_right" spRight) : FnOk P w K mg base CX0 7 f fd PLaw (spLaw K) := by
  refine F.ok scLaw (fun vs H Q E h => ?_) (fun cdv A outer s H vs Q E hr h => ?_)
  · obtain ⟨a, ns, rfl, _⟩ := h
    rfl
  · have sc := scLaw
    obtain ⟨a, ns, rfl, hS, hlen, q⟩ := h
    refine ⟨_, (pss_cons (ps_for PassesOwn.never rfl (pi_range1 (by rfl) B.range (pa_cons (pe_callB (call_max2 rfl) (by rfl) B.max (by decide +kernel) (pa_cons pe_int (pa_cons (pe_callB (call_min2 rfl) (by rfl) B.min (by decide +kernel) (pa_cons pe_int (pa_cons (pe_callB call_len_seq (by rfl) B.len PySem.boot_len (pa_cons (pv 0) pa_nil)) pa_nil))) pa_nil))) pa_nil)) (pg_name (i := 1) sc.nd rfl (Or.inl rfl)) (pss_cons (ps_set (i := 2) sc.nd rfl (Or.inr rfl) (pe_f cP hr (by decide) rfl (pa_cons (pv 0) (pa_cons (pv 1) pa_nil)))) (pss_one (ps_if (pt_not (pt_val (pe_callB (cr_all rfl) (by rfl) B.all (by decide +kernel) (pa_cons (pe_lc (own := [("turn", 3)]) rfl sc.nd (pi_range1 (by rfl) B.range (pa_cons pe_int pa_nil)) (blkOk_by (N := NLaw) (sc := defScope sLaw) (by decide +kernel)) (fun _ _ _ _ _ => by exact (pg_name (i := 3) sc.nd rfl (Or.inl rfl))) (fun _ _ _ _ _ => by exact pts_nil) (fun _ _ _ _ _ => by exact (pe_f cR hr (by decide) rfl (pa_cons (pv 2) pa_nil)))) pa_nil)))) (pss_one (ps_ret pe_bl)) pss_nil)))) (pss_one (ps_ret pe_bl))), ?_⟩
    refine ⟨_, rfl, a, _, rfl, .inl hS, _, _, rfl, _, _, rfl, ?_⟩
    generalize hn : (if (if ((ns.map V.int).length : Int) < 3 then ((ns.map V.int).length : Int) else 3) > 1 then (if ((ns.map V.int).length : Int) < 3 then ((ns.map V.int).length : Int) else 3) else 1) = n
    have hn3 : n ≤ 3 ∧ 0 ≤ n := by
      rw [← hn]
      split <;> split <;> omega
    refine ⟨n, rfl, by omega, by omega, for_range (n := n.toNat) (fun i σ H' => ∃ x y, σ = [some (.ref a), x, y, none] ∧ SqL K H' a (ns.map V.int)) ⟨_, _, rfl, hS⟩ ?_ ?_⟩
    · rintro i σ H0 hi ⟨_, _, rfl, hS0⟩
      rw [Int.zero_add]
      refine ⟨_, rfl, _, rfl, a, ns, i, rfl, hS0, by omega, fun p H1 np hp s1 => ?_⟩
      refine ⟨8, rfl, by decide, by decide, fun D hD => ?_⟩
      have npD : p ≠ D := by obtain ⟨_, _, _, e, _⟩ := hp; exact ne_of_none e hD
      refine lcR (lo := 0) (n := 8) (fun j acc H' => acc = List.replicate j (V.bl true) ∧ PotAt H' p (17 * j) ∧ Same H0 H') ⟨rfl, ?_, s1.trans (Same.new hD)⟩ (by decide) ?_ ?_
      · exact hp.same (Same.new hD)
      · rintro j H acc hj ⟨ha, hpj, sj⟩ hDj hl Qn kQ
        refine ⟨rfl, _, rfl, p, 17 * (j : Int), rfl, hpj, by omega, fun H' hp' ch => ?_⟩
        have nD0 : ∀ {b : Addr} {o : HO}, H0 b = some o → b ≠ D := fun e => ne_of_none (s1 _ _ e) hD
        refine kQ _ _ (ch _ _ npD.symm hDj) ⟨?_, ?_, fun b o e => ?_⟩
        · rw [ha, List.replicate_succ']
        · obtain ⟨x, y, z, e, r1, r2, r3, r4, r5⟩ := hp'
          exact ⟨x, y, z, (upd_ne npD).trans e, r1, r2, r3, r4, by omega⟩
        · exact (upd_ne (nD0 e)).trans (ch _ _ (ne_of_none e np) (sj _ _ e))
      · rintro ys H2 ⟨hy, hp2, s2⟩ hD2 hl
        subst hy
        refine ⟨D, List.replicate 8 true, rfl, SqL.of hD2, true, rfl, ifF rfl ?_⟩
        exact ⟨_, _, rfl, L2.Same.seq s2 hS0⟩
    · rintro σ H' ⟨_, _, rfl, _⟩
      exact q H'
end
theorem all_mk {l : PySem.W.OpenLaw} {w : World} {K : PySem.W.Frag} {h : Heap} {mg : Str → Option Value} {fa : Addr} (X : K.In h) (G : h.Ns mainGlobals mg) (hfa : mg "law" = some (.ref fa)) {C : Addr} {D : Addr} {fWhole : Addr} {odWhole anWhole : Option Addr} {slWhole : Array (Option Value)} {ocWhole kVWhole dcWhole pmWhole cdWhole ctWhole : Value} {fNum : Addr} {odNum anNum : Option Addr} {slNum : Array (Option Value)} {ocNum kVNum dcNum pmNum cdNum ctNum : Value} {TNum : Addr} {oTNum : Obj} {nT : Nat} {tkT : Tok} {pNTop fNTop : Addr} {rNTop : List Value} {odNTop anNTop : Option Addr} {slNTop : Array (Option Value)} {ocNTop kVNTop dcNTop pmNTop cdNTop ctNTop : Value} {pNBot fNBot : Addr} {rNBot : List Value} {odNBot anNBot : Option Addr} {slNBot : Array (Option Value)} {ocNBot kVNBot dcNBot pmNBot cdNBot ctNBot : Value} {fNEq : Addr} {odNEq anNEq : Option Addr} {slNEq : Array (Option Value)} {ocNEq kVNEq dcNEq pmNEq cdNEq ctNEq : Value} {fNBool : Addr} {odNBool anNBool : Option Addr} {slNBool : Array (Option Value)} {ocNBool kVNBool dcNBool pmNBool cdNBool ctNBool : Value} {fNAdd : Addr} {odNAdd anNAdd : Option Addr} {slNAdd : Array (Option Value)} {ocNAdd kVNAdd dcNAdd pmNAdd cdNAdd ctNAdd : Value} {fNSub : Addr} {odNSub anNSub : Option Addr} {slNSub : Array (Option Value)} {ocNSub kVNSub dcNSub pmNSub cdNSub ctNSub : Value} {fNMul : Addr} {odNMul anNMul : Option Addr} {slNMul : Array (Option Value)} {ocNMul kVNMul dcNMul pmNMul cdNMul ctNMul : Value} {fNDiv : Addr} {odNDiv anNDiv : Option Addr} {slNDiv : Array (Option Value)} {ocNDiv kVNDiv dcNDiv pmNDiv cdNDiv ctNDiv : Value} {fLine : Addr} {odLine anLine : Option Addr} {slLine : Array (Option Value)} {ocLine kVLine dcLine pmLine cdLine ctLine : Value} {fLCall : Addr} {odLCall anLCall : Option Addr} {slLCall : Array (Option Value)} {ocLCall kVLCall dcLCall pmLCall cdLCall ctLCall : Value} {fLMeets : Addr} {odLMeets anLMeets : Option Addr} {slLMeets : Array (Option Value)} {ocLMeets kVLMeets dcLMeets pmLMeets cdLMeets ctLMeets : Value} {fPot : Addr} {odPot anPot : Option Addr} {slPot : Array (Option Value)} {ocPot kVPot dcPot pmPot cdPot ctPot : Value} {fTake : Addr} {odTake anTake : Option Addr} {slTake : Array (Option Value)} {ocTake kVTake dcTake pmTake cdTake ctTake : Value} {fOf : Addr} {odOf anOf : Option Addr} {slOf : Array (Option Value)} {ocOf kVOf dcOf pmOf cdOf ctOf : Value} {fLeast : Addr} {odLeast anLeast : Option Addr} {slLeast : Array (Option Value)} {ocLeast kVLeast dcLeast pmLeast cdLeast ctLeast : Value} {fDrawn : Addr} {odDrawn anDrawn : Option Addr} {slDrawn : Array (Option Value)} {ocDrawn kVDrawn dcDrawn pmDrawn cdDrawn ctDrawn : Value} {fLNum : Addr} {odLNum anLNum : Option Addr} {slLNum : Array (Option Value)} {ocLNum kVLNum dcLNum pmLNum cdLNum ctLNum : Value} {fDue : Addr} {odDue anDue : Option Addr} {slDue : Array (Option Value)} {ocDue kVDue dcDue pmDue cdDue ctDue : Value} {fRight : Addr} {odRight anRight : Option Addr} {slRight : Array (Option Value)} {ocRight kVRight dcRight pmRight cdRight ctRight : Value} {fLaw : Addr} {odLaw anLaw : Option Addr} {slLaw : Array (Option Value)} {ocLaw kVLaw dcLaw pmLaw cdLaw ctLaw : Value} (g_C : PySem.W.nsIn K mainGlobals "Number" = some (some (.ref C))) (pg_C : PySem.W.plainGet K C Str.empty = true) (hd_C : PySem.W.hasDictIn K C = true) (po_C : PySem.W.plainOver K C = true) (sa_C : PySem.W.findIn K (.ref C) "__setattr__" = some (some (.builtin "object.__setattr__"))) (mk_C : PySem.W.makesIn K C = true) (kc_C : PySem.W.keepIn K (.ref C) = true) (n_top_C : PySem.W.findIn K (.ref C) "_top" = some none) (n_bottom_C : PySem.W.findIn K (.ref C) "_bottom" = some none) (ha_C : PySem.W.findIn K (.ref C) "__class__" = some (some (.builtin "object.__class__"))) (hn_C : PySem.W.specialIn K (.builtin "object.__class__") "__get__" = some (some (.builtin "getset_descriptor.__get__"))) (htk_C : PySem.W.takesIn K (.builtin "object.__class__") = some true) (hm_C : PySem.W.mroIn K C (.type "object") = some true) (sf_C : PySem.W.selfFirst K C = true) (nf_C : PySem.W.notFirst K C (.ref C) = true) (g_D : PySem.W.nsIn K mainGlobals "Line" = some (some (.ref D))) (pg_D : PySem.W.plainGet K D Str.empty = true) (hd_D : PySem.W.hasDictIn K D = true) (po_D : PySem.W.plainOver K D = true) (sa_D : PySem.W.findIn K (.ref D) "__setattr__" = some (some (.builtin "object.__setattr__"))) (mk_D : PySem.W.makesIn K D = true) (kc_D : PySem.W.keepIn K (.ref D) = true) (n_base_D : PySem.W.findIn K (.ref D) "_base" = some none) (n_slope_D : PySem.W.findIn K (.ref D) "_slope" = some none) (gcd : PySem.W.nsIn K mainGlobals "gcd" = some (some (.builtin "math.gcd"))) (g_fWhole : PySem.W.nsIn K mainGlobals "is_whole" = some (some (.ref fWhole))) (l_Whole : K.lookup fWhole = some ⟨ocWhole, odWhole, .func (PySem.W.fnOf "is_whole" "is_whole" (defArgs sWhole) (defBody sWhole) (defScope sWhole) .none kVWhole dcWhole pmWhole anWhole cdWhole ctWhole), slWhole⟩) (c_Whole : PySem.W.codeIn K cdWhole "is_whole" = true) (k_Whole : PySem.W.keepIn K (.ref fWhole) = true) (a_Num : PySem.W.findIn K (.ref C) "__init__" = some (some (.ref fNum))) (i_Num : PySem.W.isFn K (.ref fNum) = true) (l_Num : K.lookup fNum = some ⟨ocNum, odNum, .func (PySem.W.fnOf "__init__" "Number.__init__" (defArgs sNum) (defBody sNum) (defScope sNum) (.ref TNum) kVNum dcNum pmNum anNum cdNum ctNum), slNum⟩) (c_Num : PySem.W.codeIn K cdNum "Number.__init__" = true) (k_Num : PySem.W.keepIn K (.ref fNum) = true) (lT : K.lookup TNum = some oTNum) (dT : oTNum.data = .seq #[.int 1 tkT] nT) (a_NTop : PySem.W.findIn K (.ref C) "top" = some (some (.ref pNTop))) (g_NTop : PySem.W.specialIn K (.ref pNTop) "__get__" = some (some (.builtin "property.__get__"))) (t_NTop : PySem.W.takesIn K (.ref pNTop) = some true) (r_NTop : PySem.W.recIn K pNTop "property" = some (.ref fNTop :: rNTop)) (l_NTop : K.lookup fNTop = some ⟨ocNTop, odNTop, .func (PySem.W.fnOf "top" "Number.top" (defArgs sNTop) (defBody sNTop) (defScope sNTop) .none kVNTop dcNTop pmNTop anNTop cdNTop ctNTop), slNTop⟩) (c_NTop : PySem.W.codeIn K cdNTop "Number.top" = true) (k_NTop : PySem.W.keepIn K (.ref fNTop) = true) (a_NBot : PySem.W.findIn K (.ref C) "bottom" = some (some (.ref pNBot))) (g_NBot : PySem.W.specialIn K (.ref pNBot) "__get__" = some (some (.builtin "property.__get__"))) (t_NBot : PySem.W.takesIn K (.ref pNBot) = some true) (r_NBot : PySem.W.recIn K pNBot "property" = some (.ref fNBot :: rNBot)) (l_NBot : K.lookup fNBot = some ⟨ocNBot, odNBot, .func (PySem.W.fnOf "bottom" "Number.bottom" (defArgs sNBot) (defBody sNBot) (defScope sNBot) .none kVNBot dcNBot pmNBot anNBot cdNBot ctNBot), slNBot⟩) (c_NBot : PySem.W.codeIn K cdNBot "Number.bottom" = true) (k_NBot : PySem.W.keepIn K (.ref fNBot) = true) (a_NEq : PySem.W.findIn K (.ref C) "__eq__" = some (some (.ref fNEq))) (i_NEq : PySem.W.isFn K (.ref fNEq) = true) (l_NEq : K.lookup fNEq = some ⟨ocNEq, odNEq, .func (PySem.W.fnOf "__eq__" "Number.__eq__" (defArgs sNEq) (defBody sNEq) (defScope sNEq) .none kVNEq dcNEq pmNEq anNEq cdNEq ctNEq), slNEq⟩) (c_NEq : PySem.W.codeIn K cdNEq "Number.__eq__" = true) (k_NEq : PySem.W.keepIn K (.ref fNEq) = true) (a_NBool : PySem.W.findIn K (.ref C) "__bool__" = some (some (.ref fNBool))) (i_NBool : PySem.W.isFn K (.ref fNBool) = true) (l_NBool : K.lookup fNBool = some ⟨ocNBool, odNBool, .func (PySem.W.fnOf "__bool__" "Number.__bool__" (defArgs sNBool) (defBody sNBool) (defScope sNBool) .none kVNBool dcNBool pmNBool anNBool cdNBool ctNBool), slNBool⟩) (c_NBool : PySem.W.codeIn K cdNBool "Number.__bool__" = true) (k_NBool : PySem.W.keepIn K (.ref fNBool) = true) (a_NAdd : PySem.W.findIn K (.ref C) "__add__" = some (some (.ref fNAdd))) (i_NAdd : PySem.W.isFn K (.ref fNAdd) = true) (l_NAdd : K.lookup fNAdd = some ⟨ocNAdd, odNAdd, .func (PySem.W.fnOf "__add__" "Number.__add__" (defArgs sNAdd) (defBody sNAdd) (defScope sNAdd) .none kVNAdd dcNAdd pmNAdd anNAdd cdNAdd ctNAdd), slNAdd⟩) (c_NAdd : PySem.W.codeIn K cdNAdd "Number.__add__" = true) (k_NAdd : PySem.W.keepIn K (.ref fNAdd) = true) (a_NSub : PySem.W.findIn K (.ref C) "__sub__" = some (some (.ref fNSub))) (i_NSub : PySem.W.isFn K (.ref fNSub) = true) (l_NSub : K.lookup fNSub = some ⟨ocNSub, odNSub, .func (PySem.W.fnOf "__sub__" "Number.__sub__" (defArgs sNSub) (defBody sNSub) (defScope sNSub) .none kVNSub dcNSub pmNSub anNSub cdNSub ctNSub), slNSub⟩) (c_NSub : PySem.W.codeIn K cdNSub "Number.__sub__" = true) (k_NSub : PySem.W.keepIn K (.ref fNSub) = true) (a_NMul : PySem.W.findIn K (.ref C) "__mul__" = some (some (.ref fNMul))) (i_NMul : PySem.W.isFn K (.ref fNMul) = true) (l_NMul : K.lookup fNMul = some ⟨ocNMul, odNMul, .func (PySem.W.fnOf "__mul__" "Number.__mul__" (defArgs sNMul) (defBody sNMul) (defScope sNMul) .none kVNMul dcNMul pmNMul anNMul cdNMul ctNMul), slNMul⟩) (c_NMul : PySem.W.codeIn K cdNMul "Number.__mul__" = true) (k_NMul : PySem.W.keepIn K (.ref fNMul) = true) (a_NDiv : PySem.W.findIn K (.ref C) "divided_by" = some (some (.ref fNDiv))) (i_NDiv : PySem.W.isFn K (.ref fNDiv) = true) (l_NDiv : K.lookup fNDiv = some ⟨ocNDiv, odNDiv, .func (PySem.W.fnOf "divided_by" "Number.divided_by" (defArgs sNDiv) (defBody sNDiv) (defScope sNDiv) .none kVNDiv dcNDiv pmNDiv anNDiv cdNDiv ctNDiv), slNDiv⟩) (c_NDiv : PySem.W.codeIn K cdNDiv "Number.divided_by" = true) (k_NDiv : PySem.W.keepIn K (.ref fNDiv) = true) (a_Line : PySem.W.findIn K (.ref D) "__init__" = some (some (.ref fLine))) (i_Line : PySem.W.isFn K (.ref fLine) = true) (l_Line : K.lookup fLine = some ⟨ocLine, odLine, .func (PySem.W.fnOf "__init__" "Line.__init__" (defArgs sLine) (defBody sLine) (defScope sLine) .none kVLine dcLine pmLine anLine cdLine ctLine), slLine⟩) (c_Line : PySem.W.codeIn K cdLine "Line.__init__" = true) (k_Line : PySem.W.keepIn K (.ref fLine) = true) (a_LCall : PySem.W.findIn K (.ref D) "__call__" = some (some (.ref fLCall))) (i_LCall : PySem.W.isFn K (.ref fLCall) = true) (l_LCall : K.lookup fLCall = some ⟨ocLCall, odLCall, .func (PySem.W.fnOf "__call__" "Line.__call__" (defArgs sLCall) (defBody sLCall) (defScope sLCall) .none kVLCall dcLCall pmLCall anLCall cdLCall ctLCall), slLCall⟩) (c_LCall : PySem.W.codeIn K cdLCall "Line.__call__" = true) (k_LCall : PySem.W.keepIn K (.ref fLCall) = true) (fi_LCall : PySem.W.fnIn K fLCall = true) (a_LMeets : PySem.W.findIn K (.ref D) "meets" = some (some (.ref fLMeets))) (i_LMeets : PySem.W.isFn K (.ref fLMeets) = true) (l_LMeets : K.lookup fLMeets = some ⟨ocLMeets, odLMeets, .func (PySem.W.fnOf "meets" "Line.meets" (defArgs sLMeets) (defBody sLMeets) (defScope sLMeets) .none kVLMeets dcLMeets pmLMeets anLMeets cdLMeets ctLMeets), slLMeets⟩) (c_LMeets : PySem.W.codeIn K cdLMeets "Line.meets" = true) (k_LMeets : PySem.W.keepIn K (.ref fLMeets) = true) (g_fPot : PySem.W.nsIn K mainGlobals "_law_pot" = some (some (.ref fPot))) (l_Pot : K.lookup fPot = some ⟨ocPot, odPot, .func (PySem.W.fnOf "_law_pot" "_law_pot" (defArgs sPot) (defBody sPot) (defScope sPot) .none kVPot dcPot pmPot anPot cdPot ctPot), slPot⟩) (c_Pot : PySem.W.codeIn K cdPot "_law_pot" = true) (k_Pot : PySem.W.keepIn K (.ref fPot) = true) (g_fTake : PySem.W.nsIn K mainGlobals "_law_take" = some (some (.ref fTake))) (l_Take : K.lookup fTake = some ⟨ocTake, odTake, .func (PySem.W.fnOf "_law_take" "_law_take" (defArgs sTake) (defBody sTake) (defScope sTake) .none kVTake dcTake pmTake anTake cdTake ctTake), slTake⟩) (c_Take : PySem.W.codeIn K cdTake "_law_take" = true) (k_Take : PySem.W.keepIn K (.ref fTake) = true) (g_fOf : PySem.W.nsIn K mainGlobals "_law_of" = some (some (.ref fOf))) (l_Of : K.lookup fOf = some ⟨ocOf, odOf, .func (PySem.W.fnOf "_law_of" "_law_of" (defArgs sOf) (defBody sOf) (defScope sOf) .none kVOf dcOf pmOf anOf cdOf ctOf), slOf⟩) (c_Of : PySem.W.codeIn K cdOf "_law_of" = true) (k_Of : PySem.W.keepIn K (.ref fOf) = true) (g_fLeast : PySem.W.nsIn K mainGlobals "_law_least" = some (some (.ref fLeast))) (l_Least : K.lookup fLeast = some ⟨ocLeast, odLeast, .func (PySem.W.fnOf "_law_least" "_law_least" (defArgs sLeast) (defBody sLeast) (defScope sLeast) .none kVLeast dcLeast pmLeast anLeast cdLeast ctLeast), slLeast⟩) (c_Least : PySem.W.codeIn K cdLeast "_law_least" = true) (k_Least : PySem.W.keepIn K (.ref fLeast) = true) (g_fDrawn : PySem.W.nsIn K mainGlobals "_law_drawn" = some (some (.ref fDrawn))) (l_Drawn : K.lookup fDrawn = some ⟨ocDrawn, odDrawn, .func (PySem.W.fnOf "_law_drawn" "_law_drawn" (defArgs sDrawn) (defBody sDrawn) (defScope sDrawn) .none kVDrawn dcDrawn pmDrawn anDrawn cdDrawn ctDrawn), slDrawn⟩) (c_Drawn : PySem.W.codeIn K cdDrawn "_law_drawn" = true) (k_Drawn : PySem.W.keepIn K (.ref fDrawn) = true) (g_fLNum : PySem.W.nsIn K mainGlobals "_law_number" = some (some (.ref fLNum))) (l_LNum : K.lookup fLNum = some ⟨ocLNum, odLNum, .func (PySem.W.fnOf "_law_number" "_law_number" (defArgs sLNum) (defBody sLNum) (defScope sLNum) .none kVLNum dcLNum pmLNum anLNum cdLNum ctLNum), slLNum⟩) (c_LNum : PySem.W.codeIn K cdLNum "_law_number" = true) (k_LNum : PySem.W.keepIn K (.ref fLNum) = true) (g_fDue : PySem.W.nsIn K mainGlobals "_law_due" = some (some (.ref fDue))) (l_Due : K.lookup fDue = some ⟨ocDue, odDue, .func (PySem.W.fnOf "_law_due" "_law_due" (defArgs sDue) (defBody sDue) (defScope sDue) .none kVDue dcDue pmDue anDue cdDue ctDue), slDue⟩) (c_Due : PySem.W.codeIn K cdDue "_law_due" = true) (k_Due : PySem.W.keepIn K (.ref fDue) = true) (g_fRight : PySem.W.nsIn K mainGlobals "_law_is_right" = some (some (.ref fRight))) (l_Right : K.lookup fRight = some ⟨ocRight, odRight, .func (PySem.W.fnOf "_law_is_right" "_law_is_right" (defArgs sRight) (defBody sRight) (defScope sRight) .none kVRight dcRight pmRight anRight cdRight ctRight), slRight⟩) (c_Right : PySem.W.codeIn K cdRight "_law_is_right" = true) (k_Right : PySem.W.keepIn K (.ref fRight) = true) (g_fLaw : PySem.W.nsIn K mainGlobals "law" = some (some (.ref fLaw))) (l_Law : K.lookup fLaw = some ⟨ocLaw, odLaw, .func (PySem.W.fnOf "law" "law" (defArgs sLaw) (defBody sLaw) (defScope sLaw) .none kVLaw dcLaw pmLaw anLaw cdLaw ctLaw), slLaw⟩) (c_Law : PySem.W.codeIn K cdLaw "law" = true) (k_Law : PySem.W.keepIn K (.ref fLaw) = true) (z_len : PySem.W.nsIn K mainGlobals "len" = some none) (z_abs : PySem.W.nsIn K mainGlobals "abs" = some none) (z_int : PySem.W.nsIn K mainGlobals "int" = some none) (z_bool : PySem.W.nsIn K mainGlobals "bool" = some none) (z_max : PySem.W.nsIn K mainGlobals "max" = some none) (z_min : PySem.W.nsIn K mainGlobals "min" = some none) (z_range : PySem.W.nsIn K mainGlobals "range" = some none) (z_all : PySem.W.nsIn K mainGlobals "all" = some none) (z_any : PySem.W.nsIn K mainGlobals "any" = some none) (z_isinstance : PySem.W.nsIn K mainGlobals "isinstance" = some none) :
    ∃ fd : FuncData, (∀ (s : Shared) (v : Value), BindsTo s fd ⟨[v], []⟩ [("script", v)]) ∧ ∀ base : Heap, K.In base → base.Ns mainGlobals mg → FnOk l.prog w K mg base CX0 7 fa fd ["script"] (spLaw K) := by
  have e := hfa.symm.trans (PySem.W.mg_of X G g_fLaw)
  cases e
  have mgo : ∀ {x : Str} {v : Value}, PySem.W.nsIn K mainGlobals x = some (some v) → mg x = some v := fun e => PySem.W.mg_of X G e
  have B : Bi mg := ⟨PySem.W.mg_none_of X G z_len, PySem.W.mg_none_of X G z_abs, PySem.W.mg_none_of X G z_int, PySem.W.mg_none_of X G z_bool, PySem.W.mg_none_of X G z_max, PySem.W.mg_none_of X G z_min, PySem.W.mg_none_of X G z_range, PySem.W.mg_none_of X G z_all, PySem.W.mg_none_of X G z_any, PySem.W.mg_none_of X G z_isinstance⟩
  have clC : Cls K C := ⟨pg_C, hd_C, po_C, sa_C⟩
  have clD : Cls K D := ⟨pg_D, hd_D, po_D, sa_D⟩
  have NC : NumC K C := ⟨clC, n_top_C, n_bottom_C, ha_C, hn_C, htk_C, hm_C, kit_self _, sf_C, nf_C⟩
  have LC : LineC K D := ⟨clD, n_base_D, n_slope_D⟩
  have FWhole := L2.fun_mk (st := sWhole) l_Whole c_Whole k_Whole
  have FNTop := L2.fun_mk (st := sNTop) l_NTop c_NTop k_NTop
  have FNBot := L2.fun_mk (st := sNBot) l_NBot c_NBot k_NBot
  have FNEq := L2.fun_mk (st := sNEq) l_NEq c_NEq k_NEq
  have FNBool := L2.fun_mk (st := sNBool) l_NBool c_NBool k_NBool
  have FNAdd := L2.fun_mk (st := sNAdd) l_NAdd c_NAdd k_NAdd
  have FNSub := L2.fun_mk (st := sNSub) l_NSub c_NSub k_NSub
  have FNMul := L2.fun_mk (st := sNMul) l_NMul c_NMul k_NMul
  have FNDiv := L2.fun_mk (st := sNDiv) l_NDiv c_NDiv k_NDiv
  have FLine := L2.fun_mk (st := sLine) l_Line c_Line k_Line
  have FLCall := L2.fun_mk (st := sLCall) l_LCall c_LCall k_LCall
  have FLMeets := L2.fun_mk (st := sLMeets) l_LMeets c_LMeets k_LMeets
  have FPot := L2.fun_mk (st := sPot) l_Pot c_Pot k_Pot
  have FTake := L2.fun_mk (st := sTake) l_Take c_Take k_Take
  have FOf := L2.fun_mk (st := sOf) l_Of c_Of k_Of
  have FLeast := L2.fun_mk (st := sLeast) l_Least c_Least k_Least
  have FDrawn := L2.fun_mk (st := sDrawn) l_Drawn c_Drawn k_Drawn
  have FLNum := L2.fun_mk (st := sLNum) l_LNum c_LNum k_LNum
  have FDue := L2.fun_mk (st := sDue) l_Due c_Due k_Due
  have FRight := L2.fun_mk (st := sRight) l_Right c_Right k_Right
  have FLaw := L2.fun_mk (st := sLaw) l_Law c_Law k_Law
  have bWhole := FWhole.binds (ps := PWhole) fun _ _ _ _ _ _ us hl => match us, hl with | [_], _ => rfl
  have bNTop := FNTop.binds (ps := PNTop) fun _ _ _ _ _ _ us hl => match us, hl with | [_], _ => rfl
  have bNBot := FNBot.binds (ps := PNBot) fun _ _ _ _ _ _ us hl => match us, hl with | [_], _ => rfl
  have bNEq := FNEq.binds (ps := PNEq) fun _ _ _ _ _ _ us hl => match us, hl with | [_, _], _ => rfl
  have bNBool := FNBool.binds (ps := PNBool) fun _ _ _ _ _ _ us hl => match us, hl with | [_], _ => rfl
  have bNAdd := FNAdd.binds (ps := PNAdd) fun _ _ _ _ _ _ us hl => match us, hl with | [_, _], _ => rfl
  have bNSub := FNSub.binds (ps := PNSub) fun _ _ _ _ _ _ us hl => match us, hl with | [_, _], _ => rfl
  have bNMul := FNMul.binds (ps := PNMul) fun _ _ _ _ _ _ us hl => match us, hl with | [_, _], _ => rfl
  have bNDiv := FNDiv.binds (ps := PNDiv) fun _ _ _ _ _ _ us hl => match us, hl with | [_, _], _ => rfl
  have bLine := FLine.binds (ps := PLine) fun _ _ _ _ _ _ us hl => match us, hl with | [_, _, _], _ => rfl
  have bLCall := FLCall.binds (ps := PLCall) fun _ _ _ _ _ _ us hl => match us, hl with | [_, _], _ => rfl
  have bLMeets := FLMeets.binds (ps := PLMeets) fun _ _ _ _ _ _ us hl => match us, hl with | [_, _], _ => rfl
  have bPot := FPot.binds (ps := PPot) fun _ _ _ _ _ _ us hl => match us, hl with | [_, _], _ => rfl
  have bTake := FTake.binds (ps := PTake) fun _ _ _ _ _ _ us hl => match us, hl with | [_, _], _ => rfl
  have bOf := FOf.binds (ps := POf) fun _ _ _ _ _ _ us hl => match us, hl with | [_, _], _ => rfl
  have bLeast := FLeast.binds (ps := PLeast) fun _ _ _ _ _ _ us hl => match us, hl with | [_, _], _ => rfl
  have bDrawn := FDrawn.binds (ps := PDrawn) fun _ _ _ _ _ _ us hl => match us, hl with | [_], _ => rfl
  have bLNum := FLNum.binds (ps := PLNum) fun _ _ _ _ _ _ us hl => match us, hl with | [_], _ => rfl
  have bDue := FDue.binds (ps := PDue) fun _ _ _ _ _ _ us hl => match us, hl with | [_, _, _, _], _ => rfl
  have bRight := FRight.binds (ps := PRight) fun _ _ _ _ _ _ us hl => match us, hl with | [_], _ => rfl
  have FNum : FunD K "__init__" "Number.__init__" (defArgs sNum) (defBody sNum) (defScope sNum) [.int 1] [] fNum _ := ⟨⟨_, _, _, _, _, _, _, _, _, _, rfl, l_Num, c_Num, .inr ⟨(fun z => by cases z), TNum, oTNum, [.int 1 tkT], nT, rfl, lT, dT, .cons ⟨_, rfl⟩ .nil⟩, .inl rfl⟩, k_Num⟩
  obtain ⟨dsN, vN, bN⟩ := FNum.binds1 (ps := PNum) 3 1 (fun z => by cases z) rfl fun T kV doc pm an cdv ct us its h1 h2 => match us, its, h1, h2 with | [_, _, _], [_], _, _ => ⟨_, rfl, rfl⟩
  have bLk : KBn K (PySem.W.fnOf "meets" "Line.meets" (defArgs sLMeets) (defBody sLMeets) (defScope sLMeets) .none kVLMeets dcLMeets pmLMeets anLMeets cdLMeets ctLMeets) PLMeets 1 ["other"] (fun us ws => us ++ ws) (fun vs zs => vs ++ zs) := ⟨fun s us ws _ h1 h2 => match us, ws, h1, h2 with | [_], [_], _, _ => .of_eq rfl, fun r1 r2 => r1.append r2⟩
  refine ⟨PySem.W.fnOf "law" "law" (defArgs sLaw) (defBody sLaw) (defScope sLaw) .none kVLaw dcLaw pmLaw anLaw cdLaw ctLaw, fun s v => .of_eq rfl, fun base _ _ => ?_⟩
  have cW : CalF l.prog w K mg base 1 "is_whole" spWhole := ⟨_, ok_whole FWhole bWhole B, mgo g_fWhole, k_Whole⟩
  have mN : MakF l.prog w K mg base 2 "Number" C (spNum C) := ⟨_, ⟨mk_C, a_Num, i_Num, kc_C⟩, ok_num (dvs' := []) FNum bN vN (fun vs H Q E h => by rw [List.append_nil]; exact h) B NC (mgo gcd) cW, mgo g_C⟩
  have pT : PrpF l.prog w K mg base 1 C "top" (spTop C) := ⟨_, _, clC, ⟨a_NTop, g_NTop, t_NTop, _, r_NTop⟩, ok_top FNTop bNTop NC⟩
  have pB : PrpF l.prog w K mg base 1 C "bottom" (spBot C) := ⟨_, _, clC, ⟨a_NBot, g_NBot, t_NBot, _, r_NBot⟩, ok_bot FNBot bNBot NC⟩
  have oE : OpnF l.prog w K mg base 1 C "__eq__" (spNEq C) := ⟨_, a_NEq, i_NEq, ok_neq FNEq bNEq B NC (mgo g_C)⟩
  have oB : OpnF l.prog w K mg base 1 C "__bool__" (spNBool C) := ⟨_, a_NBool, i_NBool, ok_nbool FNBool bNBool B NC⟩
  have oA : OpnF l.prog w K mg base 4 C (PySem.dunder Operator.Add.info.2) (spAdd C) := ⟨_, a_NAdd, i_NAdd, ok_nadd FNAdd bNAdd NC mN⟩
  have oS : OpnF l.prog w K mg base 4 C (PySem.dunder Operator.Sub.info.2) (spSub C) := ⟨_, a_NSub, i_NSub, ok_nsub FNSub bNSub NC mN⟩
  have oM : OpnF l.prog w K mg base 4 C (PySem.dunder Operator.Mult.info.2) (spMul C) := ⟨_, a_NMul, i_NMul, ok_nmul FNMul bNMul NC mN⟩
  have tD : MetF l.prog w K mg base 4 C "divided_by" (spDiv C) := ⟨_, clC, ⟨a_NDiv, i_NDiv, k_NDiv⟩, ok_ndiv FNDiv bNDiv NC mN oB⟩
  have mL : MakF l.prog w K mg base 1 "Line" D (spLine D) := ⟨_, ⟨mk_D, a_Line, i_Line, kc_D⟩, ok_line FLine bLine LC, mgo g_D⟩
  have cC : CloF l.prog w K mg base 5 D (spLCall C D) := ⟨_, ⟨a_LCall, i_LCall, fi_LCall⟩, ok_lcall FLCall bLCall NC LC oA oM⟩
  have GM := ok_lmeetsF (base := base) (P := l.prog) (w := w) (mg := mg) FLMeets NC LC oS oB tD
  have tM : MetF l.prog w K mg base 5 D "meets" (spMeets C D) := ⟨_, clD, ⟨a_LMeets, i_LMeets, k_LMeets⟩, (GM.raw bLMeets .nil).imp fun vs H Q E h => by rw [List.append_nil]; exact h⟩
  have cP : CalF l.prog w K mg base 1 "_law_pot" (spPot K) := ⟨_, ok_pot FPot bPot B, mgo g_fPot, k_Pot⟩
  have cT : CalF l.prog w K mg base 1 "_law_take" spTake := ⟨_, ok_take FTake bTake B, mgo g_fTake, k_Take⟩
  have cO : CalF l.prog w K mg base 2 "_law_of" spOf := ⟨_, ok_of FOf bOf B cT, mgo g_fOf, k_Of⟩
  have cL : CalF l.prog w K mg base 1 "_law_least" spLeast := ⟨_, ok_least FLeast bLeast B, mgo g_fLeast, k_Least⟩
  have cD : CalF l.prog w K mg base 3 "_law_drawn" spDrawn := ⟨_, ok_drawn FDrawn bDrawn B cT cO, mgo g_fDrawn, k_Drawn⟩
  have cN : CalF l.prog w K mg base 4 "_law_number" (spLNum C) := ⟨_, ok_lnum FLNum bLNum mN, mgo g_fLNum, k_LNum⟩
  have cU : CalF l.prog w K mg base 2 "_law_due" spDue := ⟨_, ok_due FDue bDue cL, mgo g_fDue, k_Due⟩
  have cR : CalF l.prog w K mg base 6 "_law_is_right" spRight := ⟨_, ok_right FRight bRight B NC LC (mgo g_C) cD cT cN cU mL mN tM pT pB oE cC ⟨a_LMeets, i_LMeets, k_LMeets⟩ GM bLk, mgo g_fRight, k_Right⟩
  exact ok_law FLaw B cP cR

end Ws

open PySem PySem.W PyProof.Rows
set_option maxHeartbeats 0
open_top hdK for PySem.Challenge.rw_whatspeed_k06_where_lines_meet

theorem PySem.Challenge.cw_whatspeed_k06_where_lines_meet_holds : PySem.Challenge.rw_whatspeed_k06_where_lines_meet.Holds := by
  refine hdK ?_
  k_fill
  refine L2.walk_of (l := PySem.Challenge.rw_whatspeed_k06_where_lines_meet) (n := 63) (k := 7) (x := "script") (CX := fun _ => L2.CX0) (sp := fun w => Ws.spLaw _) rfl (by decide) rfl ⟨rfl, by decide, by decide⟩ (fun w h Y => PySem.W.kIn_of Y) ?F (fun _ _ a ns hl _ hS => ⟨a, ns, rfl, hS, hl, fun _ => rfl⟩) fun _ _ _ _ _ z => z
  case F =>
    intro w mg fa h KX G hmg
    refine' Ws.all_mk KX G hmg ?g_C ?pg_C ?hd_C ?po_C ?sa_C ?mk_C ?kc_C ?n_top_C ?n_bottom_C ?ha_C ?hn_C ?htk_C ?hm_C ?sf_C ?nf_C ?g_D ?pg_D ?hd_D ?po_D ?sa_D ?mk_D ?kc_D ?n_base_D ?n_slope_D ?gcd ?g_fWhole ?l_Whole ?c_Whole ?k_Whole ?a_Num ?i_Num ?l_Num ?c_Num ?k_Num ?lT ?dT ?a_NTop ?g_NTop ?t_NTop ?r_NTop ?l_NTop ?c_NTop ?k_NTop ?a_NBot ?g_NBot ?t_NBot ?r_NBot ?l_NBot ?c_NBot ?k_NBot ?a_NEq ?i_NEq ?l_NEq ?c_NEq ?k_NEq ?a_NBool ?i_NBool ?l_NBool ?c_NBool ?k_NBool ?a_NAdd ?i_NAdd ?l_NAdd ?c_NAdd ?k_NAdd ?a_NSub ?i_NSub ?l_NSub ?c_NSub ?k_NSub ?a_NMul ?i_NMul ?l_NMul ?c_NMul ?k_NMul ?a_NDiv ?i_NDiv ?l_NDiv ?c_NDiv ?k_NDiv ?a_Line ?i_Line ?l_Line ?c_Line ?k_Line ?a_LCall ?i_LCall ?l_LCall ?c_LCall ?k_LCall ?fi_LCall ?a_LMeets ?i_LMeets ?l_LMeets ?c_LMeets ?k_LMeets ?g_fPot ?l_Pot ?c_Pot ?k_Pot ?g_fTake ?l_Take ?c_Take ?k_Take ?g_fOf ?l_Of ?c_Of ?k_Of ?g_fLeast ?l_Least ?c_Least ?k_Least ?g_fDrawn ?l_Drawn ?c_Drawn ?k_Drawn ?g_fLNum ?l_LNum ?c_LNum ?k_LNum ?g_fDue ?l_Due ?c_Due ?k_Due ?g_fRight ?l_Right ?c_Right ?k_Right ?g_fLaw ?l_Law ?c_Law ?k_Law ?z_len ?z_abs ?z_int ?z_bool ?z_max ?z_min ?z_range ?z_all ?z_any ?z_isinstance
    (case g_C => k_is)
    (case pg_C => k_is)
    (case hd_C => k_is)
    (case po_C => k_is)
    (case sa_C => k_is)
    (case mk_C => k_is)
    (case kc_C => k_is)
    (case n_top_C => k_is)
    (case n_bottom_C => k_is)
    (case ha_C => k_is)
    (case hn_C => k_is)
    (case htk_C => k_is)
    (case hm_C => k_is)
    (case sf_C => k_is)
    (case nf_C => k_is)
    (case g_D => k_is)
    (case pg_D => k_is)
    (case hd_D => k_is)
    (case po_D => k_is)
    (case sa_D => k_is)
    (case mk_D => k_is)
    (case kc_D => k_is)
    (case n_base_D => k_is)
    (case n_slope_D => k_is)
    (case gcd => k_is)
    (case g_fWhole => k_is)
    (case l_Whole => k_is)
    (case c_Whole => k_is)
    (case k_Whole => k_is)
    (case a_Num => k_is)
    (case i_Num => k_is)
    (case l_Num => k_is)
    (case c_Num => k_is)
    (case k_Num => k_is)
    (case lT => k_is)
    (case dT => rfl)
    (case a_NTop => k_is)
    (case g_NTop => k_is)
    (case t_NTop => k_is)
    (case r_NTop => k_is)
    (case l_NTop => k_is)
    (case c_NTop => k_is)
    (case k_NTop => k_is)
    (case a_NBot => k_is)
    (case g_NBot => k_is)
    (case t_NBot => k_is)
    (case r_NBot => k_is)
    (case l_NBot => k_is)
    (case c_NBot => k_is)
    (case k_NBot => k_is)
    (case a_NEq => k_is)
    (case i_NEq => k_is)
    (case l_NEq => k_is)
    (case c_NEq => k_is)
    (case k_NEq => k_is)
    (case a_NBool => k_is)
    (case i_NBool => k_is)
    (case l_NBool => k_is)
    (case c_NBool => k_is)
    (case k_NBool => k_is)
    (case a_NAdd => k_is)
    (case i_NAdd => k_is)
    (case l_NAdd => k_is)
    (case c_NAdd => k_is)
    (case k_NAdd => k_is)
    (case a_NSub => k_is)
    (case i_NSub => k_is)
    (case l_NSub => k_is)
    (case c_NSub => k_is)
    (case k_NSub => k_is)
    (case a_NMul => k_is)
    (case i_NMul => k_is)
    (case l_NMul => k_is)
    (case c_NMul => k_is)
    (case k_NMul => k_is)
    (case a_NDiv => k_is)
    (case i_NDiv => k_is)
    (case l_NDiv => k_is)
    (case c_NDiv => k_is)
    (case k_NDiv => k_is)
    (case a_Line => k_is)
    (case i_Line => k_is)
    (case l_Line => k_is)
    (case c_Line => k_is)
    (case k_Line => k_is)
    (case a_LCall => k_is)
    (case i_LCall => k_is)
    (case l_LCall => k_is)
    (case c_LCall => k_is)
    (case k_LCall => k_is)
    (case fi_LCall => k_is)
    (case a_LMeets => k_is)
    (case i_LMeets => k_is)
    (case l_LMeets => k_is)
    (case c_LMeets => k_is)
    (case k_LMeets => k_is)
    (case g_fPot => k_is)
    (case l_Pot => k_is)
    (case c_Pot => k_is)
    (case k_Pot => k_is)
    (case g_fTake => k_is)
    (case l_Take => k_is)
    (case c_Take => k_is)
    (case k_Take => k_is)
    (case g_fOf => k_is)
    (case l_Of => k_is)
    (case c_Of => k_is)
    (case k_Of => k_is)
    (case g_fLeast => k_is)
    (case l_Least => k_is)
    (case c_Least => k_is)
    (case k_Least => k_is)
    (case g_fDrawn => k_is)
    (case l_Drawn => k_is)
    (case c_Drawn => k_is)
    (case k_Drawn => k_is)
    (case g_fLNum => k_is)
    (case l_LNum => k_is)
    (case c_LNum => k_is)
    (case k_LNum => k_is)
    (case g_fDue => k_is)
    (case l_Due => k_is)
    (case c_Due => k_is)
    (case k_Due => k_is)
    (case g_fRight => k_is)
    (case l_Right => k_is)
    (case c_Right => k_is)
    (case k_Right => k_is)
    (case g_fLaw => k_is)
    (case l_Law => k_is)
    (case c_Law => k_is)
    (case k_Law => k_is)
    (case z_len => k_is)
    (case z_abs => k_is)
    (case z_int => k_is)
    (case z_bool => k_is)
    (case z_max => k_is)
    (case z_min => k_is)
    (case z_range => k_is)
    (case z_all => k_is)
    (case z_any => k_is)
    (case z_isinstance => k_is)
#print axioms PySem.Challenge.cw_whatspeed_k06_where_lines_meet_holds

