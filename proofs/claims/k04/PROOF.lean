import PyProof.Rows.All
import Wide.All
import OpenK.AllK
import Wide.FinOn
import HandS.ForMost
import HandS.Star
import HandS.OwnEq
import HandS.Property
import HandS.Gcd
import HandS.Wide
import HandS.IsInst
import HandS.Defaults
import KE.KOpsOwn
import PyProof.InstNe
import HandS.Ends
import PyProof.Rows.ReprR
import HandS.List
import PyProof.ReprBulk
import PyProof.FitsInt
import PyProof.ReprRoads
import PyProof.Conv_bool
import PyProof.Rows.Range3
import HandS.TupSets
import PyProof.CallFns
import HandS.Style
import PySem.Challenge.RW_whatspeed_k04_whole_numbers_in_sums
set_option Elab.async false
set_option linter.all false
set_option maxRecDepth 100000
set_option maxHeartbeats 4000000
namespace Ws
open PySem PySem.Spec PyProof.Rows L2
/-! ### promises of defs, methods, makers, operators: by show (0 : Int) < _; decide +kernelitional values -/
abbrev Fr1 := FnR
section
variable (P : Program) (w : World) (K : PySem.W.Frag) (mg : Str → Option Value) (base : Heap)
/-- a def of the module, called by its name -/
def CalF (k : Nat) (x : Str) (sp : Sp) : Prop := ∃ f : Addr, FnR P w K mg base CX0 k f sp ∧ mg x = some (.ref f) ∧ PySem.W.keepIn K (.ref f) = true
/-- a class that makes instances, called by its name -/
def MakF (k : Nat) (x : Str) (C : Addr) (sp : Sp) : Prop := ∃ f : Addr, Mk K C f ∧ FnR P w K mg base CX0 k f sp ∧ mg x = some (.ref C)
/-- a method -/
def MetF (k : Nat) (C : Addr) (m : Str) (sp : Sp) : Prop := ∃ f : Addr, Cls K C ∧ Meth K C m f ∧ FnR P w K mg base CX0 k f sp
/-- a special method that an operator calls -/
def OpnF (k : Nat) (C : Addr) (m : Str) (sp : Sp) : Prop := ∃ f : Addr, PySem.W.findIn K (.ref C) m = some (some (.ref f)) ∧ PySem.W.isFn K (.ref f) = true ∧ FnR P w K mg base CX0 k f sp
/-- a property -/
def PrpF (k : Nat) (C : Addr) (m : Str) (sp : Sp) : Prop := ∃ p g : Addr, Cls K C ∧ PropOf K C m p g ∧ FnR P w K mg base CX0 k g sp
/-- instances are called -/
def CloF (k : Nat) (C : Addr) (sp : Sp) : Prop := ∃ g : Addr, StX.CallO K C g ∧ FnR P w K mg base CX0 k g sp
end
section
variable {X : Cx} {k j : Nat} {C f : Addr} {sp : Sp} {x m : Str} {p pos apos : Pos} {e o : Expr} {es : List Expr} {ta : TE} {t : TA}
abbrev CalX (X : Cx) := CalF X.prog X.w X.K X.mg X.base
theorem run_R {pins : List (Addr × Obj)} {σ : L2.St} {H : Hp} {s : Shared} {Q : VK} {us : List Value} {vs : List V} {E : XK} {CX : CXT} (F : FnR X.prog X.w X.K X.mg X.base CX k f sp) (hr : Room k X.A) (hx : Passes CX X E)
    (I : Inv X pins σ H s) (r : Vals vs us) (h : sp vs H Q E) : wpAny (model X.prog X.w) X.A (call (.ref f) us) (EP X pins σ Q) X.xe s := by
  refine wpAny_call (codeAny_mono (run_fnR F hr hx I r h) fun r s' q => ?_)
  cases r with
  | error e => exact q
  | ok fl => cases fl with
    | ret u => exact q
    | next => exact q.elim
    | brk => exact q.elim
    | cont => exact q.elim
/-- f(e, ..) -/
def tF (sp : Sp) (t : TA) : TE := fun σ H Q => t σ H fun vs H1 => sp vs H1 Q E0
theorem pe_f (c : CalF X.prog X.w X.K X.mg X.base k x sp) (hr : Room j X.A) (hk : k ≤ j) (hg : Gl X x) (ha : PA X (e :: es) t) (hdb : (x == ("__debug__" : Str)) = false := by decide)
    (he : starEach (e :: es) X.env = (false, eval e X.env) :: starEach es X.env := by rfl) (hpl : (backTo pos (starEach es X.env)).any (·.1) = false := by rfl) : PE X (.Call (.Name x p) (e :: es) [] pos) (tF sp t) := by
  obtain ⟨f, F, hm, hkp⟩ := c
  refine ⟨fun pins s σ H Q I h => ?_⟩
  refine wpAny_Call_Name_kw (ld_glob I hg hm ?_ hdb)
  refine PySem.W.callWith_K (h₀ := X.base) I.ok.mod.kin hkp (thn (ha.run pos pins s σ H _ I h) fun us s1 ⟨vs, H1, I1, r, q⟩ => ⟨I1.kIn, ?_⟩) he hpl
  exact run_R F (hr.mono hk) pass0 I1 r q
/-- C(e, ..) -/
def tMk (C : Addr) (sp : Sp) (t : TA) : TE := fun σ H Q => t σ H fun vs H1 => ∀ x dx, H1 x = Option.none → H1 dx = Option.none → dx ≠ x → sp (V.ref x :: vs) (upd (upd H1 dx (.own x)) x (.ins C dx [])) (fun v H2 => v = .non ∧ Q (.ref x) H2) E0
theorem pe_mk (c : MakF X.prog X.w X.K X.mg X.base k x C sp) (hr : Room j X.A) (hk : k + 1 ≤ j) (hg : Gl X x) (ha : PA X (e :: es) t) (hdb : (x == ("__debug__" : Str)) = false := by decide)
    (he : starEach (e :: es) X.env = (false, eval e X.env) :: starEach es X.env := by rfl) (hpl : (backTo pos (starEach es X.env)).any (·.1) = false := by rfl) : PE X (.Call (.Name x p) (e :: es) [] pos) (tMk C sp t) := by
  obtain ⟨f, M, F, hm⟩ := c
  exact StX.pe_makeR M F (hr.mono hk) hg hm pass0 ha hdb he hpl
/-- o.m(e, ..) -/
def tMt (C : Addr) (m : Str) (sp : Sp) (ta : TE) (t : TA) : TE := fun σ H Q => ta σ H fun x H1 => ∃ a dx fs, x = .ref a ∧ H1 a = some (.ins C dx fs) ∧ fs.lookup m = none ∧ t σ H1 fun vs H2 => sp (x :: vs) H2 Q E0
theorem pe_mt {pl : Sem Bool} (c : MetF X.prog X.w X.K X.mg X.base k C m sp) (hr : Room j X.A) (hk : k ≤ j) (he : PE X o ta) (ha : PA X (e :: es) t)
    (hst : starEach (e :: es) X.env = (false, eval e X.env) :: starEach es X.env := by rfl) (hpl : (backTo pos (starEach es X.env)).any (·.1) = false := by rfl)
    (ht : eval (.Call (.Attribute o m apos) (e :: es) [] pos) X.env = (do
      let ov ← eval o X.env
      standAt apos.atName
      let (f, first) ← holding [ov] (getMethod ov m pl)
      callWith pos f first (backTo pos (starEach (e :: es) X.env)) (backToKw pos (keywordEach [] X.env))) := by rfl) :
    PE X (.Call (.Attribute o m apos) (e :: es) [] pos) (tMt C m sp ta t) := by
  obtain ⟨f, hc, hm, F⟩ := c
  refine ⟨fun pins s σ H Q I h => ?_⟩
  refine PySem.W.methodCall_KW (pl := pl) (thn (he.run pins s σ H _ I h) fun u s1 ⟨x, H1, I1, rx, a, dx, fs, ex, ea, l, q⟩ => ?_) ht
  subst ex
  obtain rfl : u = Value.ref a := rx
  refine getmeth_ok I1 ea hc hm l ?_
  refine PySem.W.callWith_K (first := [.ref a]) (h₀ := X.base) I.ok.mod.kin hm.kp (thn (ha.run pos pins s1 σ H1 _ I1 q) fun us s2 ⟨vs, H2, I2, r, q2⟩ => ⟨I2.kIn, ?_⟩) hst hpl
  exact run_R (us := .ref a :: us) (vs := .ref a :: vs) F (hr.mono hk) pass0 I2 (.cons rfl r) q2
/-- e.f, a property -/
def tPr (C : Addr) (sp : Sp) (ta : TE) : TE := fun σ H Q => ta σ H fun x H1 => ∃ a dx fs, x = .ref a ∧ H1 a = some (.ins C dx fs) ∧ sp [.ref a] H1 Q E0
theorem pe_pr (c : PrpF X.prog X.w X.K X.mg X.base k C m sp) (hr : Room j X.A) (hk : k + 1 ≤ j) (he : PE X e ta) (hab : attributeBase e m X.env (eval e X.env) = eval e X.env := by rfl) : PE X (.Attribute e m pos) (tPr C sp ta) := by
  obtain ⟨p, g, hc, hp, F⟩ := c
  refine ⟨fun pins s σ H Q I h => ?_⟩
  refine attr_of hab (thn (he.run pins s σ H _ I h) fun u s1 ⟨x, H1, I1, rx, a, dx, fs, ex, ea, q⟩ => ?_)
  subst ex
  obtain rfl : u = Value.ref a := rx
  obtain ⟨mA, O, _, _, _, _⟩ := ins_get I1.hok ea
  obtain ⟨od, J, _⟩ := O.look
  obtain ⟨rest, hrec⟩ := hp.rec_
  have hcs : (PySem.W.clsIn X.K C).isSome = true := by
    obtain ⟨cd, hcd, _⟩ := PySem.W.any_some hc.hd
    rw [hcd]
    rfl
  have I2 := I1.tok (s1.toks + 1)
  have hr1 : Room (k + 1) X.A := hr.mono hk
  refine PySem.W.get_bind I1.kIn J (PySem.W.plainGet_of (hc.get m)).1 (PySem.W.findObj_data hcs hp.at_ hp.get hp.tak) (PySem.W.plainGet_of (hc.get m)).2 (wpAny_call (PySem.W.prop_get (s := { s1 with toks := s1.toks + 1 }) I1.kIn hrec ?_))
  refine codeAny_mono (F X.A.in1 X.stack { s1 with toks := s1.toks + 1 } H1 [.ref a] [.ref a] Q E0 hr1.in1 I2.env0.in1 (.cons rfl .nil) q) fun r s' hq => ?_
  cases r with
  | error er => exact hq.elim
  | ok fl =>
    cases fl with
    | ret u =>
      obtain ⟨v, H', I3, rv, q3⟩ := I2.after hq
      show wpAny _ _ (handedOut u) _ _ _
      rw [PySem.W.handedOut_of (handed_of rv)]
      exact wpAny_pure ⟨v, H', I3, rv, q3⟩
    | next => exact False.elim hq
    | brk => exact False.elim hq
    | cont => exact False.elim hq
/-- an instance called -/
def tClo (C : Addr) (sp : Sp) (tf : TE) (t : TA) : TE := fun σ H Q => tf σ H fun y H1 => ∃ a, y = V.ref a ∧ t σ H1 fun vs H2 => (∃ dx fs, H2 a = some (.ins C dx fs)) ∧ sp (V.ref a :: vs) H2 Q E0
theorem pe_clo {tf : TE} {fe : Expr} (c : CloF X.prog X.w X.K X.mg X.base k C sp) (hr : Room j X.A) (hk : k ≤ j) (hf : PE X fe tf) (ha : PA X (e :: es) t)
    (ht : eval (.Call fe (e :: es) [] pos) X.env = (do callWith pos (← eval fe X.env) [] (backTo pos (starEach (e :: es) X.env)) (backToKw pos (keywordEach [] X.env))) := by rfl)
    (he : starEach (e :: es) X.env = (false, eval e X.env) :: starEach es X.env := by rfl) (hpl : (backTo pos (starEach es X.env)).any (·.1) = false := by rfl) : PE X (.Call fe (e :: es) [] pos) (tClo C sp tf t) := by
  obtain ⟨g, c, F⟩ := c
  refine ⟨fun pins s σ H Q I h => ?_⟩
  refine Call_ (thn (hf.run pins s σ H _ I h) fun u s1 ⟨y, H1, I1, ry, a, ey, q⟩ => ?_) ht
  subst ey
  obtain rfl : u = Value.ref a := ry
  refine StX.callO_with (thn (ha.run pos pins s1 σ H1 _ I1 q) fun us s2 ⟨vs, H2, I2, r, ⟨dx, fs, hi⟩, q2⟩ => ?_) he hpl
  have hi' : StX.InsC X H2 a C := .inr ⟨dx, fs, hi⟩
  obtain ⟨ox, od, J, hd⟩ := StX.insC_at I2 hi'
  exact ⟨⟨C, ox, od, J, hd⟩, StX.run_callO c F (hr.mono hk) pass0 I2 hi' r q2⟩
/-! ### operators -/
/-- the value handed back by an operator's method is never NotImplemented -/
theorem cmpBack {pins : List (Addr × Obj)} {σ : L2.St} {Q : VK} {v : Value} {s : Shared} (h : EP X pins σ Q v s) : PySem.W.CmpBack (EP X pins σ Q) v s := by
  obtain ⟨y, H, I, r, q⟩ := h
  have fin : EP X pins σ Q v s := ⟨y, H, I, r, q⟩
  cases y with
  | non => cases (show v = Value.none from r); exact fin
  | bl b => cases (show v = Value.bool b from r); exact fin
  | int i => obtain ⟨t, e⟩ := (show ∃ t, v = Value.int i t from r); subst e; exact fin
  | str i => obtain ⟨t, e⟩ := (show ∃ t, v = Value.str i t from r); subst e; exact fin
  | byt i => obtain ⟨t, e⟩ := (show ∃ t, v = Value.bytes i t from r); subst e; exact fin
  | flt i => obtain ⟨t, e⟩ := (show ∃ t, v = Value.float i t from r); subst e; exact fin
  | ref a => cases (show v = Value.ref a from r); exact fin
  | ty n => cases (show v = Value.type n from r); exact fin
theorem inst_of {pins : List (Addr × Obj)} {σ : L2.St} {H : Hp} {s : Shared} {a dx : Addr} {fs : List (Str × V)} (I : Inv X pins σ H s) (h : H a = some (.ins C dx fs)) : ∃ ox od, PySem.W.InstAt s.heap a ox C od := by
  obtain ⟨mA, O, _⟩ := ins_get I.hok h
  obtain ⟨od, J, _⟩ := O.look
  exact ⟨_, _, J⟩
/-- a op b, both of the class at C, by its own method -/
def rOwn (C : Addr) (sp : Sp) : R2 := fun x y H Q => ∃ a dx fs b dy gs, x = .ref a ∧ H a = some (.ins C dx fs) ∧ y = .ref b ∧ H b = some (.ins C dy gs) ∧ sp [.ref a, .ref b] H Q E0
theorem op_own {op : Operator} (c : OpnF X.prog X.w X.K X.mg X.base k C (PySem.dunder op.info.2) sp) (hs : PySem.W.selfFirst X.K C = true) (hr : Room j X.A) (hk : k ≤ j) : OpR X (binaryOp op) (rOwn C sp) := by
  obtain ⟨f, h1, h2, F⟩ := c
  intro pins s σ H x y v u Q I rx ry h
  obtain ⟨a, dx, fs, b, dy, gs, rfl, ea, rfl, eb, q⟩ := h
  cases (show v = Value.ref a from rx)
  cases (show u = Value.ref b from ry)
  obtain ⟨ox, od, J⟩ := inst_of I ea
  obtain ⟨oy, oe, J2⟩ := inst_of I eb
  obtain ⟨m, hF⟩ := I.fr
  refine PySem.W.binop_K hF I.ok.mod.kin J J2.type hs h1 h2 ?_
  exact wpAny_mono (run_R (us := [.ref a, .ref b]) (vs := [.ref a, .ref b]) F (hr.mono hk) pass0 I (.cons rfl (.cons rfl .nil)) q) (fun v s' hv => cmpBack hv) fun _ _ z => z
/-- what a value's type is to ==: its typeOf -/
inductive TyL (H : Hp) : V → Value → Prop where
  | non : TyL H .non (.type "NoneType")
  | bl (b : Bool) : TyL H (.bl b) (.type "bool")
  | int (i : Int) : TyL H (.int i) (.type "int")
  | str (x : Str) : TyL H (.str x) (.type "str")
  | lst {a : Addr} {xs : List V} (e : H a = some (.lst xs)) : TyL H (.ref a) (.type "list")
  | tup {a : Addr} {xs : List V} (e : H a = some (.tup xs)) : TyL H (.ref a) (.type "tuple")
  | dK {a : Addr} {xs : List (Key × V)} (e : H a = some (.dK xs)) : TyL H (.ref a) (.type "dict")
  | ins {a C dx : Addr} {fs : List (Str × V)} (e : H a = some (.ins C dx fs)) : TyL H (.ref a) (.ref C)
theorem looks_ref {M : Model} {h : Heap} {a : Addr} {o : Obj} {t : Value} (e : h.get? a = some o) (c : o.cls = t) : PySem.W.Looks M h (typeOf (.ref a)) t := by
  intro A Q E s k q
  subst c
  exact wpAny_typeOf_ref (k _ _ e) q
theorem TyL.looks {pins : List (Addr × Obj)} {σ : L2.St} {H : Hp} {s : Shared} {M : Model} {x : V} {u t : Value} (I : Inv X pins σ H s) (rx : RelV x u) (ty : TyL H x t) : PySem.W.Looks M s.heap (typeOf u) t := by
  cases ty with
  | non => cases (show u = Value.none from rx); exact .of_pure rfl
  | bl b => cases (show u = Value.bool b from rx); exact .of_pure rfl
  | int i => obtain ⟨t, q⟩ := (show ∃ t, u = Value.int i t from rx); subst q; exact .of_pure rfl
  | str i => obtain ⟨t, q⟩ := (show ∃ t, u = Value.str i t from rx); subst q; exact .of_pure rfl
  | @lst a xs e =>
    cases (show u = Value.ref a from rx)
    obtain ⟨_, its, n, _, h1⟩ := (show ObjOk X.prog X.w H s.heap a (.lst xs) from I.hok a _ e)
    exact looks_ref h1 rfl
  | @tup a xs e =>
    cases (show u = Value.ref a from rx)
    obtain ⟨_, its, _, ob, h1, c, _⟩ := (show ObjOk X.prog X.w H s.heap a (.tup xs) from I.hok a _ e)
    exact looks_ref h1 c
  | @dK a xs e =>
    cases (show u = Value.ref a from rx)
    obtain ⟨_, _, vs, _, o, es, ep, h1, h2, _⟩ := (show ObjOk X.prog X.w H s.heap a (.dK xs) from I.hok a _ e)
    exact looks_ref h1 h2.1
  | @ins a C dx fs e =>
    cases (show u = Value.ref a from rx)
    obtain ⟨ox, od, J⟩ := inst_of I e
    exact J.type
/-- a == b by a's own __eq__ -/
def rEqO (K : PySem.W.Frag) (C : Addr) (sp : Sp) : R2 := fun x y H Q => ∃ a dx fs t, x = .ref a ∧ H a = some (.ins C dx fs) ∧ TyL H y t ∧ PySem.W.notFirst K C t = true ∧ sp [.ref a, y] H Q E0
theorem op_eqO (c : OpnF X.prog X.w X.K X.mg X.base k C "__eq__" sp) (hr : Room j X.A) (hk : k ≤ j) : OpR X (compareOp .Eq) (rEqO X.K C sp) := by
  obtain ⟨f, h1, h2, F⟩ := c
  intro pins s σ H x y v u Q I rx ry h
  obtain ⟨a, dx, fs, t, rfl, ea, ty, nf, q⟩ := h
  cases (show v = Value.ref a from rx)
  obtain ⟨ox, od, J⟩ := inst_of I ea
  obtain ⟨m, hF⟩ := I.fr
  refine PySem.W.cmp_ofEq (PySem.W.cmp_K (op := .Eq) hr.units0 hF I.ok.mod.kin J (ty.looks I ry) nf h1 h2 ?_)
  exact wpAny_mono (run_R (us := [.ref a, u]) (vs := [.ref a, y]) F (hr.mono hk) pass0 I (.cons rfl (.cons ry .nil)) q) (fun v s' hv => cmpBack hv) fun _ _ z => z
/-- -a by its own __neg__ -/
def rUnO (C : Addr) (sp : Sp) : V → Hp → VK → Prop := fun x H Q => ∃ a dx fs, x = .ref a ∧ H a = some (.ins C dx fs) ∧ sp [.ref a] H Q E0
theorem un_negO (c : OpnF X.prog X.w X.K X.mg X.base k C "__neg__" sp) (hr : Room j X.A) (hk : k ≤ j) : UnR X (unaryOp .USub) (rUnO C sp) := by
  obtain ⟨f, h1, h2, F⟩ := c
  intro pins s σ H x v Q I rx h
  obtain ⟨a, dx, fs, rfl, ea, q⟩ := h
  cases (show v = Value.ref a from rx)
  obtain ⟨ox, od, J⟩ := inst_of I ea
  obtain ⟨m, hF⟩ := I.fr
  exact PySem.W.ksp_neg hF I.ok.mod.kin J h1 h2 (run_R (us := [.ref a]) (vs := [.ref a]) F (hr.mono hk) pass0 I (.cons rfl .nil) q)
/-- a's truth by its own __bool__ -/
def rTruO (C : Addr) (sp : Sp) : V → Hp → (Bool → Hp → Prop) → Prop := fun x H Q => ∃ a dx fs, x = .ref a ∧ H a = some (.ins C dx fs) ∧ sp [.ref a] H (fun v H' => ∃ b, v = .bl b ∧ Q b H') E0
theorem tru_own (c : OpnF X.prog X.w X.K X.mg X.base k C "__bool__" sp) (hr : Room j X.A) (hk : k ≤ j) : TruR X (rTruO C sp) := by
  obtain ⟨f, h1, h2, F⟩ := c
  intro pins s σ H x v Q I rx h
  obtain ⟨a, dx, fs, rfl, ea, q⟩ := h
  cases (show v = Value.ref a from rx)
  obtain ⟨ox, od, J⟩ := inst_of I ea
  obtain ⟨m, hF⟩ := I.fr
  refine PySem.W.truthy_K hF I.ok.mod.kin J h1 h2 (wpAny_mono (run_R (us := [.ref a]) (vs := [.ref a]) F (hr.mono hk) pass0 I (.cons rfl .nil) q) (fun r s' hv => ?_) fun _ _ z => z)
  obtain ⟨y, H', I', ry, b, rfl, qb⟩ := hv
  cases (show r = Value.bool b from ry)
  exact ⟨H', I', qb⟩
/-- a test by a value's truth -/
def tTru (r : V → Hp → (Bool → Hp → Prop) → Prop) (ta : TE) : TT := fun σ H Q => ta σ H fun x H1 => r x H1 Q
theorem pt_tru {r : V → Hp → (Bool → Hp → Prop) → Prop} {a : Expr} (hT : TruR X r) (ha : PE X a ta) (he : ∀ whole, isTrue a X.env whole = (do let v ← whole; standAt a.pos; holding [v] (truthy v)) := by intro _; rfl) : PT X a (tTru r ta) := by
  refine ⟨fun pins s σ H Q I h => ?_⟩
  exact isTrue_plain (thn (ha.run pins s σ H _ I h) fun v s1 ⟨x, H1, I1, r1, q1⟩ => hT pins s1 σ H1 x v Q I1 r1 q1) (he _)
/-! ### great ints -/
theorem op_powW : OpR X (binaryOp .Pow) (rI (fun i j => 0 ≤ j ∧ (Builtin.Int.intBits i : Int) * j ≤ 2 ^ 27) fun i j => .int (i ^ j.toNat)) := opI fun _ _ _ _ _ _ _ hc q => pow_int hc.1 hc.2 q
theorem op_fdivZ : OpR X (binaryOp .FloorDiv) (rI (fun _ j => j ≠ 0 ∧ j.natAbs.log2 < 9000) fun i j => .int (i.fdiv j)) := opI fun _ _ _ _ _ _ _ hc q => floordiv_int hc.1 q (.inl (PyProof.noPylong_of_log2 hc.2))
end
end Ws
namespace Ws
open PySem PySem.Spec PyProof.Rows L2
/-! ### from a def of the text to its promise -/
section
variable {P : Program} {w : World} {K : PySem.W.Frag} {mg : Str → Option Value} {base : Heap}
theorem fnR_of {x qual : Str} {st : Stmt} {f : Addr} {fd : FuncData} {N ps : List Str} {k : Nat} {sp : Sp} (F : L2.Fun K x qual st f fd) (b : Binds K fd ps []) (S : FnScope N ps (defScope st)) (len : ∀ vs H Q E, sp vs H Q E → vs.length = ps.length)
    (hbody : ∀ (cdv : Value) (A : Around) (outer : List Env) (s : Shared) (H : Hp) (vs : List V) (Q : VK) (E : XK), Room k (A.deeper (envOfC qual (defScope st) s.heap.objs.size f cdv)) → sp vs H Q E →
      ∃ t, PSs (cxOf CX0 P w K mg base N qual (defScope st) f cdv A outer s H E).nox (defBody st) t ∧ t { nx := fun _ H' => Q .non H', rt := Q } (start N vs) H) : FnR P w K mg base CX0 (k + 1) f sp :=
  ((F.ok S len hbody).raw b .nil).imp fun vs H Q E h => by rw [List.append_nil]; exact h
/-- a def with defaults: all of them are handed in, or the last ones are filled up -/
theorem fnD_of {x qual : Str} {st : Stmt} {f : Addr} {fd : FuncData} {N ps : List Str} {k : Nat} {sp sp' : Sp} {dvs dvs' : List V} {ds : List Value} (F : FunD K x qual (defArgs st) (defBody st) (defScope st) dvs [] f fd) (b : Binds K fd ps ds) (d : Vals dvs' ds) (S : FnScope N ps (defScope st)) (len : ∀ vs H Q E, sp vs H Q E → vs.length = ps.length)
    (imp : ∀ vs H Q E, sp' vs H Q E → sp (vs ++ dvs') H Q E)
    (hbody : ∀ (cdv : Value) (A : Around) (outer : List Env) (s : Shared) (H : Hp) (vs : List V) (Q : VK) (E : XK), Room k (A.deeper (envOfC qual (defScope st) s.heap.objs.size f cdv)) → sp vs H Q E →
      ∃ t, PSs (cxOf CX0 P w K mg base N qual (defScope st) f cdv A outer s H E).nox (defBody st) t ∧ t { nx := fun _ H' => Q .non H', rt := Q } (start N vs) H) : FnR P w K mg base CX0 (k + 1) f sp' :=
  ((F.ok (CX := CX0) S len fun cdv A outer s H vs Q E hr h => let ⟨t, h1, h2⟩ := hbody cdv A outer s H vs Q E hr h; ⟨t, h1.nox, h2⟩).raw b d).imp imp
end
/-- names of built-ins that the module doesn't bind -/
structure Bi (mg : Str → Option Value) : Prop where
  len : mg "len" = none
  abs : mg "abs" = none
  int : mg "int" = none
  bool : mg "bool" = none
  max : mg "max" = none
  min : mg "min" = none
  range : mg "range" = none
  all : mg "all" = none
  any : mg "any" = none
  isinstance : mg "isinstance" = none
/-! ### heaps -/
/-- all but what stands at p is as it was -/
def Ch (p : Addr) (H H' : Hp) : Prop := ∀ b o, b ≠ p → H b = some o → H' b = some o
theorem Ch.refl {p : Addr} {H : Hp} : Ch p H H := fun _ _ _ h => h
theorem Ch.trans {p : Addr} {H H1 H2 : Hp} (a : Ch p H H1) (b : Ch p H1 H2) : Ch p H H2 := fun c o n h => b c o n (a c o n h)
theorem Ch.of {p : Addr} {H H' : Hp} (h : Same H H') : Ch p H H' := fun b o _ e => h b o e
theorem Ch.upd {p : Addr} {H : Hp} {o : HO} : Ch p H (L2.upd H p o) := fun b u n e => by rw [upd_ne n]; exact e
theorem Same.new {H : Hp} {p : Addr} {o : HO} (h : H p = none) : Same H (upd H p o) := fun b u e => by rw [upd_ne (ne_of_none e h)]; exact e
theorem Ch.new {q p : Addr} {H : Hp} {o : HO} (h : H p = none) : Ch q H (L2.upd H p o) := Ch.of (Same.new h)
theorem Ch.free {p q : Addr} {H H' : Hp} (c : Ch p H H') (n : q ≠ p) (h : H' q = none) : H q = none := by
  cases e : H q with
  | none => rfl
  | some o => rw [c q o n e] at h; cases h
/-- a fresh instance is laid, then filled by its __init__ -/
theorem Same.mk {H H1 : Hp} {x dx C : Addr} (nx : H x = none) (nd : H dx = none) (k : ∀ b o, (upd (upd H dx (.own x)) x (.ins C dx [])) b = some o → b ≠ x → H1 b = some o) : Same H H1 := fun b o e =>
  k b o (by rw [upd_ne (ne_of_none e nx), upd_ne (ne_of_none e nd)]; exact e) (ne_of_none e nx)
/-! ### fields -/
theorem lk_here {k : Str} {v : V} {r : List (Str × V)} : List.lookup k ((k, v) :: r) = some v := by
  have e : (k == k) = true := beq_self_eq_true k
  simp only [List.lookup, e]
theorem lk_past {k g : Str} {v : V} {r : List (Str × V)} (h : (k == g) = false) : List.lookup k ((g, v) :: r) = List.lookup k r := by
  simp only [List.lookup, h]
theorem put_here {f : Str} {v x : V} {r : List (Str × V)} : putF f v ((f, x) :: r) = (f, v) :: r := if_pos rfl
theorem put_past {f g : Str} {v x : V} {r : List (Str × V)} (h : ¬ g = f) : putF f v ((g, x) :: r) = (g, x) :: putF f v r := if_neg h
end Ws
namespace Ws
theorem ifT {c : Bool} {A B : Prop} (hc : c = true) (h : A) : if c = true then A else B := by rw [if_pos hc]; exact h
theorem ifF {c : Bool} {A B : Prop} (hc : c = false) (h : B) : if c = true then A else B := by rw [hc, if_neg Bool.false_ne_true]; exact h
theorem if2 {c : Bool} {A B : Prop} (h1 : c = true → A) (h2 : c = false → B) : if c = true then A else B := by
  cases c with
  | true => exact ifT rfl (h1 rfl)
  | false => exact ifF rfl (h2 rfl)
end Ws
namespace Ws
open PySem PySem.Spec PyProof.Rows L2
section
variable {X : Cx} {CX : CXT} {k n : Nat} {f C : Addr} {fd : FuncData} {ps ks : List Str} {sp : Sp} {E : XK} {m : Str} {pos apos : Pos} {e o : Expr} {kws : List Keyword} {ta : TE} {tk : TA} {g : List Value → List Value → List Value} {gV : List V → List V → List V}
/-- o.m(k = v, ..) -/
def tMtK (C : Addr) (m : Str) (n : Nat) (sp : Sp) (gV : List V → List V → List V) (E : XK) (ta : TE) (tk : TA) : TE := fun σ H Q => ta σ H fun x H1 => ∃ a dx fs, x = .ref a ∧ H1 a = some (.ins C dx fs) ∧ fs.lookup m = none ∧ tk σ H1 fun zs H2 => zs.length = n ∧ sp (gV [x] zs) H2 Q E
theorem pe_mtK0 {pl : Sem Bool} (c : Cls X.K C) (hm : Meth X.K C m f) (F : FnOk X.prog X.w X.K X.mg X.base CX k f fd ps sp) (hr : Room k X.A) (hb : KBn X.K fd ps 1 ks g gV) (hx : Passes CX X E) (he : PE X o ta) (hkw : PK X kws tk)
    (hall : (backToKw pos (keywordEach kws X.env)).all (·.1.isSome) = true := by rfl) (hks : (backToKw pos (keywordEach kws X.env)).filterMap (·.1) = ks := by rfl)
    (hpl : ((backTo pos (starEach [] X.env)).any (·.1) || (backToKw pos (keywordEach kws X.env)).any (·.1.isNone)) = false := by rfl)
    (ht : eval (.Call (.Attribute o m apos) [] kws pos) X.env = (do
      let ov ← eval o X.env
      standAt apos.atName
      let (f, first) ← holding [ov] (getMethod ov m pl)
      callWith pos f first (backTo pos (starEach [] X.env)) (backToKw pos (keywordEach kws X.env))) := by rfl) :
    PE X (.Call (.Attribute o m apos) [] kws pos) (tMtK C m ks.length sp gV E ta tk) := by
  refine ⟨fun pins s σ H Q I h => ?_⟩
  refine PySem.W.methodCall_KW (pl := pl) (thn (he.run pins s σ H _ I h) fun u s1 ⟨x, H1, I1, rx, a, dx, fs, ex, ea, l, q⟩ => ?_) ht
  subst ex
  obtain rfl : u = Value.ref a := rx
  refine getmeth_ok I1 ea c hm l ?_
  refine PySem.W.callWith_KW0 (first := [.ref a]) (h₀ := X.base) I.ok.mod.kin hm.kp hall ?_ hpl
  refine thn (hkw.run pos pins s1 σ H1 _ I1 q) fun ws s2 ⟨zs, H2, I2, rz, l2, q2⟩ => ⟨I2.kIn, ?_⟩
  rw [hks]
  exact run_fnN (us := [.ref a]) (vs := [.ref a]) F hr hb hx I2 (.cons rfl .nil) rz rfl l2 q2
end
end Ws
namespace Ws
theorem bit_lo (c : Bool) : -(2 ^ 64) < (if c = true then (1 : Int) else 0) ∧ (if c = true then (1 : Int) else 0) < 2 ^ 64 := by cases c <;> decide
theorem bit_nn (c : Bool) : 0 ≤ (if c = true then (1 : Int) else 0) := by cases c <;> decide
end Ws
namespace Ws
open PySem
theorem kit_self {K : PySem.W.Frag} (t : Value) : PySem.W.kitOne K t t = some true := by
  unfold PySem.W.kitOne
  rw [if_pos (by simp)]
end Ws

namespace Ws
/-! ### fractions in lowest terms -/
def gI (t b : Int) : Int := ((Nat.gcd t.natAbs b.natAbs : Nat) : Int)
def gS (t b : Int) : Int := if b < 0 then -(gI t b) else gI t b
def nT (t b : Int) : Int := t.fdiv (gS t b)
def nB (t b : Int) : Int := b.fdiv (gS t b)
theorem gI_pos {t b : Int} (hb : b ≠ 0) : 0 < gI t b := by
  have : 0 < Nat.gcd t.natAbs b.natAbs := Nat.gcd_pos_of_pos_right _ (by omega)
  unfold gI; omega
theorem gS_ne {t b : Int} (hb : b ≠ 0) : gS t b ≠ 0 := by
  have := gI_pos (t := t) hb
  unfold gS; split <;> omega
/-- the reduced pair -/
structure Low (t b p q : Int) : Prop where
  pos : 0 < q
  cross : p * b = t * q
  cop : Nat.gcd p.natAbs q.natAbs = 1
theorem nf_parts {t b : Int} (hb : b ≠ 0) : ∃ t' b' : Int, t = gI t b * t' ∧ b = gI t b * b' ∧ Nat.gcd t'.natAbs b'.natAbs = 1 ∧ b' ≠ 0 := by
  have hg := gI_pos (t := t) hb
  have h1 : gI t b ∣ t := by
    have : Nat.gcd t.natAbs b.natAbs ∣ t.natAbs := Nat.gcd_dvd_left _ _
    have := Int.ofNat_dvd.mpr this
    exact Int.dvd_natAbs.mp this
  have h2 : gI t b ∣ b := by
    have : Nat.gcd t.natAbs b.natAbs ∣ b.natAbs := Nat.gcd_dvd_right _ _
    have := Int.ofNat_dvd.mpr this
    exact Int.dvd_natAbs.mp this
  obtain ⟨t', e1⟩ := h1
  obtain ⟨b', e2⟩ := h2
  refine ⟨t', b', e1, e2, ?_, ?_⟩
  · have e3 : t.natAbs = (gI t b).natAbs * t'.natAbs := by rw [← Int.natAbs_mul, ← e1]
    have e4 : b.natAbs = (gI t b).natAbs * b'.natAbs := by rw [← Int.natAbs_mul, ← e2]
    have e5 : Nat.gcd t.natAbs b.natAbs = (gI t b).natAbs := by unfold gI; simp
    rw [e3, e4, Nat.gcd_mul_left] at e5
    have h0 : 0 < (gI t b).natAbs := by omega
    exact Nat.eq_of_mul_eq_mul_left h0 (by rw [e5, Nat.mul_one])
  · intro z
    rw [z, Int.mul_zero] at e2
    exact hb e2
theorem nf_vals {t b : Int} (hb : b ≠ 0) : ∃ t' b' : Int, t = gI t b * t' ∧ b = gI t b * b' ∧ Nat.gcd t'.natAbs b'.natAbs = 1 ∧ b' ≠ 0 ∧ nT t b = (if b < 0 then -t' else t') ∧ nB t b = (if b < 0 then -b' else b') ∧ (b < 0 ↔ b' < 0) := by
  obtain ⟨t', b', e1, e2, hc, h0⟩ := nf_parts (t := t) hb
  have hg := gI_pos (t := t) hb
  have hs : b < 0 ↔ b' < 0 := by
    constructor
    · intro h
      apply Int.lt_of_not_ge
      intro h2
      have : 0 ≤ gI t b * b' := Int.mul_nonneg (by omega) h2
      omega
    · intro h
      have : gI t b * b' < gI t b * 0 := Int.mul_lt_mul_of_pos_left h hg
      omega
  refine ⟨t', b', e1, e2, hc, h0, ?_, ?_, hs⟩
  · unfold nT gS
    split
    · generalize gI t b = g at *
      subst e1
      rw [show g * t' = -g * -t' by grind, Int.mul_fdiv_cancel_left _ (by omega)]
    · generalize gI t b = g at *
      subst e1
      rw [Int.mul_fdiv_cancel_left _ (by omega)]
  · unfold nB gS
    split
    · generalize gI t b = g at *
      rw [e2, show g * b' = -g * -b' by grind, Int.mul_fdiv_cancel_left _ (by omega)]
    · generalize gI t b = g at *
      rw [e2, Int.mul_fdiv_cancel_left _ (by omega)]
theorem nf_low {t b : Int} (hb : b ≠ 0) : Low t b (nT t b) (nB t b) := by
  obtain ⟨t', b', e1, e2, hc, h0, eT, eB, hs⟩ := nf_vals (t := t) hb
  generalize gI t b = g at *
  rw [eT, eB]
  split
  · rename_i h
    have := hs.mp h
    refine ⟨by omega, by grind, by simpa using hc⟩
  · rename_i h
    have : ¬ b' < 0 := fun z => h (hs.mpr z)
    exact ⟨by omega, by grind, hc⟩
theorem nf_le {t b : Int} (hb : b ≠ 0) : (nT t b).natAbs ≤ t.natAbs ∧ (nB t b).natAbs ≤ b.natAbs := by
  obtain ⟨t', b', e1, e2, hc, h0, eT, eB, hs⟩ := nf_vals (t := t) hb
  have hg := gI_pos (t := t) hb
  have e3 : t.natAbs = (gI t b).natAbs * t'.natAbs := by rw [← Int.natAbs_mul, ← e1]
  have e4 : b.natAbs = (gI t b).natAbs * b'.natAbs := by rw [← Int.natAbs_mul, ← e2]
  have h0 : 1 ≤ (gI t b).natAbs := by omega
  have k1 : t'.natAbs ≤ t.natAbs := by rw [e3]; exact Nat.le_mul_of_pos_left _ h0
  have k2 : b'.natAbs ≤ b.natAbs := by rw [e4]; exact Nat.le_mul_of_pos_left _ h0
  rw [eT, eB]
  by_cases h : b < 0
  · rw [if_pos h, if_pos h]
    constructor <;> omega
  · rw [if_neg h, if_neg h]
    exact ⟨k1, k2⟩
theorem low_uniq {p q r s : Int} (h : p * s = r * q) (hq : 0 < q) (hs : 0 < s) (h1 : Nat.gcd p.natAbs q.natAbs = 1) (h2 : Nat.gcd r.natAbs s.natAbs = 1) : p = r ∧ q = s := by
  have e : p.natAbs * s.natAbs = r.natAbs * q.natAbs := by rw [← Int.natAbs_mul, ← Int.natAbs_mul, h]
  have d1 : q.natAbs ∣ s.natAbs := by
    have c : Nat.Coprime q.natAbs p.natAbs := by rw [Nat.coprime_comm]; exact h1
    exact c.dvd_of_dvd_mul_left ⟨r.natAbs, by rw [e, Nat.mul_comm]⟩
  have d2 : s.natAbs ∣ q.natAbs := by
    have c : Nat.Coprime s.natAbs r.natAbs := by rw [Nat.coprime_comm]; exact h2
    exact c.dvd_of_dvd_mul_left ⟨p.natAbs, by rw [← e, Nat.mul_comm]⟩
  have e2 : q.natAbs = s.natAbs := Nat.dvd_antisymm d1 d2
  have e3 : q = s := by omega
  subst e3
  exact ⟨Int.eq_of_mul_eq_mul_right (by omega) h, rfl⟩
/-- a reduced pair is the reduced pair of anything that it crosses with -/
theorem Low.eq {t b p q c d r s : Int} (h : Low t b p q) (h' : Low c d r s) (hb : b ≠ 0) (hd : d ≠ 0) (e : t * d = c * b) : p = r ∧ q = s := by
  refine low_uniq ?_ h.pos h'.pos h.cop h'.cop
  have e1 := h.cross
  have e2 := h'.cross
  have : (p * s) * (b * d) = (r * q) * (b * d) := by grind
  exact Int.eq_of_mul_eq_mul_right (Int.mul_ne_zero hb hd) this
theorem Low.ne {t b p q c d r s : Int} (h : Low t b p q) (h' : Low c d r s) (hb : b ≠ 0) (hd : d ≠ 0) (e : t * d ≠ c * b) : ¬ (p = r ∧ q = s) := by
  rintro ⟨rfl, rfl⟩
  refine e ?_
  have e1 := h.cross
  have e2 := h'.cross
  have : (t * d) * q = (c * b) * q := by grind
  exact Int.eq_of_mul_eq_mul_right (by have := h.pos; omega) this
theorem nf_eq {t b c d : Int} (hb : b ≠ 0) (hd : d ≠ 0) (e : t * d = c * b) : nT t b = nT c d ∧ nB t b = nB c d := (nf_low hb).eq (nf_low hd) hb hd e
theorem nf_ne {t b c d : Int} (hb : b ≠ 0) (hd : d ≠ 0) (e : t * d ≠ c * b) : ¬ (nT t b = nT c d ∧ nB t b = nB c d) := (nf_low hb).ne (nf_low hd) hb hd e
/-- the law's own reckoning -/
theorem nf_least {t b : Int} (hb : b ≠ 0) : ((if b < 0 then -1 else 1) * t) / gI t b = nT t b ∧ (if b < 0 then -b else b) / gI t b = nB t b := by
  obtain ⟨t', b', e1, e2, hc, h0, eT, eB, hs⟩ := nf_vals (t := t) hb
  have hg := gI_pos (t := t) hb
  rw [eT, eB]
  generalize gI t b = g at *
  subst e1
  split
  · refine ⟨?_, ?_⟩
    · rw [show -1 * (g * t') = g * -t' by grind, Int.mul_ediv_cancel_left _ (by omega)]
    · rw [e2, show -(g * b') = g * -b' by grind, Int.mul_ediv_cancel_left _ (by omega)]
  · refine ⟨?_, ?_⟩
    · rw [Int.one_mul, Int.mul_ediv_cancel_left _ (by omega)]
    · rw [e2, Int.mul_ediv_cancel_left _ (by omega)]
/-- one turn of Euclid's loop -/
theorem gcd_turn {a b : Int} (ha : 0 ≤ a) (hb : 0 < b) : Nat.gcd b.natAbs (a % b).natAbs = Nat.gcd a.natAbs b.natAbs := by
  rw [Int.natAbs_emod_of_nonneg ha, Nat.gcd_comm a.natAbs, Nat.gcd_rec b.natAbs a.natAbs, Nat.gcd_comm]
/-! ### sizes -/
/-- less than n bits -/
def Sz (n : Nat) (i : Int) : Prop := i.natAbs < 2 ^ n
theorem Sz.mono {n m : Nat} {i : Int} (h : Sz n i) (hm : n ≤ m) : Sz m i := Nat.lt_of_lt_of_le h (Nat.pow_le_pow_right (by decide) hm)
theorem Sz.mul {n m : Nat} {i j : Int} (h : Sz n i) (h' : Sz m j) : Sz (n + m) (i * j) := by
  unfold Sz at *
  rw [Int.natAbs_mul, Nat.pow_add]
  exact Nat.mul_lt_mul'' h h'
theorem Sz.add {n : Nat} {i j : Int} (h : Sz n i) (h' : Sz n j) : Sz (n + 1) (i + j) := by
  unfold Sz at *
  rw [Nat.pow_succ]
  omega
theorem Sz.sub {n : Nat} {i j : Int} (h : Sz n i) (h' : Sz n j) : Sz (n + 1) (i - j) := by
  unfold Sz at *
  rw [Nat.pow_succ]
  omega
theorem Sz.neg {n : Nat} {i : Int} (h : Sz n i) : Sz n (-i) := by
  unfold Sz at *
  omega
theorem Sz.nT {n : Nat} {t b : Int} (hb : b ≠ 0) (h : Sz n t) : Sz n (nT t b) := Nat.lt_of_le_of_lt (nf_le hb).1 h
theorem Sz.nB {n : Nat} {t b : Int} (hb : b ≠ 0) (h : Sz n b) : Sz n (nB t b) := Nat.lt_of_le_of_lt (nf_le hb).2 h
theorem Sz.gI {n : Nat} {t b : Int} (hb : b ≠ 0) (h : Sz n b) : Sz n (gI t b) := by
  refine Nat.lt_of_le_of_lt ?_ h
  unfold Ws.gI
  exact Nat.le_of_dvd (by omega) (Nat.gcd_dvd_right _ _)
theorem Sz.of_abs {n : Nat} {i : Int} (h : i.natAbs < 2 ^ n) : Sz n i := h
end Ws
namespace Ws
/-- a reduced pair is that of any other pair that crosses with the first one -/
theorem Low.base {t b p q c d : Int} (h : Low t b p q) (hb : b ≠ 0) (e : t * d = c * b) : Low c d p q := by
  refine ⟨h.pos, ?_, h.cop⟩
  have e1 := h.cross
  have : (p * d) * b = (c * q) * b := by grind
  exact Int.eq_of_mul_eq_mul_right hb this
theorem Low.nf {t b p q : Int} (h : Low t b p q) (hb : b ≠ 0) : p = nT t b ∧ q = nB t b := h.eq (nf_low hb) hb hb rfl
theorem Low.szT {t b p q : Int} {n : Nat} (h : Low t b p q) (hb : b ≠ 0) (z : Sz n t) : Sz n p := by rw [(h.nf hb).1]; exact z.nT hb
theorem Low.szB {t b p q : Int} {n : Nat} (h : Low t b p q) (hb : b ≠ 0) (z : Sz n b) : Sz n q := by rw [(h.nf hb).2]; exact z.nB hb
theorem Low.zero {t b p q : Int} (h : Low t b p q) (hb : b ≠ 0) : p = 0 ↔ t = 0 := by
  have e := h.cross
  have hq := h.pos
  constructor
  · intro z
    rw [z, Int.zero_mul] at e
    rcases Int.mul_eq_zero.mp e.symm with z | z
    · exact z
    · omega
  · intro z
    rw [z, Int.zero_mul] at e
    rcases Int.mul_eq_zero.mp e with z | z
    · exact z
    · exact absurd z hb
theorem Low.self {t b p q : Int} (h : Low t b p q) (hb : b ≠ 0) : Low p q p q := ⟨h.pos, rfl, h.cop⟩
end Ws

namespace Ws
open PySem PySem.W PySem.Calls PyProof.Rows
/-- what a class with an own __eq__ and no __ne__ must be -/
structure NeC (K : Frag) (C : Addr) : Prop where
  ne : findIn K (.ref C) "__ne__" = some (some (.builtin "object.__ne__"))
  obj : ∃ (nm q : Str) (N : Addr) (bs bm : List Value) (hd : Bool) (sn : List Str) (sub : List Value) (ab : Bool) (col : Option Bool) (dd : Option Addr) (k0 k1 k2 k3 k5 : Option Value) (nid : String),
    K.lookup C = some (excClassObj nm q C N bs bm hd sn sub ab col dd k0 k1 k2 k3 k5 nid) ∧ bm.contains (.type "object") = true
section
variable {prog : Program} {w : World} {A : Around} {E : Value → Shared → Prop} {s : Shared} {K : Frag} {x C L f : Addr} {h₀ : Heap} {m : Str → Option Value} {ox : Obj} {od : Option Obj} {b tb : Value}
theorem ifBound_B {M : Model} {args : List Value} {Q : Option Value → Shared → Prop} (X : K.In s.heap) (I : InstAt s.heap x ox C od) (hs : findIn K (.ref C) "__ne__" = some (some (.builtin "object.__ne__")))
    (h : wpAny M A (call (.builtin "object.__ne__") (.ref x :: args)) (fun v => Q (some v)) E s) : wpAny M A (callSpecialIfBound? (.ref x) "__ne__" args) Q E s := by
  simp only [callSpecialIfBound?, bindSpecialIfBound?]
  refine wpAny_holding (wpAny_bind (wpAny_bind (wpAny_bind (I.type.here ((looks_findIn X hs).here ?_)))))
  dsimp only
  simp only [PySem.F.cmp_object.ne.bind]
  have fin : wpAny M A (call (.builtin "object.__ne__") ([.ref x] ++ args) >>= fun v => pure (some v)) Q E s := wpAny_bind (wpAny_mono h (fun v s' h' => wpAny_pure h') fun _ _ h' => h')
  refine wpAny_bind (wpAny_askSetting (wpAny_ite ?_))
  split
  · exact wpAny_bind (wpAny_pure (wpAny_pure (by exact fin)))
  · exact wpAny_tryCatch (wpAny_bind (wpAny_pure (wpAny_pure (by exact fin))))
theorem objNe_K (hu : A.units < cLine) (X : K.In s.heap) (I : InstAt s.heap x ox C od) (hs : findIn K (.ref C) "__eq__" = some (some (.ref f))) (hf : isFn K (.ref f) = true) {Q : Fin → Shared → Prop}
    (hcall : wpAny (model prog w) A (call (.ref f) [.ref x, b]) (fun v s' => ∃ r, v = .bool r ∧ Q (.done (.ret (.bool (!r)))) s') E s) : wpAny (model prog w) A (Builtin.«object.__ne__» ⟨[.ref x, b], []⟩) Q E s := by
  obtain ⟨h, g, d, t, os⟩ := s
  unfold Builtin.«object.__ne__»
  repeat (first
    | with_reducible refine wpAny_cRoomFor hu ?_
    | (refine wpAny_bind (m := callSpecialIfBound? (.ref x) (Str.ofString "__eq__") [b])
        (ifBound_K X I hs hf (wpAny_mono hcall (fun r s' hr => by
          obtain ⟨r, rfl, hq⟩ := hr
          repeat (first | exact hq | exact wpAny_pure hq | exact wpAny_truthy_bool hq | (refine wpAny_bind (m := truthy (.bool _)) (wpAny_truthy_bool ?_)) | wp_step)) fun _ _ e => e)))
    | wp_step)
theorem ne_K (N : NeC K C) (hu : A.units + 1 < cLine) (F : Fr h₀ L s.heap m) (X₀ : K.In h₀) (I : InstAt s.heap x ox C od) (hb : Looks (model prog w) s.heap (typeOf b) tb) (hn : notFirst K C tb = true)
    (hs : findIn K (.ref C) "__eq__" = some (some (.ref f))) (hf : isFn K (.ref f) = true) {Q : Value → Shared → Prop}
    (h : wpAny (model prog w) A.in1 (call (.ref f) [.ref x, b]) (fun v s' => ∃ r, v = .bool r ∧ Q (.bool (!r)) s') E s) : wpAny (model prog w) A (compareOp .NotEq (.ref x) b) Q E s := by
  have X := X₀.keeps F.keep
  obtain ⟨hne, nm, q, N, bs, bm, hd, sn, sub, ab, col, dd, k0, k1, k2, k3, k5, nid, hC, hbm⟩ := N
  have one : wpAny (model prog w) A (tryCompare (.ref x) "__ne__" b) (fun r s' => ∃ v, r = some v ∧ Q v s') E s := by
    unfold tryCompare
    refine wpAny_bind (ifBound_B X I hne (wpAny_call (codeAny_call_builtin PySem.F.cmp_object.ne.plain PySem.F.cmpEntry_ne ?_)))
    obtain ⟨hh, g, d, t, os⟩ := s
    refine wpAny_check_slot_inst PySem.F.cmpKind_ne PySem.F.cmpSplit_ne (PySem.F.cmpArgs_ne _ _) hbm I.at_ I.cls (X _ _ hC) ?_
    refine objNe_K (A := A.in1) (Nat.lt_of_succ_lt_succ (Nat.succ_lt_succ hu)) X I hs hf (wpAny_mono h (fun v s' hv => ?_) fun _ _ e => e)
    obtain ⟨r, rfl, hq⟩ := hv
    first
      | exact ⟨r, rfl, wpAny_pure ⟨_, rfl, hq⟩⟩
      | exact ⟨r, rfl, wpAny_pure (wpAny_pure ⟨_, rfl, hq⟩)⟩
  show wpAny (model prog w) A (richCompare .NotEq (.ref x) b) Q E s
  unfold richCompare
  simp only [oneThing_ref]
  refine wpAny_holding (wpAny_bind (wpAny_cRoomFor (Nat.lt_of_succ_lt hu) ?_))
  rw [cmpInfo_NotEq]
  dsimp only
  refine wpAny_bind (I.type.here (wpAny_bind (hb.here ?_)))
  split
  · rename_i q
    have e : subIn K tb (.ref C) = some false := by
      rcases Bool.or_eq_true_iff.mp hn with e | e
      · rw [beq_iff_eq.mp e] at q; simp at q
      · exact beq_iff_eq.mp e
    refine wpAny_bind ((looks_subIn X e).here ?_)
    simp only [Bool.false_eq_true, if_false]
    refine wpAny_bind (wpAny_mono one (fun r s' z => ?_) fun _ _ e => e)
    obtain ⟨v, rfl, hq⟩ := z
    exact wpAny_pure hq
  · refine wpAny_bind (wpAny_pure ?_)
    simp only [Bool.false_eq_true, if_false]
    refine wpAny_bind (wpAny_mono one (fun r s' z => ?_) fun _ _ e => e)
    obtain ⟨v, rfl, hq⟩ := z
    exact wpAny_pure hq
end
end Ws
namespace Ws
open PySem PySem.Spec PyProof.Rows L2
section
variable {X : Cx} {k j : Nat} {C : Addr} {sp : Sp}
/-- the callee runs one call further in -/
theorem run_in1 {f : Addr} {pins : List (Addr × Obj)} {σ : L2.St} {H : Hp} {s : Shared} {Q : VK} {us : List Value} {vs : List V} {Ex : Value → Shared → Prop} (F : FnR X.prog X.w X.K X.mg X.base CX0 k f sp) (hr : Room (k + 1) X.A) (I : Inv X pins σ H s) (r : Vals vs us) (h : sp vs H Q E0) :
    wpAny (model X.prog X.w) X.A.in1 (call (.ref f) us) (EP X pins σ Q) Ex s := by
  refine wpAny_call (codeAny_mono (F X.A.in1 X.stack s H us vs Q E0 hr.in1 I.env0.in1 r h) fun r s' hq => ?_)
  cases r with
  | error er => exact hq.elim
  | ok fl =>
    cases fl with
    | ret u => exact I.after hq
    | next => exact False.elim hq
    | brk => exact False.elim hq
    | cont => exact False.elim hq
/-- a != b by a's own __eq__ -/
def rNeO (K : PySem.W.Frag) (C : Addr) (sp : Sp) : R2 := fun x y H Q => ∃ a dx fs t, x = .ref a ∧ H a = some (.ins C dx fs) ∧ TyL H y t ∧ PySem.W.notFirst K C t = true ∧ sp [.ref a, y] H (fun v H' => ∃ r, v = .bl r ∧ Q (.bl (!r)) H') E0
theorem op_neO (N : NeC X.K C) (c : OpnF X.prog X.w X.K X.mg X.base k C "__eq__" sp) (hr : Room j X.A) (hk : k + 1 ≤ j) : OpR X (compareOp .NotEq) (rNeO X.K C sp) := by
  obtain ⟨f, h1, h2, F⟩ := c
  intro pins s σ H x y v u Q I rx ry h
  obtain ⟨a, dx, fs, t, rfl, ea, ty, nf, q⟩ := h
  cases (show v = Value.ref a from rx)
  obtain ⟨ox, od, J⟩ := inst_of I ea
  obtain ⟨m, hF⟩ := I.fr
  refine ne_K N (hu_of hr) hF I.ok.mod.kin J (ty.looks I ry) nf h1 h2 ?_
  refine wpAny_mono (run_in1 (us := [.ref a, u]) (vs := [.ref a, y]) F (hr.mono hk) I (.cons rfl (.cons ry .nil)) q) (fun v s' hv => ?_) fun _ _ z => z
  obtain ⟨z, H', I', rz, r, rfl, q'⟩ := hv
  cases (show v = Value.bool r from rz)
  exact ⟨r, rfl, .bl _, H', I', rfl, q'⟩
end
/-- isinstance with a class of one's own, answered no -/
theorem kit_no {K : PySem.W.Frag} {t : Value} {D : Addr} (h1 : PySem.W.isClsIn K D = true) (h2 : PySem.W.typeIn K (.ref D) = some (.type "type")) (h3 : PySem.W.subIn K t (.ref D) = some false) (h4 : t ≠ .ref D) : PySem.W.kitOne K t (.ref D) = some false := by
  have e : (t == Value.ref D) = false := by
    cases h : (t == Value.ref D) with
    | false => rfl
    | true => exact absurd (eq_of_beq h) h4
  have e2 : ((PySem.W.clsIn K D).isSome && PySem.W.typeIn K (.ref D) == some (.type "type")) = true := by
    have h1' : (PySem.W.clsIn K D).isSome = true := h1
    rw [h1', h2] <;> rfl
  unfold PySem.W.kitOne
  rw [e, if_neg Bool.false_ne_true]
  show (if ((PySem.W.clsIn K D).isSome && PySem.W.typeIn K (.ref D) == some (.type "type")) = true then PySem.W.subIn K t (.ref D) else none) = some false
  rw [if_pos e2, h3]
end Ws

namespace Ws
open PySem PySem.Spec PyProof.Rows L2
section
variable {K : PySem.W.Frag} {a : Addr} {xs : List V} {g : TG} {te : TE} {vs : List Nat} {σ : L2.St} {H1 : Hp} {D : Addr} {Qd : Hp → Prop}
/-- a comprehension without a test: what is made so far stands at D, J tells of it -/
def PvJ (D : Addr) (J : Nat → List V → Hp → Prop) : Nat → Hp → Prop := fun i H => ∃ acc, acc.length = i ∧ H D = some (.lst acc) ∧ J i acc H
theorem step_J {J : Nat → List V → Hp → Prop} {i : Nat} {x : V} {H : Hp} (hz : i < sizeLine) (h : PvJ D J i H)
    (hs : ∀ acc, J i acc H → H D = some (.lst acc) → acc.length = i → ∀ Qn : VK, (∀ y H4, H4 D = some (.lst acc) → J (i + 1) (acc ++ [y]) (upd H4 D (.lst (acc ++ [y]))) → Qn y H4) → g x (wipe σ vs) H fun σ2 H2 => wipe σ2 vs = wipe σ vs ∧ te σ2 H2 Qn) :
    g x (wipe σ vs) H fun σ2 H2 => wipe σ2 vs = wipe σ vs ∧ tYes σ2 H2 fun b H3 => if b = true then te σ2 H3 fun y H4 => ∃ acc, H4 D = some (.lst acc) ∧ acc.length < sizeLine ∧ PvJ D J (i + 1) (upd H4 D (.lst (acc ++ [y]))) else PvJ D J (i + 1) H3 := by
  obtain ⟨acc, hl, hD, j⟩ := h
  have := hs acc j hD hl (fun y H4 => ∃ acc, H4 D = some (.lst acc) ∧ acc.length < sizeLine ∧ PvJ D J (i + 1) (upd H4 D (.lst (acc ++ [y])))) fun y H4 e jj => ⟨acc, e, by rw [hl]; exact hz, acc ++ [y], by rw [List.length_append, hl] <;> rfl, upd_same, jj⟩
  have e : (fun (σ2 : L2.St) (H2 : Hp) => wipe σ2 vs = wipe σ vs ∧ tYes σ2 H2 fun b H3 => if b = true then te σ2 H3 fun y H4 => ∃ acc, H4 D = some (.lst acc) ∧ acc.length < sizeLine ∧ PvJ D J (i + 1) (upd H4 D (.lst (acc ++ [y]))) else PvJ D J (i + 1) H3)
      = fun σ2 H2 => wipe σ2 vs = wipe σ vs ∧ te σ2 H2 fun y H4 => ∃ acc, H4 D = some (.lst acc) ∧ acc.length < sizeLine ∧ PvJ D J (i + 1) (upd H4 D (.lst (acc ++ [y]))) := by
    funext σ2 H2
    show (wipe σ2 vs = wipe σ vs ∧ (if true = true then (te σ2 H2 fun y H4 => ∃ acc, H4 D = some (.lst acc) ∧ acc.length < sizeLine ∧ PvJ D J (i + 1) (upd H4 D (.lst (acc ++ [y])))) else PvJ D J (i + 1) H2)) = _
    rw [if_pos rfl]
  rw [e]
  exact this
theorem lcT (J : Nat → List V → Hp → Prop) (h0 : J 0 [] (upd H1 D (.lst []))) (hl : ∀ i acc H, J i acc H → SqT K H a xs) (hz : xs.length < sizeLine)
    (hs : ∀ i x H acc, xs[i]? = some x → J i acc H → H D = some (.lst acc) → acc.length = i → ∀ Qn : VK, (∀ y H4, H4 D = some (.lst acc) → J (i + 1) (acc ++ [y]) (upd H4 D (.lst (acc ++ [y]))) → Qn y H4) → g x (wipe σ vs) H fun σ2 H2 => wipe σ2 vs = wipe σ vs ∧ te σ2 H2 Qn)
    (hd : ∀ ys H, J xs.length ys H → H D = some (.lst ys) → ys.length = xs.length → Qd H) :
    ∃ W : Nat → Nat → Hp → Prop, (∃ m, W 0 m (upd H1 D (.lst []))) ∧ ∀ i m H, W i m H →
      ((Itt K a).stop i H ∧ Qd H) ∨ ((Itt K a).go i H ∧ ∃ Nx : Hp → Prop, (∀ H', Nx H' → ∃ m', m' < m ∧ W (i + 1) m' H') ∧ ∀ x H', (Itt K a).yld i H x H' → g x (wipe σ vs) H' fun σ2 H2 => wipe σ2 vs = wipe σ vs ∧ tYes σ2 H2 fun b H3 =>
        if b = true then te σ2 H3 fun y H4 => ∃ acc, H4 D = some (.lst acc) ∧ acc.length < sizeLine ∧ Nx (upd H4 D (.lst (acc ++ [y]))) else Nx H3) :=
  lc_tup (K := K) (a := a) (xs := xs) (PvJ D J) ⟨[], rfl, upd_same, h0⟩ (fun i H _ h => let ⟨acc, _, _, j⟩ := h; hl i acc H j)
    (fun i x H hx h => step_J (Nat.lt_trans (List.getElem?_eq_some_iff.mp hx).1 hz) h fun acc j e l => hs i x H acc hx j e l) fun H h => let ⟨ys, l, e, j⟩ := h; hd ys H j e l
theorem lcL (J : Nat → List V → Hp → Prop) (h0 : J 0 [] (upd H1 D (.lst []))) (hl : ∀ i acc H, J i acc H → SqL K H a xs) (hz : xs.length < sizeLine)
    (hs : ∀ i x H acc, xs[i]? = some x → J i acc H → H D = some (.lst acc) → acc.length = i → ∀ Qn : VK, (∀ y H4, H4 D = some (.lst acc) → J (i + 1) (acc ++ [y]) (upd H4 D (.lst (acc ++ [y]))) → Qn y H4) → g x (wipe σ vs) H fun σ2 H2 => wipe σ2 vs = wipe σ vs ∧ te σ2 H2 Qn)
    (hd : ∀ ys H, J xs.length ys H → H D = some (.lst ys) → ys.length = xs.length → Qd H) :
    ∃ W : Nat → Nat → Hp → Prop, (∃ m, W 0 m (upd H1 D (.lst []))) ∧ ∀ i m H, W i m H →
      ((Itl K a).stop i H ∧ Qd H) ∨ ((Itl K a).go i H ∧ ∃ Nx : Hp → Prop, (∀ H', Nx H' → ∃ m', m' < m ∧ W (i + 1) m' H') ∧ ∀ x H', (Itl K a).yld i H x H' → g x (wipe σ vs) H' fun σ2 H2 => wipe σ2 vs = wipe σ vs ∧ tYes σ2 H2 fun b H3 =>
        if b = true then te σ2 H3 fun y H4 => ∃ acc, H4 D = some (.lst acc) ∧ acc.length < sizeLine ∧ Nx (upd H4 D (.lst (acc ++ [y]))) else Nx H3) :=
  lc_list (K := K) (a := a) (xs := xs) (PvJ D J) ⟨[], rfl, upd_same, h0⟩ (fun i H _ h => let ⟨acc, _, _, j⟩ := h; hl i acc H j)
    (fun i x H hx h => step_J (Nat.lt_trans (List.getElem?_eq_some_iff.mp hx).1 hz) h fun acc j e l => hs i x H acc hx j e l) fun H h => let ⟨ys, l, e, j⟩ := h; hd ys H j e l
theorem lcR {lo : Int} {n : Nat} (J : Nat → List V → Hp → Prop) (h0 : J 0 [] (upd H1 D (.lst []))) (hz : n < sizeLine)
    (hs : ∀ i H acc, i < n → J i acc H → H D = some (.lst acc) → acc.length = i → ∀ Qn : VK, (∀ y H4, H4 D = some (.lst acc) → J (i + 1) (acc ++ [y]) (upd H4 D (.lst (acc ++ [y]))) → Qn y H4) → g (.int (lo + i)) (wipe σ vs) H fun σ2 H2 => wipe σ2 vs = wipe σ vs ∧ te σ2 H2 Qn)
    (hd : ∀ ys H, J n ys H → H D = some (.lst ys) → ys.length = n → Qd H) :
    ∃ W : Nat → Nat → Hp → Prop, (∃ m, W 0 m (upd H1 D (.lst []))) ∧ ∀ i m H, W i m H →
      ((Itr lo n).stop i H ∧ Qd H) ∨ ((Itr lo n).go i H ∧ ∃ Nx : Hp → Prop, (∀ H', Nx H' → ∃ m', m' < m ∧ W (i + 1) m' H') ∧ ∀ x H', (Itr lo n).yld i H x H' → g x (wipe σ vs) H' fun σ2 H2 => wipe σ2 vs = wipe σ vs ∧ tYes σ2 H2 fun b H3 =>
        if b = true then te σ2 H3 fun y H4 => ∃ acc, H4 D = some (.lst acc) ∧ acc.length < sizeLine ∧ Nx (upd H4 D (.lst (acc ++ [y]))) else Nx H3) :=
  lc_range (PvJ D J) ⟨[], rfl, upd_same, h0⟩ (fun i H hi h => step_J (Nat.lt_trans hi hz) h fun acc j e l => hs i H acc hi j e l) fun H h => let ⟨ys, l, e, j⟩ := h; hd ys H j e l
end
end Ws

namespace Ws
open PySem PySem.Spec PyProof.Rows L2
/-! ### defs that are called where nothing is being shown: repr may be asked within them -/
/-- FnR for such calls alone -/
def FnG (P : Program) (w : World) (K : PySem.W.Frag) (mg : Str → Option Value) (base : Heap) (CX : CXT) (k : Nat) (f : Addr) (sp : Sp) : Prop :=
  ∀ (A : Around) (outer : List Env) (s : Shared) (H : Hp) (us : List Value) (vs : List V) (Q : VK) (E : XK), A.guards = some [] → Room k A → Env0 P w K mg base A outer s H → Vals vs us → sp vs H Q E →
    codeAny (model P w) A (.call (.ref f) ⟨us, []⟩) (CR CX outer P w H s Q E) s
theorem FnG.of {P : Program} {w : World} {K : PySem.W.Frag} {mg : Str → Option Value} {base : Heap} {CX : CXT} {k : Nat} {f : Addr} {sp : Sp} (F : FnR P w K mg base CX k f sp) : FnG P w K mg base CX k f sp :=
  fun A outer s H us vs Q E _ hr e0 r h => F A outer s H us vs Q E hr e0 r h
/-- such a def of the module, by its name -/
def CalG (P : Program) (w : World) (K : PySem.W.Frag) (mg : Str → Option Value) (base : Heap) (CX : CXT) (k : Nat) (x : Str) (sp : Sp) : Prop := ∃ f : Addr, FnG P w K mg base CX k f sp ∧ mg x = some (.ref f) ∧ PySem.W.keepIn K (.ref f) = true
section
variable {X : Cx} {k j : Nat} {f : Addr} {sp : Sp} {x : Str} {p pos : Pos} {e : Expr} {es : List Expr} {t : TA} {CX : CXT} {E : XK}
theorem run_G {pins : List (Addr × Obj)} {σ : L2.St} {H : Hp} {s : Shared} {Q : VK} {us : List Value} {vs : List V} (F : FnG X.prog X.w X.K X.mg X.base CX k f sp) (cl : X.A.guards = some []) (hr : Room k X.A) (hx : Passes CX X E)
    (I : Inv X pins σ H s) (r : Vals vs us) (h : sp vs H Q E) : wpAny (model X.prog X.w) X.A (call (.ref f) us) (EP X pins σ Q) X.xe s := by
  refine wpAny_call (codeAny_mono (F X.A X.stack s H us vs Q E cl hr I.env0 r h) fun out s' q => ?_)
  cases out with
  | error e => exact hx pins σ H s e s' I q
  | ok fl => cases fl with
    | ret u => exact I.after q
    | next => exact q.elim
    | brk => exact q.elim
    | cont => exact q.elim
def tFE (sp : Sp) (E : XK) (t : TA) : TE := fun σ H Q => t σ H fun vs H1 => sp vs H1 Q E
/-- f(e, ..) -/
theorem pe_gE (c : CalG X.prog X.w X.K X.mg X.base CX k x sp) (cl : X.A.guards = some []) (hr : Room j X.A) (hk : k ≤ j) (hx : Passes CX X E) (hg : Gl X x) (ha : PA X (e :: es) t) (hdb : (x == ("__debug__" : Str)) = false := by decide)
    (he : starEach (e :: es) X.env = (false, eval e X.env) :: starEach es X.env := by rfl) (hpl : (backTo pos (starEach es X.env)).any (·.1) = false := by rfl) : PE X (.Call (.Name x p) (e :: es) [] pos) (tFE sp E t) := by
  obtain ⟨f, F, hm, hkp⟩ := c
  refine ⟨fun pins s σ H Q I h => ?_⟩
  refine wpAny_Call_Name_kw (ld_glob I hg hm ?_ hdb)
  refine PySem.W.callWith_K (h₀ := X.base) I.ok.mod.kin hkp (thn (ha.run pos pins s σ H _ I h) fun us s1 ⟨vs, H1, I1, r, q⟩ => ⟨I1.kIn, ?_⟩) he hpl
  exact run_G F cl (hr.mono hk) hx I1 r q
theorem pe_g (c : CalG X.prog X.w X.K X.mg X.base CX0 k x sp) (cl : X.A.guards = some []) (hr : Room j X.A) (hk : k ≤ j) (hg : Gl X x) (ha : PA X (e :: es) t) (hdb : (x == ("__debug__" : Str)) = false := by decide)
    (he : starEach (e :: es) X.env = (false, eval e X.env) :: starEach es X.env := by rfl) (hpl : (backTo pos (starEach es X.env)).any (·.1) = false := by rfl) : PE X (.Call (.Name x p) (e :: es) [] pos) (tF sp t) :=
  pe_gE c cl hr hk pass0 hg ha hdb he hpl
end
section
variable {P : Program} {w : World} {K : PySem.W.Frag} {mg : Str → Option Value} {base : Heap}
/-- a def of the text: its body is read where nothing is being shown -/
theorem fnG_ofX {CX : CXT} {x qual : Str} {st : Stmt} {f : Addr} {fd : FuncData} {N ps : List Str} {k : Nat} {sp : Sp} (F : L2.Fun K x qual st f fd) (b : Binds K fd ps []) (S : FnScope N ps (defScope st)) (len : ∀ vs H Q E, sp vs H Q E → vs.length = ps.length)
    (hbody : ∀ (cdv : Value) (A : Around) (outer : List Env) (s : Shared) (H : Hp) (vs : List V) (Q : VK) (E : XK), A.guards = some [] → Room k (A.deeper (envOfC qual (defScope st) s.heap.objs.size f cdv)) → sp vs H Q E →
      ∃ t, PSs (cxOf CX P w K mg base N qual (defScope st) f cdv A outer s H E) (defBody st) t ∧ t { nx := fun _ H' => Q .non H', rt := Q } (start N vs) H) : FnG P w K mg base CX (k + 1) f sp := by
  obtain ⟨oc, od, kV, doc, pm, an, cdv, ct, osl, rfl, lk, hcd⟩ := F.ex
  intro A outer s H us vs Q E cl hr e0 r hsp
  have hn := len _ _ _ _ hsp
  have inS : K.In s.heap := e0.mod.kin.keeps fun b o e => (e0.bs b o e).1
  have free : s.heap.NoLimit := e0.mod.nolimit.keeps fun b o e => (e0.bs b o e).1
  have hl : us.length = ps.length := r.length ▸ hn
  have bd := b s us inS (by rw [List.append_nil]; exact hl)
  rw [List.append_nil] at bd
  have kinds : ∀ y ∈ ps.zip us, (defScope st).names.lookup y.1 = some .local ∨ ((defScope st).names.lookup y.1 = some .cell ∧ ((cellsFrom (s.heap.objs.size + 1) (defScope st).names []).lookup y.1).isSome = true) := by
    rintro ⟨n, v⟩ hy
    exact (S.par n (List.of_mem_zip hy).1).imp id fun q => ⟨q, PySem.W.cellsFrom_some _ _ _ (.inl q)⟩
  refine codeAny_call_function hr.depth (inS _ _ lk) rfl S.co S.gen rfl (PySem.W.codeRec_of inS hcd) (bd _ _ _ _ ?_)
  refine wpAny_newFunctionEnv_cells S.kind kinds fun env hE s1 z => ?_
  cases hE
  refine ⟨free.keeps z.toInCall.keep, codeAny_func ?_⟩
  obtain ⟨t, ht, q⟩ := hbody cdv A outer s H vs Q E cl (hr.deeper _) hsp
  have I : Inv (cxOf CX P w K mg base N qual (defScope st) f cdv A outer s H E) [] (start N vs) H s1 := inv_start S hr.hd e0 hn r z
  refine wpAny_mono (ht.run [] s1 (start N vs) H _ I q) (fun fl s2 out => ?_) fun _ _ out => out
  cases fl with
  | ret u => obtain ⟨v, _, H2, J, rv, q2⟩ := out; exact ⟨v, H2, J.os, J.bare, J.base, J.hok, rv, q2⟩
  | next => obtain ⟨_, H2, J, q2⟩ := out; exact ⟨.non, H2, J.os, J.bare, J.base, J.hok, rfl, q2⟩
  | brk => exact out.elim fun _ z => z.elim fun _ z => z.2.elim
  | cont => exact out.elim fun _ z => z.elim fun _ z => z.2.elim
theorem fnG_of {x qual : Str} {st : Stmt} {f : Addr} {fd : FuncData} {N ps : List Str} {k : Nat} {sp : Sp} (F : L2.Fun K x qual st f fd) (b : Binds K fd ps []) (S : FnScope N ps (defScope st)) (len : ∀ vs H Q E, sp vs H Q E → vs.length = ps.length)
    (hbody : ∀ (cdv : Value) (A : Around) (outer : List Env) (s : Shared) (H : Hp) (vs : List V) (Q : VK) (E : XK), A.guards = some [] → Room k (A.deeper (envOfC qual (defScope st) s.heap.objs.size f cdv)) → sp vs H Q E →
      ∃ t, PSs (cxOf CX0 P w K mg base N qual (defScope st) f cdv A outer s H E).nox (defBody st) t ∧ t { nx := fun _ H' => Q .non H', rt := Q } (start N vs) H) : FnG P w K mg base CX0 (k + 1) f sp :=
  fnG_ofX F b S len fun cdv A outer s H vs Q E cl hr h => let ⟨t, h1, h2⟩ := hbody cdv A outer s H vs Q E cl hr h; ⟨t, h1.nox, h2⟩
end
/-! ### the law's own call -/
/-- what is tracked when the law begins: its script, if the module doesn't have it -/
def only1 (K : PySem.W.Frag) (a : Addr) (o : Obj) (xs : List V) : Hp := fun b => if b = a then (match K.lookup a with | some _ => none | none => some (.frz o (.lst xs))) else none
theorem law_G {P : Program} {w : World} {K : PySem.W.Frag} {mg mb : Str → Option Value} {k : Nat} {fa a : Addr} {sp : Sp} {s : Shared} {vs : List Value} {ns : List Int}
    (inS : K.In s.heap) (hm : s.heap.Ns mainGlobals mg) (hb : s.heap.Ns builtinsNs mb) (bb : ∀ x : Str, x ≠ "__name__" → mb x = bootBuiltins x) (free : s.heap.NoLimit) (hg : s.gens = #[])
    (ha : s.heap.get? a = some { cls := .type "list", data := .seq vs.toArray }) (hi : IntsAre vs ns) (hl : ns.length ≤ sizeLine) (hr : Room k callerA)
    (F : ∀ base : Heap, K.In base → base.Ns mainGlobals mg → FnG P w K mg base CX0 k fa sp)
    (hsp : ∀ H : Hp, Only H → SqL K H a (ns.map V.int) → sp [.ref a] H (fun v _ => v = .bl true) fun _ _ _ => False) :
    codeAny (model P w) callerA (.call (.ref fa) ⟨[.ref a], []⟩) (fun r s' => r = .ok (.ret (.bool true)) ∧ OldK s.heap s'.heap ∧ s'.os = s.os ∧ AllBare s'.gens) s := by
  let ob : Obj := { cls := .type "list", data := .seq vs.toArray }
  let H : Hp := only1 K a ob (ns.map V.int)
  have hH : ∀ b u, H b = some u → b = a ∧ K.lookup a = none ∧ u = .frz ob (.lst (ns.map V.int)) := by
    intro b u e
    have e1 : (if b = a then (match K.lookup a with | some _ => none | none => some (HO.frz ob (.lst (ns.map V.int)))) else none) = some u := e
    by_cases hba : b = a
    · rw [if_pos hba] at e1
      cases hk : K.lookup a with
      | some _ => rw [hk] at e1; cases e1
      | none => rw [hk] at e1; exact ⟨hba, rfl, (Option.some.inj e1).symm⟩
    · rw [if_neg hba] at e1; cases e1
  have only : Only H := fun b => by
    cases e : H b with
    | none => exact .inl rfl
    | some u => obtain ⟨_, _, rfl⟩ := hH b u e; exact .inr ⟨_, _, rfl⟩
  have rv := vals_ints hi
  have here : SqL K H a (ns.map V.int) := by
    cases hk : K.lookup a with
    | none =>
      refine .inl (.inr ⟨ob, ?_⟩)
      show (if a = a then (match K.lookup a with | some _ => none | none => some (HO.frz ob (.lst (ns.map V.int)))) else none) = _
      rw [if_pos rfl, hk]
    | some o =>
      have e := inS a o hk
      rw [ha] at e
      cases e
      exact .inr ⟨_, vs.toArray, _, hk, rfl, rfl, rfl, by rw [List.size_toArray, hi.length]; exact hl, by simpa using rv⟩
  have ok : HOk P w H s.heap := fun b u e => by
    obtain ⟨rfl, _, rfl⟩ := hH b u e
    exact ⟨ha, by rw [List.length_map]; exact hl, vs, _, rv, ha⟩
  have low : ∀ {b : Addr} {o : Obj}, s.heap.get? b = some o → H b = none → (hidT s.heap H).get? b = some o := fun e n => hidT_get e n
  have lowD : ∀ {b : Addr} {m : Str → Option Value}, s.heap.Ns b m → (hidT s.heap H).Ns b m := fun {b m} ⟨o, es, ep, e, d, r⟩ => ⟨o, es, ep, low e (by
    cases q : H b with
    | none => rfl
    | some u =>
      obtain ⟨rfl, _, _⟩ := hH b u q
      rw [ha] at e
      cases e
      cases (show Data.seq vs.toArray _ = Data.dict es ep from d)), d, r⟩
  have inB : K.In (hidT s.heap H) := fun b o e => low (inS b o e) (by
    cases q : H b with
    | none => rfl
    | some u =>
      obtain ⟨rfl, n, _⟩ := hH b u q
      rw [n] at e
      cases e)
  have M : Mod K mg (hidT s.heap H) := ⟨inB, lowD hm, ⟨mb, lowD hb, bb⟩, let ⟨mc, h1, h2⟩ := free; ⟨mc, lowD h1, h2⟩⟩
  have e0 : Env0 P w K mg (hidT s.heap H) callerA [] s H := ⟨rfl, M, fun b o e => of_hidT e, Nat.le_of_eq (hidT_size _ _), trivial, fun b z => absurd (show b ∈ ([] : List Addr) from z) (by simp), ok, .of_eq hg⟩
  refine codeAny_mono (F _ inB (lowD hm) callerA [] s H [.ref a] [.ref a] _ _ rfl hr e0 (.cons rfl .nil) (hsp H only here)) fun r s' h => ?_
  cases r with
  | error e => exact h.elim
  | ok fl =>
    cases fl with
    | ret u =>
      obtain ⟨v, H', os, bare, un, ok', r', q⟩ := h
      cases (show v = V.bl true from q)
      cases (show u = Value.bool true from r')
      refine ⟨rfl, OldK.of_keep fun b o e => ?_, os, bare⟩
      cases z : H b with
      | none => exact un.keep b o e z (fun y => absurd (show b ∈ ([] : List Addr) from y) (by simp)) (by simp)
      | some u =>
        obtain ⟨rfl, _, rfl⟩ := hH b u z
        rw [ha] at e
        cases e
        exact (ok' b _ (un.frzs b _ _ z)).1
    | next => exact h.elim
    | brk => exact h.elim
    | cont => exact h.elim
/-- the goal behind the top, from the law's promise -/
theorem walk_G {l : PySem.W.OpenLaw} {n k : Nat} {q : Program} {loose : List Str} {XP : (Str → Option Value) → Heap → Prop} {YP : World → Heap → Prop} {d : DefRec} {K : Params → PySem.W.Frag} {sp : World → Sp}
    (hn : l.most = some n) (hn2 : n ≤ sizeLine) (hdf : d.params.defaults = []) (hr : Room k callerA) (hY : ∀ (w : World) (h : Heap), YP w h → (K w.params).In h)
    (F : ∀ (w : World) (mg : Str → Option Value) (fa : Addr) (h : Heap), (K w.params).In h → h.Ns mainGlobals mg → mg d.name = some (.ref fa) → ∀ base : Heap, (K w.params).In base → base.Ns mainGlobals mg → FnG l.prog w (K w.params) mg base CX0 k fa (sp w))
    (hsp : ∀ (w : World) (H : Hp) (a : Addr) (ns : List Int), ns.length ≤ n → Only H → SqL (K w.params) H a (ns.map V.int) → sp w [.ref a] H (fun v _ => v = .bl true) fun _ _ _ => False) :
    PySem.W.WalkO q loose XP YP l.row.toRowW d [] (fun f vs => PySem.call f vs) :=
  Att.attach_call hn hdf fun w s₀ s mg mb fa o pm cd doc a vs ns G Y ho hd hcd hmg hobj hints hlen hg =>
    law_G (hY w _ Y) G.T.g G.T.b G.T.builtins G.T.nolimit hg hobj hints (Nat.le_trans hlen hn2) hr (F w mg fa _ (hY w _ Y) G.T.g hmg) fun H hO hS => hsp w H a ns hlen hO hS
end Ws

namespace Ws
open PySem PySem.Spec PyProof.Rows L2
/-! ### repr of plain data -/
mutual
/-- data of short numbers and texts of real signs -/
def Tdy : PyData → Prop
  | .none => True
  | .bool _ => True
  | .int i => i.natAbs.log2 < 1900
  | .str x => ∀ c ∈ x.cps.toList, c < 16 ^ 8
  | .list xs => TdyA xs
  | .tuple xs => TdyA xs
  | .dict _ => False
def TdyA : List PyData → Prop
  | [] => True
  | x :: xs => Tdy x ∧ TdyA xs
end
mutual
theorem Tdy.get : ∀ {d : PyData}, Tdy d → d.showable = true ∧ d.hasDict = false ∧ d.leavesShort 1901 = true
  | .none, _ => ⟨rfl, rfl, rfl⟩
  | .bool _, _ => ⟨rfl, rfl, rfl⟩
  | .int i, h => by
    have h' : i.natAbs.log2 < 1900 := h
    refine ⟨?_, rfl, ?_⟩
    · simp only [PyData.showable, decide_eq_true_eq]; omega
    · show decide ((Str.ofString (toString i)).length ≤ 1901) = true
      rw [decide_eq_true_eq, PySem.ofString_length]
      exact int_text_length_le (by decide) h'
  | .str x, h => ⟨rfl, rfl, by simp only [PyData.leavesShort, List.all_eq_true, decide_eq_true_eq]; exact h⟩
  | .list xs, h => by
    obtain ⟨a, b, c⟩ := TdyA.get (xs := xs) h
    exact ⟨by simpa only [PyData.showable] using a, by simpa only [PyData.hasDict] using b, by simpa only [PyData.leavesShort] using c⟩
  | .tuple xs, h => by
    obtain ⟨a, b, c⟩ := TdyA.get (xs := xs) h
    exact ⟨by simpa only [PyData.showable] using a, by simpa only [PyData.hasDict] using b, by simpa only [PyData.leavesShort] using c⟩
  | .dict _, h => False.elim h
theorem TdyA.get : ∀ {xs : List PyData}, TdyA xs → PyData.showableAll xs = true ∧ PyData.hasDictAll xs = false ∧ PyData.leavesShortAll 1901 xs = true
  | [], _ => ⟨rfl, rfl, rfl⟩
  | x :: xs, h => by
    obtain ⟨h1, h2⟩ := (show Tdy x ∧ TdyA xs from h)
    obtain ⟨a, b, c⟩ := Tdy.get h1
    obtain ⟨d, e, f⟩ := TdyA.get h2
    exact ⟨by simp only [PyData.showableAll, a, d, Bool.and_self], by simp only [PyData.hasDictAll, b, e, Bool.or_self], by simp only [PyData.leavesShortAll, c, f, Bool.and_self]⟩
end
/-- a value that is shown -/
def Shw (K : PySem.W.Frag) (H : Hp) (x : V) (d : PyData) : Prop := Dp K H x d ∧ Tdy d ∧ d.bulk ≤ 8000 ∧ d.depth ≤ 60
section
variable {X : Cx}
def rRep (K : PySem.W.Frag) : List V → Hp → VK → Prop := fun xs H Q => ∃ a d, xs = [V.ref a] ∧ Shw K H (.ref a) d ∧ Q (.str d.shown) H
theorem call_rep {j : Nat} (cl : X.A.guards = some []) (hr : Room j X.A) : CallR X (.builtin "repr") (rRep X.K) := by
  intro pins s σ H xs us Q I r h
  obtain ⟨a, d, rfl, ⟨dp, ty, bk, de⟩, q⟩ := h
  obtain ⟨u, rfl, ru⟩ := vals1 r
  cases (show u = Value.ref a from ru)
  obtain ⟨as, rd⟩ := Dp.reads I d _ _ dp rfl
  obtain ⟨sh, nd, sl⟩ := ty.get
  have sz := PyData.shown_le_bulk 1901 (by decide) d sl
  have sz2 : d.shown.length ≤ sizeLine := by
    have : sizeLine = 16777216 := by decide
    have : (1901 + 2) * d.bulk ≤ 1903 * 8000 := Nat.mul_le_mul (by decide) bk
    omega
  refine repr_of_reads' rd sh (PyData.noDict_hsm nd) cl ?_ (fun _ _ e => e) (fun h' u tk hk => ⟨.str d.shown, H, I.kept hk, ⟨u, rfl⟩, q⟩) sz2
  have := hr.un
  omega
end
end Ws
namespace Ws
open PySem PySem.Spec PyProof.Rows L2
section
variable {X : Cx} {j k : Nat} {C : Addr} {sp : Sp}
/-- abs(a) by a's own __abs__ -/
theorem call_absO (c : OpnF X.prog X.w X.K X.mg X.base k C "__abs__" sp) (hr : Room j X.A) (hk : k + 1 ≤ j) : CallR X (.builtin "abs") (fun xs H Q => ∃ a dx fs, xs = [V.ref a] ∧ H a = some (.ins C dx fs) ∧ sp [.ref a] H Q E0) := by
  obtain ⟨f, h1, h2, F⟩ := c
  intro pins s σ H xs us Q I r h
  obtain ⟨a, dx, fs, rfl, ea, q⟩ := h
  obtain ⟨u, rfl, ru⟩ := vals1 r
  cases (show u = Value.ref a from ru)
  obtain ⟨ox, od, J⟩ := inst_of I ea
  refine Calls.call_function_entry kind_abs plain_abs entry_abs (args_abs _) ?_
  unfold Builtin.«abs»
  refine wpAny_bind (m := oneArg "abs" _) (wpAny_pure ?_)
  refine wpAny_bind (PySem.W.special_fn I.kIn J h1 (beq_iff_eq.mp h2) (wpAny_mono (run_in1 (us := [.ref a]) (vs := [.ref a]) F (hr.mono hk) I (.cons rfl .nil) q) (fun v s' hv => ?_) fun _ _ z => z))
  exact wpAny_pure ⟨_, rfl, hv⟩
end
end Ws
namespace Ws
open PySem PySem.Spec PyProof.Rows L2
section
variable {prog : Program} {w : World}
theorem bool_new_own {x : Addr} : MeetsIn prog w (Builtin.«bool.__new__» ⟨[.type "bool", .ref x], []⟩) (fun A R s => wpAny (model prog w) A.in1 (truthy (.ref x)) (fun b s' => R (.ok (.ret (.bool b))) s') (fun e s' => R (.error e) s') s) :=
  .of_wp fun A R s h => by
    have f1 := F.conv_sub_bool
    unfold Builtin.«bool.__new__»
    repeat (first
      | assumption
      | (refine wpAny_bind (m := truthy (.ref x)) (wpAny_mono h (fun b s' q => ?_) fun _ _ z => z))
      | wp_step)
    all_goals first | exact q | exact ⟨_, rfl, q⟩ | skip
theorem run_in2 {X : Cx} {k : Nat} {sp : Sp} {f : Addr} {pins : List (Addr × Obj)} {σ : L2.St} {H : Hp} {s : Shared} {Q : VK} {us : List Value} {vs : List V} {Ex : Value → Shared → Prop} (F : FnR X.prog X.w X.K X.mg X.base CX0 k f sp) (hr : Room (k + 2) X.A) (I : Inv X pins σ H s) (r : Vals vs us) (h : sp vs H Q E0) :
    wpAny (model X.prog X.w) X.A.in1.in1 (call (.ref f) us) (EP X pins σ Q) Ex s := by
  refine wpAny_call (codeAny_mono (F X.A.in1.in1 X.stack s H us vs Q E0 (Room.in1 (Room.in1 hr)) I.env0.in1.in1 r h) fun r s' hq => ?_)
  cases r with
  | error er => exact hq.elim
  | ok fl =>
    cases fl with
    | ret u => exact I.after hq
    | next => exact False.elim hq
    | brk => exact False.elim hq
    | cont => exact False.elim hq
section
variable {X : Cx} {j k : Nat} {C : Addr} {sp : Sp}
/-- bool(a) by a's own __bool__ -/
theorem call_boolO (c : OpnF X.prog X.w X.K X.mg X.base k C "__bool__" sp) (hr : Room j X.A) (hk : k + 2 ≤ j) : CallR X (.type "bool") (fun xs H Q => ∃ a dx fs, xs = [V.ref a] ∧ H a = some (.ins C dx fs) ∧ sp [.ref a] H (fun v H' => ∃ b, v = .bl b ∧ Q (.bl b) H') E0) := by
  obtain ⟨f, h1, h2, G⟩ := c
  intro pins s σ H xs us Q I r h
  obtain ⟨a, dx, fs, rfl, ea, q⟩ := h
  obtain ⟨u, rfl, ru⟩ := vals1 r
  cases (show u = Value.ref a from ru)
  obtain ⟨ox, od, J⟩ := inst_of I ea
  obtain ⟨m, hF⟩ := I.fr
  refine callType_newIn PySem.F.called_bool PySem.F.newNe_bool (PySem.F.typeCall_bool_1 _) (PySem.F.newCall_bool_1 _) (fun obj => PySem.F.args_object_init_2 obj _) PySem.F.entry_bool_new bool_new_own ?_
  refine PySem.W.truthy_K hF I.ok.mod.kin J h1 h2 (wpAny_mono (run_in2 (us := [.ref a]) (vs := [.ref a]) G (hr.mono hk) I (.cons rfl .nil) q) (fun r s' hv => ?_) fun _ _ z => z)
  obtain ⟨y, H', I', ry, b, rfl, qb⟩ := hv
  cases (show r = Value.bool b from ry)
  exact ⟨rfl, .bl b, H', I', rfl, qb⟩
end
end
end Ws

namespace Ws
open PySem PySem.Spec PyProof.Rows L2
section
variable {X : Cx}
/-- len of a set of tuples -/
theorem call_lenT : CallR X (.builtin "len") (fun xs H Q => ∃ (a : Addr) (L : List (Addr × List Int)), xs = [V.ref a] ∧ H a = some (SetTO X.prog X.w a L) ∧ ((L.map (·.2)).Nodup → Q (.int (L.length : Nat)) H)) := by
  intro pins s σ H vs us Q I r h
  obtain ⟨a, L, rfl, ha, q⟩ := h
  have R0 : SetT0 X.prog X.w s.heap a L := (I.hok a _ ha).1
  obtain ⟨es, ep, t, ⟨o, ho, hex, hd⟩, hrow, tab, nd, pl, led, room, few⟩ := R0.ex
  rw [Vals.ref1 r]
  have hl : es.size = L.length := by
    rw [← Array.length_toList, hrow]
    unfold rowsOf
    rw [List.length_map]
  have h1 := tab.sz
  rw [List.length_map] at h1
  have hf : t.fits es.size = true := by
    unfold SetTable.fits SetTable.fill
    rw [tab.dm, Bool.and_eq_true, beq_iff_eq, decide_eq_true_eq]
    show t.place.size = es.size ∧ t.place.size + 0 ≤ t.mask
    omega
  exact PySem.call_len_set ho hex hd hf (by omega) ⟨.int L.length, H, I.tok _, ⟨_, by rw [hl]⟩, q nd⟩
/-- repr of a truth -/
theorem call_repB : CallR X (.builtin "repr") (fun xs H Q => ∃ b : Bool, xs = [V.bl b] ∧ Q (.str (if b then "True" else "False")) H) := by
  intro pins s σ H xs us Q I r h
  obtain ⟨b, rfl, q⟩ := h
  obtain ⟨u, rfl, ru⟩ := vals1 r
  cases (show u = Value.bool b from ru)
  exact PySem.P.repr_of_bool ⟨.str _, H, I.tok _, ⟨_, rfl⟩, q⟩
end
end Ws

namespace Ws
open PySem PySem.Spec PyProof.Rows L2
abbrev sWhole : Stmt := (PySem.Challenge.pw_whatspeed_k04_whole_numbers_in_sums.main.body.getD 6 (.Pass ⟨0, 0, 0, 0⟩))
abbrev NWhole : List Str := ["value"]
abbrev PWhole : List Str := ["value"]
theorem scWhole : FnScope NWhole PWhole (defScope sWhole) := ⟨rfl, rfl, rfl, by decide +kernel, rfl, by decide +kernel, by decide +kernel⟩
abbrev sNum : Stmt := (inClass (PySem.Challenge.pw_whatspeed_k04_whole_numbers_in_sums.main.body.getD 7 (.Pass ⟨0, 0, 0, 0⟩)) 0)
abbrev NNum : List Str := ["self", "top", "bottom", "shared"]
abbrev PNum : List Str := ["self", "top", "bottom"]
theorem scNum : FnScope NNum PNum (defScope sNum) := ⟨rfl, rfl, rfl, by decide +kernel, rfl, by decide +kernel, by decide +kernel⟩
abbrev sNTop : Stmt := (inClass (PySem.Challenge.pw_whatspeed_k04_whole_numbers_in_sums.main.body.getD 7 (.Pass ⟨0, 0, 0, 0⟩)) 1)
abbrev NNTop : List Str := ["self"]
abbrev PNTop : List Str := ["self"]
theorem scNTop : FnScope NNTop PNTop (defScope sNTop) := ⟨rfl, rfl, rfl, by decide +kernel, rfl, by decide +kernel, by decide +kernel⟩
abbrev sNBot : Stmt := (inClass (PySem.Challenge.pw_whatspeed_k04_whole_numbers_in_sums.main.body.getD 7 (.Pass ⟨0, 0, 0, 0⟩)) 2)
abbrev NNBot : List Str := ["self"]
abbrev PNBot : List Str := ["self"]
theorem scNBot : FnScope NNBot PNBot (defScope sNBot) := ⟨rfl, rfl, rfl, by decide +kernel, rfl, by decide +kernel, by decide +kernel⟩
abbrev sNEq : Stmt := (inClass (PySem.Challenge.pw_whatspeed_k04_whole_numbers_in_sums.main.body.getD 7 (.Pass ⟨0, 0, 0, 0⟩)) 3)
abbrev NNEq : List Str := ["self", "other"]
abbrev PNEq : List Str := ["self", "other"]
theorem scNEq : FnScope NNEq PNEq (defScope sNEq) := ⟨rfl, rfl, rfl, by decide +kernel, rfl, by decide +kernel, by decide +kernel⟩
abbrev sNBool : Stmt := (inClass (PySem.Challenge.pw_whatspeed_k04_whole_numbers_in_sums.main.body.getD 7 (.Pass ⟨0, 0, 0, 0⟩)) 4)
abbrev NNBool : List Str := ["self"]
abbrev PNBool : List Str := ["self"]
theorem scNBool : FnScope NNBool PNBool (defScope sNBool) := ⟨rfl, rfl, rfl, by decide +kernel, rfl, by decide +kernel, by decide +kernel⟩
abbrev sNAdd : Stmt := (inClass (PySem.Challenge.pw_whatspeed_k04_whole_numbers_in_sums.main.body.getD 7 (.Pass ⟨0, 0, 0, 0⟩)) 5)
abbrev NNAdd : List Str := ["self", "other"]
abbrev PNAdd : List Str := ["self", "other"]
theorem scNAdd : FnScope NNAdd PNAdd (defScope sNAdd) := ⟨rfl, rfl, rfl, by decide +kernel, rfl, by decide +kernel, by decide +kernel⟩
abbrev sNSub : Stmt := (inClass (PySem.Challenge.pw_whatspeed_k04_whole_numbers_in_sums.main.body.getD 7 (.Pass ⟨0, 0, 0, 0⟩)) 6)
abbrev NNSub : List Str := ["self", "other"]
abbrev PNSub : List Str := ["self", "other"]
theorem scNSub : FnScope NNSub PNSub (defScope sNSub) := ⟨rfl, rfl, rfl, by decide +kernel, rfl, by decide +kernel, by decide +kernel⟩
abbrev sNMul : Stmt := (inClass (PySem.Challenge.pw_whatspeed_k04_whole_numbers_in_sums.main.body.getD 7 (.Pass ⟨0, 0, 0, 0⟩)) 7)
abbrev NNMul : List Str := ["self", "other"]
abbrev PNMul : List Str := ["self", "other"]
theorem scNMul : FnScope NNMul PNMul (defScope sNMul) := ⟨rfl, rfl, rfl, by decide +kernel, rfl, by decide +kernel, by decide +kernel⟩
/-! ### a Number, a Line in the heap -/
def nF (t b : Int) : List (Str × V) := [("_top", .int t), ("_bottom", .int b)]
def NumAt (C : Addr) (H : Hp) (a : Addr) (t b : Int) : Prop := ∃ dx, H a = some (.ins C dx (nF t b))
theorem nF_top (t b : Int) : (nF t b).lookup ("_top" : Str) = some (.int t) := lk_here
theorem nF_bot (t b : Int) : (nF t b).lookup ("_bottom" : Str) = some (.int b) := (lk_past (by decide +kernel)).trans lk_here
theorem NumAt.same {C : Addr} {H H' : Hp} {a : Addr} {t b : Int} (h : NumAt C H a t b) (s : Same H H') : NumAt C H' a t b := let ⟨dx, e⟩ := h; ⟨dx, s _ _ e⟩
theorem NumAt.ch {C : Addr} {H H' : Hp} {p a : Addr} {t b : Int} (h : NumAt C H a t b) (s : Ch p H H') (n : a ≠ p) : NumAt C H' a t b := let ⟨dx, e⟩ := h; ⟨dx, s _ _ n e⟩
/-- what the class Number must be -/
structure NumC (K : PySem.W.Frag) (C : Addr) : Prop where
  cl : Cls K C
  nT : NoAttr K C "_top"
  nB : NoAttr K C "_bottom"
  ha : PySem.W.findIn K (.ref C) "__class__" = some (some (.builtin "object.__class__"))
  hn : PySem.W.specialIn K (.builtin "object.__class__") "__get__" = some (some (.builtin "getset_descriptor.__get__"))
  htk : PySem.W.takesIn K (.builtin "object.__class__") = some true
  hm : PySem.W.mroIn K C (.type "object") = some true
  kk : PySem.W.kitOne K (.ref C) (.ref C) = some true
  sf : PySem.W.selfFirst K C = true
  nf : PySem.W.notFirst K C (.ref C) = true
theorem NumC.ty {K : PySem.W.Frag} {C : Addr} (c : NumC K C) {H : Hp} {a dx : Addr} {fs : List (Str × V)} (e : H a = some (.ins C dx fs)) : TyX K H (.ref a) (.ref C) := .base (.ins e c.cl c.ha c.hn c.htk c.hm)
/-! ### promises -/
def spWhole : Sp := fun vs H Q _ => ∃ i : Int, vs = [.int i] ∧ Q (.bl true) H
def spNum (C : Addr) : Sp := fun vs H Q _ => ∃ (x dx : Addr) (t b : Int), vs = [.ref x, .int t, .int b] ∧ b ≠ 0 ∧ Sz 8000 b ∧ H x = some (.ins C dx []) ∧
  ∀ H', NumAt C H' x (nT t b) (nB t b) → (∀ a o, H a = some o → a ≠ x → H' a = some o) → Q .non H'
def spTop (C : Addr) : Sp := fun vs H Q _ => ∃ (a : Addr) (t b : Int), vs = [.ref a] ∧ NumAt C H a t b ∧ Q (.int t) H
def spBot (C : Addr) : Sp := fun vs H Q _ => ∃ (a : Addr) (t b : Int), vs = [.ref a] ∧ NumAt C H a t b ∧ Q (.int b) H
def spNEq (C : Addr) : Sp := fun vs H Q _ => ∃ (a c : Addr) (t b p q : Int), vs = [.ref a, .ref c] ∧ NumAt C H a t b ∧ NumAt C H c p q ∧ Q (.bl (decide (t = p ∧ b = q))) H
def spNBool (C : Addr) : Sp := fun vs H Q _ => ∃ (a : Addr) (t b : Int), vs = [.ref a] ∧ NumAt C H a t b ∧ Q (.bl (t != 0)) H
/-- a new Number at a place that was free -/
def spOp2 (C : Addr) (f g : Int → Int → Int → Int → Int) : Sp := fun vs H Q _ => ∃ (a c : Addr) (t b p q : Int), vs = [.ref a, .ref c] ∧ NumAt C H a t b ∧ NumAt C H c p q ∧ Sz 2000 t ∧ Sz 2000 b ∧ Sz 2000 p ∧ Sz 2000 q ∧ g t b p q ≠ 0 ∧
  ∀ x H', H x = none → NumAt C H' x (nT (f t b p q) (g t b p q)) (nB (f t b p q) (g t b p q)) → Same H H' → Q (.ref x) H'
abbrev spAdd (C : Addr) : Sp := spOp2 C (fun t b p q => t * q + p * b) (fun _ b _ q => b * q)
abbrev spSub (C : Addr) : Sp := spOp2 C (fun t b p q => t * q - p * b) (fun _ b _ q => b * q)
abbrev spMul (C : Addr) : Sp := spOp2 C (fun t b p q => t * p) (fun _ b _ q => b * q)
section
variable {P : Program} {w : World} {K : PySem.W.Frag} {mg : Str → Option Value} {base : Heap} {C f : Addr} {fd : FuncData}
theorem ok_whole (F : L2.Fun K "is_whole" "is_whole" sWhole f fd) (b : Binds K fd PWhole []) (B : Bi mg) : FnR P w K mg base CX0 1 f spWhole := by
  refine fnR_of F b scWhole (fun vs H Q E h => ?_) (fun cdv A outer s H vs Q E hr h => ?_)
  · obtain ⟨i, rfl, _⟩ := h
    rfl
  · have sc := scWhole
    obtain ⟨i, rfl, k⟩ := h
    refine ⟨_, (pss_one (ps_ret (pe_and (pe_callB call_isi (by rfl) B.isinstance (by decide +kernel) (pa_cons (pv 0) (pa_cons (pe_bltn (v := .ty "int") (by rfl) B.int (by decide +kernel) rfl) pa_nil))) (pe_one (pe_not (pe_callB call_isi (by rfl) B.isinstance (by decide +kernel) (pa_cons (pv 0) (pa_cons (pe_bltn (v := .ty "bool") (by rfl) B.bool (by decide +kernel) rfl) pa_nil)))))))), ?_⟩
    refine ⟨_, rfl, _, _, _, _, true, rfl, .ty _, .base (.int i), kit_ty (by decide +kernel), true, rfl, iteT ?_⟩
    exact ⟨_, rfl, _, _, _, _, false, rfl, .ty _, .base (.int i), kit_ty (by decide +kernel), false, rfl, k⟩
theorem ok_num {dvs' : List V} {ds : List Value} {dvs : List V} {sp' : Sp} (F : FunD K "__init__" "Number.__init__" (defArgs sNum) (defBody sNum) (defScope sNum) dvs [] f fd) (b : Binds K fd PNum ds) (d : Vals dvs' ds) (imp : ∀ vs H Q E, sp' vs H Q E → spNum C (vs ++ dvs') H Q E)
    (B : Bi mg) (NC : NumC K C) (hgcd : mg "gcd" = some (.builtin "math.gcd")) (cW : CalF P w K mg base 1 "is_whole" spWhole) : FnR P w K mg base CX0 2 f sp' := by
  refine fnD_of F b d scNum (sp := spNum C) (fun vs H Q E h => ?_) imp (fun cdv A outer s H vs Q E hr h => ?_)
  · obtain ⟨x, dx, t, b, rfl, _⟩ := h
    rfl
  · have sc := scNum
    obtain ⟨x, dx, t, b, rfl, hb, hz, hx, k⟩ := h
    refine ⟨_, (pss_cons (ps_if (PW.pt (pw_or (pt_not (pt_val (pe_f cW hr (by decide) rfl (pa_cons (pv 1) pa_nil)))) (pw_or (pt_not (pt_val (pe_f cW hr (by decide) rfl (pa_cons (pv 2) pa_nil)))) (pw_or1 (pt_cmpR op_eq (pv 2) pe_int (nomark _)))))) (pss_one ps_never) pss_nil) (pss_cons (ps_set (i := 3) sc.nd rfl (Or.inl rfl) (pe_callBfun cr_gcd (by rfl) hgcd (pa_cons (pv 1) (pa_cons (pv 2) pa_nil)))) (pss_cons (ps_if (pt_cmpR op_lt (pv 2) pe_int (nomark _)) (pss_one (ps_set (i := 3) sc.nd rfl (Or.inl rfl) (pe_un un_neg (pv 3)))) pss_nil) (pss_cons (ps_fld (pv 0) (pe_op op_fdivZ (pv 1) (pv 3)) rfl) (pss_one (ps_fld (pv 0) (pe_op op_fdivZ (pv 2) (pv 3)) rfl)))))), ?_⟩
    refine ⟨_, rfl, t, rfl, true, rfl, iteF ?_⟩
    refine ⟨_, rfl, b, rfl, true, rfl, iteF ?_⟩
    refine ⟨_, rfl, rfl, _, rfl, ?_⟩
    refine ifF (by simpa using hb) ?_
    refine ⟨_, rfl, _, rfl, _, _, rfl, ?_⟩
    refine ⟨_, rfl, _, _, rfl, rfl, _, rfl, ?_⟩
    have hs : Sz 8000 (gS t b) := by
      have := Sz.gI (t := t) hb hz
      unfold gS
      split
      · exact this.neg
      · exact this
    have fin : ∀ {Qn : Ends} {y : Int}, y = gS t b → tSeq (sFld K (tVar 0) (tOp (rI (fun _ j => j ≠ 0 ∧ j.natAbs.log2 < 9000) fun i j => .int (i.fdiv j)) (tVar 1) (tVar 3)) "_top") (sFld K (tVar 0) (tOp (rI (fun _ j => j ≠ 0 ∧ j.natAbs.log2 < 9000) fun i j => .int (i.fdiv j)) (tVar 2) (tVar 3)) "_bottom")
        { nx := fun _ H' => Q .non H', rt := Q } [some (.ref x), some (.int t), some (.int b), some (.int y)] H := by
      rintro Qn y rfl
      have h9 : (gS t b).natAbs.log2 < 9000 := Nat.lt_of_lt_of_le (PySem.Flt.log2_lt_of (by decide) hs) (by decide)
      refine ⟨_, rfl, _, rfl, _, _, rfl, rfl, ⟨gS_ne hb, h9⟩, _, rfl, x, C, dx, [], rfl, hx, NC.cl, NC.nT, (by show 0 < 1000; decide), ?_⟩
      refine ⟨_, rfl, _, rfl, _, _, rfl, rfl, ⟨gS_ne hb, h9⟩, _, rfl, x, C, dx, _, rfl, upd_same, NC.cl, NC.nB, (by show 1 < 1000; decide), ?_⟩
      refine k _ ⟨dx, upd_same.trans (congrArg some (congrArg (HO.ins C dx) ?_))⟩ fun a o e n => ?_
      · exact (put_past (by decide +kernel)).trans rfl
      · rw [upd_ne n, upd_ne n]
        exact e
    by_cases hn : b < 0
    · refine ifT (by simpa using hn) ?_
      refine ⟨_, rfl, _, rfl, ?_⟩
      refine fin (Qn := { nx := fun _ H' => Q .non H', rt := Q }) ?_
      unfold gS gI
      rw [if_pos hn]
    · refine ifF (by simpa using hn) ?_
      refine fin (Qn := { nx := fun _ H' => Q .non H', rt := Q }) ?_
      unfold gS gI
      rw [if_neg hn]
theorem ok_top (F : L2.Fun K "top" "Number.top" sNTop f fd) (b : Binds K fd PNTop []) (NC : NumC K C) : FnR P w K mg base CX0 1 f (spTop C) := by
  refine fnR_of F b scNTop (fun vs H Q E h => ?_) (fun cdv A outer s H vs Q E hr h => ?_)
  · obtain ⟨a, t, b, rfl, _⟩ := h
    rfl
  · have sc := scNTop
    obtain ⟨a, t, b, rfl, ⟨dx, e⟩, k⟩ := h
    refine ⟨_, (pss_one (ps_ret (pe_fld (pv 0) rfl))), ?_⟩
    exact ⟨_, rfl, a, C, dx, _, _, rfl, e, NC.cl, NC.nT, nF_top _ _, k⟩
theorem ok_bot (F : L2.Fun K "bottom" "Number.bottom" sNBot f fd) (b : Binds K fd PNBot []) (NC : NumC K C) : FnR P w K mg base CX0 1 f (spBot C) := by
  refine fnR_of F b scNBot (fun vs H Q E h => ?_) (fun cdv A outer s H vs Q E hr h => ?_)
  · obtain ⟨a, t, b, rfl, _⟩ := h
    rfl
  · have sc := scNBot
    obtain ⟨a, t, b, rfl, ⟨dx, e⟩, k⟩ := h
    refine ⟨_, (pss_one (ps_ret (pe_fld (pv 0) rfl))), ?_⟩
    exact ⟨_, rfl, a, C, dx, _, _, rfl, e, NC.cl, NC.nB, nF_bot _ _, k⟩
theorem ok_neq (F : L2.Fun K "__eq__" "Number.__eq__" sNEq f fd) (b : Binds K fd PNEq []) (B : Bi mg) (NC : NumC K C) (gN : mg "Number" = some (.ref C)) : FnR P w K mg base CX0 1 f (spNEq C) := by
  refine fnR_of F b scNEq (fun vs H Q E h => ?_) (fun cdv A outer s H vs Q E hr h => ?_)
  · obtain ⟨a, c, t, b, p, q, rfl, _⟩ := h
    rfl
  · have sc := scNEq
    obtain ⟨a, c, t, b, p, q, rfl, ⟨dx, ea⟩, ⟨dy, ec⟩, k⟩ := h
    refine ⟨_, (pss_one (ps_ret (pe_and (pe_callB call_isi (by rfl) B.isinstance (by decide +kernel) (pa_cons (pv 1) (pa_cons (pe_glob (v := .ref C) rfl gN rfl) pa_nil))) (pe_and (pe_cmpR op_eq (pe_fld (pv 0) rfl) (pe_fld (pv 1) rfl) (nomark _)) (pe_one (pe_cmpR op_eq (pe_fld (pv 0) rfl) (pe_fld (pv 1) rfl) (nomark _))))))), ?_⟩
    refine ⟨_, rfl, _, _, _, _, true, rfl, .own C, NC.ty ec, NC.kk, true, rfl, iteT ?_⟩
    refine ⟨_, rfl, a, C, dx, _, _, rfl, ea, NC.cl, NC.nT, nF_top _ _, _, rfl, c, C, dy, _, _, rfl, ec, NC.cl, NC.nT, nF_top _ _, rfl, _, rfl, ?_⟩
    by_cases h1 : t = p
    · subst h1
      refine ifT (by simp) ?_
      refine ⟨_, rfl, a, C, dx, _, _, rfl, ea, NC.cl, NC.nB, nF_bot _ _, _, rfl, c, C, dy, _, _, rfl, ec, NC.cl, NC.nB, nF_bot _ _, rfl, ?_⟩
      simpa using k
    · refine ifF (by simpa using h1) ?_
      simpa [h1] using k
theorem ok_nbool (F : L2.Fun K "__bool__" "Number.__bool__" sNBool f fd) (b : Binds K fd PNBool []) (B : Bi mg) (NC : NumC K C) : FnR P w K mg base CX0 1 f (spNBool C) := by
  refine fnR_of F b scNBool (fun vs H Q E h => ?_) (fun cdv A outer s H vs Q E hr h => ?_)
  · obtain ⟨a, t, b, rfl, _⟩ := h
    rfl
  · have sc := scNBool
    obtain ⟨a, t, b, rfl, ⟨dx, ea⟩, k⟩ := h
    refine ⟨_, (pss_one (ps_ret (pe_callTy call_bool1 (by rfl) B.bool (by decide +kernel) (pa_cons (pe_fld (pv 0) rfl) pa_nil)))), ?_⟩
    exact ⟨_, rfl, a, C, dx, _, _, rfl, ea, NC.cl, NC.nT, nF_top _ _, .inl ⟨t, rfl, k⟩⟩
theorem ok_nadd (F : L2.Fun K "__add__" "Number.__add__" sNAdd f fd) (b : Binds K fd PNAdd []) (NC : NumC K C) (mN : MakF P w K mg base 2 "Number" C (spNum C)) : FnR P w K mg base CX0 4 f (spAdd C) := by
  refine fnR_of F b scNAdd (fun vs H Q E h => ?_) (fun cdv A outer s H vs Q E hr h => ?_)
  · obtain ⟨a, c, t, b, p, q, rfl, _⟩ := h
    rfl
  · have sc := scNAdd
    obtain ⟨a, c, t, b, p, q, rfl, ⟨dx, ea⟩, ⟨dy, ec⟩, z1, z2, z3, z4, h0, k⟩ := h
    refine ⟨_, (pss_one (ps_ret (pe_mk mN hr (by decide) rfl (pa_cons (pe_op op_add (pe_op op_mulW (pe_fld (pv 0) rfl) (pe_fld (pv 1) rfl)) (pe_op op_mulW (pe_fld (pv 1) rfl) (pe_fld (pv 0) rfl))) (pa_cons (pe_op op_mulW (pe_fld (pv 0) rfl) (pe_fld (pv 1) rfl)) pa_nil))))), ?_⟩
    refine ⟨_, rfl, a, C, dx, _, _, rfl, ea, NC.cl, NC.nT, nF_top _ _, _, rfl, c, C, dy, _, _, rfl, ec, NC.cl, NC.nB, nF_bot _ _, _, _, rfl, rfl, wide_mul z1 z4 (by decide) (by decide) (by decide), ?_⟩
    refine ⟨_, rfl, c, C, dy, _, _, rfl, ec, NC.cl, NC.nT, nF_top _ _, _, rfl, a, C, dx, _, _, rfl, ea, NC.cl, NC.nB, nF_bot _ _, _, _, rfl, rfl, wide_mul z3 z2 (by decide) (by decide) (by decide), _, _, rfl, rfl, ?_⟩
    refine ⟨_, rfl, a, C, dx, _, _, rfl, ea, NC.cl, NC.nB, nF_bot _ _, _, rfl, c, C, dy, _, _, rfl, ec, NC.cl, NC.nB, nF_bot _ _, _, _, rfl, rfl, wide_mul z2 z4 (by decide) (by decide) (by decide), ?_⟩
    intro x d nx nd ne
    refine ⟨x, d, _, _, rfl, h0, (z2.mul z4).mono (by decide), upd_same, fun H1 h1 k1 => ⟨rfl, ?_⟩⟩
    exact k x H1 nx h1 (Same.mk nx nd k1)
theorem ok_nsub (F : L2.Fun K "__sub__" "Number.__sub__" sNSub f fd) (b : Binds K fd PNSub []) (NC : NumC K C) (mN : MakF P w K mg base 2 "Number" C (spNum C)) : FnR P w K mg base CX0 4 f (spSub C) := by
  refine fnR_of F b scNSub (fun vs H Q E h => ?_) (fun cdv A outer s H vs Q E hr h => ?_)
  · obtain ⟨a, c, t, b, p, q, rfl, _⟩ := h
    rfl
  · have sc := scNSub
    obtain ⟨a, c, t, b, p, q, rfl, ⟨dx, ea⟩, ⟨dy, ec⟩, z1, z2, z3, z4, h0, k⟩ := h
    refine ⟨_, (pss_one (ps_ret (pe_mk mN hr (by decide) rfl (pa_cons (pe_op op_sub (pe_op op_mulW (pe_fld (pv 0) rfl) (pe_fld (pv 1) rfl)) (pe_op op_mulW (pe_fld (pv 1) rfl) (pe_fld (pv 0) rfl))) (pa_cons (pe_op op_mulW (pe_fld (pv 0) rfl) (pe_fld (pv 1) rfl)) pa_nil))))), ?_⟩
    refine ⟨_, rfl, a, C, dx, _, _, rfl, ea, NC.cl, NC.nT, nF_top _ _, _, rfl, c, C, dy, _, _, rfl, ec, NC.cl, NC.nB, nF_bot _ _, _, _, rfl, rfl, wide_mul z1 z4 (by decide) (by decide) (by decide), ?_⟩
    refine ⟨_, rfl, c, C, dy, _, _, rfl, ec, NC.cl, NC.nT, nF_top _ _, _, rfl, a, C, dx, _, _, rfl, ea, NC.cl, NC.nB, nF_bot _ _, _, _, rfl, rfl, wide_mul z3 z2 (by decide) (by decide) (by decide), _, _, rfl, rfl, ?_⟩
    refine ⟨_, rfl, a, C, dx, _, _, rfl, ea, NC.cl, NC.nB, nF_bot _ _, _, rfl, c, C, dy, _, _, rfl, ec, NC.cl, NC.nB, nF_bot _ _, _, _, rfl, rfl, wide_mul z2 z4 (by decide) (by decide) (by decide), ?_⟩
    intro x d nx nd ne
    refine ⟨x, d, _, _, rfl, h0, (z2.mul z4).mono (by decide), upd_same, fun H1 h1 k1 => ⟨rfl, ?_⟩⟩
    exact k x H1 nx h1 (Same.mk nx nd k1)
theorem ok_nmul (F : L2.Fun K "__mul__" "Number.__mul__" sNMul f fd) (b : Binds K fd PNMul []) (NC : NumC K C) (mN : MakF P w K mg base 2 "Number" C (spNum C)) : FnR P w K mg base CX0 4 f (spMul C) := by
  refine fnR_of F b scNMul (fun vs H Q E h => ?_) (fun cdv A outer s H vs Q E hr h => ?_)
  · obtain ⟨a, c, t, b, p, q, rfl, _⟩ := h
    rfl
  · have sc := scNMul
    obtain ⟨a, c, t, b, p, q, rfl, ⟨dx, ea⟩, ⟨dy, ec⟩, z1, z2, z3, z4, h0, k⟩ := h
    refine ⟨_, (pss_one (ps_ret (pe_mk mN hr (by decide) rfl (pa_cons (pe_op op_mulW (pe_fld (pv 0) rfl) (pe_fld (pv 1) rfl)) (pa_cons (pe_op op_mulW (pe_fld (pv 0) rfl) (pe_fld (pv 1) rfl)) pa_nil))))), ?_⟩
    refine ⟨_, rfl, a, C, dx, _, _, rfl, ea, NC.cl, NC.nT, nF_top _ _, _, rfl, c, C, dy, _, _, rfl, ec, NC.cl, NC.nT, nF_top _ _, _, _, rfl, rfl, wide_mul z1 z3 (by decide) (by decide) (by decide), ?_⟩
    refine ⟨_, rfl, a, C, dx, _, _, rfl, ea, NC.cl, NC.nB, nF_bot _ _, _, rfl, c, C, dy, _, _, rfl, ec, NC.cl, NC.nB, nF_bot _ _, _, _, rfl, rfl, wide_mul z2 z4 (by decide) (by decide) (by decide), ?_⟩
    intro x d nx nd ne
    refine ⟨x, d, _, _, rfl, h0, (z2.mul z4).mono (by decide), upd_same, fun H1 h1 k1 => ⟨rfl, ?_⟩⟩
    exact k x H1 nx h1 (Same.mk nx nd k1)
end
end Ws

namespace Ws
open PySem PySem.Spec PyProof.Rows L2
abbrev sPot : Stmt := (PySem.Challenge.pw_whatspeed_k04_whole_numbers_in_sums.main.body.getD 9 (.Pass ⟨0, 0, 0, 0⟩))
abbrev NPot : List Str := ["script", "k", "cell", "own"]
abbrev PPot : List Str := ["script", "k"]
theorem scPot : FnScope NPot PPot (defScope sPot) := ⟨rfl, rfl, rfl, by decide +kernel, rfl, by decide +kernel, by decide +kernel⟩
abbrev sTake : Stmt := (PySem.Challenge.pw_whatspeed_k04_whole_numbers_in_sums.main.body.getD 10 (.Pass ⟨0, 0, 0, 0⟩))
abbrev NTake : List Str := ["pot", "upto", "digit", "prime", "mixed"]
abbrev PTake : List Str := ["pot", "upto"]
theorem scTake : FnScope NTake PTake (defScope sTake) := ⟨rfl, rfl, rfl, by decide +kernel, rfl, by decide +kernel, by decide +kernel⟩
abbrev sOf : Stmt := (PySem.Challenge.pw_whatspeed_k04_whole_numbers_in_sums.main.body.getD 11 (.Pass ⟨0, 0, 0, 0⟩))
abbrev NOf : List Str := ["pot", "some"]
abbrev POf : List Str := ["pot", "some"]
theorem scOf : FnScope NOf POf (defScope sOf) := ⟨rfl, rfl, rfl, by decide +kernel, rfl, by decide +kernel, by decide +kernel⟩
/-! ### the pot of drawn numbers -/
def PotAt (H : Hp) (p : Addr) (m : Int) : Prop := ∃ own seed n : Int, H p = some (.lst [.int own, .int seed, .int n]) ∧ 0 ≤ own ∧ 0 ≤ seed ∧ seed < 2305843009213693921 ∧ 0 ≤ n ∧ n ≤ m
theorem PotAt.mono {H : Hp} {p : Addr} {m m' : Int} (h : PotAt H p m) (l : m ≤ m') : PotAt H p m' := let ⟨a, b, c, e, h1, h2, h3, h4, h5⟩ := h; ⟨a, b, c, e, h1, h2, h3, h4, Int.le_trans h5 l⟩
theorem PotAt.same {H H' : Hp} {p : Addr} {m : Int} (h : PotAt H p m) (s : Same H H') : PotAt H' p m := let ⟨a, b, c, e, r⟩ := h; ⟨a, b, c, s _ _ e, r⟩
def spPot (K : PySem.W.Frag) : Sp := fun vs H Q _ => ∃ (s : Addr) (ns : List Int) (k : Nat), vs = [.ref s, .int k] ∧ SqL K H s (ns.map V.int) ∧ k < 100 ∧ ∀ p H', H p = none → PotAt H' p 0 → Same H H' → Q (.ref p) H'
def spTake : Sp := fun vs H Q _ => ∃ (p : Addr) (u m : Int), vs = [.ref p, .int u] ∧ PotAt H p m ∧ m ≤ 1000000 ∧ 1 ≤ u ∧ u < 1073741824 ∧ ∀ d H', 0 ≤ d → d < u → PotAt H' p (m + 1) → Ch p H H' → Q (.int d) H'
def spOf : Sp := fun vs H Q _ => ∃ (p l : Addr) (xs : List V) (m : Int), vs = [.ref p, .ref l] ∧ PotAt H p m ∧ m ≤ 1000000 ∧ H l = some (.lst xs) ∧ l ≠ p ∧ 1 ≤ xs.length ∧ xs.length ≤ 1000 ∧ ∀ v H', v ∈ xs → PotAt H' p (m + 1) → Ch p H H' → Q v H'
section
variable {P : Program} {w : World} {K : PySem.W.Frag} {mg : Str → Option Value} {base : Heap} {f : Addr} {fd : FuncData}
theorem at_map {ns : List Int} {k : Nat} (h : k < ns.length) : atI (ns.map V.int) (k : Int) = some (.int ns[k]) := atI_nat (by rw [List.getElem?_map, List.getElem?_eq_getElem h]; rfl)
theorem emod_lt {a b : Int} (h : 0 < b) : a % b < b := Int.emod_lt_of_pos a h
theorem emod_nn {a b : Int} (h : 0 < b) : 0 ≤ a % b := Int.emod_nonneg a (by omega)
theorem ok_pot (F : L2.Fun K "_law_pot" "_law_pot" sPot f fd) (b : Binds K fd PPot []) (B : Bi mg) : FnR P w K mg base CX0 1 f (spPot K) := by
  refine fnR_of F b scPot (fun vs H Q E h => ?_) (fun cdv A outer s H vs Q E hr h => ?_)
  · obtain ⟨s, ns, k, rfl, _⟩ := h
    rfl
  · have sc := scPot
    obtain ⟨s, ns, k, rfl, hS, hk, q⟩ := h
    refine ⟨_, (pss_cons (ps_set (i := 2) sc.nd rfl (Or.inl rfl) (pe_ifExp (pt_cmpR op_lt (pv 1) (pe_callB call_len_seq (by rfl) B.len PySem.boot_len (pa_cons (pv 0) pa_nil)) (nomark _)) (pe_callTy call_int1 (by rfl) B.int (by decide +kernel) (pa_cons (pe_ix ix_list (pv 0) (pv 1) (fun _ _ => rfl)) pa_nil)) (pe_op op_add (pe_op op_mul pe_int (pv 1)) pe_int))) (pss_cons (ps_set (i := 3) sc.nd rfl (Or.inl rfl) (pe_op op_mul (pe_op op_mod (pe_callTy call_int1 (by rfl) B.int (by decide +kernel) (pa_cons (pe_callB call_abs (by rfl) B.abs (by decide +kernel) (pa_cons (pv 2) pa_nil)) pa_nil)) (pe_op op_powW (pe_op op_pow pe_int pe_int) pe_int)) (pe_callTy call_int1 (by rfl) B.int (by decide +kernel) (pa_cons (pe_cmpR op_ge (pe_callB call_abs (by rfl) B.abs (by decide +kernel) (pa_cons (pv 2) pa_nil)) (pe_op op_pow pe_int pe_int) (nomark _)) pa_nil)))) (pss_one (ps_ret (pe_lst (pa_cons (pv 3) (pa_cons (pe_op op_mod (pe_callTy call_int1 (by rfl) B.int (by decide +kernel) (pa_cons (pe_op op_add (pe_op op_add (pe_op op_mul (pe_op op_mod (pe_callTy call_int1 (by rfl) B.int (by decide +kernel) (pa_cons (pv 2) pa_nil)) pe_int) pe_int) (pe_op op_mul (pe_op op_mul pe_int (pv 1)) (pv 1))) pe_int) pa_nil)) pe_int) (pa_cons pe_int pa_nil)))))))), ?_⟩
    refine ⟨_, rfl, _, rfl, s, _, rfl, .inl hS, _, _, rfl, rfl, _, rfl, ?_⟩
    have hA : ∀ z : Int, (if z < 0 then -z else z) = (if z < 0 then -z else z) := fun _ => rfl
    refine if2 (fun hc => ?_) (fun hc => ?_)
    · have hlt : k < ns.length := by
        have := of_decide_eq_true hc
        rw [List.length_map] at this
        omega
      refine ⟨_, rfl, _, rfl, s, _, _, _, rfl, rfl, hS, at_map hlt, .inl ⟨_, rfl, ?_⟩⟩
      generalize ns[k] = z
      refine ⟨_, rfl, _, rfl, .inl ⟨_, rfl, _, _, rfl, rfl, ⟨by decide, by decide, by decide⟩, _, _, rfl, rfl, ⟨by decide, by decide +kernel⟩, _, _, rfl, rfl, by show (0 : Int) < _; decide +kernel, ?_⟩⟩
      refine ⟨_, rfl, _, rfl, _, _, rfl, rfl, ⟨by decide, by decide, by decide⟩, _, _, rfl, rfl, .inr ⟨_, rfl, _, _, rfl, rfl, .inr (bit_lo _), ?_⟩⟩
      refine ⟨_, rfl, _, rfl, .inl ⟨_, rfl, _, _, rfl, rfl, by show (0 : Int) < _; decide +kernel, _, _, rfl, rfl, .inr ⟨by decide, by decide⟩, _, rfl, _, _, rfl, rfl, .inl ⟨by decide, by decide⟩, _, rfl, _, _, rfl, rfl, .inr ⟨by omega, by omega⟩, _, _, rfl, rfl, _, _, rfl, rfl, .inl ⟨_, rfl, _, _, rfl, rfl, by show (0 : Int) < _; decide +kernel, ?_⟩⟩⟩
      refine ⟨by show 3 ≤ sizeLine; decide, fun p hp => q p _ hp ⟨_, _, _, upd_same, ?_, emod_nn (by decide), emod_lt (by decide), by decide, by decide⟩ (Same.new hp)⟩
      exact Int.mul_nonneg (emod_nn (by decide +kernel)) (bit_nn _)
    · refine ⟨_, rfl, _, _, rfl, rfl, .inl ⟨by decide, by decide⟩, _, _, rfl, rfl, ?_⟩
      generalize (41 * (k : Int) + 19) = z
      refine ⟨_, rfl, _, rfl, .inl ⟨_, rfl, _, _, rfl, rfl, ⟨by decide, by decide, by decide⟩, _, _, rfl, rfl, ⟨by decide, by decide +kernel⟩, _, _, rfl, rfl, by show (0 : Int) < _; decide +kernel, ?_⟩⟩
      refine ⟨_, rfl, _, rfl, _, _, rfl, rfl, ⟨by decide, by decide, by decide⟩, _, _, rfl, rfl, .inr ⟨_, rfl, _, _, rfl, rfl, .inr (bit_lo _), ?_⟩⟩
      refine ⟨_, rfl, _, rfl, .inl ⟨_, rfl, _, _, rfl, rfl, by show (0 : Int) < _; decide +kernel, _, _, rfl, rfl, .inr ⟨by decide, by decide⟩, _, rfl, _, _, rfl, rfl, .inl ⟨by decide, by decide⟩, _, rfl, _, _, rfl, rfl, .inr ⟨by omega, by omega⟩, _, _, rfl, rfl, _, _, rfl, rfl, .inl ⟨_, rfl, _, _, rfl, rfl, by show (0 : Int) < _; decide +kernel, ?_⟩⟩⟩
      refine ⟨by show 3 ≤ sizeLine; decide, fun p hp => q p _ hp ⟨_, _, _, upd_same, ?_, emod_nn (by decide), emod_lt (by decide), by decide, by decide⟩ (Same.new hp)⟩
      exact Int.mul_nonneg (emod_nn (by decide +kernel)) (bit_nn _)
theorem ok_take (F : L2.Fun K "_law_take" "_law_take" sTake f fd) (b : Binds K fd PTake []) (B : Bi mg) : FnR P w K mg base CX0 1 f spTake := by
  refine fnR_of F b scTake (fun vs H Q E h => ?_) (fun cdv A outer s H vs Q E hr h => ?_)
  · obtain ⟨p, u, m, rfl, _⟩ := h
    rfl
  · have sc := scTake
    obtain ⟨p, u, m, rfl, ⟨own, seed, n, hp, h1, h2, h3, h4, h5⟩, hm, hu, hu2, q⟩ := h
    refine ⟨_, (pss_cons (ps_if (pt_cmpR op_gt (pe_ix ix_list (pv 0) pe_int (fun _ _ => rfl)) pe_int (nomark _)) (pss_cons (ps_set (i := 2) sc.nd rfl (Or.inl rfl) (pe_op op_mod (pe_callTy call_int1 (by rfl) B.int (by decide +kernel) (pa_cons (pe_ix ix_list (pv 0) pe_int (fun _ _ => rfl)) pa_nil)) (pv 1))) (pss_cons (ps_asg (pe_op op_fdiv (pe_ix ix_list (pv 0) pe_int (fun _ _ => rfl)) (pv 1)) (pg_sub (pv 0) pe_int set_list)) (pss_one (ps_ret (pv 2))))) pss_nil) (pss_cons (ps_asg (pe_op op_add (pe_ix ix_list (pv 0) pe_int (fun _ _ => rfl)) pe_int) (pg_sub (pv 0) pe_int set_list)) (pss_cons (ps_set (i := 3) sc.nd rfl (Or.inl rfl) (pe_ix ix_list (pe_lst (pa_cons pe_int (pa_cons pe_int (pa_cons pe_int (pa_cons pe_int (pa_cons pe_int pa_nil)))))) (pe_op op_mod (pe_callTy call_int1 (by rfl) B.int (by decide +kernel) (pa_cons (pe_ix ix_list (pv 0) pe_int (fun _ _ => rfl)) pa_nil)) pe_int) (fun _ _ => rfl))) (pss_cons (ps_set (i := 4) sc.nd rfl (Or.inl rfl) (pe_op op_mod (pe_callTy call_int1 (by rfl) B.int (by decide +kernel) (pa_cons (pe_op op_pow (pe_op op_add (pe_op op_add (pe_ix ix_list (pv 0) pe_int (fun _ _ => rfl)) (pe_op op_mul (pe_op op_mul pe_int (pe_ix ix_list (pv 0) pe_int (fun _ _ => rfl))) (pe_ix ix_list (pv 0) pe_int (fun _ _ => rfl)))) pe_int) pe_int) pa_nil)) (pv 3))) (pss_one (ps_ret (pe_op op_mod (pe_callTy call_int1 (by rfl) B.int (by decide +kernel) (pa_cons (pe_op op_fdiv (pe_op op_mul (pv 4) (pe_op op_add (pe_op op_mod (pe_callTy call_int1 (by rfl) B.int (by decide +kernel) (pa_cons (pv 4) pa_nil)) pe_int) (pe_op op_mul pe_int (pe_ix ix_list (pv 0) pe_int (fun _ _ => rfl))))) pe_int) pa_nil)) (pv 1)))))))), ?_⟩
    refine ⟨_, rfl, p, _, _, _, rfl, rfl, SqL.of hp, rfl, _, _, rfl, rfl, _, rfl, ?_⟩
    refine if2 (fun hc => ?_) (fun hc => ?_)
    · refine ⟨_, rfl, p, _, _, _, rfl, rfl, SqL.of hp, rfl, .inl ⟨_, rfl, _, rfl, _, _, rfl, rfl, by omega, ?_⟩⟩
      refine ⟨_, rfl, p, _, _, _, rfl, rfl, SqL.of hp, rfl, _, rfl, _, _, rfl, rfl, ⟨by omega, by omega⟩, ?_⟩
      refine ⟨_, rfl, p, _, _, _, rfl, rfl, hp, rfl, ?_⟩
      refine ⟨_, rfl, ?_⟩
      refine q _ _ (emod_nn (by omega)) (emod_lt (by omega)) ⟨_, _, _, upd_same, Int.ediv_nonneg h1 (by omega), h2, h3, h4, by omega⟩ Ch.upd
    · refine ⟨_, rfl, p, _, _, _, rfl, rfl, SqL.of hp, rfl, _, _, rfl, rfl, ?_⟩
      refine ⟨_, rfl, p, _, _, _, rfl, rfl, hp, rfl, ?_⟩
      refine ⟨by show 5 ≤ sizeLine; decide, fun l hl => ?_⟩
      have npl : p ≠ l := ne_of_none upd_same hl
      refine ⟨_, rfl, p, _, _, _, rfl, rfl, SqL.of ((upd_ne npl).trans upd_same), rfl, .inl ⟨_, rfl, _, _, rfl, rfl, by show (0 : Int) < _; decide +kernel, ?_⟩⟩
      have hi : ∃ (j : Nat) (pr : Int), (n + 1) % 5 = (j : Int) ∧ [V.int 2147483647, V.int 2147483629, V.int 2147483587, V.int 2147483579, V.int 2147483563][j]? = some (.int pr) ∧ 0 < pr ∧ pr ≤ 2147483647 := by
        have e1 : 0 ≤ (n + 1) % 5 := emod_nn (by decide)
        have e2 : (n + 1) % 5 < 5 := emod_lt (by decide)
        have : (n + 1) % 5 = 0 ∨ (n + 1) % 5 = 1 ∨ (n + 1) % 5 = 2 ∨ (n + 1) % 5 = 3 ∨ (n + 1) % 5 = 4 := by omega
        rcases this with e | e | e | e | e
        · exact ⟨0, _, e, rfl, by decide, by decide⟩
        · exact ⟨1, _, e, rfl, by decide, by decide⟩
        · exact ⟨2, _, e, rfl, by decide, by decide⟩
        · exact ⟨3, _, e, rfl, by decide, by decide⟩
        · exact ⟨4, _, e, rfl, by decide, by decide⟩
      obtain ⟨j, pr, ej, hj, hpr, hpr2⟩ := hi
      refine ⟨l, _, _, _, rfl, rfl, SqL.of upd_same, at_of ej hj, ?_⟩
      refine ⟨_, rfl, p, _, _, _, rfl, rfl, SqL.of ((upd_ne npl).trans upd_same), rfl, ?_⟩
      refine ⟨_, rfl, p, _, _, _, rfl, rfl, SqL.of ((upd_ne npl).trans upd_same), rfl, _, _, rfl, rfl, .inl ⟨by decide, by decide⟩, ?_⟩
      refine ⟨_, rfl, p, _, _, _, rfl, rfl, SqL.of ((upd_ne npl).trans upd_same), rfl, _, _, rfl, rfl, .inr ⟨by omega, by omega⟩, _, _, rfl, rfl, _, _, rfl, rfl, ?_⟩
      have hsq : 0 ≤ (n + 1) * (n + 1) ∧ (n + 1) * (n + 1) ≤ 1000001 * 1000001 := ⟨Int.mul_nonneg (by omega) (by omega), Int.mul_le_mul (by omega) (by omega) (by omega) (by decide)⟩
      have hb0 : 99961 * (n + 1) * (n + 1) = 99961 * ((n + 1) * (n + 1)) := Int.mul_assoc _ _ _
      refine ⟨_, _, rfl, rfl, ⟨by decide, by decide, ?_⟩, .inl ⟨_, rfl, _, rfl, _, _, rfl, rfl, hpr, ?_⟩⟩
      · rw [hb0]
        omega
      · generalize hmx : ((seed + 99961 * (n + 1) * (n + 1) + 47) ^ (3 : Int).toNat) % pr = mx
        have m1 : 0 ≤ mx := by rw [← hmx]; exact emod_nn hpr
        have m2 : mx < pr := by rw [← hmx]; exact emod_lt hpr
        refine ⟨_, rfl, _, rfl, .inl ⟨_, rfl, _, _, rfl, rfl, by show (0 : Int) < _; decide +kernel, ?_⟩⟩
        refine ⟨_, rfl, p, _, _, _, rfl, rfl, SqL.of ((upd_ne npl).trans upd_same), rfl, _, _, rfl, rfl, .inl ⟨by decide, by decide⟩, _, _, rfl, rfl, _, _, rfl, rfl, .inl ⟨by omega, by omega⟩, _, _, rfl, rfl, ⟨by decide, by decide⟩, .inl ⟨_, rfl, _, rfl, _, _, rfl, rfl, by omega, ?_⟩⟩
        exact q _ _ (emod_nn (by omega)) (emod_lt (by omega)) ⟨_, _, _, (upd_ne npl).trans upd_same, h1, h2, h3, by omega, by omega⟩ (Ch.upd.trans (Ch.new hl))
theorem ok_of (F : L2.Fun K "_law_of" "_law_of" sOf f fd) (b : Binds K fd POf []) (B : Bi mg) (cT : CalF P w K mg base 1 "_law_take" spTake) : FnR P w K mg base CX0 2 f spOf := by
  refine fnR_of F b scOf (fun vs H Q E h => ?_) (fun cdv A outer s H vs Q E hr h => ?_)
  · obtain ⟨p, l, xs, m, rfl, _⟩ := h
    rfl
  · have sc := scOf
    obtain ⟨p, l, xs, m, rfl, hp, hm, hl, n, h1, h2, q⟩ := h
    refine ⟨_, (pss_one (ps_ret (pe_ix ix_list (pv 1) (pe_f cT hr (by decide) rfl (pa_cons (pv 0) (pa_cons (pe_callB call_len_seq (by rfl) B.len PySem.boot_len (pa_cons (pv 1) pa_nil)) pa_nil))) (fun _ _ => rfl)))), ?_⟩
    refine ⟨_, rfl, _, rfl, _, rfl, l, xs, rfl, .inl (SqL.of hl), p, _, m, rfl, hp, hm, by omega, by omega, fun d H1 d0 d1 hp1 c1 => ?_⟩
    have hj : d.toNat < xs.length := by omega
    exact ⟨l, xs, _, _, rfl, rfl, SqL.of (c1 _ _ n hl), at_of (j := d.toNat) (by omega) (List.getElem?_eq_getElem hj), q _ _ (List.getElem_mem hj) hp1 c1⟩
end
end Ws

namespace Ws
open PySem PySem.Spec PyProof.Rows L2
abbrev sNNeg : Stmt := (inClass (PySem.Challenge.pw_whatspeed_k04_whole_numbers_in_sums.main.body.getD 7 (.Pass ⟨0, 0, 0, 0⟩)) 8)
abbrev NNNeg : List Str := ["self"]
abbrev PNNeg : List Str := ["self"]
theorem scNNeg : FnScope NNNeg PNNeg (defScope sNNeg) := ⟨rfl, rfl, rfl, by decide +kernel, rfl, by decide +kernel, by decide +kernel⟩
abbrev sNAbs : Stmt := (inClass (PySem.Challenge.pw_whatspeed_k04_whole_numbers_in_sums.main.body.getD 7 (.Pass ⟨0, 0, 0, 0⟩)) 9)
abbrev NNAbs : List Str := ["self"]
abbrev PNAbs : List Str := ["self"]
theorem scNAbs : FnScope NNAbs PNAbs (defScope sNAbs) := ⟨rfl, rfl, rfl, by decide +kernel, rfl, by decide +kernel, by decide +kernel⟩
abbrev sNLess : Stmt := (inClass (PySem.Challenge.pw_whatspeed_k04_whole_numbers_in_sums.main.body.getD 7 (.Pass ⟨0, 0, 0, 0⟩)) 10)
abbrev NNLess : List Str := ["self", "other"]
abbrev PNLess : List Str := ["self", "other"]
theorem scNLess : FnScope NNLess PNLess (defScope sNLess) := ⟨rfl, rfl, rfl, by decide +kernel, rfl, by decide +kernel, by decide +kernel⟩
def absI (t : Int) : Int := if t < 0 then -t else t
def spOp1 (C : Addr) (f : Int → Int) : Sp := fun vs H Q _ => ∃ (a : Addr) (t b : Int), vs = [.ref a] ∧ NumAt C H a t b ∧ b ≠ 0 ∧ Sz 2000 b ∧ ∀ x H', H x = none → NumAt C H' x (nT (f t) b) (nB (f t) b) → Same H H' → Q (.ref x) H'
abbrev spNeg (C : Addr) : Sp := spOp1 C fun t => -t
abbrev spAbs (C : Addr) : Sp := spOp1 C absI
def spLess (C : Addr) : Sp := fun vs H Q _ => ∃ (a c : Addr) (t b p q : Int), vs = [.ref a, .ref c] ∧ NumAt C H a t b ∧ NumAt C H c p q ∧ Sz 2000 t ∧ Sz 2000 b ∧ Sz 2000 p ∧ Sz 2000 q ∧ Q (.bl (decide (t * q < p * b))) H
section
variable {P : Program} {w : World} {K : PySem.W.Frag} {mg : Str → Option Value} {base : Heap} {C f : Addr} {fd : FuncData}
theorem ok_nneg (F : L2.Fun K "__neg__" "Number.__neg__" sNNeg f fd) (b : Binds K fd PNNeg []) (NC : NumC K C) (mN : MakF P w K mg base 2 "Number" C (spNum C)) : FnR P w K mg base CX0 4 f (spNeg C) := by
  refine fnR_of F b scNNeg (fun vs H Q E h => ?_) (fun cdv A outer s H vs Q E hr h => ?_)
  · obtain ⟨a, t, b, rfl, _⟩ := h
    rfl
  · have sc := scNNeg
    obtain ⟨a, t, b, rfl, ⟨dx, ea⟩, hb, zb, k⟩ := h
    refine ⟨_, (pss_one (ps_ret (pe_mk mN hr (by decide) rfl (pa_cons (pe_un un_neg (pe_fld (pv 0) rfl)) (pa_cons (pe_fld (pv 0) rfl) pa_nil))))), ?_⟩
    refine ⟨_, rfl, a, C, dx, _, _, rfl, ea, NC.cl, NC.nT, nF_top _ _, _, rfl, ?_⟩
    refine ⟨_, rfl, a, C, dx, _, _, rfl, ea, NC.cl, NC.nB, nF_bot _ _, ?_⟩
    intro x d nx nd ne
    refine ⟨x, d, _, _, rfl, hb, zb.mono (by decide), upd_same, fun H1 h1 k1 => ⟨rfl, ?_⟩⟩
    exact k x H1 nx h1 (Same.mk nx nd k1)
theorem ok_nabs (F : L2.Fun K "__abs__" "Number.__abs__" sNAbs f fd) (b : Binds K fd PNAbs []) (B : Bi mg) (NC : NumC K C) (mN : MakF P w K mg base 2 "Number" C (spNum C)) : FnR P w K mg base CX0 4 f (spAbs C) := by
  refine fnR_of F b scNAbs (fun vs H Q E h => ?_) (fun cdv A outer s H vs Q E hr h => ?_)
  · obtain ⟨a, t, b, rfl, _⟩ := h
    rfl
  · have sc := scNAbs
    obtain ⟨a, t, b, rfl, ⟨dx, ea⟩, hb, zb, k⟩ := h
    refine ⟨_, (pss_one (ps_ret (pe_mk mN hr (by decide) rfl (pa_cons (pe_callB call_abs (by rfl) B.abs (by decide +kernel) (pa_cons (pe_fld (pv 0) rfl) pa_nil)) (pa_cons (pe_fld (pv 0) rfl) pa_nil))))), ?_⟩
    refine ⟨_, rfl, a, C, dx, _, _, rfl, ea, NC.cl, NC.nT, nF_top _ _, _, rfl, ?_⟩
    refine ⟨_, rfl, a, C, dx, _, _, rfl, ea, NC.cl, NC.nB, nF_bot _ _, ?_⟩
    intro x d nx nd ne
    refine ⟨x, d, _, _, rfl, hb, zb.mono (by decide), upd_same, fun H1 h1 k1 => ⟨rfl, ?_⟩⟩
    exact k x H1 nx h1 (Same.mk nx nd k1)
theorem ok_nless (F : L2.Fun K "is_less" "Number.is_less" sNLess f fd) (b : Binds K fd PNLess []) (NC : NumC K C) : FnR P w K mg base CX0 1 f (spLess C) := by
  refine fnR_of F b scNLess (fun vs H Q E h => ?_) (fun cdv A outer s H vs Q E hr h => ?_)
  · obtain ⟨a, c, t, b, p, q, rfl, _⟩ := h
    rfl
  · have sc := scNLess
    obtain ⟨a, c, t, b, p, q, rfl, ⟨dx, ea⟩, ⟨dy, ec⟩, z1, z2, z3, z4, k⟩ := h
    refine ⟨_, (pss_one (ps_ret (pe_cmpR op_lt (pe_op op_mulW (pe_fld (pv 0) rfl) (pe_fld (pv 1) rfl)) (pe_op op_mulW (pe_fld (pv 1) rfl) (pe_fld (pv 0) rfl)) (nomark _)))), ?_⟩
    refine ⟨_, rfl, a, C, dx, _, _, rfl, ea, NC.cl, NC.nT, nF_top _ _, _, rfl, c, C, dy, _, _, rfl, ec, NC.cl, NC.nB, nF_bot _ _, _, _, rfl, rfl, wide_mul z1 z4 (by decide) (by decide) (by decide), ?_⟩
    refine ⟨_, rfl, c, C, dy, _, _, rfl, ec, NC.cl, NC.nT, nF_top _ _, _, rfl, a, C, dx, _, _, rfl, ea, NC.cl, NC.nB, nF_bot _ _, _, _, rfl, rfl, wide_mul z3 z2 (by decide) (by decide) (by decide), _, _, rfl, rfl, k⟩
end
end Ws

namespace Ws
open PySem PySem.Spec PyProof.Rows L2
abbrev sDrawn : Stmt := (PySem.Challenge.pw_whatspeed_k04_whole_numbers_in_sums.main.body.getD 12 (.Pass ⟨0, 0, 0, 0⟩))
abbrev NDrawn : List Str := ["pot", "top"]
abbrev PDrawn : List Str := ["pot"]
theorem scDrawn : FnScope NDrawn PDrawn (defScope sDrawn) := ⟨rfl, rfl, rfl, by decide +kernel, rfl, by decide +kernel, by decide +kernel⟩
abbrev sLSum : Stmt := (PySem.Challenge.pw_whatspeed_k04_whole_numbers_in_sums.main.body.getD 13 (.Pass ⟨0, 0, 0, 0⟩))
abbrev NLSum : List Str := ["one", "mate"]
abbrev PLSum : List Str := ["one", "mate"]
theorem scLSum : FnScope NLSum PLSum (defScope sLSum) := ⟨rfl, rfl, rfl, by decide +kernel, rfl, by decide +kernel, by decide +kernel⟩
abbrev sLLess : Stmt := (PySem.Challenge.pw_whatspeed_k04_whole_numbers_in_sums.main.body.getD 14 (.Pass ⟨0, 0, 0, 0⟩))
abbrev NLLess : List Str := ["one", "mate"]
abbrev PLLess : List Str := ["one", "mate"]
theorem scLLess : FnScope NLLess PLLess (defScope sLLess) := ⟨rfl, rfl, rfl, by decide +kernel, rfl, by decide +kernel, by decide +kernel⟩
abbrev sLTimes : Stmt := (PySem.Challenge.pw_whatspeed_k04_whole_numbers_in_sums.main.body.getD 15 (.Pass ⟨0, 0, 0, 0⟩))
abbrev NLTimes : List Str := ["one", "mate"]
abbrev PLTimes : List Str := ["one", "mate"]
theorem scLTimes : FnScope NLTimes PLTimes (defScope sLTimes) := ⟨rfl, rfl, rfl, by decide +kernel, rfl, by decide +kernel, by decide +kernel⟩
abbrev sLTurned : Stmt := (PySem.Challenge.pw_whatspeed_k04_whole_numbers_in_sums.main.body.getD 16 (.Pass ⟨0, 0, 0, 0⟩))
abbrev NLTurned : List Str := ["one"]
abbrev PLTurned : List Str := ["one"]
theorem scLTurned : FnScope NLTurned PLTurned (defScope sLTurned) := ⟨rfl, rfl, rfl, by decide +kernel, rfl, by decide +kernel, by decide +kernel⟩
abbrev sAlike : Stmt := (PySem.Challenge.pw_whatspeed_k04_whole_numbers_in_sums.main.body.getD 17 (.Pass ⟨0, 0, 0, 0⟩))
abbrev NAlike : List Str := ["some", "one"]
abbrev PAlike : List Str := ["some"]
theorem scAlike : FnScope NAlike PAlike (defScope sAlike) := ⟨rfl, rfl, rfl, by decide +kernel, rfl, by decide +kernel, by decide +kernel⟩
/-- a Number that is the fraction t / b, b above 0, reduced, of less than n bits -/
def NumV (C : Addr) (H : Hp) (a : Addr) (n : Nat) (t b : Int) : Prop := ∃ p q, NumAt C H a p q ∧ Low t b p q ∧ Sz n p ∧ Sz n q ∧ 0 < b
theorem NumV.same {C : Addr} {H H' : Hp} {a : Addr} {n : Nat} {t b : Int} (h : NumV C H a n t b) (s : Same H H') : NumV C H' a n t b := let ⟨p, q, e, r⟩ := h; ⟨p, q, e.same s, r⟩
theorem NumV.mono {C : Addr} {H : Hp} {a : Addr} {n m : Nat} {t b : Int} (h : NumV C H a n t b) (l : n ≤ m) : NumV C H a m t b := let ⟨p, q, e, r, z1, z2, z⟩ := h; ⟨p, q, e, r, z1.mono l, z2.mono l, z⟩
theorem NumV.ins {C : Addr} {H : Hp} {a : Addr} {n : Nat} {t b : Int} (h : NumV C H a n t b) : ∃ dx fs, H a = some (.ins C dx fs) := let ⟨_, _, ⟨dx, e⟩, _⟩ := h; ⟨dx, _, e⟩
theorem NumV.ch {C o : Addr} {H H' : Hp} {a : Addr} {n : Nat} {t b : Int} {xs : List V} (h : NumV C H a n t b) (c : Ch o H H') (e : H o = some (.lst xs)) : NumV C H' a n t b := by
  obtain ⟨p, q, ⟨dx, k⟩, r⟩ := h
  exact ⟨p, q, ⟨dx, c _ _ (ne_of k e (fun z => by cases z)) k⟩, r⟩
def spDrawn (C : Addr) : Sp := fun vs H Q _ => ∃ (p : Addr) (m : Int), vs = [.ref p] ∧ PotAt H p m ∧ m ≤ 100000 ∧ ∀ x H' t b, H x = none → NumV C H' x 100 t b → PotAt H' p (m + 4) → Ch p H H' → Q (.ref x) H'
def spVal2 (C : Addr) (f : Int → Int → Int → Int → Int) : Sp := fun vs H Q _ => ∃ (a c : Addr) (n m : Nat) (t b p q : Int), vs = [.ref a, .ref c] ∧ NumV C H a n t b ∧ NumV C H c m p q ∧ n ≤ 900 ∧ m ≤ 900 ∧
  ∀ x H', H x = none → NumV C H' x (n + m + 1) (f t b p q) (b * q) → Same H H' → Q (.ref x) H'
abbrev spLSum (C : Addr) : Sp := spVal2 C fun t b p q => t * q + p * b
abbrev spLLess (C : Addr) : Sp := spVal2 C fun t b p q => t * q - p * b
abbrev spLTimes (C : Addr) : Sp := spVal2 C fun t _ p _ => t * p
def spLTurned (C : Addr) : Sp := fun vs H Q _ => ∃ (a : Addr) (n : Nat) (t b : Int), vs = [.ref a] ∧ NumV C H a n t b ∧ n ≤ 1900 ∧ ∀ x H', H x = none → NumV C H' x n (-t) b → Same H H' → Q (.ref x) H'
/-- two Numbers that are one fraction -/
def Alike (C : Addr) (H : Hp) (l : Addr) : Prop := ∃ (x y : Addr) (n m : Nat) (t b p q : Int), H l = some (.lst [.ref x, .ref y]) ∧ NumV C H x n t b ∧ NumV C H y m p q ∧ t * q = p * b
theorem Alike.same {C : Addr} {H H' : Hp} {l : Addr} (h : Alike C H l) (s : Same H H') : Alike C H' l := let ⟨x, y, n, m, t, b, p, q, e, h1, h2, h3⟩ := h; ⟨x, y, n, m, t, b, p, q, s _ _ e, h1.same s, h2.same s, h3⟩
def Tup2 (H : Hp) (r : Addr) (t b : Int) : Prop := H r = some (.tup [.int t, .int b])
theorem Tup2.same {H H' : Hp} {r : Addr} {t b : Int} (h : Tup2 H r t b) (s : Same H H') : Tup2 H' r t b := s _ _ h
theorem len_one {α β : Type} {L : List (α × β)} {x : β} (nd : (L.map (·.2)).Nodup) (h : ∀ z ∈ L, z.2 = x) (ne : ∃ z, z ∈ L) : L.length = 1 := by
  match L, nd, h, ne with
  | [], _, _, ⟨_, hz⟩ => cases hz
  | [_], _, _, _ => rfl
  | a :: b :: r, nd, h, _ =>
    exfalso
    simp only [List.map_cons, List.nodup_cons, List.mem_cons, not_or] at nd
    exact nd.1.1 ((h a (by simp)).trans (h b (by simp)).symm)
def spAlike (C : Addr) : Sp := fun vs H Q _ => ∃ l : Addr, vs = [.ref l] ∧ Alike C H l ∧ ∀ H', Same H H' → Q (.bl true) H'
section
variable {C : Addr} {H : Hp} {a c : Addr} {n m : Nat} {t b p q : Int} {Q : VK} {E : XK}
theorem add_val (h1 : NumV C H a n t b) (h2 : NumV C H c m p q) (hn : n ≤ 900) (hm : m ≤ 900) (k : ∀ x H', H x = none → NumV C H' x (n + m + 1) (t * q + p * b) (b * q) → Same H H' → Q (.ref x) H') : spAdd C [.ref a, .ref c] H Q E := by
  obtain ⟨t', b', e1, l1, z1, z2, b0⟩ := h1
  obtain ⟨p', q', e2, l2, z3, z4, q0⟩ := h2
  have y1 := l1.pos
  have y2 := l2.pos
  have bq : b' * q' ≠ 0 := Int.mul_ne_zero (by omega) (by omega)
  refine ⟨a, c, t', b', p', q', rfl, e1, e2, z1.mono (by omega), z2.mono (by omega), z3.mono (by omega), z4.mono (by omega), bq, fun x H' nx hx s => k x H' nx ⟨_, _, hx, (nf_low bq).base bq ?_, ?_, ?_, Int.mul_pos b0 q0⟩ s⟩
  · have e1 := l1.cross
    have e2 := l2.cross
    grind
  · exact Sz.nT bq ((z1.mul z4).add ((z3.mul z2).mono (by omega)))
  · exact (Sz.nB bq (z2.mul z4)).mono (by omega)
theorem sub_val (h1 : NumV C H a n t b) (h2 : NumV C H c m p q) (hn : n ≤ 900) (hm : m ≤ 900) (k : ∀ x H', H x = none → NumV C H' x (n + m + 1) (t * q - p * b) (b * q) → Same H H' → Q (.ref x) H') : spSub C [.ref a, .ref c] H Q E := by
  obtain ⟨t', b', e1, l1, z1, z2, b0⟩ := h1
  obtain ⟨p', q', e2, l2, z3, z4, q0⟩ := h2
  have y1 := l1.pos
  have y2 := l2.pos
  have bq : b' * q' ≠ 0 := Int.mul_ne_zero (by omega) (by omega)
  refine ⟨a, c, t', b', p', q', rfl, e1, e2, z1.mono (by omega), z2.mono (by omega), z3.mono (by omega), z4.mono (by omega), bq, fun x H' nx hx s => k x H' nx ⟨_, _, hx, (nf_low bq).base bq ?_, ?_, ?_, Int.mul_pos b0 q0⟩ s⟩
  · have e1 := l1.cross
    have e2 := l2.cross
    grind
  · exact Sz.nT bq ((z1.mul z4).sub ((z3.mul z2).mono (by omega)))
  · exact (Sz.nB bq (z2.mul z4)).mono (by omega)
theorem mul_val (h1 : NumV C H a n t b) (h2 : NumV C H c m p q) (hn : n ≤ 900) (hm : m ≤ 900) (k : ∀ x H', H x = none → NumV C H' x (n + m + 1) (t * p) (b * q) → Same H H' → Q (.ref x) H') : spMul C [.ref a, .ref c] H Q E := by
  obtain ⟨t', b', e1, l1, z1, z2, b0⟩ := h1
  obtain ⟨p', q', e2, l2, z3, z4, q0⟩ := h2
  have y1 := l1.pos
  have y2 := l2.pos
  have bq : b' * q' ≠ 0 := Int.mul_ne_zero (by omega) (by omega)
  refine ⟨a, c, t', b', p', q', rfl, e1, e2, z1.mono (by omega), z2.mono (by omega), z3.mono (by omega), z4.mono (by omega), bq, fun x H' nx hx s => k x H' nx ⟨_, _, hx, (nf_low bq).base bq ?_, ?_, ?_, Int.mul_pos b0 q0⟩ s⟩
  · have e1 := l1.cross
    have e2 := l2.cross
    grind
  · exact (Sz.nT bq (z1.mul z3)).mono (by omega)
  · exact (Sz.nB bq (z2.mul z4)).mono (by omega)
theorem neg_val (h1 : NumV C H a n t b) (hn : n ≤ 1900) (k : ∀ x H', H x = none → NumV C H' x n (-t) b → Same H H' → Q (.ref x) H') : spNeg C [.ref a] H Q E := by
  obtain ⟨t', b', e1, l1, z1, z2, b0⟩ := h1
  have y1 := l1.pos
  have bq : b' ≠ 0 := by omega
  refine ⟨a, t', b', rfl, e1, bq, z2.mono (by omega), fun x H' nx hx s => k x H' nx ⟨_, _, hx, (nf_low bq).base bq ?_, Sz.nT bq z1.neg, Sz.nB bq z2, b0⟩ s⟩
  have e1 := l1.cross
  grind
theorem abs_val (h1 : NumV C H a n t b) (hn : n ≤ 1900) (k : ∀ x H', H x = none → NumV C H' x n (absI t) b → Same H H' → Q (.ref x) H') : spAbs C [.ref a] H Q E := by
  obtain ⟨t', b', e1, l1, z1, z2, b0⟩ := h1
  have y1 := l1.pos
  have bq : b' ≠ 0 := by omega
  have za : Sz n (absI t') := by unfold absI; split; exact z1.neg; exact z1
  refine ⟨a, t', b', rfl, e1, bq, z2.mono (by omega), fun x H' nx hx s => k x H' nx ⟨_, _, hx, (nf_low bq).base bq ?_, Sz.nT bq za, Sz.nB bq z2, b0⟩ s⟩
  have e1 := l1.cross
  have s1 : t' < 0 ↔ t < 0 := by
    constructor
    · intro h
      have : t' * b < 0 := Int.mul_neg_of_neg_of_pos h b0
      exact Int.lt_of_not_ge fun z => by have := Int.mul_nonneg z (Int.le_of_lt y1); omega
    · intro h
      have : t * b' < 0 := Int.mul_neg_of_neg_of_pos h y1
      exact Int.lt_of_not_ge fun z => by have := Int.mul_nonneg z (Int.le_of_lt b0); omega
  unfold absI
  by_cases h : t < 0
  · rw [if_pos h, if_pos (s1.mpr h)]
    grind
  · rw [if_neg h, if_neg (fun z => h (s1.mp z))]
    exact e1
end
section
variable {P : Program} {w : World} {K : PySem.W.Frag} {mg : Str → Option Value} {base : Heap} {C f : Addr} {fd : FuncData}
theorem ok_lsum (F : L2.Fun K "_law_sum" "_law_sum" sLSum f fd) (b : Binds K fd PLSum []) (B : Bi mg) (NC : NumC K C) (gN : mg "Number" = some (.ref C)) (oA : OpnF P w K mg base 4 C (PySem.dunder Operator.Add.info.2) (spAdd C)) : FnR P w K mg base CX0 5 f (spLSum C) := by
  refine fnR_of F b scLSum (fun vs H Q E h => ?_) (fun cdv A outer s H vs Q E hr h => ?_)
  · obtain ⟨a, c, n, m, t, b, p, q, rfl, _⟩ := h
    rfl
  · have sc := scLSum
    obtain ⟨a, c, n, m, t, b, p, q, rfl, h1, h2, hn, hm, k⟩ := h
    obtain ⟨dx, fx, ea⟩ := h1.ins
    obtain ⟨dy, fy, ec⟩ := h2.ins
    refine ⟨_, (pss_one (ps_ret (pe_ifExp (PW.pt (pw_and (pt_val (pe_callB call_isi (by rfl) B.isinstance (by decide +kernel) (pa_cons (pv 0) (pa_cons (pe_glob (v := .ref C) rfl gN rfl) pa_nil)))) (pw_and1 (pt_val (pe_callB call_isi (by rfl) B.isinstance (by decide +kernel) (pa_cons (pv 1) (pa_cons (pe_glob (v := .ref C) rfl gN rfl) pa_nil))))))) (pe_op (op_own oA NC.sf hr (by decide)) (pv 0) (pv 1)) pe_non))), ?_⟩
    refine ⟨_, rfl, _, _, _, _, true, rfl, .own C, NC.ty ea, NC.kk, true, rfl, iteT ?_⟩
    refine ⟨_, rfl, _, _, _, _, true, rfl, .own C, NC.ty ec, NC.kk, true, rfl, iteT ?_⟩
    exact ⟨_, rfl, _, rfl, a, dx, _, c, dy, _, rfl, ea, rfl, ec, add_val h1 h2 hn hm k⟩
theorem ok_lless (F : L2.Fun K "_law_less" "_law_less" sLLess f fd) (b : Binds K fd PLLess []) (B : Bi mg) (NC : NumC K C) (gN : mg "Number" = some (.ref C)) (oS : OpnF P w K mg base 4 C (PySem.dunder Operator.Sub.info.2) (spSub C)) : FnR P w K mg base CX0 5 f (spLLess C) := by
  refine fnR_of F b scLLess (fun vs H Q E h => ?_) (fun cdv A outer s H vs Q E hr h => ?_)
  · obtain ⟨a, c, n, m, t, b, p, q, rfl, _⟩ := h
    rfl
  · have sc := scLLess
    obtain ⟨a, c, n, m, t, b, p, q, rfl, h1, h2, hn, hm, k⟩ := h
    obtain ⟨dx, fx, ea⟩ := h1.ins
    obtain ⟨dy, fy, ec⟩ := h2.ins
    refine ⟨_, (pss_one (ps_ret (pe_ifExp (PW.pt (pw_and (pt_val (pe_callB call_isi (by rfl) B.isinstance (by decide +kernel) (pa_cons (pv 0) (pa_cons (pe_glob (v := .ref C) rfl gN rfl) pa_nil)))) (pw_and1 (pt_val (pe_callB call_isi (by rfl) B.isinstance (by decide +kernel) (pa_cons (pv 1) (pa_cons (pe_glob (v := .ref C) rfl gN rfl) pa_nil))))))) (pe_op (op_own oS NC.sf hr (by decide)) (pv 0) (pv 1)) pe_non))), ?_⟩
    refine ⟨_, rfl, _, _, _, _, true, rfl, .own C, NC.ty ea, NC.kk, true, rfl, iteT ?_⟩
    refine ⟨_, rfl, _, _, _, _, true, rfl, .own C, NC.ty ec, NC.kk, true, rfl, iteT ?_⟩
    exact ⟨_, rfl, _, rfl, a, dx, _, c, dy, _, rfl, ea, rfl, ec, sub_val h1 h2 hn hm k⟩
theorem ok_ltimes (F : L2.Fun K "_law_times" "_law_times" sLTimes f fd) (b : Binds K fd PLTimes []) (B : Bi mg) (NC : NumC K C) (gN : mg "Number" = some (.ref C)) (oM : OpnF P w K mg base 4 C (PySem.dunder Operator.Mult.info.2) (spMul C)) : FnR P w K mg base CX0 5 f (spLTimes C) := by
  refine fnR_of F b scLTimes (fun vs H Q E h => ?_) (fun cdv A outer s H vs Q E hr h => ?_)
  · obtain ⟨a, c, n, m, t, b, p, q, rfl, _⟩ := h
    rfl
  · have sc := scLTimes
    obtain ⟨a, c, n, m, t, b, p, q, rfl, h1, h2, hn, hm, k⟩ := h
    obtain ⟨dx, fx, ea⟩ := h1.ins
    obtain ⟨dy, fy, ec⟩ := h2.ins
    refine ⟨_, (pss_one (ps_ret (pe_ifExp (PW.pt (pw_and (pt_val (pe_callB call_isi (by rfl) B.isinstance (by decide +kernel) (pa_cons (pv 0) (pa_cons (pe_glob (v := .ref C) rfl gN rfl) pa_nil)))) (pw_and1 (pt_val (pe_callB call_isi (by rfl) B.isinstance (by decide +kernel) (pa_cons (pv 1) (pa_cons (pe_glob (v := .ref C) rfl gN rfl) pa_nil))))))) (pe_op (op_own oM NC.sf hr (by decide)) (pv 0) (pv 1)) pe_non))), ?_⟩
    refine ⟨_, rfl, _, _, _, _, true, rfl, .own C, NC.ty ea, NC.kk, true, rfl, iteT ?_⟩
    refine ⟨_, rfl, _, _, _, _, true, rfl, .own C, NC.ty ec, NC.kk, true, rfl, iteT ?_⟩
    exact ⟨_, rfl, _, rfl, a, dx, _, c, dy, _, rfl, ea, rfl, ec, mul_val h1 h2 hn hm k⟩
theorem ok_lturned (F : L2.Fun K "_law_turned" "_law_turned" sLTurned f fd) (b : Binds K fd PLTurned []) (B : Bi mg) (NC : NumC K C) (gN : mg "Number" = some (.ref C)) (oN : OpnF P w K mg base 4 C "__neg__" (spNeg C)) : FnR P w K mg base CX0 5 f (spLTurned C) := by
  refine fnR_of F b scLTurned (fun vs H Q E h => ?_) (fun cdv A outer s H vs Q E hr h => ?_)
  · obtain ⟨a, n, t, b, rfl, _⟩ := h
    rfl
  · have sc := scLTurned
    obtain ⟨a, n, t, b, rfl, h1, hn, k⟩ := h
    obtain ⟨dx, fx, ea⟩ := h1.ins
    refine ⟨_, (pss_one (ps_ret (pe_ifExp (pt_val (pe_callB call_isi (by rfl) B.isinstance (by decide +kernel) (pa_cons (pv 0) (pa_cons (pe_glob (v := .ref C) rfl gN rfl) pa_nil)))) (pe_un (un_negO oN hr (by decide)) (pv 0)) pe_non))), ?_⟩
    refine ⟨_, rfl, _, _, _, _, true, rfl, .own C, NC.ty ea, NC.kk, true, rfl, iteT ?_⟩
    exact ⟨_, rfl, a, dx, _, rfl, ea, neg_val h1 hn k⟩
theorem ok_drawn (F : L2.Fun K "_law_drawn" "_law_drawn" sDrawn f fd) (b : Binds K fd PDrawn []) (B : Bi mg) (mN : MakF P w K mg base 2 "Number" C (spNum C)) (cT : CalF P w K mg base 1 "_law_take" spTake) (cO : CalF P w K mg base 2 "_law_of" spOf) : FnR P w K mg base CX0 4 f (spDrawn C) := by
  refine fnR_of F b scDrawn (fun vs H Q E h => ?_) (fun cdv A outer s H vs Q E hr h => ?_)
  · obtain ⟨p, m, rfl, _⟩ := h
    rfl
  · have sc := scDrawn
    obtain ⟨p, m, rfl, hp, hm, q⟩ := h
    refine ⟨_, (pss_cons (ps_set (i := 1) sc.nd rfl (Or.inl rfl) (pe_f cO hr (by decide) rfl (pa_cons (pv 0) (pa_cons (pe_lst (pa_cons pe_int (pa_cons pe_int (pa_cons (pe_un un_neg pe_int) (pa_cons pe_int (pa_cons pe_int (pa_cons (pe_un un_neg pe_int) (pa_cons pe_int (pa_cons pe_int (pa_cons (pe_op op_pow pe_int pe_int) (pa_cons (pe_op op_sub (pe_f cT hr (by decide) rfl (pa_cons (pv 0) (pa_cons pe_int pa_nil))) pe_int) (pa_cons (pe_op op_sub (pe_un un_neg (pe_op op_pow pe_int pe_int)) pe_int) pa_nil)))))))))))) pa_nil)))) (pss_one (ps_ret (pe_mk mN hr (by decide) rfl (pa_cons (pv 1) (pa_cons (pe_f cO hr (by decide) rfl (pa_cons (pv 0) (pa_cons (pe_lst (pa_cons pe_int (pa_cons pe_int (pa_cons pe_int (pa_cons pe_int (pa_cons (pe_un un_neg pe_int) (pa_cons pe_int (pa_cons pe_int (pa_cons (pe_op op_pow pe_int pe_int) (pa_cons (pe_op op_add pe_int (pe_f cT hr (by decide) rfl (pa_cons (pv 0) (pa_cons pe_int pa_nil)))) (pa_cons (pe_un un_neg pe_int) pa_nil))))))))))) pa_nil))) pa_nil)))))), ?_⟩
    refine ⟨_, rfl, _, rfl, _, rfl, _, _, rfl, rfl, ⟨by decide, by decide, by decide⟩, ?_⟩
    refine ⟨_, rfl, p, 200, m, rfl, hp, by omega, by decide, by decide, fun d H1 d0 d1 hp1 c1 => ?_⟩
    refine ⟨_, _, rfl, rfl, _, _, rfl, rfl, ⟨by decide, by decide, by decide⟩, _, rfl, _, _, rfl, rfl, by show 11 ≤ sizeLine; decide, fun l hl => ?_⟩
    have npl : p ≠ l := by obtain ⟨_, _, _, e, _⟩ := hp1; exact ne_of_none e hl
    refine ⟨p, l, _, m + 1, rfl, ?_, by omega, upd_same, fun z => npl z.symm, by show 1 ≤ 11; decide, by show 11 ≤ 1000; decide, fun v H2 hv hp2 c2 => ?_⟩
    · obtain ⟨x, y, z, e, r⟩ := hp1
      exact ⟨x, y, z, (upd_ne npl).trans e, r⟩
    have hv' : ∃ t : Int, v = .int t ∧ Sz 100 t := by
      simp only [List.mem_cons, List.not_mem_nil, or_false] at hv
      rcases hv with rfl | rfl | rfl | rfl | rfl | rfl | rfl | rfl | rfl | rfl | rfl
      all_goals refine ⟨_, rfl, ?_⟩
      all_goals first
        | (show Int.natAbs _ < 2 ^ 100; decide)
        | (show Int.natAbs _ < 2 ^ 100; omega)
    obtain ⟨t, rfl, zt⟩ := hv'
    have c02 : Ch p H H2 := (c1.trans (Ch.new hl)).trans c2
    refine ⟨_, rfl, _, rfl, _, rfl, _, _, rfl, rfl, ⟨by decide, by decide, by decide⟩, _, rfl, p, 40, m + 1 + 1, rfl, hp2, by omega, by decide, by decide, fun d H3 d0 d1 hp3 c3 => ?_⟩
    refine ⟨_, _, rfl, rfl, _, rfl, by show 10 ≤ sizeLine; decide, fun l hl => ?_⟩
    have npl : p ≠ l := by obtain ⟨_, _, _, e, _⟩ := hp3; exact ne_of_none e hl
    refine ⟨p, l, _, m + 1 + 1 + 1, rfl, ?_, by omega, upd_same, fun z => npl z.symm, by show 1 ≤ 10; decide, by show 10 ≤ 1000; decide, fun v H4 hv hp4 c4 => ?_⟩
    · obtain ⟨x, y, z, e, r⟩ := hp3
      exact ⟨x, y, z, (upd_ne npl).trans e, r⟩
    have hv' : ∃ b : Int, v = .int b ∧ b ≠ 0 ∧ Sz 100 b := by
      simp only [List.mem_cons, List.not_mem_nil, or_false] at hv
      rcases hv with rfl | rfl | rfl | rfl | rfl | rfl | rfl | rfl | rfl | rfl
      all_goals refine ⟨_, rfl, ?_⟩
      all_goals first
        | (refine ⟨by decide, ?_⟩; show Int.natAbs _ < 2 ^ 100; decide)
        | (refine ⟨by omega, ?_⟩; show Int.natAbs _ < 2 ^ 100; omega)
    obtain ⟨b, rfl, hb1, hb2⟩ := hv'
    have c04 : Ch p H H4 := c02.trans ((c3.trans (Ch.new hl)).trans c4)
    intro x dx nx nd ne
    refine ⟨x, dx, _, _, rfl, hb1, hb2.mono (by decide), upd_same, fun H5 h5 k5 => ⟨rfl, ?_⟩⟩
    have j5 : Same H4 H5 := Same.mk nx nd k5
    have npx : x ≠ p := by obtain ⟨_, _, _, e, _⟩ := hp4; exact (ne_of_none e nx).symm
    have low := nf_low (t := t) hb1
    refine q x H5 _ _ (c04.free npx nx) ⟨_, _, h5, low.self hb1, zt.nT hb1, hb2.nB hb1, low.pos⟩ ?_ (c04.trans (Ch.of j5))
    exact (hp4.same j5).mono (by omega)
end
section
variable {P : Program} {w : World} {K : PySem.W.Frag} {mg : Str → Option Value} {base : Heap} {C f : Addr} {fd : FuncData}
theorem ok_alike (F : L2.Fun K "_law_are_same" "_law_are_same" sAlike f fd) (b : Binds K fd PAlike []) (B : Bi mg) (gSet : mg "set" = none) (NC : NumC K C) (gN : mg "Number" = some (.ref C)) (pT : PrpF P w K mg base 1 C "top" (spTop C)) (pB : PrpF P w K mg base 1 C "bottom" (spBot C)) : FnR P w K mg base CX0 3 f (spAlike C) := by
  refine fnR_of F b scAlike (fun vs H Q E h => ?_) (fun cdv A outer s H vs Q E hr h => ?_)
  · obtain ⟨l, rfl, _⟩ := h
    rfl
  · have sc := scAlike
    obtain ⟨l, rfl, hl, k⟩ := h
    have un := hr.units
    refine ⟨_, (pss_cons (ps_if (pt_not (pt_val (pe_callB (cr_all rfl) (by rfl) B.all (by decide +kernel) (pa_cons (pe_lc (own := [("one", 1)]) rfl sc.nd (pi_list (pv 0)) (blkOk_by (N := NAlike) (sc := defScope sAlike) (by decide +kernel)) (fun _ _ _ _ _ => by exact (pg_name (i := 1) sc.nd rfl (Or.inl rfl))) (fun _ _ _ _ _ => by exact pts_nil) (fun _ _ _ _ _ => by exact (pe_callB (show CallR _ (.builtin "isinstance") (rIsi K) from call_isi) (by rfl) B.isinstance (by decide +kernel) (pa_cons (pv 1) (pa_cons (pe_glob (v := .ref C) rfl gN rfl) pa_nil))))) pa_nil)))) (pss_one (ps_ret pe_bl)) pss_nil) (pss_one (ps_ret (pe_cmpR op_eq (pe_callB call_lenT (by rfl) B.len PySem.boot_len (pa_cons (pe_callTy (cr_setOfT rfl un) (by rfl) gSet (by decide +kernel) (pa_cons (pe_lc (own := [("one", 1)]) rfl sc.nd (pi_list (pv 0)) (blkOk_by (N := NAlike) (sc := defScope sAlike) (by decide +kernel)) (fun _ _ _ _ _ => by exact (pg_name (i := 1) sc.nd rfl (Or.inl rfl))) (fun _ _ _ _ _ => by exact pts_nil) (fun _ _ _ _ _ => by exact (pe_tup (pa_cons (pe_pr pT hr (by decide) (pv 1)) (pa_cons (pe_pr pB hr (by decide) (pv 1)) pa_nil))))) pa_nil)) pa_nil)) pe_int (nomark _))))), ?_⟩
    obtain ⟨x, y, n, m, t, b, p, q, el, h1, h2, hc⟩ := hl
    obtain ⟨dx, fx, ex⟩ := h1.ins
    obtain ⟨dy, fy, ey⟩ := h2.ins
    refine ⟨_, rfl, l, rfl, ⟨_, SqL.of el⟩, fun D hD => ?_⟩
    refine lcL (K := K) (a := l) (xs := [.ref x, .ref y]) (fun i acc H' => acc = List.replicate i (V.bl true) ∧ Same H H') ⟨rfl, Same.new hD⟩ (fun i acc H' ⟨_, s⟩ => SqL.of (s _ _ el)) (by show 2 < sizeLine; decide) ?_ ?_
    · rintro i z Hc acc hx ⟨ha, s⟩ hDj hl Qn kQ
      refine ⟨rfl, ?_⟩
      have kq : Qn (.bl true) Hc := kQ _ _ hDj ⟨by rw [ha, List.replicate_succ'], fun b o e => by rw [upd_ne (ne_of_none e hD)]; exact s _ _ e⟩
      have key : ∃ a dx fx, z = .ref a ∧ Hc a = some (.ins C dx fx) := by
        match i, hx with
        | 0, h => cases Option.some.inj h; exact ⟨x, dx, fx, rfl, s _ _ ex⟩
        | 1, h => cases Option.some.inj h; exact ⟨y, dy, fy, rfl, s _ _ ey⟩
      obtain ⟨a, da, fa, rfl, ea⟩ := key
      exact ⟨_, rfl, _, _, _, _, true, rfl, .own C, NC.ty ea, NC.kk, kq⟩
    · rintro ys H1 ⟨hy, s1⟩ hD1 hl1
      subst hy
      refine ⟨D, List.replicate 2 true, rfl, SqL.of hD1, true, rfl, ifF rfl ?_⟩
      obtain ⟨p1, q1, N1, l1, z1, z2, b0⟩ := h1.same s1
      obtain ⟨p2, q2, N2, l2, z3, z4, q0⟩ := h2.same s1
      obtain ⟨rfl, rfl⟩ := l1.eq l2 (by omega) (by omega) hc
      obtain ⟨d1, e1⟩ := id N1
      obtain ⟨d2, e2⟩ := id N2
      refine ⟨_, rfl, l, rfl, ⟨_, SqL.of (s1 _ _ el)⟩, fun D2 hD2 => ?_⟩
      refine lcL (K := K) (a := l) (xs := [.ref x, .ref y]) (fun i acc H' => (∃ ks : List Addr, acc = ks.map V.ref ∧ ∀ a ∈ ks, Tup2 H' a p1 q1) ∧ Same H1 H' ∧ H' D2 = some (.lst acc)) ⟨⟨[], rfl, (fun a ha => by cases ha)⟩, Same.new hD2, upd_same⟩ (fun i acc H' ⟨_, s, _⟩ => SqL.of (s _ _ (s1 _ _ el))) (by show 2 < sizeLine; decide) ?_ ?_
      · rintro i z Hc acc hx ⟨⟨ks, ha, hk⟩, s, _⟩ hDj hl Qn kQ
        refine ⟨rfl, ?_⟩
        have kq : ∀ r, Hc r = none → Qn (.ref r) (upd Hc r (.tup [.int p1, .int q1])) := fun r nr => by
          have nrD : r ≠ D2 := (ne_of_none hDj nr).symm
          have s2 := Same.new (o := .tup [.int p1, .int q1]) nr
          refine kQ _ _ (s2 _ _ hDj) ⟨⟨ks ++ [r], by rw [ha, List.map_append] <;> rfl, fun a hm => ?_⟩, fun b o e => ?_, upd_same⟩
          · rcases List.mem_append.mp hm with hm | hm
            · have e := hk a hm
              exact (upd_ne (ne_of (show Hc a = some (.tup [.int p1, .int q1]) from e) hDj (fun z => by cases z))).trans (s2 _ _ e)
            · rw [List.mem_singleton.mp hm]
              exact (upd_ne nrD).trans upd_same
          · rw [upd_ne (ne_of_none e hD2)]
            exact s2 _ _ (s _ _ e)
        have key : ∃ a dx, z = .ref a ∧ NumAt C Hc a p1 q1 ∧ Hc a = some (.ins C dx (nF p1 q1)) := by
          match i, hx with
          | 0, h => cases Option.some.inj h; exact ⟨x, d1, rfl, N1.same s, s _ _ e1⟩
          | 1, h => cases Option.some.inj h; exact ⟨y, d2, rfl, N2.same s, s _ _ e2⟩
        obtain ⟨a, da, rfl, N, ea⟩ := key
        exact ⟨_, rfl, a, da, _, rfl, ea, a, p1, q1, rfl, N, _, rfl, a, da, _, rfl, ea, a, p1, q1, rfl, N, by show 2 ≤ sizeLine; decide, kq⟩
      · rintro ys H2 ⟨⟨ks, ha, hk⟩, s2, _⟩ hD3 hl2
        subst ha
        have two : ks.length = 2 := by rw [List.length_map] at hl2; exact hl2
        refine ⟨D2, ks.map fun a => (a, [p1, q1]), rfl, ?_, ?_, by rw [List.length_map, two]; decide, fun S L nS hL hall => ?_⟩
        · rw [List.map_map]
          exact SqL.of hD3
        · intro z hz
          obtain ⟨a, ha, rfl⟩ := List.mem_map.mp hz
          exact SqT.of (hk a ha)
        refine ⟨S, L, rfl, upd_same, fun nd => ?_⟩
        have one : L.length = 1 := len_one nd (fun z hz => by obtain ⟨a, _, e⟩ := List.mem_map.mp (hL z hz); rw [← e]) (by
          match ks, two with
          | a :: _, _ => exact ⟨_, (List.mem_map.mp (hall (a, [p1, q1]) (by simp))).choose_spec.1⟩)
        refine ⟨rfl, ?_⟩
        rw [one]
        exact k _ ((s1.trans s2).trans (Same.new nS))
end
end Ws

namespace Ws
open PySem PySem.Spec PyProof.Rows L2
abbrev sSums : Stmt := (PySem.Challenge.pw_whatspeed_k04_whole_numbers_in_sums.main.body.getD 18 (.Pass ⟨0, 0, 0, 0⟩))
abbrev NSums : List Str := ["a", "b", "c", "zero", "one", "both", "rows", "row"]
abbrev PSums : List Str := ["a", "b", "c"]
theorem scSums : FnScope NSums PSums (defScope sSums) := ⟨rfl, rfl, rfl, by decide +kernel, rfl, by decide +kernel, by decide +kernel⟩
def spNum1 (C : Addr) : Sp := fun vs H Q _ => ∃ (x dx : Addr) (t : Int), vs = [.ref x, .int t] ∧ H x = some (.ins C dx []) ∧ ∀ H', NumAt C H' x (nT t 1) (nB t 1) → (∀ a o, H a = some o → a ≠ x → H' a = some o) → Q .non H'
def spSums (C : Addr) : Sp := fun vs H Q _ => ∃ (a b c : Addr) (ta ba tb bb tc bc : Int), vs = [.ref a, .ref b, .ref c] ∧ NumV C H a 100 ta ba ∧ NumV C H b 100 tb bb ∧ NumV C H c 100 tc bc ∧ ∀ H', Same H H' → Q (.bl true) H'
/-- the rows of Numbers that are alike, at R, over what stood in H -/
structure RowsA (C : Addr) (H G : Hp) (R : Addr) (rs : List Addr) : Prop where
  nR : H R = none
  same : Same H G
  at_ : G R = some (.lst (rs.map V.ref))
  al : ∀ r ∈ rs, r ≠ R ∧ Alike C G r
theorem Alike.ch {C o : Addr} {H H' : Hp} {l : Addr} {xs : List V} (h : Alike C H l) (n : l ≠ o) (c : Ch o H H') (e : H o = some (.lst xs)) : Alike C H' l := let ⟨x, y, n1, m, t, b, p, q, e1, h1, h2, h3⟩ := h; ⟨x, y, n1, m, t, b, p, q, c _ _ n e1, h1.ch c e, h2.ch c e, h3⟩
section
variable {C : Addr} {H G G' : Hp} {R r r2 x y x2 y2 : Addr} {rs : List Addr} {n m n2 m2 : Nat} {t b p q t2 b2 p2 q2 : Int}
theorem alike_new (nr : G r = none) (hx : NumV C G x n t b) (hy : NumV C G y m p q) (e : t * q = p * b) : Alike C (upd G r (.lst [.ref x, .ref y])) r := ⟨x, y, n, m, t, b, p, q, upd_same, hx.same (Same.new nr), hy.same (Same.new nr), e⟩
theorem RowsA.step (h : RowsA C H G R rs) (s : Same G G') : RowsA C H G' R rs := ⟨h.nR, h.same.trans s, s _ _ h.at_, fun r hr => ⟨(h.al r hr).1, (h.al r hr).2.same s⟩⟩
theorem RowsA.push (h : RowsA C H G R rs) {qs : List Addr} (hq : ∀ r ∈ qs, r ≠ R ∧ Alike C G r) : RowsA C H (upd G R (.lst (rs.map V.ref ++ qs.map V.ref))) R (rs ++ qs) := by
  refine ⟨h.nR, fun b o e => (upd_ne (ne_of_none e h.nR)).trans (h.same _ _ e), by rw [List.map_append]; exact upd_same, fun r hr => ?_⟩
  have key : r ≠ R ∧ Alike C G r := by
    rcases List.mem_append.mp hr with hr | hr
    · exact h.al r hr
    · exact hq r hr
  exact ⟨key.1, key.2.ch key.1 Ch.upd h.at_⟩
theorem RowsA.push1 (h : RowsA C H G R rs) (h1 : r ≠ R) (a1 : Alike C G r) : RowsA C H (upd G R (.lst (rs.map V.ref ++ [.ref r]))) R (rs ++ [r]) := h.push (qs := [r]) fun y hy => by rw [List.mem_singleton.mp hy]; exact ⟨h1, a1⟩
theorem RowsA.push2 (h : RowsA C H G R rs) (h1 : r ≠ R) (a1 : Alike C G r) (h2 : r2 ≠ R) (a2 : Alike C G r2) : RowsA C H (upd G R (.lst (rs.map V.ref ++ [.ref r, .ref r2]))) R (rs ++ [r, r2]) := h.push (qs := [r, r2]) fun y hy => by
  simp only [List.mem_cons, List.not_mem_nil, or_false] at hy
  rcases hy with rfl | rfl
  · exact ⟨h1, a1⟩
  · exact ⟨h2, a2⟩
theorem num_one {n : Nat} {a : Addr} {t : Int} (h : NumAt C H a (nT t 1) (nB t 1)) (z : Sz n t) (hn : 1 ≤ n) : NumV C H a n t 1 := ⟨_, _, h, nf_low (by decide), z.nT (by decide), (show Sz 1 1 from by unfold Sz; decide).mono hn |>.nB (by decide), by decide⟩
theorem absI_neg (t : Int) : absI (-t) = absI t := by unfold absI; split <;> split <;> omega
theorem RowsA.first (nR : G R = none) (h : Alike C G r) (s : Same H G) : RowsA C H (upd G R (.lst [.ref r])) R [r] := by
  have j := Same.new (o := .lst [.ref r]) nR
  refine ⟨s.free nR, s.trans j, upd_same, fun r' hr => ?_⟩
  rw [List.mem_singleton.mp hr]
  refine ⟨?_, h.same j⟩
  obtain ⟨_, _, _, _, _, _, _, _, e, _⟩ := h
  exact ne_of_none e nR
end
section
variable {P : Program} {w : World} {K : PySem.W.Frag} {mg : Str → Option Value} {base : Heap} {C f : Addr} {fd : FuncData}
theorem ok_sums (F : L2.Fun K "_law_sums_right" "_law_sums_right" sSums f fd) (b : Binds K fd PSums []) (B : Bi mg) (NC : NumC K C) (mN1 : MakF P w K mg base 2 "Number" C (spNum1 C)) (c1 : CalF P w K mg base 5 "_law_sum" (spLSum C)) (c2 : CalF P w K mg base 5 "_law_less" (spLLess C)) (c3 : CalF P w K mg base 5 "_law_times" (spLTimes C))
    (c4 : CalF P w K mg base 5 "_law_turned" (spLTurned C)) (c5 : CalF P w K mg base 3 "_law_are_same" (spAlike C)) (oN : OpnF P w K mg base 4 C "__neg__" (spNeg C)) (oAb : OpnF P w K mg base 4 C "__abs__" (spAbs C)) : FnR P w K mg base CX0 6 f (spSums C) := by
  refine fnR_of F b scSums (fun vs H Q E h => ?_) (fun cdv A outer s H vs Q E hr h => ?_)
  · obtain ⟨a, b, c, _, _, _, _, _, _, rfl, _⟩ := h
    rfl
  · have sc := scSums
    obtain ⟨a, b, c, ta, ba, tb, bb, tc, bc, rfl, hA, hB, hC, k⟩ := h
    refine ⟨_, (pss_cons (ps_par3 (i := 3) (j := 4) (l := 5) rfl sc.nd rfl rfl rfl (by decide) (by decide) (by decide) rfl rfl rfl (pa_cons (pe_mk mN1 hr (by decide) rfl (pa_cons pe_int pa_nil)) (pa_cons (pe_mk mN1 hr (by decide) rfl (pa_cons pe_int pa_nil)) (pa_cons (pe_f c1 hr (by decide) rfl (pa_cons (pv 1) (pa_cons (pv 2) pa_nil))) pa_nil))) (by rfl)) (pss_cons (ps_set (i := 6) sc.nd rfl (Or.inl rfl) (pe_lst (pa_cons (pe_lst (pa_cons (pe_f c1 hr (by decide) rfl (pa_cons (pe_f c1 hr (by decide) rfl (pa_cons (pv 0) (pa_cons (pv 1) pa_nil))) (pa_cons (pv 2) pa_nil))) (pa_cons (pe_f c1 hr (by decide) rfl (pa_cons (pv 2) (pa_cons (pe_f c1 hr (by decide) rfl (pa_cons (pv 1) (pa_cons (pv 0) pa_nil))) pa_nil))) pa_nil))) pa_nil))) (pss_cons (ps_expr (pe_bm PySem.F.plainAttrs_list PySem.F.slot_list_append PySem.F.type_list_append mt_append (pv 6) (pa_cons (pe_lst (pa_cons (pe_f c1 hr (by decide) rfl (pa_cons (pv 5) (pa_cons (pv 0) pa_nil))) (pa_cons (pe_f c1 hr (by decide) rfl (pa_cons (pv 1) (pa_cons (pe_f c1 hr (by decide) rfl (pa_cons (pv 0) (pa_cons (pv 2) pa_nil))) pa_nil))) pa_nil))) pa_nil))) (pss_cons (ps_expr (pe_bm PySem.F.plainAttrs_list PySem.F.slot_list_append PySem.F.type_list_append mt_append (pv 6) (pa_cons (pe_lst (pa_cons (pe_f c3 hr (by decide) rfl (pa_cons (pe_f c3 hr (by decide) rfl (pa_cons (pv 0) (pa_cons (pv 1) pa_nil))) (pa_cons (pv 2) pa_nil))) (pa_cons (pe_f c3 hr (by decide) rfl (pa_cons (pv 2) (pa_cons (pe_f c3 hr (by decide) rfl (pa_cons (pv 1) (pa_cons (pv 0) pa_nil))) pa_nil))) pa_nil))) pa_nil))) (pss_cons (ps_expr (pe_bm PySem.F.plainAttrs_list PySem.F.slot_list_append PySem.F.type_list_append mt_append (pv 6) (pa_cons (pe_lst (pa_cons (pe_f c3 hr (by decide) rfl (pa_cons (pv 0) (pa_cons (pv 5) pa_nil))) (pa_cons (pe_f c1 hr (by decide) rfl (pa_cons (pe_f c3 hr (by decide) rfl (pa_cons (pv 0) (pa_cons (pv 1) pa_nil))) (pa_cons (pe_f c3 hr (by decide) rfl (pa_cons (pv 0) (pa_cons (pv 2) pa_nil))) pa_nil))) pa_nil))) pa_nil))) (pss_cons (ps_expr (pe_bm PySem.F.plainAttrs_list PySem.F.slot_list_append PySem.F.type_list_append mt_append (pv 6) (pa_cons (pe_lst (pa_cons (pe_f c2 hr (by decide) rfl (pa_cons (pe_f c1 hr (by decide) rfl (pa_cons (pv 0) (pa_cons (pv 1) pa_nil))) (pa_cons (pv 1) pa_nil))) (pa_cons (pv 0) pa_nil))) pa_nil))) (pss_cons (ps_expr (pe_bm PySem.F.plainAttrs_list PySem.F.slot_list_append PySem.F.type_list_append mt_append (pv 6) (pa_cons (pe_lst (pa_cons (pe_f c2 hr (by decide) rfl (pa_cons (pv 0) (pa_cons (pv 1) pa_nil))) (pa_cons (pe_f c4 hr (by decide) rfl (pa_cons (pe_f c2 hr (by decide) rfl (pa_cons (pv 1) (pa_cons (pv 0) pa_nil))) pa_nil)) pa_nil))) pa_nil))) (pss_cons (ps_expr (pe_bm PySem.F.plainAttrs_list PySem.F.slot_list_extend PySem.F.type_list_extend mt_extend (pv 6) (pa_cons (pe_lst (pa_cons (pe_lst (pa_cons (pe_f c2 hr (by decide) rfl (pa_cons (pv 0) (pa_cons (pv 0) pa_nil))) (pa_cons (pv 3) pa_nil))) (pa_cons (pe_lst (pa_cons (pe_f c3 hr (by decide) rfl (pa_cons (pv 0) (pa_cons (pv 4) pa_nil))) (pa_cons (pv 0) pa_nil))) pa_nil))) pa_nil))) (pss_cons (ps_expr (pe_bm PySem.F.plainAttrs_list PySem.F.slot_list_extend PySem.F.type_list_extend mt_extend (pv 6) (pa_cons (pe_lst (pa_cons (pe_lst (pa_cons (pe_f c1 hr (by decide) rfl (pa_cons (pv 0) (pa_cons (pv 3) pa_nil))) (pa_cons (pv 0) pa_nil))) (pa_cons (pe_lst (pa_cons (pe_f c3 hr (by decide) rfl (pa_cons (pv 0) (pa_cons (pv 3) pa_nil))) (pa_cons (pv 3) pa_nil))) pa_nil))) pa_nil))) (pss_cons (ps_expr (pe_bm PySem.F.plainAttrs_list PySem.F.slot_list_append PySem.F.type_list_append mt_append (pv 6) (pa_cons (pe_lst (pa_cons (pe_f c4 hr (by decide) rfl (pa_cons (pv 0) pa_nil)) (pa_cons (pe_f c3 hr (by decide) rfl (pa_cons (pe_mk mN1 hr (by decide) rfl (pa_cons (pe_un un_neg pe_int) pa_nil)) (pa_cons (pv 0) pa_nil))) pa_nil))) pa_nil))) (pss_cons (ps_expr (pe_bm PySem.F.plainAttrs_list PySem.F.slot_list_extend PySem.F.type_list_extend mt_extend (pv 6) (pa_cons (pe_lst (pa_cons (pe_lst (pa_cons (pe_callB (call_absO oAb hr (by decide)) (by rfl) B.abs (by decide +kernel) (pa_cons (pv 0) pa_nil)) (pa_cons (pe_callB (call_absO oAb hr (by decide)) (by rfl) B.abs (by decide +kernel) (pa_cons (pe_un (un_negO oN hr (by decide)) (pv 0)) pa_nil)) pa_nil))) (pa_cons (pe_lst (pa_cons (pe_f c4 hr (by decide) rfl (pa_cons (pe_f c4 hr (by decide) rfl (pa_cons (pv 0) pa_nil)) pa_nil)) (pa_cons (pv 0) pa_nil))) pa_nil))) pa_nil))) (pss_one (ps_ret (pe_callB (cr_all rfl) (by rfl) B.all (by decide +kernel) (pa_cons (pe_lc (own := [("row", 7)]) rfl sc.nd (pi_list (pv 6)) (blkOk_by (N := NSums) (sc := defScope sSums) (by decide +kernel)) (fun _ _ _ _ _ => by exact (pg_name (i := 7) sc.nd rfl (Or.inl rfl))) (fun _ _ _ _ _ => by exact pts_nil) (fun _ _ _ _ _ => by exact (pe_f c5 hr (by decide) rfl (pa_cons (pv 7) pa_nil)))) pa_nil))))))))))))))), ?_⟩
    intro z dz nz ndz nez
    refine ⟨z, dz, _, rfl, upd_same, fun H1 hz k1 => ⟨rfl, ?_⟩⟩
    have j1 : Same H H1 := Same.mk nz ndz k1
    intro o d_o no ndo neo
    refine ⟨o, d_o, _, rfl, upd_same, fun H2 ho k2 => ⟨rfl, ?_⟩⟩
    have j2 : Same H1 H2 := Same.mk no ndo k2
    have hA := (hA.same j1).same j2
    have hB := (hB.same j1).same j2
    have hC := (hC.same j1).same j2
    refine ⟨_, rfl, _, rfl, b, c, _, _, _, _, _, _, rfl, hB, hC, by decide, by decide, fun u B0 nu hU j3 => ?_⟩
    have hA := hA.same j3
    have hB := hB.same j3
    have hC := hC.same j3
    have hZ := ((num_one (n := 1) hz (by unfold Sz; decide) (by decide)).same j2).same j3
    have hO := (num_one (n := 1) ho (by unfold Sz; decide) (by decide)).same j3
    have SB := Same.refl B0
    have j0 := (j1.trans j2).trans j3
    refine ⟨_, _, _, rfl, ?_⟩
    refine ⟨_, rfl, ?_⟩
    refine ⟨_, rfl, ?_⟩
    refine ⟨a, b, _, _, _, _, _, _, rfl, (hA.same SB), (hB.same SB), by decide, by decide, fun x1 G2 nx1 hx1 sx1 => ?_⟩
    have SB := SB.trans sx1
    refine ⟨_, rfl, ?_⟩
    refine ⟨x1, c, _, _, _, _, _, _, rfl, hx1, (hC.same SB), by decide, by decide, fun x3 G4 nx3 hx3 sx3 => ?_⟩
    have hx1 := hx1.same sx3
    have SB := SB.trans sx3
    refine ⟨_, rfl, ?_⟩
    refine ⟨_, rfl, ?_⟩
    refine ⟨_, rfl, ?_⟩
    refine ⟨b, a, _, _, _, _, _, _, rfl, (hB.same SB), (hA.same SB), by decide, by decide, fun x5 G6 nx5 hx5 sx5 => ?_⟩
    have hx1 := hx1.same sx5
    have hx3 := hx3.same sx5
    have SB := SB.trans sx5
    refine ⟨c, x5, _, _, _, _, _, _, rfl, (hC.same SB), hx5, by decide, by decide, fun x7 G8 nx7 hx7 sx7 => ?_⟩
    have hx1 := hx1.same sx7
    have hx3 := hx3.same sx7
    have hx5 := hx5.same sx7
    have SB := SB.trans sx7
    refine ⟨by show 2 ≤ sizeLine; decide, fun r9 nr9 => ?_⟩
    have alr9 := alike_new nr9 hx3 hx7 (by grind)
    have sr9 := Same.new (o := .lst [.ref x3, .ref x7]) nr9
    generalize upd G8 r9 (.lst [.ref x3, .ref x7]) = G10 at alr9 sr9
    have SB := SB.trans sr9
    refine ⟨by show 1 ≤ sizeLine; decide, fun R nR => ?_⟩
    have RA := RowsA.first nR alr9 SB
    generalize upd G10 R (.lst [.ref r9]) = GR at RA
    have L0 : [r9].length = 1 := rfl
    generalize [r9] = rs0 at RA L0
    refine ⟨_, rfl, .inl ⟨rfl, _, SqL.of RA.at_⟩, ?_⟩
    refine ⟨_, rfl, ?_⟩
    refine ⟨_, rfl, ?_⟩
    refine ⟨u, a, _, _, _, _, _, _, rfl, (hU.same RA.same), (hA.same RA.same), by decide, by decide, fun x11 G12 nx11 hx11 sx11 => ?_⟩
    have RA := RA.step sx11
    refine ⟨_, rfl, ?_⟩
    refine ⟨_, rfl, ?_⟩
    refine ⟨_, rfl, ?_⟩
    refine ⟨a, c, _, _, _, _, _, _, rfl, (hA.same RA.same), (hC.same RA.same), by decide, by decide, fun x13 G14 nx13 hx13 sx13 => ?_⟩
    have hx11 := hx11.same sx13
    have RA := RA.step sx13
    refine ⟨b, x13, _, _, _, _, _, _, rfl, (hB.same RA.same), hx13, by decide, by decide, fun x15 G16 nx15 hx15 sx15 => ?_⟩
    have hx11 := hx11.same sx15
    have hx13 := hx13.same sx15
    have RA := RA.step sx15
    refine ⟨by show 2 ≤ sizeLine; decide, fun r17 nr17 => ?_⟩
    have alr17 := alike_new nr17 hx11 hx15 (by grind)
    have sr17 := Same.new (o := .lst [.ref x11, .ref x15]) nr17
    generalize upd G16 r17 (.lst [.ref x11, .ref x15]) = G18 at alr17 sr17
    have qr17 := ne_of_none RA.at_ nr17
    have RA := RA.step sr17
    refine ⟨R, _, _, rfl, rfl, RA.at_, by rw [List.length_map, L0]; decide, ?_⟩
    have RA := RA.push1 qr17.symm alr17
    generalize upd G18 R (.lst (List.map V.ref rs0 ++ [.ref r17])) = G19 at RA
    have L21 : (rs0 ++ [r17]).length = 2 := by rw [List.length_append, L0] <;> rfl
    generalize rs0 ++ [r17] = rs20 at RA L21
    refine ⟨_, rfl, .inl ⟨rfl, _, SqL.of RA.at_⟩, ?_⟩
    refine ⟨_, rfl, ?_⟩
    refine ⟨_, rfl, ?_⟩
    refine ⟨a, b, _, _, _, _, _, _, rfl, (hA.same RA.same), (hB.same RA.same), by decide, by decide, fun x22 G23 nx22 hx22 sx22 => ?_⟩
    have RA := RA.step sx22
    refine ⟨_, rfl, ?_⟩
    refine ⟨x22, c, _, _, _, _, _, _, rfl, hx22, (hC.same RA.same), by decide, by decide, fun x24 G25 nx24 hx24 sx24 => ?_⟩
    have hx22 := hx22.same sx24
    have RA := RA.step sx24
    refine ⟨_, rfl, ?_⟩
    refine ⟨_, rfl, ?_⟩
    refine ⟨_, rfl, ?_⟩
    refine ⟨b, a, _, _, _, _, _, _, rfl, (hB.same RA.same), (hA.same RA.same), by decide, by decide, fun x26 G27 nx26 hx26 sx26 => ?_⟩
    have hx22 := hx22.same sx26
    have hx24 := hx24.same sx26
    have RA := RA.step sx26
    refine ⟨c, x26, _, _, _, _, _, _, rfl, (hC.same RA.same), hx26, by decide, by decide, fun x28 G29 nx28 hx28 sx28 => ?_⟩
    have hx22 := hx22.same sx28
    have hx24 := hx24.same sx28
    have hx26 := hx26.same sx28
    have RA := RA.step sx28
    refine ⟨by show 2 ≤ sizeLine; decide, fun r30 nr30 => ?_⟩
    have alr30 := alike_new nr30 hx24 hx28 (by grind)
    have sr30 := Same.new (o := .lst [.ref x24, .ref x28]) nr30
    generalize upd G29 r30 (.lst [.ref x24, .ref x28]) = G31 at alr30 sr30
    have qr30 := ne_of_none RA.at_ nr30
    have RA := RA.step sr30
    refine ⟨R, _, _, rfl, rfl, RA.at_, by rw [List.length_map, L21]; decide, ?_⟩
    have RA := RA.push1 qr30.symm alr30
    generalize upd G31 R (.lst (List.map V.ref rs20 ++ [.ref r30])) = G32 at RA
    have L34 : (rs20 ++ [r30]).length = 3 := by rw [List.length_append, L21] <;> rfl
    generalize rs20 ++ [r30] = rs33 at RA L34
    refine ⟨_, rfl, .inl ⟨rfl, _, SqL.of RA.at_⟩, ?_⟩
    refine ⟨_, rfl, ?_⟩
    refine ⟨_, rfl, ?_⟩
    refine ⟨a, u, _, _, _, _, _, _, rfl, (hA.same RA.same), (hU.same RA.same), by decide, by decide, fun x35 G36 nx35 hx35 sx35 => ?_⟩
    have RA := RA.step sx35
    refine ⟨_, rfl, ?_⟩
    refine ⟨_, rfl, ?_⟩
    refine ⟨a, b, _, _, _, _, _, _, rfl, (hA.same RA.same), (hB.same RA.same), by decide, by decide, fun x37 G38 nx37 hx37 sx37 => ?_⟩
    have hx35 := hx35.same sx37
    have RA := RA.step sx37
    refine ⟨_, rfl, ?_⟩
    refine ⟨_, rfl, ?_⟩
    refine ⟨a, c, _, _, _, _, _, _, rfl, (hA.same RA.same), (hC.same RA.same), by decide, by decide, fun x39 G40 nx39 hx39 sx39 => ?_⟩
    have hx35 := hx35.same sx39
    have hx37 := hx37.same sx39
    have RA := RA.step sx39
    refine ⟨x37, x39, _, _, _, _, _, _, rfl, hx37, hx39, by decide, by decide, fun x41 G42 nx41 hx41 sx41 => ?_⟩
    have hx35 := hx35.same sx41
    have hx37 := hx37.same sx41
    have hx39 := hx39.same sx41
    have RA := RA.step sx41
    refine ⟨by show 2 ≤ sizeLine; decide, fun r43 nr43 => ?_⟩
    have alr43 := alike_new nr43 hx35 hx41 (by grind)
    have sr43 := Same.new (o := .lst [.ref x35, .ref x41]) nr43
    generalize upd G42 r43 (.lst [.ref x35, .ref x41]) = G44 at alr43 sr43
    have qr43 := ne_of_none RA.at_ nr43
    have RA := RA.step sr43
    refine ⟨R, _, _, rfl, rfl, RA.at_, by rw [List.length_map, L34]; decide, ?_⟩
    have RA := RA.push1 qr43.symm alr43
    generalize upd G44 R (.lst (List.map V.ref rs33 ++ [.ref r43])) = G45 at RA
    have L47 : (rs33 ++ [r43]).length = 4 := by rw [List.length_append, L34] <;> rfl
    generalize rs33 ++ [r43] = rs46 at RA L47
    refine ⟨_, rfl, .inl ⟨rfl, _, SqL.of RA.at_⟩, ?_⟩
    refine ⟨_, rfl, ?_⟩
    refine ⟨_, rfl, ?_⟩
    refine ⟨a, b, _, _, _, _, _, _, rfl, (hA.same RA.same), (hB.same RA.same), by decide, by decide, fun x48 G49 nx48 hx48 sx48 => ?_⟩
    have RA := RA.step sx48
    refine ⟨_, rfl, ?_⟩
    refine ⟨x48, b, _, _, _, _, _, _, rfl, hx48, (hB.same RA.same), by decide, by decide, fun x50 G51 nx50 hx50 sx50 => ?_⟩
    have hx48 := hx48.same sx50
    have RA := RA.step sx50
    refine ⟨_, rfl, ?_⟩
    refine ⟨by show 2 ≤ sizeLine; decide, fun r52 nr52 => ?_⟩
    have alr52 := alike_new nr52 hx50 (hA.same RA.same) (by grind)
    have sr52 := Same.new (o := .lst [.ref x50, .ref a]) nr52
    generalize upd G51 r52 (.lst [.ref x50, .ref a]) = G53 at alr52 sr52
    have qr52 := ne_of_none RA.at_ nr52
    have RA := RA.step sr52
    refine ⟨R, _, _, rfl, rfl, RA.at_, by rw [List.length_map, L47]; decide, ?_⟩
    have RA := RA.push1 qr52.symm alr52
    generalize upd G53 R (.lst (List.map V.ref rs46 ++ [.ref r52])) = G54 at RA
    have L56 : (rs46 ++ [r52]).length = 5 := by rw [List.length_append, L47] <;> rfl
    generalize rs46 ++ [r52] = rs55 at RA L56
    refine ⟨_, rfl, .inl ⟨rfl, _, SqL.of RA.at_⟩, ?_⟩
    refine ⟨_, rfl, ?_⟩
    refine ⟨_, rfl, ?_⟩
    refine ⟨a, b, _, _, _, _, _, _, rfl, (hA.same RA.same), (hB.same RA.same), by decide, by decide, fun x57 G58 nx57 hx57 sx57 => ?_⟩
    have RA := RA.step sx57
    refine ⟨_, rfl, ?_⟩
    refine ⟨_, rfl, ?_⟩
    refine ⟨b, a, _, _, _, _, _, _, rfl, (hB.same RA.same), (hA.same RA.same), by decide, by decide, fun x59 G60 nx59 hx59 sx59 => ?_⟩
    have hx57 := hx57.same sx59
    have RA := RA.step sx59
    refine ⟨x59, _, _, _, rfl, hx59, by decide, fun x61 G62 nx61 hx61 sx61 => ?_⟩
    have hx57 := hx57.same sx61
    have hx59 := hx59.same sx61
    have RA := RA.step sx61
    refine ⟨by show 2 ≤ sizeLine; decide, fun r63 nr63 => ?_⟩
    have alr63 := alike_new nr63 hx57 hx61 (by grind)
    have sr63 := Same.new (o := .lst [.ref x57, .ref x61]) nr63
    generalize upd G62 r63 (.lst [.ref x57, .ref x61]) = G64 at alr63 sr63
    have qr63 := ne_of_none RA.at_ nr63
    have RA := RA.step sr63
    refine ⟨R, _, _, rfl, rfl, RA.at_, by rw [List.length_map, L56]; decide, ?_⟩
    have RA := RA.push1 qr63.symm alr63
    generalize upd G64 R (.lst (List.map V.ref rs55 ++ [.ref r63])) = G65 at RA
    have L67 : (rs55 ++ [r63]).length = 6 := by rw [List.length_append, L56] <;> rfl
    generalize rs55 ++ [r63] = rs66 at RA L67
    refine ⟨_, rfl, .inl ⟨rfl, _, SqL.of RA.at_⟩, ?_⟩
    refine ⟨_, rfl, ?_⟩
    refine ⟨_, rfl, ?_⟩
    refine ⟨a, a, _, _, _, _, _, _, rfl, (hA.same RA.same), (hA.same RA.same), by decide, by decide, fun x68 G69 nx68 hx68 sx68 => ?_⟩
    have RA := RA.step sx68
    refine ⟨_, rfl, ?_⟩
    refine ⟨by show 2 ≤ sizeLine; decide, fun r70 nr70 => ?_⟩
    have alr70 := alike_new nr70 hx68 (hZ.same RA.same) (by grind)
    have sr70 := Same.new (o := .lst [.ref x68, .ref z]) nr70
    generalize upd G69 r70 (.lst [.ref x68, .ref z]) = G71 at alr70 sr70
    have qr70 := ne_of_none RA.at_ nr70
    have RA := RA.step sr70
    refine ⟨_, rfl, ?_⟩
    refine ⟨_, rfl, ?_⟩
    refine ⟨a, o, _, _, _, _, _, _, rfl, (hA.same RA.same), (hO.same RA.same), by decide, by decide, fun x72 G73 nx72 hx72 sx72 => ?_⟩
    have alr70 := alr70.same sx72
    have RA := RA.step sx72
    refine ⟨_, rfl, ?_⟩
    refine ⟨by show 2 ≤ sizeLine; decide, fun r74 nr74 => ?_⟩
    have alr74 := alike_new nr74 hx72 (hA.same RA.same) (by grind)
    have sr74 := Same.new (o := .lst [.ref x72, .ref a]) nr74
    generalize upd G73 r74 (.lst [.ref x72, .ref a]) = G75 at alr74 sr74
    have qr74 := ne_of_none RA.at_ nr74
    have alr70 := alr70.same sr74
    have RA := RA.step sr74
    refine ⟨by show 2 ≤ sizeLine; decide, fun t76 nt76 => ?_⟩
    have st76 := Same.new (o := .lst [.ref r70, .ref r74]) nt76
    have et76 := upd_same (H := G75) (a := t76) (o := .lst [.ref r70, .ref r74])
    generalize upd G75 t76 (.lst [.ref r70, .ref r74]) = G77 at st76 et76
    have alr70 := alr70.same st76
    have alr74 := alr74.same st76
    have RA := RA.step st76
    refine ⟨R, t76, _, _, rfl, rfl, RA.at_, et76, by rw [List.length_map, L67]; show 8 ≤ sizeLine; decide, ?_⟩
    have RA := RA.push2 qr70.symm alr70 qr74.symm alr74
    generalize upd G77 R (.lst (List.map V.ref rs66 ++ [.ref r70, .ref r74])) = G78 at RA
    have L80 : (rs66 ++ [r70, r74]).length = 8 := by rw [List.length_append, L67] <;> rfl
    generalize rs66 ++ [r70, r74] = rs79 at RA L80
    refine ⟨_, rfl, .inl ⟨rfl, _, SqL.of RA.at_⟩, ?_⟩
    refine ⟨_, rfl, ?_⟩
    refine ⟨_, rfl, ?_⟩
    refine ⟨a, z, _, _, _, _, _, _, rfl, (hA.same RA.same), (hZ.same RA.same), by decide, by decide, fun x81 G82 nx81 hx81 sx81 => ?_⟩
    have RA := RA.step sx81
    refine ⟨_, rfl, ?_⟩
    refine ⟨by show 2 ≤ sizeLine; decide, fun r83 nr83 => ?_⟩
    have alr83 := alike_new nr83 hx81 (hA.same RA.same) (by grind)
    have sr83 := Same.new (o := .lst [.ref x81, .ref a]) nr83
    generalize upd G82 r83 (.lst [.ref x81, .ref a]) = G84 at alr83 sr83
    have qr83 := ne_of_none RA.at_ nr83
    have RA := RA.step sr83
    refine ⟨_, rfl, ?_⟩
    refine ⟨_, rfl, ?_⟩
    refine ⟨a, z, _, _, _, _, _, _, rfl, (hA.same RA.same), (hZ.same RA.same), by decide, by decide, fun x85 G86 nx85 hx85 sx85 => ?_⟩
    have alr83 := alr83.same sx85
    have RA := RA.step sx85
    refine ⟨_, rfl, ?_⟩
    refine ⟨by show 2 ≤ sizeLine; decide, fun r87 nr87 => ?_⟩
    have alr87 := alike_new nr87 hx85 (hZ.same RA.same) (by grind)
    have sr87 := Same.new (o := .lst [.ref x85, .ref z]) nr87
    generalize upd G86 r87 (.lst [.ref x85, .ref z]) = G88 at alr87 sr87
    have qr87 := ne_of_none RA.at_ nr87
    have alr83 := alr83.same sr87
    have RA := RA.step sr87
    refine ⟨by show 2 ≤ sizeLine; decide, fun t89 nt89 => ?_⟩
    have st89 := Same.new (o := .lst [.ref r83, .ref r87]) nt89
    have et89 := upd_same (H := G88) (a := t89) (o := .lst [.ref r83, .ref r87])
    generalize upd G88 t89 (.lst [.ref r83, .ref r87]) = G90 at st89 et89
    have alr83 := alr83.same st89
    have alr87 := alr87.same st89
    have RA := RA.step st89
    refine ⟨R, t89, _, _, rfl, rfl, RA.at_, et89, by rw [List.length_map, L80]; show 10 ≤ sizeLine; decide, ?_⟩
    have RA := RA.push2 qr83.symm alr83 qr87.symm alr87
    generalize upd G90 R (.lst (List.map V.ref rs79 ++ [.ref r83, .ref r87])) = G91 at RA
    have L93 : (rs79 ++ [r83, r87]).length = 10 := by rw [List.length_append, L80] <;> rfl
    generalize rs79 ++ [r83, r87] = rs92 at RA L93
    refine ⟨_, rfl, .inl ⟨rfl, _, SqL.of RA.at_⟩, ?_⟩
    refine ⟨_, rfl, ?_⟩
    refine ⟨a, _, _, _, rfl, (hA.same RA.same), by decide, fun x94 G95 nx94 hx94 sx94 => ?_⟩
    have RA := RA.step sx94
    refine ⟨_, rfl, ?_⟩
    intro x96 ddx96 nxx96 ndx96 nex96
    refine ⟨x96, ddx96, _, rfl, upd_same, fun G97 hx96 kx96 => ⟨rfl, ?_⟩⟩
    have sx96 := Same.mk nxx96 ndx96 kx96
    have hx96 := num_one (n := 1) hx96 (by unfold Sz; decide) (by decide)
    have hx94 := hx94.same sx96
    have RA := RA.step sx96
    refine ⟨_, rfl, ?_⟩
    refine ⟨x96, a, _, _, _, _, _, _, rfl, hx96, (hA.same RA.same), by decide, by decide, fun x98 G99 nx98 hx98 sx98 => ?_⟩
    have hx94 := hx94.same sx98
    have hx96 := hx96.same sx98
    have RA := RA.step sx98
    refine ⟨by show 2 ≤ sizeLine; decide, fun r100 nr100 => ?_⟩
    have alr100 := alike_new nr100 hx94 hx98 (by grind)
    have sr100 := Same.new (o := .lst [.ref x94, .ref x98]) nr100
    generalize upd G99 r100 (.lst [.ref x94, .ref x98]) = G101 at alr100 sr100
    have qr100 := ne_of_none RA.at_ nr100
    have RA := RA.step sr100
    refine ⟨R, _, _, rfl, rfl, RA.at_, by rw [List.length_map, L93]; decide, ?_⟩
    have RA := RA.push1 qr100.symm alr100
    generalize upd G101 R (.lst (List.map V.ref rs92 ++ [.ref r100])) = G102 at RA
    have L104 : (rs92 ++ [r100]).length = 11 := by rw [List.length_append, L93] <;> rfl
    generalize rs92 ++ [r100] = rs103 at RA L104
    refine ⟨_, rfl, .inl ⟨rfl, _, SqL.of RA.at_⟩, ?_⟩
    refine ⟨_, rfl, ?_⟩
    obtain ⟨dx105, fx105, ex105⟩ := (hA.same RA.same).ins
    refine ⟨a, dx105, fx105, rfl, ex105, abs_val (hA.same RA.same) (by decide) fun x105 G106 nx105 hx105 sx105 => ?_⟩
    have RA := RA.step sx105
    refine ⟨_, rfl, ?_⟩
    obtain ⟨dx107, fx107, ex107⟩ := (hA.same RA.same).ins
    refine ⟨a, dx107, fx107, rfl, ex107, neg_val (hA.same RA.same) (by decide) fun x107 G108 nx107 hx107 sx107 => ?_⟩
    have hx105 := hx105.same sx107
    have RA := RA.step sx107
    obtain ⟨dx109, fx109, ex109⟩ := hx107.ins
    refine ⟨x107, dx109, fx109, rfl, ex109, abs_val hx107 (by decide) fun x109 G110 nx109 hx109 sx109 => ?_⟩
    have hx105 := hx105.same sx109
    have hx107 := hx107.same sx109
    have RA := RA.step sx109
    refine ⟨by show 2 ≤ sizeLine; decide, fun r111 nr111 => ?_⟩
    have alr111 := alike_new nr111 hx105 hx109 (by rw [absI_neg])
    have sr111 := Same.new (o := .lst [.ref x105, .ref x109]) nr111
    generalize upd G110 r111 (.lst [.ref x105, .ref x109]) = G112 at alr111 sr111
    have qr111 := ne_of_none RA.at_ nr111
    have RA := RA.step sr111
    refine ⟨_, rfl, ?_⟩
    refine ⟨a, _, _, _, rfl, (hA.same RA.same), by decide, fun x113 G114 nx113 hx113 sx113 => ?_⟩
    have alr111 := alr111.same sx113
    have RA := RA.step sx113
    refine ⟨x113, _, _, _, rfl, hx113, by decide, fun x115 G116 nx115 hx115 sx115 => ?_⟩
    have hx113 := hx113.same sx115
    have alr111 := alr111.same sx115
    have RA := RA.step sx115
    refine ⟨_, rfl, ?_⟩
    refine ⟨by show 2 ≤ sizeLine; decide, fun r117 nr117 => ?_⟩
    have alr117 := alike_new nr117 hx115 (hA.same RA.same) (by grind)
    have sr117 := Same.new (o := .lst [.ref x115, .ref a]) nr117
    generalize upd G116 r117 (.lst [.ref x115, .ref a]) = G118 at alr117 sr117
    have qr117 := ne_of_none RA.at_ nr117
    have alr111 := alr111.same sr117
    have RA := RA.step sr117
    refine ⟨by show 2 ≤ sizeLine; decide, fun t119 nt119 => ?_⟩
    have st119 := Same.new (o := .lst [.ref r111, .ref r117]) nt119
    have et119 := upd_same (H := G118) (a := t119) (o := .lst [.ref r111, .ref r117])
    generalize upd G118 t119 (.lst [.ref r111, .ref r117]) = G120 at st119 et119
    have alr111 := alr111.same st119
    have alr117 := alr117.same st119
    have RA := RA.step st119
    refine ⟨R, t119, _, _, rfl, rfl, RA.at_, et119, by rw [List.length_map, L104]; show 13 ≤ sizeLine; decide, ?_⟩
    have RA := RA.push2 qr111.symm alr111 qr117.symm alr117
    generalize upd G120 R (.lst (List.map V.ref rs103 ++ [.ref r111, .ref r117])) = G121 at RA
    have L123 : (rs103 ++ [r111, r117]).length = 13 := by rw [List.length_append, L104] <;> rfl
    generalize rs103 ++ [r111, r117] = rs122 at RA L123
    refine ⟨_, rfl, R, rfl, ⟨_, SqL.of RA.at_⟩, fun D hD => ?_⟩
    refine lcL (K := K) (a := R) (xs := rs122.map V.ref) (fun i acc H' => acc = List.replicate i (V.bl true) ∧ Same G121 H') ⟨rfl, Same.new hD⟩ (fun i acc H' ⟨_, s⟩ => SqL.of (s _ _ RA.at_)) (by rw [List.length_map, L123]; decide) ?_ ?_
    · rintro i x Hc acc hx ⟨ha, s⟩ hDj hl Qn kQ
      obtain ⟨r, hr1, rfl⟩ : ∃ r, r ∈ rs122 ∧ x = V.ref r := by
        rw [List.getElem?_map] at hx
        obtain ⟨r, h1, h2⟩ := Option.map_eq_some_iff.mp hx
        exact ⟨r, List.mem_of_getElem? h1, h2.symm⟩
      refine ⟨rfl, _, rfl, r, rfl, (RA.al r hr1).2.same s, fun H5 s5 => ?_⟩
      exact kQ _ _ (s5 _ _ hDj) ⟨by rw [ha, List.replicate_succ'], fun b o e => (upd_ne (ne_of_none e hD)).trans (s5 _ _ (s _ _ e))⟩
    · rintro ys H5 ⟨hy, s5⟩ hD5 hl5
      subst hy
      refine ⟨D, List.replicate rs122.length true, rfl, ?_, ?_⟩
      · rw [List.length_map] at hD5
        rw [List.map_replicate]
        exact SqL.of hD5
      · have e : (List.replicate rs122.length true).all id = true := by rw [List.all_eq_true]; intro x hx; exact (List.mem_replicate.mp hx).2
        rw [e]
        exact k _ (j0.trans (RA.same.trans s5))
end
end Ws

namespace Ws
open PySem PySem.Spec PyProof.Rows L2
abbrev sOrder : Stmt := (PySem.Challenge.pw_whatspeed_k04_whole_numbers_in_sums.main.body.getD 19 (.Pass ⟨0, 0, 0, 0⟩))
abbrev NOrder : List Str := ["a", "b", "c", "below", "above", "zero", "words", "more", "mate", "less", "fewer", "far", "wide", "sides", "some", "one"]
abbrev POrder : List Str := ["a", "b", "c"]
theorem scOrder : FnScope NOrder POrder (defScope sOrder) := ⟨rfl, rfl, rfl, by decide +kernel, rfl, by decide +kernel, by decide +kernel⟩
def spOrder (C : Addr) : Sp := fun vs H Q _ => ∃ (a b c : Addr) (ta ba tb bb tc bc : Int), vs = [.ref a, .ref b, .ref c] ∧ NumV C H a 100 ta ba ∧ NumV C H b 100 tb bb ∧ NumV C H c 100 tc bc ∧ ∀ H', Same H H' → Q (.bl true) H'
section
variable {C : Addr} {H : Hp} {a c : Addr} {n m : Nat} {t b p q : Int} {Q : VK} {E : XK}
theorem NumV.in2 (h : NumV C H a n t b) : ∃ dx p q, H a = some (.ins C dx (nF p q)) := let ⟨p, q, ⟨dx, e⟩, _⟩ := h; ⟨dx, p, q, e⟩
theorem NumV.b0 (h : NumV C H a n t b) : 0 < b := let ⟨_, _, _, _, _, _, z⟩ := h; z
theorem low_lt {t b p q t' b' p' q' : Int} (h : Low t b t' b') (h' : Low p q p' q') (hb : 0 < b) (hq : 0 < q) : (t' * q' < p' * b') ↔ (t * q < p * b) := by
  have e1 := h.cross
  have e2 := h'.cross
  have y1 := h.pos
  have y2 := h'.pos
  have k1 : 0 < b * q := Int.mul_pos hb hq
  have k2 : 0 < b' * q' := Int.mul_pos y1 y2
  have a1 : t' * q' * (b * q) = t * q * (b' * q') := by grind
  have a2 : p' * b' * (b * q) = p * b * (b' * q') := by grind
  constructor
  · intro z
    have := Int.mul_lt_mul_of_pos_right z k1
    rw [a1, a2] at this
    exact Int.lt_of_mul_lt_mul_right this (by omega)
  · intro z
    have := Int.mul_lt_mul_of_pos_right z k2
    rw [← a1, ← a2] at this
    exact Int.lt_of_mul_lt_mul_right this (by omega)
/-- what is_less is asked, and what it tells -/
theorem less_of (h1 : NumV C H a n t b) (h2 : NumV C H c m p q) (hn : n ≤ 2000) (hm : m ≤ 2000) : ∃ dx t' b' p' q', H a = some (.ins C dx (nF t' b')) ∧ NumAt C H a t' b' ∧ NumAt C H c p' q' ∧ Sz 2000 t' ∧ Sz 2000 b' ∧ Sz 2000 p' ∧ Sz 2000 q' ∧ decide (t' * q' < p' * b') = decide (t * q < p * b) := by
  obtain ⟨t', b', e1, l1, z1, z2, b0⟩ := h1
  obtain ⟨p', q', e2, l2, z3, z4, q0⟩ := h2
  obtain ⟨dx, e⟩ := id e1
  exact ⟨dx, t', b', p', q', e, e1, e2, z1.mono hn, z2.mono hn, z3.mono hm, z4.mono hm, decide_eq_decide.mpr (low_lt l1 l2 b0 q0)⟩
theorem eq_of (h1 : NumV C H a n t b) (h2 : NumV C H c m p q) : ∃ dx t' b' dy p' q', H a = some (.ins C dx (nF t' b')) ∧ H c = some (.ins C dy (nF p' q')) ∧ NumAt C H a t' b' ∧ NumAt C H c p' q' ∧ decide (t' = p' ∧ b' = q') = decide (t * q = p * b) := by
  obtain ⟨t', b', e1, l1, z1, z2, b0⟩ := h1
  obtain ⟨p', q', e2, l2, z3, z4, q0⟩ := h2
  obtain ⟨dx, y1⟩ := id e1
  obtain ⟨dy, y2⟩ := id e2
  exact ⟨dx, t', b', dy, p', q', y1, y2, e1, e2, decide_eq_decide.mpr ⟨fun z => Classical.byContradiction fun y => l1.ne l2 (by omega) (by omega) y z, fun z => l1.eq l2 (by omega) (by omega) z⟩⟩
theorem bool_of (h1 : NumV C H a n t b) : ∃ dx t' b', H a = some (.ins C dx (nF t' b')) ∧ NumAt C H a t' b' ∧ (t' != 0) = decide (t ≠ 0) := by
  obtain ⟨t', b', e1, l1, z1, z2, b0⟩ := h1
  obtain ⟨dx, y1⟩ := id e1
  refine ⟨dx, t', b', y1, e1, ?_⟩
  have := l1.zero (by omega)
  by_cases h : t = 0
  · rw [this.mpr h]; simp [h]
  · have h' : t' ≠ 0 := fun z => h (this.mp z)
    simp [h, h']
end
theorem words_right {ys : List Str} {i j k : Bool} (hp : ys.Perm [if i then ("True" : Str) else "False", if j then ("True" : Str) else "False", if k then ("True" : Str) else "False"]) (hs : sortedS ys = true) (one : (i, j, k) = (true, false, false) ∨ (i, j, k) = (false, true, false) ∨ (i, j, k) = (false, false, true)) : ys = [("False" : Str), "False", "True"] := by
  have h3 : ys.Perm [("False" : Str), "False", "True"] := by
    rcases one with e | e | e
    all_goals (injection e with e1 e2; injection e2 with e2 e3; subst e1 e2 e3)
    · refine hp.trans ?_
      show [("True" : Str), "False", "False"].Perm ["False", "False", "True"]
      decide
    · refine hp.trans ?_
      show [("False" : Str), "True", "False"].Perm ["False", "False", "True"]
      decide
    · exact hp
  have hl := h3.length_eq
  match ys, hl with
  | [x, y, z], _ =>
    have key : ∀ u ∈ [x, y, z], u = ("False" : Str) ∨ u = ("True" : Str) := fun u hu => by
      have := h3.mem_iff.mp hu
      simp only [List.mem_cons, List.not_mem_nil, or_false] at this
      rcases this with e | e | e
      · exact .inl e
      · exact .inl e
      · exact .inr e
    rcases key x (by simp) with rfl | rfl <;> rcases key y (by simp) with rfl | rfl <;> rcases key z (by simp) with rfl | rfl
    all_goals first
      | rfl
      | exact absurd hs (by decide +kernel)
      | exact absurd h3 (by decide +kernel)
theorem vb_ne {x y : Bool} (h : x = y) : (!decide (V.bl x = V.bl y)) = false := by subst h; simp
theorem o_mul {x y k : Int} (h : 0 < k) : x * k < y * k ↔ x < y := ⟨fun z => Int.lt_of_mul_lt_mul_right z (Int.le_of_lt h), fun z => Int.mul_lt_mul_of_pos_right z h⟩
theorem o_add {ta ba tb bb tc bc : Int} (h1 : 0 < ba) (h2 : 0 < bb) (h3 : 0 < bc) : (ta * bc + tc * ba) * (bb * bc) < (tb * bc + tc * bb) * (ba * bc) ↔ ta * bb < tb * ba := by
  have e1 : (ta * bc + tc * ba) * (bb * bc) = (ta * bb) * (bc * bc) + tc * ba * bb * bc := by grind
  have e2 : (tb * bc + tc * bb) * (ba * bc) = (tb * ba) * (bc * bc) + tc * ba * bb * bc := by grind
  rw [e1, e2, ← o_mul (x := ta * bb) (y := tb * ba) (Int.mul_pos h3 h3)]
  omega
theorem o_sub {ta ba tb bb tc bc : Int} (h1 : 0 < ba) (h2 : 0 < bb) (h3 : 0 < bc) : (tb * bc - tc * bb) * (ba * bc) < (ta * bc - tc * ba) * (bb * bc) ↔ tb * ba < ta * bb := by
  have e1 : (ta * bc - tc * ba) * (bb * bc) = (ta * bb) * (bc * bc) - tc * ba * bb * bc := by grind
  have e2 : (tb * bc - tc * bb) * (ba * bc) = (tb * ba) * (bc * bc) - tc * ba * bb * bc := by grind
  rw [e1, e2, ← o_mul (x := tb * ba) (y := ta * bb) (Int.mul_pos h3 h3)]
  omega
theorem o_pos {ta ba tb bb tc bc : Int} (h3 : 0 < bc) (h : 0 < tc) : (ta * tc) * (bb * bc) < (tb * tc) * (ba * bc) ↔ ta * bb < tb * ba := by
  rw [show (ta * tc) * (bb * bc) = (ta * bb) * (tc * bc) by grind, show (tb * tc) * (ba * bc) = (tb * ba) * (tc * bc) by grind]
  exact o_mul (Int.mul_pos h h3)
theorem o_neg {ta ba tb bb tc bc : Int} (h3 : 0 < bc) (h : tc < 0) : (ta * tc) * (bb * bc) < (tb * tc) * (ba * bc) ↔ tb * ba < ta * bb := by
  rw [show (ta * tc) * (bb * bc) = -((ta * bb) * (-tc * bc)) by grind, show (tb * tc) * (ba * bc) = -((tb * ba) * (-tc * bc)) by grind]
  rw [← o_mul (x := tb * ba) (y := ta * bb) (Int.mul_pos (show 0 < -tc by omega) h3)]
  omega
theorem o_trans {ta ba tb bb tc bc : Int} (h1 : 0 < ba) (h2 : 0 < bb) (h3 : 0 < bc) (x : ta * bb < tb * ba) (y : tb * bc < tc * bb) : ta * bc < tc * ba := by
  have a1 := (o_mul h3).mpr x
  have a2 := (o_mul h1).mpr y
  refine (o_mul h2).mp ?_
  have e1 : ta * bb * bc = ta * bc * bb := by grind
  have e2 : tb * ba * bc = tb * bc * ba := by grind
  have e3 : tc * bb * ba = tc * ba * bb := by grind
  omega
structure OSt (C : Addr) (G : Hp) (a b c z mo ma le fe fa wi na nb ab sd so : Addr) (ta ba tb bb tc bc : Int) (bel abo : Bool) : Prop where
  hA : NumV C G a 100 ta ba
  hB : NumV C G b 100 tb bb
  hC : NumV C G c 100 tc bc
  hZ : NumV C G z 1 0 1
  hM : NumV C G mo 201 (ta * bc + tc * ba) (ba * bc)
  hN : NumV C G ma 201 (tb * bc + tc * bb) (bb * bc)
  hL : NumV C G le 201 (ta * bc - tc * ba) (ba * bc)
  hF : NumV C G fe 201 (tb * bc - tc * bb) (bb * bc)
  hP : NumV C G fa 201 (ta * tc) (ba * bc)
  hW : NumV C G wi 201 (tb * tc) (bb * bc)
  hNA : NumV C G na 100 (-ta) ba
  hNB : NumV C G nb 100 (-tb) bb
  hAB : NumV C G ab 100 (absI ta) ba
  eS : G sd = some (.lst [.ref na, .ref nb, .ref ab])
  eO : G so = some (.lst [.ref mo, .ref ma, .ref le, .ref fe, .ref fa, .ref wi, .ref na, .ref nb, .ref ab])
  hbel : bel = decide (ta * bb < tb * ba)
  habo : abo = decide (tb * ba < ta * bb)
theorem OSt.same {C : Addr} {G G' : Hp} {a b c z mo ma le fe fa wi na nb ab sd so : Addr} {ta ba tb bb tc bc : Int} {bel abo : Bool} (h : OSt C G a b c z mo ma le fe fa wi na nb ab sd so ta ba tb bb tc bc bel abo) (s : Same G G') : OSt C G' a b c z mo ma le fe fa wi na nb ab sd so ta ba tb bb tc bc bel abo :=
  ⟨h.hA.same s, h.hB.same s, h.hC.same s, h.hZ.same s, h.hM.same s, h.hN.same s, h.hL.same s, h.hF.same s, h.hP.same s, h.hW.same s, h.hNA.same s, h.hNB.same s, h.hAB.same s, s _ _ h.eS, s _ _ h.eO, h.hbel, h.habo⟩
section
variable {P : Program} {w : World} {K : PySem.W.Frag} {mg : Str → Option Value} {base : Heap} {C f : Addr} {fd : FuncData}
theorem ok_order (F : L2.Fun K "_law_order_right" "_law_order_right" sOrder f fd) (b : Binds K fd POrder []) (B : Bi mg) (gR : mg "repr" = none) (gSo : mg "sorted" = none) (NC : NumC K C) (NE : NeC K C) (gN : mg "Number" = some (.ref C)) (mN1 : MakF P w K mg base 2 "Number" C (spNum1 C)) (oA : OpnF P w K mg base 4 C (PySem.dunder Operator.Add.info.2) (spAdd C)) (oS : OpnF P w K mg base 4 C (PySem.dunder Operator.Sub.info.2) (spSub C)) (oM : OpnF P w K mg base 4 C (PySem.dunder Operator.Mult.info.2) (spMul C))
    (oN : OpnF P w K mg base 4 C "__neg__" (spNeg C)) (oAb : OpnF P w K mg base 4 C "__abs__" (spAbs C)) (oE : OpnF P w K mg base 1 C "__eq__" (spNEq C)) (oB : OpnF P w K mg base 1 C "__bool__" (spNBool C)) (tL : MetF P w K mg base 1 C "is_less" (spLess C)) : FnR P w K mg base CX0 6 f (spOrder C) := by
  refine fnR_of F b scOrder (fun vs H Q E h => ?_) (fun cdv A outer s H vs Q E hr h => ?_)
  · obtain ⟨a, b, c, _, _, _, _, _, _, rfl, _⟩ := h
    rfl
  · have sc := scOrder
    obtain ⟨a, b, c, ta, ba, tb, bb, tc, bc, rfl, hA, hB, hC, k⟩ := h
    have rest13 : ∃ t, PSs (cxOf CX0 P w K mg base NOrder "_law_order_right" (defScope sOrder) f cdv A outer s H E).nox (List.drop 13 (defBody sOrder)) t ∧ ∀ (G : Hp) (z mo ma le fe fa wi na nb ab sd so : Addr) (x6 : Option V) (bel abo : Bool), OSt C G a b c z mo ma le fe fa wi na nb ab sd so ta ba tb bb tc bc bel abo → Same H G →
          t { nx := fun _ H' => Q .non H', rt := Q } [some (.ref a), some (.ref b), some (.ref c), some (.bl bel), some (.bl abo), some (.ref z), x6, some (.ref mo), some (.ref ma), some (.ref le), some (.ref fe), some (.ref fa), some (.ref wi), some (.ref sd), some (.ref so), none] G := by
      refine ⟨_, (pss_cons (ps_if (PW.pt (pw_or (pt_cmpR op_ne (pe_callTy (call_boolO oB hr (by decide)) (by rfl) B.bool (by decide +kernel) (pa_cons (pv 0) pa_nil)) (pe_cmpR (show OpR _ _ (rNeO K C (spNEq C)) from op_neO NE oE hr (by decide)) (pv 0) (pv 5) (nomark _)) (nomark _)) (pw_or1 (pt_val (pe_mt tL hr (by decide) (pe_ix ix_list (pv 13) pe_int (fun _ _ => rfl)) (pa_cons (pv 5) pa_nil)))))) (pss_one (ps_ret pe_bl)) pss_nil) (pss_one (ps_ret (pe_cmpR op_ne (pe_cmpR (show OpR _ _ (rEqO K C (spNEq C)) from op_eqO oE hr (by decide)) (pe_ix ix_list (pv 13) pe_int (fun _ _ => rfl)) (pv 0) (nomark _)) (pe_mt tL hr (by decide) (pv 0) (pa_cons (pv 5) pa_nil)) (nomark _))))), ?_⟩
      intro G z mo ma le fe fa wi na nb ab sd so x6 bel abo O jj
      have hA := O.hA
      have hB := O.hB
      have hC := O.hC
      have hZ := O.hZ
      have eS := O.eS
      have hbel := O.hbel
      have habo := O.habo
      have ba0 := hA.b0
      have bb0 := hB.b0
      have bc0 := hC.b0
      -- bool, abs
      obtain ⟨d1, t1, b1, g1, N1, r1⟩ := bool_of hA
      refine ⟨_, rfl, a, d1, _, rfl, g1, a, t1, b1, rfl, N1, _, rfl, ?_⟩
      rw [r1]
      obtain ⟨d2, t2, b2, d3, p2, q2, g2, g3, N2, M2, r2⟩ := eq_of hA hZ
      refine ⟨_, rfl, _, rfl, a, d2, _, _, rfl, g2, .ins g3, NC.nf, a, z, t2, b2, p2, q2, rfl, N2, M2, _, rfl, rfl, _, rfl, ifF (vb_ne ?_) ?_⟩
      · rw [r2]
        by_cases h : ta = 0 <;> simp [h]
      obtain ⟨d1, t1, b1, p1, q1, g1, N1, M1, y1, y2, y3, y4, r1⟩ := less_of O.hAB hZ (by decide) (by decide)
      refine ⟨_, rfl, sd, _, _, _, rfl, rfl, SqL.of eS, rfl, ab, d1, _, rfl, g1, rfl, _, rfl, ab, z, t1, b1, p1, q1, rfl, N1, M1, y1, y2, y3, y4, _, rfl, ifF ?_ ?_⟩
      · rw [r1]
        refine decide_eq_false ?_
        unfold absI
        split <;> omega
      obtain ⟨d2, t2, b2, d3, p2, q2, g2, g3, N2, M2, r2⟩ := eq_of O.hAB hA
      refine ⟨_, rfl, sd, _, _, _, rfl, rfl, SqL.of eS, rfl, _, rfl, ab, d2, _, _, rfl, g2, .ins g3, NC.nf, ab, a, t2, b2, p2, q2, rfl, N2, M2, ?_⟩
      obtain ⟨d1, t1, b1, p1, q1, g1, N1, M1, y1, y2, y3, y4, r1⟩ := less_of hA hZ (by decide) (by decide)
      refine ⟨_, rfl, a, d1, _, rfl, g1, rfl, _, rfl, a, z, t1, b1, p1, q1, rfl, N1, M1, y1, y2, y3, y4, rfl, ?_⟩
      rw [r1, r2]
      have e : (!decide (V.bl (decide (absI ta * ba = ta * ba)) = V.bl (decide (ta * 1 < 0 * ba)))) = true := by
        have key : decide (absI ta * ba = ta * ba) = !decide (ta < 0) := by
          by_cases h : ta < 0
          · have : absI ta * ba ≠ ta * ba := fun z => by
              have := Int.eq_of_mul_eq_mul_right (by omega) z
              unfold absI at this
              rw [if_pos h] at this
              omega
            simp [this, h]
          · have : absI ta = ta := by unfold absI; rw [if_neg h]
            simp [this, h]
        rw [key, Int.mul_one, Int.zero_mul]
        by_cases h : ta < 0 <;> simp [h]
      rw [e]
      exact k _ jj
    have rest12 : ∃ t, PSs (cxOf CX0 P w K mg base NOrder "_law_order_right" (defScope sOrder) f cdv A outer s H E).nox (List.drop 12 (defBody sOrder)) t ∧ ∀ (G : Hp) (z mo ma le fe fa wi na nb ab sd so : Addr) (x6 : Option V) (bel abo : Bool), OSt C G a b c z mo ma le fe fa wi na nb ab sd so ta ba tb bb tc bc bel abo → Same H G →
          t { nx := fun _ H' => Q .non H', rt := Q } [some (.ref a), some (.ref b), some (.ref c), some (.bl bel), some (.bl abo), some (.ref z), x6, some (.ref mo), some (.ref ma), some (.ref le), some (.ref fe), some (.ref fa), some (.ref wi), some (.ref sd), some (.ref so), none] G := by
      obtain ⟨t, hbody, ht⟩ := rest13
      refine ⟨_, (pss_cons (ps_if (PW.pt (pw_and (pt_val (pv 3)) (pw_and (pt_val (pe_mt tL hr (by decide) (pv 1) (pa_cons (pv 2) pa_nil))) (pw_and1 (pt_not (pt_val (pe_mt tL hr (by decide) (pv 0) (pa_cons (pv 2) pa_nil)))))))) (pss_one (ps_ret pe_bl)) pss_nil) hbody), ?_⟩
      intro G z mo ma le fe fa wi na nb ab sd so x6 bel abo O jj
      have hA := O.hA
      have hB := O.hB
      have hC := O.hC
      have hZ := O.hZ
      have eS := O.eS
      have hbel := O.hbel
      have habo := O.habo
      have ba0 := hA.b0
      have bb0 := hB.b0
      have bc0 := hC.b0
      refine ⟨_, rfl, _, rfl, if2 (fun h => ?_) (fun h => ?_)⟩
      · obtain ⟨d1, t1, b1, p1, q1, g1, N1, M1, y1, y2, y3, y4, r1⟩ := less_of hB hC (by decide) (by decide)
        refine ⟨_, rfl, b, d1, _, rfl, g1, rfl, _, rfl, b, c, t1, b1, p1, q1, rfl, N1, M1, y1, y2, y3, y4, _, rfl, if2 (fun h2 => ?_) (fun h2 => ?_)⟩
        · rw [r1] at h2
          obtain ⟨d2, t2, b2, p2, q2, g2, N2, M2, z1, z2, z3, z4, r2⟩ := less_of hA hC (by decide) (by decide)
          refine ⟨_, rfl, a, d2, _, rfl, g2, rfl, _, rfl, a, c, t2, b2, p2, q2, rfl, N2, M2, z1, z2, z3, z4, _, rfl, ifF ?_ ?_⟩
          · rw [r2]
            rw [hbel] at h
            rw [decide_eq_true (o_trans ba0 bb0 bc0 (of_decide_eq_true h) (of_decide_eq_true h2))] <;> rfl
          · exact ht G _ _ _ _ _ _ _ _ _ _ _ _ _ _ _ O jj
        · exact ifF rfl (ht G _ _ _ _ _ _ _ _ _ _ _ _ _ _ _ O jj)
      · exact ifF rfl (ht G _ _ _ _ _ _ _ _ _ _ _ _ _ _ _ O jj)
    have rest11 : ∃ t, PSs (cxOf CX0 P w K mg base NOrder "_law_order_right" (defScope sOrder) f cdv A outer s H E).nox (List.drop 11 (defBody sOrder)) t ∧ ∀ (G : Hp) (z mo ma le fe fa wi na nb ab sd so : Addr) (x6 : Option V) (bel abo : Bool), OSt C G a b c z mo ma le fe fa wi na nb ab sd so ta ba tb bb tc bc bel abo → Same H G →
          t { nx := fun _ H' => Q .non H', rt := Q } [some (.ref a), some (.ref b), some (.ref c), some (.bl bel), some (.bl abo), some (.ref z), x6, some (.ref mo), some (.ref ma), some (.ref le), some (.ref fe), some (.ref fa), some (.ref wi), some (.ref sd), some (.ref so), none] G := by
      obtain ⟨t, hbody, ht⟩ := rest12
      refine ⟨_, (pss_cons (ps_if (PW.pt (pw_and (pt_val (pe_mt tL hr (by decide) (pv 2) (pa_cons (pv 5) pa_nil))) (pw_and1 (pt_cmpR op_ne (pe_mt tL hr (by decide) (pv 11) (pa_cons (pv 12) pa_nil)) (pv 4) (nomark _))))) (pss_one (ps_ret pe_bl)) pss_nil) hbody), ?_⟩
      intro G z mo ma le fe fa wi na nb ab sd so x6 bel abo O jj
      have hA := O.hA
      have hB := O.hB
      have hC := O.hC
      have hZ := O.hZ
      have eS := O.eS
      have hbel := O.hbel
      have habo := O.habo
      have ba0 := hA.b0
      have bb0 := hB.b0
      have bc0 := hC.b0
      obtain ⟨d1, t1, b1, p1, q1, g1, N1, M1, y1, y2, y3, y4, r1⟩ := less_of hC hZ (by decide) (by decide)
      refine ⟨_, rfl, c, d1, _, rfl, g1, rfl, _, rfl, c, z, t1, b1, p1, q1, rfl, N1, M1, y1, y2, y3, y4, _, rfl, if2 (fun h => ?_) (fun h => ?_)⟩
      · rw [r1] at h
        have tc0 : tc < 0 := by
          have := of_decide_eq_true h
          omega
        obtain ⟨d2, t2, b2, p2, q2, g2, N2, M2, z1, z2, z3, z4, r2⟩ := less_of O.hP O.hW (by decide) (by decide)
        refine ⟨_, rfl, fa, d2, _, rfl, g2, rfl, _, rfl, fa, wi, t2, b2, p2, q2, rfl, N2, M2, z1, z2, z3, z4, _, rfl, rfl, _, rfl, ifF (vb_ne ?_) ?_⟩
        · rw [r2, habo]
          exact decide_eq_decide.mpr (o_neg bc0 tc0)
        · exact ht G _ _ _ _ _ _ _ _ _ _ _ _ _ _ _ O jj
      · exact ifF rfl (ht G _ _ _ _ _ _ _ _ _ _ _ _ _ _ _ O jj)
    have rest10 : ∃ t, PSs (cxOf CX0 P w K mg base NOrder "_law_order_right" (defScope sOrder) f cdv A outer s H E).nox (List.drop 10 (defBody sOrder)) t ∧ ∀ (G : Hp) (z mo ma le fe fa wi na nb ab sd so : Addr) (x6 : Option V) (bel abo : Bool), OSt C G a b c z mo ma le fe fa wi na nb ab sd so ta ba tb bb tc bc bel abo → Same H G →
          t { nx := fun _ H' => Q .non H', rt := Q } [some (.ref a), some (.ref b), some (.ref c), some (.bl bel), some (.bl abo), some (.ref z), x6, some (.ref mo), some (.ref ma), some (.ref le), some (.ref fe), some (.ref fa), some (.ref wi), some (.ref sd), some (.ref so), none] G := by
      obtain ⟨t, hbody, ht⟩ := rest11
      refine ⟨_, (pss_cons (ps_if (PW.pt (pw_and (pt_val (pe_mt tL hr (by decide) (pv 5) (pa_cons (pv 2) pa_nil))) (pw_and1 (pt_cmpR op_ne (pe_mt tL hr (by decide) (pv 11) (pa_cons (pv 12) pa_nil)) (pv 3) (nomark _))))) (pss_one (ps_ret pe_bl)) pss_nil) hbody), ?_⟩
      intro G z mo ma le fe fa wi na nb ab sd so x6 bel abo O jj
      have hA := O.hA
      have hB := O.hB
      have hC := O.hC
      have hZ := O.hZ
      have eS := O.eS
      have hbel := O.hbel
      have habo := O.habo
      have ba0 := hA.b0
      have bb0 := hB.b0
      have bc0 := hC.b0
      obtain ⟨d1, t1, b1, p1, q1, g1, N1, M1, y1, y2, y3, y4, r1⟩ := less_of hZ hC (by decide) (by decide)
      refine ⟨_, rfl, z, d1, _, rfl, g1, rfl, _, rfl, z, c, t1, b1, p1, q1, rfl, N1, M1, y1, y2, y3, y4, _, rfl, if2 (fun h => ?_) (fun h => ?_)⟩
      · rw [r1] at h
        have tc0 : 0 < tc := by
          have := of_decide_eq_true h
          omega
        obtain ⟨d2, t2, b2, p2, q2, g2, N2, M2, z1, z2, z3, z4, r2⟩ := less_of O.hP O.hW (by decide) (by decide)
        refine ⟨_, rfl, fa, d2, _, rfl, g2, rfl, _, rfl, fa, wi, t2, b2, p2, q2, rfl, N2, M2, z1, z2, z3, z4, _, rfl, rfl, _, rfl, ifF (vb_ne ?_) ?_⟩
        · rw [r2, hbel]
          exact decide_eq_decide.mpr (o_pos bc0 tc0)
        · exact ht G _ _ _ _ _ _ _ _ _ _ _ _ _ _ _ O jj
      · exact ifF rfl (ht G _ _ _ _ _ _ _ _ _ _ _ _ _ _ _ O jj)
    have rest7 : ∃ t, PSs (cxOf CX0 P w K mg base NOrder "_law_order_right" (defScope sOrder) f cdv A outer s H E).nox (List.drop 7 (defBody sOrder)) t ∧ ∀ (G : Hp) (z mo ma le fe fa wi na nb ab sd so : Addr) (x6 : Option V) (bel abo : Bool), OSt C G a b c z mo ma le fe fa wi na nb ab sd so ta ba tb bb tc bc bel abo → Same H G →
          t { nx := fun _ H' => Q .non H', rt := Q } [some (.ref a), some (.ref b), some (.ref c), some (.bl bel), some (.bl abo), some (.ref z), x6, some (.ref mo), some (.ref ma), some (.ref le), some (.ref fe), some (.ref fa), some (.ref wi), some (.ref sd), some (.ref so), none] G := by
      obtain ⟨t, hbody, ht⟩ := rest10
      refine ⟨_, (pss_cons (ps_if (pt_not (pt_val (pe_callB (cr_all rfl) (by rfl) B.all (by decide +kernel) (pa_cons (pe_lc (own := [("one", 15)]) rfl sc.nd (pi_list (pv 14)) (blkOk_by (N := NOrder) (sc := defScope sOrder) (by decide +kernel)) (fun _ _ _ _ _ => by exact (pg_name (i := 15) sc.nd rfl (Or.inl rfl))) (fun _ _ _ _ _ => by exact pts_nil) (fun _ _ _ _ _ => by exact (pe_callB (show CallR _ (.builtin "isinstance") (rIsi K) from call_isi) (by rfl) B.isinstance (by decide +kernel) (pa_cons (pv 15) (pa_cons (pe_glob (v := .ref C) rfl gN rfl) pa_nil))))) pa_nil)))) (pss_one (ps_ret pe_bl)) pss_nil) (pss_cons (ps_if (PW.pt (pw_or (pt_cmpR op_ne (pe_mt tL hr (by decide) (pv 7) (pa_cons (pv 8) pa_nil)) (pv 3) (nomark _)) (pw_or1 (pt_cmpR op_ne (pe_mt tL hr (by decide) (pv 10) (pa_cons (pv 9) pa_nil)) (pv 4) (nomark _))))) (pss_one (ps_ret pe_bl)) pss_nil) (pss_cons (ps_if (pt_cmpR op_ne (pe_mt tL hr (by decide) (pe_ix ix_list (pv 13) pe_int (fun _ _ => rfl)) (pa_cons (pe_ix ix_list (pv 13) pe_int (fun _ _ => rfl)) pa_nil)) (pv 4) (nomark _)) (pss_one (ps_ret pe_bl)) pss_nil) hbody))), ?_⟩
      intro G z mo ma le fe fa wi na nb ab sd so x6 bel abo O jj
      have hA := O.hA
      have hB := O.hB
      have hC := O.hC
      have hZ := O.hZ
      have eS := O.eS
      have hbel := O.hbel
      have habo := O.habo
      have ba0 := hA.b0
      have bb0 := hB.b0
      have bc0 := hC.b0
      have eO := O.eO
      have hAB := O.hAB
      have hNB := O.hNB
      have hNA := O.hNA
      have hW := O.hW
      have hP := O.hP
      have hF := O.hF
      have hL := O.hL
      have hN := O.hN
      have hM := O.hM
      have nums : ∀ v ∈ [mo, ma, le, fe, fa, wi, na, nb, ab], ∃ d f, G v = some (.ins C d f) := by
        intro v hv
        simp only [List.mem_cons, List.not_mem_nil, or_false] at hv
        rcases hv with rfl | rfl | rfl | rfl | rfl | rfl | rfl | rfl | rfl
        · exact hM.ins
        · exact hN.ins
        · exact hL.ins
        · exact hF.ins
        · exact hP.ins
        · exact hW.ins
        · exact hNA.ins
        · exact hNB.ins
        · exact hAB.ins
      refine ⟨_, rfl, so, rfl, ⟨_, SqL.of eO⟩, fun D hD => ?_⟩
      refine lcL (K := K) (a := so) (xs := [mo, ma, le, fe, fa, wi, na, nb, ab].map V.ref) (fun i acc H' => acc = List.replicate i (V.bl true) ∧ Same G H') ⟨rfl, Same.new hD⟩ (fun i acc H' ⟨_, s⟩ => SqL.of (s _ _ eO)) (by show 9 < sizeLine; decide) ?_ ?_
      · rintro i x Hc acc hx ⟨ha, s⟩ hDj hl Qn kQ
        obtain ⟨v, hv, rfl⟩ : ∃ v, v ∈ [mo, ma, le, fe, fa, wi, na, nb, ab] ∧ x = V.ref v := by
          rw [List.getElem?_map] at hx
          obtain ⟨r, h1, h2⟩ := Option.map_eq_some_iff.mp hx
          exact ⟨r, List.mem_of_getElem? h1, h2.symm⟩
        obtain ⟨dv, fv, ev⟩ := nums v hv
        refine ⟨rfl, _, rfl, _, _, _, _, true, rfl, .own C, NC.ty (s _ _ ev), NC.kk, ?_⟩
        exact kQ _ _ hDj ⟨by rw [ha, List.replicate_succ'], fun b o e => (upd_ne (ne_of_none e hD)).trans (s _ _ e)⟩
      · rintro ys H1 ⟨hy, s1⟩ hD1 hl1
        subst hy
        refine ⟨D, List.replicate 9 true, rfl, SqL.of hD1, true, rfl, ifF rfl ?_⟩
        have eS := s1 _ _ eS
        have hA := hA.same s1
        have hB := hB.same s1
        have hC := hC.same s1
        have hZ := hZ.same s1
        have fin := k _ (jj.trans s1)
        -- more, mate; fewer, less
        obtain ⟨d1, t1, b1, p1, q1, g1, N1, M1, y1, y2, y3, y4, r1⟩ := less_of (hM.same s1) (hN.same s1) (by decide) (by decide)
        refine ⟨_, rfl, mo, d1, _, rfl, g1, rfl, _, rfl, mo, ma, t1, b1, p1, q1, rfl, N1, M1, y1, y2, y3, y4, _, rfl, rfl, _, rfl, ifF (vb_ne ?_) ?_⟩
        · rw [r1, hbel]
          exact decide_eq_decide.mpr (o_add ba0 bb0 bc0)
        obtain ⟨d1, t1, b1, p1, q1, g1, N1, M1, y1, y2, y3, y4, r1⟩ := less_of (hF.same s1) (hL.same s1) (by decide) (by decide)
        refine ⟨_, rfl, fe, d1, _, rfl, g1, rfl, _, rfl, fe, le, t1, b1, p1, q1, rfl, N1, M1, y1, y2, y3, y4, _, rfl, rfl, _, rfl, ifF (vb_ne ?_) ?_⟩
        · rw [r1, habo]
          exact decide_eq_decide.mpr (o_sub ba0 bb0 bc0)
        -- sides
        obtain ⟨d1, t1, b1, p1, q1, g1, N1, M1, y1, y2, y3, y4, r1⟩ := less_of (hNA.same s1) (hNB.same s1) (by decide) (by decide)
        refine ⟨_, rfl, sd, _, _, _, rfl, rfl, SqL.of eS, rfl, na, d1, _, rfl, g1, rfl, ?_⟩
        refine ⟨_, rfl, sd, _, _, _, rfl, rfl, SqL.of eS, rfl, na, nb, t1, b1, p1, q1, rfl, N1, M1, y1, y2, y3, y4, _, rfl, rfl, _, rfl, ifF (vb_ne ?_) ?_⟩
        · rw [r1, habo]
          refine decide_eq_decide.mpr ?_
          rw [Int.neg_mul, Int.neg_mul]
          omega
        exact ht H1 _ _ _ _ _ _ _ _ _ _ _ _ _ _ _ (O.same s1) (jj.trans s1)

    obtain ⟨t, hbody, ht⟩ := rest7
    refine ⟨_, (pss_cons (ps_par3 (i := 3) (j := 4) (l := 5) rfl sc.nd rfl rfl rfl (by decide) (by decide) (by decide) rfl rfl rfl (pa_cons (pe_mt tL hr (by decide) (pv 0) (pa_cons (pv 1) pa_nil)) (pa_cons (pe_mt tL hr (by decide) (pv 1) (pa_cons (pv 0) pa_nil)) (pa_cons (pe_mk mN1 hr (by decide) rfl (pa_cons pe_int pa_nil)) pa_nil))) (by rfl)) (pss_cons (ps_set (i := 6) sc.nd rfl (Or.inl rfl) (pe_callB cr_sortedS (by rfl) gSo (by decide +kernel) (pa_cons (pe_lst (pa_cons (pe_callB call_repB (by rfl) gR (by decide +kernel) (pa_cons (pv 3) pa_nil)) (pa_cons (pe_callB call_repB (by rfl) gR (by decide +kernel) (pa_cons (pe_cmpR (show OpR _ _ (rEqO K C (spNEq C)) from op_eqO oE hr (by decide)) (pv 0) (pv 1) (nomark _)) pa_nil)) (pa_cons (pe_callB call_repB (by rfl) gR (by decide +kernel) (pa_cons (pv 4) pa_nil)) pa_nil)))) pa_nil))) (pss_cons (ps_if (pt_cmpR (op_neD hr.units) (pv 6) (pe_lst (pa_cons pe_str (pa_cons pe_str (pa_cons pe_str pa_nil)))) (nomark _)) (pss_one (ps_ret pe_bl)) pss_nil) (pss_cons (ps_par (i := 7) (j := 8) (by rfl) sc.nd rfl rfl (by decide) rfl rfl (pa_cons (pe_op (op_own oA NC.sf hr (by decide)) (pv 0) (pv 2)) (pa_cons (pe_op (op_own oA NC.sf hr (by decide)) (pv 1) (pv 2)) pa_nil)) (by rfl)) (pss_cons (ps_par (i := 9) (j := 10) (by rfl) sc.nd rfl rfl (by decide) rfl rfl (pa_cons (pe_op (op_own oS NC.sf hr (by decide)) (pv 0) (pv 2)) (pa_cons (pe_op (op_own oS NC.sf hr (by decide)) (pv 1) (pv 2)) pa_nil)) (by rfl)) (pss_cons (ps_par3 (i := 11) (j := 12) (l := 13) rfl sc.nd rfl rfl rfl (by decide) (by decide) (by decide) rfl rfl rfl (pa_cons (pe_op (op_own oM NC.sf hr (by decide)) (pv 0) (pv 2)) (pa_cons (pe_op (op_own oM NC.sf hr (by decide)) (pv 1) (pv 2)) (pa_cons (pe_lst (pa_cons (pe_un (un_negO oN hr (by decide)) (pv 0)) (pa_cons (pe_un (un_negO oN hr (by decide)) (pv 1)) (pa_cons (pe_callB (call_absO oAb hr (by decide)) (by rfl) B.abs (by decide +kernel) (pa_cons (pv 0) pa_nil)) pa_nil)))) pa_nil))) (by rfl)) (pss_cons (ps_set (i := 14) sc.nd rfl (Or.inl rfl) (pe_op op_cat (pe_lst (pa_cons (pv 7) (pa_cons (pv 8) (pa_cons (pv 9) (pa_cons (pv 10) (pa_cons (pv 11) (pa_cons (pv 12) pa_nil))))))) (pv 13))) hbody))))))), ?_⟩
    obtain ⟨d1, t1, b1, p1, q1, g1, N1, M1, y1, y2, y3, y4, r1⟩ := less_of hA hB (by decide) (by decide)
    refine ⟨_, rfl, a, d1, _, rfl, g1, rfl, _, rfl, a, b, t1, b1, p1, q1, rfl, N1, M1, y1, y2, y3, y4, ?_⟩
    rw [r1]
    clear g1 N1 M1 y1 y2 y3 y4 r1
    obtain ⟨d1, t1, b1, p1, q1, g1, N1, M1, y1, y2, y3, y4, r1⟩ := less_of hB hA (by decide) (by decide)
    refine ⟨_, rfl, b, d1, _, rfl, g1, rfl, _, rfl, b, a, t1, b1, p1, q1, rfl, N1, M1, y1, y2, y3, y4, ?_⟩
    rw [r1]
    clear g1 N1 M1 y1 y2 y3 y4 r1
    intro z dz nz ndz nez
    refine ⟨z, dz, _, rfl, upd_same, fun H1 hz k1 => ⟨rfl, ?_⟩⟩
    have j1 : Same H H1 := Same.mk nz ndz k1
    have hA := hA.same j1
    have hB := hB.same j1
    have hC := hC.same j1
    have hZ := num_one (n := 1) hz (by unfold Sz; decide) (by decide)
    refine ⟨_, _, _, rfl, ?_⟩
    generalize hbel : decide (ta * bb < tb * ba) = bel
    generalize habo : decide (tb * ba < ta * bb) = abo
    -- words
    refine ⟨_, rfl, bel, rfl, ?_⟩
    obtain ⟨d1, t1, b1, d2, p1, q1, g1, g2, N1, M1, r1⟩ := eq_of hA hB
    refine ⟨_, rfl, _, rfl, a, d1, _, _, rfl, g1, .ins g2, NC.nf, a, b, t1, b1, p1, q1, rfl, N1, M1, ?_⟩
    rw [r1]
    refine ⟨_, rfl, ?_⟩
    refine ⟨_, rfl, abo, rfl, by show 3 ≤ sizeLine; decide, fun l nl => ?_⟩
    have j2 := Same.new (o := .lst [.str (if bel = true then "True" else "False"), .str (if decide (ta * bb = tb * ba) = true then "True" else "False"), .str (if abo = true then "True" else "False")]) nl
    refine ⟨l, [_, _, _], rfl, SqL.of upd_same, by show 3 < 64; decide, fun ys L hperm hsort nL => ?_⟩
    have hys : ys = [("False" : Str), "False", "True"] := by
      refine words_right hperm hsort ?_
      subst hbel habo
      rcases Int.lt_trichotomy (ta * bb) (tb * ba) with h | h | h
      · refine .inl ?_
        simp [h, show ¬ (ta * bb = tb * ba) by omega, show ¬ (tb * ba < ta * bb) by omega]
      · refine .inr (.inl ?_)
        simp [h]
      · refine .inr (.inr ?_)
        simp [h, show ¬ (ta * bb = tb * ba) by omega, show ¬ (ta * bb < tb * ba) by omega]
    subst hys
    have j3 := Same.new (o := .lst (List.map V.str ["False", "False", "True"])) nL
    generalize upd H1 l _ = H2 at j2 j3 nL
    have eW : upd H2 L (.lst (List.map V.str ["False", "False", "True"])) L = some (.lst (List.map V.str ["False", "False", "True"])) := upd_same
    generalize upd H2 L (.lst (List.map V.str ["False", "False", "True"])) = H3 at j3 eW
    refine ⟨_, rfl, by show 3 ≤ sizeLine; decide, fun l2 nl2 => ?_⟩
    have j4 := Same.new (o := .lst [.str "False", .str "False", .str "True"]) nl2
    have eX := upd_same (H := H3) (a := l2) (o := .lst [.str "False", .str "False", .str "True"])
    generalize upd H3 l2 (.lst [.str "False", .str "False", .str "True"]) = H4 at j4 eX
    refine ⟨_, _, .lst (SqL.of (j4 _ _ eW)) (.cons (.str _) (.cons (.str _) (.cons (.str _) .nil))), .lst (SqL.of eX) (.cons (.str _) (.cons (.str _) (.cons (.str _) .nil))), by decide +kernel, by decide +kernel, _, rfl, ifF (by decide +kernel) ?_⟩
    have j14 := (j2.trans j3).trans j4
    have hA := hA.same j14
    have hB := hB.same j14
    have hC := hC.same j14
    have hZ := hZ.same j14
    have jj := j1.trans j14
    obtain ⟨d1, f1, g1⟩ := hA.ins
    obtain ⟨d2, f2, g2⟩ := hC.ins
    refine ⟨_, rfl, _, rfl, a, d1, _, c, d2, _, rfl, g1, rfl, g2, add_val hA hC (by decide) (by decide) fun mo Gmo nmo hM smo => ?_⟩
    clear g1 g2
    have jj := jj.trans smo
    have hA := hA.same smo
    have hB := hB.same smo
    have hC := hC.same smo
    have hZ := hZ.same smo
    obtain ⟨d1, f1, g1⟩ := hB.ins
    obtain ⟨d2, f2, g2⟩ := hC.ins
    refine ⟨_, rfl, _, rfl, b, d1, _, c, d2, _, rfl, g1, rfl, g2, add_val hB hC (by decide) (by decide) fun ma Gma nma hN sma => ?_⟩
    clear g1 g2
    have jj := jj.trans sma
    have hA := hA.same sma
    have hB := hB.same sma
    have hC := hC.same sma
    have hZ := hZ.same sma
    have hM := hM.same sma
    refine ⟨_, _, rfl, ?_⟩
    obtain ⟨d1, f1, g1⟩ := hA.ins
    obtain ⟨d2, f2, g2⟩ := hC.ins
    refine ⟨_, rfl, _, rfl, a, d1, _, c, d2, _, rfl, g1, rfl, g2, sub_val hA hC (by decide) (by decide) fun le Gle nle hL sle => ?_⟩
    clear g1 g2
    have jj := jj.trans sle
    have hA := hA.same sle
    have hB := hB.same sle
    have hC := hC.same sle
    have hZ := hZ.same sle
    have hM := hM.same sle
    have hN := hN.same sle
    obtain ⟨d1, f1, g1⟩ := hB.ins
    obtain ⟨d2, f2, g2⟩ := hC.ins
    refine ⟨_, rfl, _, rfl, b, d1, _, c, d2, _, rfl, g1, rfl, g2, sub_val hB hC (by decide) (by decide) fun fe Gfe nfe hF sfe => ?_⟩
    clear g1 g2
    have jj := jj.trans sfe
    have hA := hA.same sfe
    have hB := hB.same sfe
    have hC := hC.same sfe
    have hZ := hZ.same sfe
    have hM := hM.same sfe
    have hN := hN.same sfe
    have hL := hL.same sfe
    refine ⟨_, _, rfl, ?_⟩
    obtain ⟨d1, f1, g1⟩ := hA.ins
    obtain ⟨d2, f2, g2⟩ := hC.ins
    refine ⟨_, rfl, _, rfl, a, d1, _, c, d2, _, rfl, g1, rfl, g2, mul_val hA hC (by decide) (by decide) fun fa Gfa nfa hP sfa => ?_⟩
    clear g1 g2
    have jj := jj.trans sfa
    have hA := hA.same sfa
    have hB := hB.same sfa
    have hC := hC.same sfa
    have hZ := hZ.same sfa
    have hM := hM.same sfa
    have hN := hN.same sfa
    have hL := hL.same sfa
    have hF := hF.same sfa
    obtain ⟨d1, f1, g1⟩ := hB.ins
    obtain ⟨d2, f2, g2⟩ := hC.ins
    refine ⟨_, rfl, _, rfl, b, d1, _, c, d2, _, rfl, g1, rfl, g2, mul_val hB hC (by decide) (by decide) fun wi Gwi nwi hW swi => ?_⟩
    clear g1 g2
    have jj := jj.trans swi
    have hA := hA.same swi
    have hB := hB.same swi
    have hC := hC.same swi
    have hZ := hZ.same swi
    have hM := hM.same swi
    have hN := hN.same swi
    have hL := hL.same swi
    have hF := hF.same swi
    have hP := hP.same swi
    obtain ⟨d1, f1, g1⟩ := hA.ins
    refine ⟨_, rfl, a, d1, _, rfl, g1, neg_val hA (by decide) fun na Gna nna hNA sna => ?_⟩
    clear g1
    have jj := jj.trans sna
    have hA := hA.same sna
    have hB := hB.same sna
    have hC := hC.same sna
    have hZ := hZ.same sna
    have hM := hM.same sna
    have hN := hN.same sna
    have hL := hL.same sna
    have hF := hF.same sna
    have hP := hP.same sna
    have hW := hW.same sna
    obtain ⟨d1, f1, g1⟩ := hB.ins
    refine ⟨_, rfl, b, d1, _, rfl, g1, neg_val hB (by decide) fun nb Gnb nnb hNB snb => ?_⟩
    clear g1
    have jj := jj.trans snb
    have hA := hA.same snb
    have hB := hB.same snb
    have hC := hC.same snb
    have hZ := hZ.same snb
    have hM := hM.same snb
    have hN := hN.same snb
    have hL := hL.same snb
    have hF := hF.same snb
    have hP := hP.same snb
    have hW := hW.same snb
    have hNA := hNA.same snb
    obtain ⟨d1, f1, g1⟩ := hA.ins
    refine ⟨_, rfl, a, d1, _, rfl, g1, abs_val hA (by decide) fun ab Gab nab hAB sab => ?_⟩
    clear g1
    have jj := jj.trans sab
    have hA := hA.same sab
    have hB := hB.same sab
    have hC := hC.same sab
    have hZ := hZ.same sab
    have hM := hM.same sab
    have hN := hN.same sab
    have hL := hL.same sab
    have hF := hF.same sab
    have hP := hP.same sab
    have hW := hW.same sab
    have hNA := hNA.same sab
    have hNB := hNB.same sab
    refine ⟨by show 3 ≤ sizeLine; decide, fun sd nsd => ?_⟩
    have ssd := Same.new (o := .lst [.ref na, .ref nb, .ref ab]) nsd
    have esd := upd_same (H := Gab) (a := sd) (o := .lst [.ref na, .ref nb, .ref ab])
    generalize upd Gab sd (.lst [.ref na, .ref nb, .ref ab]) = Gsd at ssd esd
    have jj := jj.trans ssd
    have hA := hA.same ssd
    have hB := hB.same ssd
    have hC := hC.same ssd
    have hZ := hZ.same ssd
    have hM := hM.same ssd
    have hN := hN.same ssd
    have hL := hL.same ssd
    have hF := hF.same ssd
    have hP := hP.same ssd
    have hW := hW.same ssd
    have hNA := hNA.same ssd
    have hNB := hNB.same ssd
    have hAB := hAB.same ssd
    refine ⟨_, _, _, rfl, ?_⟩
    refine ⟨_, rfl, _, rfl, _, rfl, _, rfl, _, rfl, _, rfl, by show 6 ≤ sizeLine; decide, fun s6 ns6 => ?_⟩
    have ss6 := Same.new (o := .lst [.ref mo, .ref ma, .ref le, .ref fe, .ref fa, .ref wi]) ns6
    have es6 := upd_same (H := Gsd) (a := s6) (o := .lst [.ref mo, .ref ma, .ref le, .ref fe, .ref fa, .ref wi])
    generalize upd Gsd s6 (.lst [.ref mo, .ref ma, .ref le, .ref fe, .ref fa, .ref wi]) = Gs6 at ss6 es6
    have jj := jj.trans ss6
    have hA := hA.same ss6
    have hB := hB.same ss6
    have hC := hC.same ss6
    have hZ := hZ.same ss6
    have hM := hM.same ss6
    have hN := hN.same ss6
    have hL := hL.same ss6
    have hF := hF.same ss6
    have hP := hP.same ss6
    have hW := hW.same ss6
    have hNA := hNA.same ss6
    have hNB := hNB.same ss6
    have hAB := hAB.same ss6
    have esd := ss6 _ _ esd
    refine ⟨_, rfl, s6, sd, _, _, rfl, rfl, es6, esd, by show 9 ≤ sizeLine; decide, fun so nso => ?_⟩
    have sso := Same.new (o := .lst ([.ref mo, .ref ma, .ref le, .ref fe, .ref fa, .ref wi] ++ [.ref na, .ref nb, .ref ab])) nso
    exact ht _ z mo ma le fe fa wi na nb ab sd so _ bel abo ⟨hA.same sso, hB.same sso, hC.same sso, hZ.same sso, hM.same sso, hN.same sso, hL.same sso, hF.same sso, hP.same sso, hW.same sso, hNA.same sso, hNB.same sso, hAB.same sso, sso _ _ esd, upd_same, hbel.symm, habo.symm⟩ (jj.trans sso)
end
end Ws

namespace Ws
open PySem PySem.Spec PyProof.Rows L2
abbrev sLaw : Stmt := (PySem.Challenge.pw_whatspeed_k04_whole_numbers_in_sums.main.body.getD 20 (.Pass ⟨0, 0, 0, 0⟩))
abbrev NLaw : List Str := ["script", "k", "pot", "turn", "a", "b", "c"]
abbrev PLaw : List Str := ["script"]
theorem scLaw : FnScope NLaw PLaw (defScope sLaw) := ⟨rfl, rfl, rfl, by decide +kernel, rfl, by decide +kernel, by decide +kernel⟩
def spLaw (K : PySem.W.Frag) : Sp := fun vs H Q _ => ∃ (a : Addr) (ns : List Int), vs = [.ref a] ∧ SqL K H a (ns.map V.int) ∧ ns.length ≤ 63 ∧ ∀ H', Q (.bl true) H'
section
variable {P : Program} {w : World} {K : PySem.W.Frag} {mg : Str → Option Value} {base : Heap} {f : Addr} {fd : FuncData} {C : Addr}
theorem NumV.pot {p a : Addr} {H H' : Hp} {n : Nat} {t b m : Int} (h : NumV C H a n t b) (c : Ch p H H') (hp : PotAt H p m) : NumV C H' a n t b := let ⟨_, _, _, e, _⟩ := hp; h.ch c e
theorem ok_law (F : L2.Fun K "law" "law" sLaw f fd) (b : Binds K fd PLaw []) (B : Bi mg) (cP : CalF P w K mg base 1 "_law_pot" (spPot K)) (cD : CalF P w K mg base 4 "_law_drawn" (spDrawn C)) (cS : CalF P w K mg base 6 "_law_sums_right" (spSums C)) (cR : CalF P w K mg base 6 "_law_order_right" (spOrder C)) : FnR P w K mg base CX0 7 f (spLaw K) := by
  refine fnR_of F b scLaw (fun vs H Q E h => ?_) (fun cdv A outer s H vs Q E hr h => ?_)
  · obtain ⟨a, ns, rfl, _⟩ := h
    rfl
  · have sc := scLaw
    obtain ⟨a, ns, rfl, hS, hlen, q⟩ := h
    refine ⟨_, (pss_cons (ps_for PassesOwn.never rfl (pi_range1 (by rfl) B.range (pa_cons (pe_callB (call_max2 rfl) (by rfl) B.max (by decide +kernel) (pa_cons pe_int (pa_cons (pe_callB (call_min2 rfl) (by rfl) B.min (by decide +kernel) (pa_cons pe_int (pa_cons (pe_callB call_len_seq (by rfl) B.len PySem.boot_len (pa_cons (pv 0) pa_nil)) pa_nil))) pa_nil))) pa_nil)) (pg_name (i := 1) sc.nd rfl (Or.inl rfl)) (pss_cons (ps_set (i := 2) sc.nd rfl (Or.inl rfl) (pe_f cP hr (by decide) rfl (pa_cons (pv 0) (pa_cons (pv 1) pa_nil)))) (pss_one (ps_for PassesOwn.never rfl (pi_range1 (by rfl) B.range (pa_cons pe_int pa_nil)) (pg_name (i := 3) sc.nd rfl (Or.inl rfl)) (pss_cons (ps_par3 (i := 4) (j := 5) (l := 6) rfl sc.nd rfl rfl rfl (by decide) (by decide) (by decide) rfl rfl rfl (pa_cons (pe_f cD hr (by decide) rfl (pa_cons (pv 2) pa_nil)) (pa_cons (pe_f cD hr (by decide) rfl (pa_cons (pv 2) pa_nil)) (pa_cons (pe_f cD hr (by decide) rfl (pa_cons (pv 2) pa_nil)) pa_nil))) (by rfl)) (pss_cons (ps_if (PW.pt (pw_or (pt_not (pt_val (pe_f cS hr (by decide) rfl (pa_cons (pv 4) (pa_cons (pv 5) (pa_cons (pv 6) pa_nil)))))) (pw_or1 (pt_not (pt_val (pe_f cR hr (by decide) rfl (pa_cons (pv 4) (pa_cons (pv 5) (pa_cons (pv 6) pa_nil))))))))) (pss_one (ps_ret pe_bl)) pss_nil) (pss_one (ps_if (pt_not (pt_val (pe_f cR hr (by decide) rfl (pa_cons (pv 4) (pa_cons (pv 4) (pa_cons (pv 5) pa_nil)))))) (pss_one (ps_ret pe_bl)) pss_nil)))))))) (pss_one (ps_ret pe_bl))), ?_⟩
    refine ⟨_, rfl, a, _, rfl, .inl hS, _, _, rfl, _, _, rfl, ?_⟩
    generalize hn : (if (if ((ns.map V.int).length : Int) < 3 then ((ns.map V.int).length : Int) else 3) > 1 then (if ((ns.map V.int).length : Int) < 3 then ((ns.map V.int).length : Int) else 3) else 1) = n
    have hn3 : n ≤ 3 ∧ 0 ≤ n := by
      rw [← hn]
      split <;> split <;> omega
    refine ⟨n, rfl, by omega, by omega, for_range (n := n.toNat) (fun i σ H' => ∃ x y z u v w, σ = [some (.ref a), x, y, z, u, v, w] ∧ SqL K H' a (ns.map V.int)) ⟨_, _, _, _, _, _, rfl, hS⟩ ?_ ?_⟩
    · rintro i σ H0 hi ⟨_, _, _, _, _, _, rfl, hS0⟩
      rw [Int.zero_add]
      refine ⟨_, rfl, _, rfl, a, ns, i, rfl, hS0, by omega, fun p H1 np hp s1 => ?_⟩
      refine ⟨6, rfl, by decide, by decide, for_range (n := 6) (fun j σ H' => ∃ z u v w, σ = [some (.ref a), some (.int i), some (.ref p), z, u, v, w] ∧ PotAt H' p (12 * (j : Int)) ∧ Same H0 H') ⟨_, _, _, _, rfl, hp.mono (by omega), s1⟩ ?_ ?_⟩
      · rintro j σ H2 hj ⟨_, _, _, _, rfl, hp2, s2⟩
        refine ⟨_, rfl, p, _, rfl, hp2, by omega, fun x G3 ta ba nx hA hp3 c3 => ?_⟩
        refine ⟨_, rfl, p, _, rfl, hp3, by omega, fun y G4 tb bb ny hB hp4 c4 => ?_⟩
        refine ⟨_, rfl, p, _, rfl, hp4, by omega, fun z G5 tc bc nz hC hp5 c5 => ?_⟩
        have hA := (hA.pot c4 hp3).pot c5 hp4
        have hB := hB.pot c5 hp4
        refine ⟨_, _, _, rfl, ?_⟩
        refine ⟨_, rfl, _, rfl, _, rfl, x, y, z, ta, ba, tb, bb, tc, bc, rfl, hA, hB, hC, fun G6 j6 => ⟨true, rfl, ifF rfl ?_⟩⟩
        refine ⟨_, rfl, _, rfl, _, rfl, x, y, z, ta, ba, tb, bb, tc, bc, rfl, hA.same j6, hB.same j6, hC.same j6, fun G7 j7 => ⟨true, rfl, ifF rfl ?_⟩⟩
        have k7 := j6.trans j7
        refine ⟨_, rfl, _, rfl, _, rfl, x, x, y, ta, ba, ta, ba, tb, bb, rfl, hA.same k7, hA.same k7, hB.same k7, fun G8 j8 => ⟨true, rfl, ifF rfl ?_⟩⟩
        have k8 := k7.trans j8
        have c25 : Ch p H2 G5 := (c3.trans c4).trans c5
        refine ⟨_, _, _, _, rfl, (hp5.same k8).mono (by omega), fun b' o e => ?_⟩
        exact k8 _ _ (c25 _ _ (ne_of_none e np) (s2 _ _ e))
      · rintro σ H2 ⟨_, _, _, _, rfl, _, s2⟩
        exact ⟨_, _, _, _, _, _, rfl, L2.Same.seq s2 hS0⟩
    · rintro σ H' ⟨_, _, _, _, _, _, rfl, _⟩
      exact q H'
end
theorem all_mk {l : PySem.W.OpenLaw} {w : World} {K : PySem.W.Frag} {h : Heap} {mg : Str → Option Value} {fa : Addr} (X : K.In h) (G : h.Ns mainGlobals mg) (hfa : mg "law" = some (.ref fa)) {C : Addr} {fWhole : Addr} {odWhole anWhole : Option Addr} {slWhole : Array (Option Value)} {ocWhole dcWhole pmWhole cdWhole ctWhole : Value} {kVWhole : Value} {fNum : Addr} {odNum anNum : Option Addr} {slNum : Array (Option Value)} {ocNum dcNum pmNum cdNum ctNum : Value} {kVNum : Value} {TNum : Addr} {oTNum : Obj} {nT : Nat} {tkT : Tok} {pNTop fNTop : Addr} {rNTop : List Value} {odNTop anNTop : Option Addr} {slNTop : Array (Option Value)} {ocNTop dcNTop pmNTop cdNTop ctNTop : Value} {kVNTop : Value} {pNBot fNBot : Addr} {rNBot : List Value} {odNBot anNBot : Option Addr} {slNBot : Array (Option Value)} {ocNBot dcNBot pmNBot cdNBot ctNBot : Value} {kVNBot : Value} {fNEq : Addr} {odNEq anNEq : Option Addr} {slNEq : Array (Option Value)} {ocNEq dcNEq pmNEq cdNEq ctNEq : Value} {kVNEq : Value} {fNBool : Addr} {odNBool anNBool : Option Addr} {slNBool : Array (Option Value)} {ocNBool dcNBool pmNBool cdNBool ctNBool : Value} {kVNBool : Value} {fNAdd : Addr} {odNAdd anNAdd : Option Addr} {slNAdd : Array (Option Value)} {ocNAdd dcNAdd pmNAdd cdNAdd ctNAdd : Value} {kVNAdd : Value} {fNSub : Addr} {odNSub anNSub : Option Addr} {slNSub : Array (Option Value)} {ocNSub dcNSub pmNSub cdNSub ctNSub : Value} {kVNSub : Value} {fNMul : Addr} {odNMul anNMul : Option Addr} {slNMul : Array (Option Value)} {ocNMul dcNMul pmNMul cdNMul ctNMul : Value} {kVNMul : Value} {fNNeg : Addr} {odNNeg anNNeg : Option Addr} {slNNeg : Array (Option Value)} {ocNNeg dcNNeg pmNNeg cdNNeg ctNNeg : Value} {kVNNeg : Value} {fNAbs : Addr} {odNAbs anNAbs : Option Addr} {slNAbs : Array (Option Value)} {ocNAbs dcNAbs pmNAbs cdNAbs ctNAbs : Value} {kVNAbs : Value} {fNLess : Addr} {odNLess anNLess : Option Addr} {slNLess : Array (Option Value)} {ocNLess dcNLess pmNLess cdNLess ctNLess : Value} {kVNLess : Value} {nmC qC : Str} {NC : Addr} {bsC bmC : List Value} {hdC : Bool} {snC : List Str} {subC : List Value} {abC : Bool} {colC : Option Bool} {ddC : Option Addr} {m0C m1C m2C m3C m5C : Option Value} {nidC : String} {fPot : Addr} {odPot anPot : Option Addr} {slPot : Array (Option Value)} {ocPot dcPot pmPot cdPot ctPot : Value} {kVPot : Value} {fTake : Addr} {odTake anTake : Option Addr} {slTake : Array (Option Value)} {ocTake dcTake pmTake cdTake ctTake : Value} {kVTake : Value} {fOf : Addr} {odOf anOf : Option Addr} {slOf : Array (Option Value)} {ocOf dcOf pmOf cdOf ctOf : Value} {kVOf : Value} {fDrawn : Addr} {odDrawn anDrawn : Option Addr} {slDrawn : Array (Option Value)} {ocDrawn dcDrawn pmDrawn cdDrawn ctDrawn : Value} {kVDrawn : Value} {fLSum : Addr} {odLSum anLSum : Option Addr} {slLSum : Array (Option Value)} {ocLSum dcLSum pmLSum cdLSum ctLSum : Value} {kVLSum : Value} {fLLess : Addr} {odLLess anLLess : Option Addr} {slLLess : Array (Option Value)} {ocLLess dcLLess pmLLess cdLLess ctLLess : Value} {kVLLess : Value} {fLTimes : Addr} {odLTimes anLTimes : Option Addr} {slLTimes : Array (Option Value)} {ocLTimes dcLTimes pmLTimes cdLTimes ctLTimes : Value} {kVLTimes : Value} {fLTurned : Addr} {odLTurned anLTurned : Option Addr} {slLTurned : Array (Option Value)} {ocLTurned dcLTurned pmLTurned cdLTurned ctLTurned : Value} {kVLTurned : Value} {fAlike : Addr} {odAlike anAlike : Option Addr} {slAlike : Array (Option Value)} {ocAlike dcAlike pmAlike cdAlike ctAlike : Value} {kVAlike : Value} {fSums : Addr} {odSums anSums : Option Addr} {slSums : Array (Option Value)} {ocSums dcSums pmSums cdSums ctSums : Value} {kVSums : Value} {fOrder : Addr} {odOrder anOrder : Option Addr} {slOrder : Array (Option Value)} {ocOrder dcOrder pmOrder cdOrder ctOrder : Value} {kVOrder : Value} {fLaw : Addr} {odLaw anLaw : Option Addr} {slLaw : Array (Option Value)} {ocLaw dcLaw pmLaw cdLaw ctLaw : Value} {kVLaw : Value} (g_C : PySem.W.nsIn K mainGlobals "Number" = some (some (.ref C))) (pg_C : PySem.W.plainGet K C Str.empty = true) (hd_C : PySem.W.hasDictIn K C = true) (po_C : PySem.W.plainOver K C = true) (sa_C : PySem.W.findIn K (.ref C) "__setattr__" = some (some (.builtin "object.__setattr__"))) (mk_C : PySem.W.makesIn K C = true) (kc_C : PySem.W.keepIn K (.ref C) = true) (n_top_C : PySem.W.findIn K (.ref C) "_top" = some none) (n_bottom_C : PySem.W.findIn K (.ref C) "_bottom" = some none) (ha_C : PySem.W.findIn K (.ref C) "__class__" = some (some (.builtin "object.__class__"))) (hn_C : PySem.W.specialIn K (.builtin "object.__class__") "__get__" = some (some (.builtin "getset_descriptor.__get__"))) (htk_C : PySem.W.takesIn K (.builtin "object.__class__") = some true) (hm_C : PySem.W.mroIn K C (.type "object") = some true) (sf_C : PySem.W.selfFirst K C = true) (nf_C : PySem.W.notFirst K C (.ref C) = true) (gcd : PySem.W.nsIn K mainGlobals "gcd" = some (some (.builtin "math.gcd"))) (g_fWhole : PySem.W.nsIn K mainGlobals "is_whole" = some (some (.ref fWhole))) (l_Whole : K.lookup fWhole = some ⟨ocWhole, odWhole, .func (PySem.W.fnOf "is_whole" "is_whole" (defArgs sWhole) (defBody sWhole) (defScope sWhole) .none kVWhole dcWhole pmWhole anWhole cdWhole ctWhole), slWhole⟩) (c_Whole : PySem.W.codeIn K cdWhole "is_whole" = true) (k_Whole : PySem.W.keepIn K (.ref fWhole) = true) (a_Num : PySem.W.findIn K (.ref C) "__init__" = some (some (.ref fNum))) (i_Num : PySem.W.isFn K (.ref fNum) = true) (l_Num : K.lookup fNum = some ⟨ocNum, odNum, .func (PySem.W.fnOf "__init__" "Number.__init__" (defArgs sNum) (defBody sNum) (defScope sNum) (.ref TNum) kVNum dcNum pmNum anNum cdNum ctNum), slNum⟩) (c_Num : PySem.W.codeIn K cdNum "Number.__init__" = true) (k_Num : PySem.W.keepIn K (.ref fNum) = true) (lT : K.lookup TNum = some oTNum) (dT : oTNum.data = .seq #[.int 1 tkT] nT) (a_NTop : PySem.W.findIn K (.ref C) "top" = some (some (.ref pNTop))) (g_NTop : PySem.W.specialIn K (.ref pNTop) "__get__" = some (some (.builtin "property.__get__"))) (t_NTop : PySem.W.takesIn K (.ref pNTop) = some true) (r_NTop : PySem.W.recIn K pNTop "property" = some (.ref fNTop :: rNTop)) (l_NTop : K.lookup fNTop = some ⟨ocNTop, odNTop, .func (PySem.W.fnOf "top" "Number.top" (defArgs sNTop) (defBody sNTop) (defScope sNTop) .none kVNTop dcNTop pmNTop anNTop cdNTop ctNTop), slNTop⟩) (c_NTop : PySem.W.codeIn K cdNTop "Number.top" = true) (k_NTop : PySem.W.keepIn K (.ref fNTop) = true) (a_NBot : PySem.W.findIn K (.ref C) "bottom" = some (some (.ref pNBot))) (g_NBot : PySem.W.specialIn K (.ref pNBot) "__get__" = some (some (.builtin "property.__get__"))) (t_NBot : PySem.W.takesIn K (.ref pNBot) = some true) (r_NBot : PySem.W.recIn K pNBot "property" = some (.ref fNBot :: rNBot)) (l_NBot : K.lookup fNBot = some ⟨ocNBot, odNBot, .func (PySem.W.fnOf "bottom" "Number.bottom" (defArgs sNBot) (defBody sNBot) (defScope sNBot) .none kVNBot dcNBot pmNBot anNBot cdNBot ctNBot), slNBot⟩) (c_NBot : PySem.W.codeIn K cdNBot "Number.bottom" = true) (k_NBot : PySem.W.keepIn K (.ref fNBot) = true) (a_NEq : PySem.W.findIn K (.ref C) "__eq__" = some (some (.ref fNEq))) (i_NEq : PySem.W.isFn K (.ref fNEq) = true) (l_NEq : K.lookup fNEq = some ⟨ocNEq, odNEq, .func (PySem.W.fnOf "__eq__" "Number.__eq__" (defArgs sNEq) (defBody sNEq) (defScope sNEq) .none kVNEq dcNEq pmNEq anNEq cdNEq ctNEq), slNEq⟩) (c_NEq : PySem.W.codeIn K cdNEq "Number.__eq__" = true) (k_NEq : PySem.W.keepIn K (.ref fNEq) = true) (a_NBool : PySem.W.findIn K (.ref C) "__bool__" = some (some (.ref fNBool))) (i_NBool : PySem.W.isFn K (.ref fNBool) = true) (l_NBool : K.lookup fNBool = some ⟨ocNBool, odNBool, .func (PySem.W.fnOf "__bool__" "Number.__bool__" (defArgs sNBool) (defBody sNBool) (defScope sNBool) .none kVNBool dcNBool pmNBool anNBool cdNBool ctNBool), slNBool⟩) (c_NBool : PySem.W.codeIn K cdNBool "Number.__bool__" = true) (k_NBool : PySem.W.keepIn K (.ref fNBool) = true) (a_NAdd : PySem.W.findIn K (.ref C) "__add__" = some (some (.ref fNAdd))) (i_NAdd : PySem.W.isFn K (.ref fNAdd) = true) (l_NAdd : K.lookup fNAdd = some ⟨ocNAdd, odNAdd, .func (PySem.W.fnOf "__add__" "Number.__add__" (defArgs sNAdd) (defBody sNAdd) (defScope sNAdd) .none kVNAdd dcNAdd pmNAdd anNAdd cdNAdd ctNAdd), slNAdd⟩) (c_NAdd : PySem.W.codeIn K cdNAdd "Number.__add__" = true) (k_NAdd : PySem.W.keepIn K (.ref fNAdd) = true) (a_NSub : PySem.W.findIn K (.ref C) "__sub__" = some (some (.ref fNSub))) (i_NSub : PySem.W.isFn K (.ref fNSub) = true) (l_NSub : K.lookup fNSub = some ⟨ocNSub, odNSub, .func (PySem.W.fnOf "__sub__" "Number.__sub__" (defArgs sNSub) (defBody sNSub) (defScope sNSub) .none kVNSub dcNSub pmNSub anNSub cdNSub ctNSub), slNSub⟩) (c_NSub : PySem.W.codeIn K cdNSub "Number.__sub__" = true) (k_NSub : PySem.W.keepIn K (.ref fNSub) = true) (a_NMul : PySem.W.findIn K (.ref C) "__mul__" = some (some (.ref fNMul))) (i_NMul : PySem.W.isFn K (.ref fNMul) = true) (l_NMul : K.lookup fNMul = some ⟨ocNMul, odNMul, .func (PySem.W.fnOf "__mul__" "Number.__mul__" (defArgs sNMul) (defBody sNMul) (defScope sNMul) .none kVNMul dcNMul pmNMul anNMul cdNMul ctNMul), slNMul⟩) (c_NMul : PySem.W.codeIn K cdNMul "Number.__mul__" = true) (k_NMul : PySem.W.keepIn K (.ref fNMul) = true) (a_NNeg : PySem.W.findIn K (.ref C) "__neg__" = some (some (.ref fNNeg))) (i_NNeg : PySem.W.isFn K (.ref fNNeg) = true) (l_NNeg : K.lookup fNNeg = some ⟨ocNNeg, odNNeg, .func (PySem.W.fnOf "__neg__" "Number.__neg__" (defArgs sNNeg) (defBody sNNeg) (defScope sNNeg) .none kVNNeg dcNNeg pmNNeg anNNeg cdNNeg ctNNeg), slNNeg⟩) (c_NNeg : PySem.W.codeIn K cdNNeg "Number.__neg__" = true) (k_NNeg : PySem.W.keepIn K (.ref fNNeg) = true) (a_NAbs : PySem.W.findIn K (.ref C) "__abs__" = some (some (.ref fNAbs))) (i_NAbs : PySem.W.isFn K (.ref fNAbs) = true) (l_NAbs : K.lookup fNAbs = some ⟨ocNAbs, odNAbs, .func (PySem.W.fnOf "__abs__" "Number.__abs__" (defArgs sNAbs) (defBody sNAbs) (defScope sNAbs) .none kVNAbs dcNAbs pmNAbs anNAbs cdNAbs ctNAbs), slNAbs⟩) (c_NAbs : PySem.W.codeIn K cdNAbs "Number.__abs__" = true) (k_NAbs : PySem.W.keepIn K (.ref fNAbs) = true) (a_NLess : PySem.W.findIn K (.ref C) "is_less" = some (some (.ref fNLess))) (i_NLess : PySem.W.isFn K (.ref fNLess) = true) (l_NLess : K.lookup fNLess = some ⟨ocNLess, odNLess, .func (PySem.W.fnOf "is_less" "Number.is_less" (defArgs sNLess) (defBody sNLess) (defScope sNLess) .none kVNLess dcNLess pmNLess anNLess cdNLess ctNLess), slNLess⟩) (c_NLess : PySem.W.codeIn K cdNLess "Number.is_less" = true) (k_NLess : PySem.W.keepIn K (.ref fNLess) = true) (ne_C : PySem.W.findIn K (.ref C) "__ne__" = some (some (.builtin "object.__ne__"))) (xL_C : K.lookup C = some (excClassObj nmC qC C NC bsC bmC hdC snC subC abC colC ddC m0C m1C m2C m3C m5C nidC)) (bm_C : bmC.contains (.type "object") = true) (g_fPot : PySem.W.nsIn K mainGlobals "_law_pot" = some (some (.ref fPot))) (l_Pot : K.lookup fPot = some ⟨ocPot, odPot, .func (PySem.W.fnOf "_law_pot" "_law_pot" (defArgs sPot) (defBody sPot) (defScope sPot) .none kVPot dcPot pmPot anPot cdPot ctPot), slPot⟩) (c_Pot : PySem.W.codeIn K cdPot "_law_pot" = true) (k_Pot : PySem.W.keepIn K (.ref fPot) = true) (g_fTake : PySem.W.nsIn K mainGlobals "_law_take" = some (some (.ref fTake))) (l_Take : K.lookup fTake = some ⟨ocTake, odTake, .func (PySem.W.fnOf "_law_take" "_law_take" (defArgs sTake) (defBody sTake) (defScope sTake) .none kVTake dcTake pmTake anTake cdTake ctTake), slTake⟩) (c_Take : PySem.W.codeIn K cdTake "_law_take" = true) (k_Take : PySem.W.keepIn K (.ref fTake) = true) (g_fOf : PySem.W.nsIn K mainGlobals "_law_of" = some (some (.ref fOf))) (l_Of : K.lookup fOf = some ⟨ocOf, odOf, .func (PySem.W.fnOf "_law_of" "_law_of" (defArgs sOf) (defBody sOf) (defScope sOf) .none kVOf dcOf pmOf anOf cdOf ctOf), slOf⟩) (c_Of : PySem.W.codeIn K cdOf "_law_of" = true) (k_Of : PySem.W.keepIn K (.ref fOf) = true) (g_fDrawn : PySem.W.nsIn K mainGlobals "_law_drawn" = some (some (.ref fDrawn))) (l_Drawn : K.lookup fDrawn = some ⟨ocDrawn, odDrawn, .func (PySem.W.fnOf "_law_drawn" "_law_drawn" (defArgs sDrawn) (defBody sDrawn) (defScope sDrawn) .none kVDrawn dcDrawn pmDrawn anDrawn cdDrawn ctDrawn), slDrawn⟩) (c_Drawn : PySem.W.codeIn K cdDrawn "_law_drawn" = true) (k_Drawn : PySem.W.keepIn K (.ref fDrawn) = true) (g_fLSum : PySem.W.nsIn K mainGlobals "_law_sum" = some (some (.ref fLSum))) (l_LSum : K.lookup fLSum = some ⟨ocLSum, odLSum, .func (PySem.W.fnOf "_law_sum" "_law_sum" (defArgs sLSum) (defBody sLSum) (defScope sLSum) .none kVLSum dcLSum pmLSum anLSum cdLSum ctLSum), slLSum⟩) (c_LSum : PySem.W.codeIn K cdLSum "_law_sum" = true) (k_LSum : PySem.W.keepIn K (.ref fLSum) = true) (g_fLLess : PySem.W.nsIn K mainGlobals "_law_less" = some (some (.ref fLLess))) (l_LLess : K.lookup fLLess = some ⟨ocLLess, odLLess, .func (PySem.W.fnOf "_law_less" "_law_less" (defArgs sLLess) (defBody sLLess) (defScope sLLess) .none kVLLess dcLLess pmLLess anLLess cdLLess ctLLess), slLLess⟩) (c_LLess : PySem.W.codeIn K cdLLess "_law_less" = true) (k_LLess : PySem.W.keepIn K (.ref fLLess) = true) (g_fLTimes : PySem.W.nsIn K mainGlobals "_law_times" = some (some (.ref fLTimes))) (l_LTimes : K.lookup fLTimes = some ⟨ocLTimes, odLTimes, .func (PySem.W.fnOf "_law_times" "_law_times" (defArgs sLTimes) (defBody sLTimes) (defScope sLTimes) .none kVLTimes dcLTimes pmLTimes anLTimes cdLTimes ctLTimes), slLTimes⟩) (c_LTimes : PySem.W.codeIn K cdLTimes "_law_times" = true) (k_LTimes : PySem.W.keepIn K (.ref fLTimes) = true) (g_fLTurned : PySem.W.nsIn K mainGlobals "_law_turned" = some (some (.ref fLTurned))) (l_LTurned : K.lookup fLTurned = some ⟨ocLTurned, odLTurned, .func (PySem.W.fnOf "_law_turned" "_law_turned" (defArgs sLTurned) (defBody sLTurned) (defScope sLTurned) .none kVLTurned dcLTurned pmLTurned anLTurned cdLTurned ctLTurned), slLTurned⟩) (c_LTurned : PySem.W.codeIn K cdLTurned "_law_turned" = true) (k_LTurned : PySem.W.keepIn K (.ref fLTurned) = true) (g_fAlike : PySem.W.nsIn K mainGlobals "_law_are_same" = some (some (.ref fAlike))) (l_Alike : K.lookup fAlike = some ⟨ocAlike, odAlike, .func (PySem.W.fnOf "_law_are_same" "_law_are_same" (defArgs sAlike) (defBody sAlike) (defScope sAlike) .none kVAlike dcAlike pmAlike anAlike cdAlike ctAlike), slAlike⟩) (c_Alike : PySem.W.codeIn K cdAlike "_law_are_same" = true) (k_Alike : PySem.W.keepIn K (.ref fAlike) = true) (g_fSums : PySem.W.nsIn K mainGlobals "_law_sums_right" = some (some (.ref fSums))) (l_Sums : K.lookup fSums = some ⟨ocSums, odSums, .func (PySem.W.fnOf "_law_sums_right" "_law_sums_right" (defArgs sSums) (defBody sSums) (defScope sSums) .none kVSums dcSums pmSums anSums cdSums ctSums), slSums⟩) (c_Sums : PySem.W.codeIn K cdSums "_law_sums_right" = true) (k_Sums : PySem.W.keepIn K (.ref fSums) = true) (g_fOrder : PySem.W.nsIn K mainGlobals "_law_order_right" = some (some (.ref fOrder))) (l_Order : K.lookup fOrder = some ⟨ocOrder, odOrder, .func (PySem.W.fnOf "_law_order_right" "_law_order_right" (defArgs sOrder) (defBody sOrder) (defScope sOrder) .none kVOrder dcOrder pmOrder anOrder cdOrder ctOrder), slOrder⟩) (c_Order : PySem.W.codeIn K cdOrder "_law_order_right" = true) (k_Order : PySem.W.keepIn K (.ref fOrder) = true) (g_fLaw : PySem.W.nsIn K mainGlobals "law" = some (some (.ref fLaw))) (l_Law : K.lookup fLaw = some ⟨ocLaw, odLaw, .func (PySem.W.fnOf "law" "law" (defArgs sLaw) (defBody sLaw) (defScope sLaw) .none kVLaw dcLaw pmLaw anLaw cdLaw ctLaw), slLaw⟩) (c_Law : PySem.W.codeIn K cdLaw "law" = true) (k_Law : PySem.W.keepIn K (.ref fLaw) = true) (z_len : PySem.W.nsIn K mainGlobals "len" = some none) (z_abs : PySem.W.nsIn K mainGlobals "abs" = some none) (z_int : PySem.W.nsIn K mainGlobals "int" = some none) (z_bool : PySem.W.nsIn K mainGlobals "bool" = some none) (z_max : PySem.W.nsIn K mainGlobals "max" = some none) (z_min : PySem.W.nsIn K mainGlobals "min" = some none) (z_range : PySem.W.nsIn K mainGlobals "range" = some none) (z_all : PySem.W.nsIn K mainGlobals "all" = some none) (z_any : PySem.W.nsIn K mainGlobals "any" = some none) (z_isinstance : PySem.W.nsIn K mainGlobals "isinstance" = some none) (z_repr : PySem.W.nsIn K mainGlobals "repr" = some none) (z_sorted : PySem.W.nsIn K mainGlobals "sorted" = some none) (z_set : PySem.W.nsIn K mainGlobals "set" = some none) :
    ∀ base : Heap, K.In base → base.Ns mainGlobals mg → FnG l.prog w K mg base CX0 7 fa (spLaw K) := by
  have e := hfa.symm.trans (PySem.W.mg_of X G g_fLaw)
  cases e
  have mgo : ∀ {x : Str} {v : Value}, PySem.W.nsIn K mainGlobals x = some (some v) → mg x = some v := fun e => PySem.W.mg_of X G e
  have B : Bi mg := ⟨PySem.W.mg_none_of X G z_len, PySem.W.mg_none_of X G z_abs, PySem.W.mg_none_of X G z_int, PySem.W.mg_none_of X G z_bool, PySem.W.mg_none_of X G z_max, PySem.W.mg_none_of X G z_min, PySem.W.mg_none_of X G z_range, PySem.W.mg_none_of X G z_all, PySem.W.mg_none_of X G z_any, PySem.W.mg_none_of X G z_isinstance⟩
  have gR : mg "repr" = none := PySem.W.mg_none_of X G z_repr
  have gSo : mg "sorted" = none := PySem.W.mg_none_of X G z_sorted
  have gSet : mg "set" = none := PySem.W.mg_none_of X G z_set
  have clC : Cls K C := ⟨pg_C, hd_C, po_C, sa_C⟩
  have NC : NumC K C := ⟨clC, n_top_C, n_bottom_C, ha_C, hn_C, htk_C, hm_C, kit_self _, sf_C, nf_C⟩
  have NE : NeC K C := ⟨ne_C, _, _, _, _, _, _, _, _, _, _, _, _, _, _, _, _, _, xL_C, bm_C⟩
  have FWhole := L2.fun_mk (st := sWhole) l_Whole c_Whole k_Whole
  have FNTop := L2.fun_mk (st := sNTop) l_NTop c_NTop k_NTop
  have FNBot := L2.fun_mk (st := sNBot) l_NBot c_NBot k_NBot
  have FNEq := L2.fun_mk (st := sNEq) l_NEq c_NEq k_NEq
  have FNBool := L2.fun_mk (st := sNBool) l_NBool c_NBool k_NBool
  have FNAdd := L2.fun_mk (st := sNAdd) l_NAdd c_NAdd k_NAdd
  have FNSub := L2.fun_mk (st := sNSub) l_NSub c_NSub k_NSub
  have FNMul := L2.fun_mk (st := sNMul) l_NMul c_NMul k_NMul
  have FNNeg := L2.fun_mk (st := sNNeg) l_NNeg c_NNeg k_NNeg
  have FNAbs := L2.fun_mk (st := sNAbs) l_NAbs c_NAbs k_NAbs
  have FNLess := L2.fun_mk (st := sNLess) l_NLess c_NLess k_NLess
  have FPot := L2.fun_mk (st := sPot) l_Pot c_Pot k_Pot
  have FTake := L2.fun_mk (st := sTake) l_Take c_Take k_Take
  have FOf := L2.fun_mk (st := sOf) l_Of c_Of k_Of
  have FDrawn := L2.fun_mk (st := sDrawn) l_Drawn c_Drawn k_Drawn
  have FLSum := L2.fun_mk (st := sLSum) l_LSum c_LSum k_LSum
  have FLLess := L2.fun_mk (st := sLLess) l_LLess c_LLess k_LLess
  have FLTimes := L2.fun_mk (st := sLTimes) l_LTimes c_LTimes k_LTimes
  have FLTurned := L2.fun_mk (st := sLTurned) l_LTurned c_LTurned k_LTurned
  have FAlike := L2.fun_mk (st := sAlike) l_Alike c_Alike k_Alike
  have FSums := L2.fun_mk (st := sSums) l_Sums c_Sums k_Sums
  have FOrder := L2.fun_mk (st := sOrder) l_Order c_Order k_Order
  have FLaw := L2.fun_mk (st := sLaw) l_Law c_Law k_Law
  have bWhole := FWhole.binds (ps := PWhole) fun _ _ _ _ _ _ us hl => match us, hl with | [_], _ => rfl
  have bNTop := FNTop.binds (ps := PNTop) fun _ _ _ _ _ _ us hl => match us, hl with | [_], _ => rfl
  have bNBot := FNBot.binds (ps := PNBot) fun _ _ _ _ _ _ us hl => match us, hl with | [_], _ => rfl
  have bNEq := FNEq.binds (ps := PNEq) fun _ _ _ _ _ _ us hl => match us, hl with | [_, _], _ => rfl
  have bNBool := FNBool.binds (ps := PNBool) fun _ _ _ _ _ _ us hl => match us, hl with | [_], _ => rfl
  have bNAdd := FNAdd.binds (ps := PNAdd) fun _ _ _ _ _ _ us hl => match us, hl with | [_, _], _ => rfl
  have bNSub := FNSub.binds (ps := PNSub) fun _ _ _ _ _ _ us hl => match us, hl with | [_, _], _ => rfl
  have bNMul := FNMul.binds (ps := PNMul) fun _ _ _ _ _ _ us hl => match us, hl with | [_, _], _ => rfl
  have bNNeg := FNNeg.binds (ps := PNNeg) fun _ _ _ _ _ _ us hl => match us, hl with | [_], _ => rfl
  have bNAbs := FNAbs.binds (ps := PNAbs) fun _ _ _ _ _ _ us hl => match us, hl with | [_], _ => rfl
  have bNLess := FNLess.binds (ps := PNLess) fun _ _ _ _ _ _ us hl => match us, hl with | [_, _], _ => rfl
  have bPot := FPot.binds (ps := PPot) fun _ _ _ _ _ _ us hl => match us, hl with | [_, _], _ => rfl
  have bTake := FTake.binds (ps := PTake) fun _ _ _ _ _ _ us hl => match us, hl with | [_, _], _ => rfl
  have bOf := FOf.binds (ps := POf) fun _ _ _ _ _ _ us hl => match us, hl with | [_, _], _ => rfl
  have bDrawn := FDrawn.binds (ps := PDrawn) fun _ _ _ _ _ _ us hl => match us, hl with | [_], _ => rfl
  have bLSum := FLSum.binds (ps := PLSum) fun _ _ _ _ _ _ us hl => match us, hl with | [_, _], _ => rfl
  have bLLess := FLLess.binds (ps := PLLess) fun _ _ _ _ _ _ us hl => match us, hl with | [_, _], _ => rfl
  have bLTimes := FLTimes.binds (ps := PLTimes) fun _ _ _ _ _ _ us hl => match us, hl with | [_, _], _ => rfl
  have bLTurned := FLTurned.binds (ps := PLTurned) fun _ _ _ _ _ _ us hl => match us, hl with | [_], _ => rfl
  have bAlike := FAlike.binds (ps := PAlike) fun _ _ _ _ _ _ us hl => match us, hl with | [_], _ => rfl
  have bSums := FSums.binds (ps := PSums) fun _ _ _ _ _ _ us hl => match us, hl with | [_, _, _], _ => rfl
  have bOrder := FOrder.binds (ps := POrder) fun _ _ _ _ _ _ us hl => match us, hl with | [_, _, _], _ => rfl
  have bLaw := FLaw.binds (ps := PLaw) fun _ _ _ _ _ _ us hl => match us, hl with | [_], _ => rfl
  have FNum : FunD K "__init__" "Number.__init__" (defArgs sNum) (defBody sNum) (defScope sNum) [.int 1] [] fNum _ := ⟨⟨_, _, _, _, _, _, _, _, _, _, rfl, l_Num, c_Num, .inr ⟨(fun z => by cases z), TNum, oTNum, [.int 1 tkT], nT, rfl, lT, dT, .cons ⟨_, rfl⟩ .nil⟩, .inl rfl⟩, k_Num⟩
  obtain ⟨dsN, vN, bN⟩ := FNum.binds1 (ps := PNum) 3 1 (fun z => by cases z) rfl fun T kV doc pm an cdv ct us its h1 h2 => match us, its, h1, h2 with | [_, _, _], [_], _, _ => ⟨_, rfl, rfl⟩
  obtain ⟨dsM, vM, bM⟩ := FNum.binds1 (ps := PNum) 2 0 (fun z => by cases z) rfl fun T kV doc pm an cdv ct us its h1 h2 => match us, its, h1, h2 with | [_, _], [_], _, _ => ⟨_, rfl, rfl⟩
  intro base _ _
  have cW : CalF l.prog w K mg base 1 "is_whole" spWhole := ⟨_, ok_whole FWhole bWhole B, mgo g_fWhole, k_Whole⟩
  have mN : MakF l.prog w K mg base 2 "Number" C (spNum C) := ⟨_, ⟨mk_C, a_Num, i_Num, kc_C⟩, ok_num (dvs' := []) FNum bN vN (fun vs H Q E h => by rw [List.append_nil]; exact h) B NC (mgo gcd) cW, mgo g_C⟩
  have pT : PrpF l.prog w K mg base 1 C "top" (spTop C) := ⟨_, _, clC, ⟨a_NTop, g_NTop, t_NTop, _, r_NTop⟩, ok_top FNTop bNTop NC⟩
  have pB : PrpF l.prog w K mg base 1 C "bottom" (spBot C) := ⟨_, _, clC, ⟨a_NBot, g_NBot, t_NBot, _, r_NBot⟩, ok_bot FNBot bNBot NC⟩
  have oE : OpnF l.prog w K mg base 1 C "__eq__" (spNEq C) := ⟨_, a_NEq, i_NEq, ok_neq FNEq bNEq B NC (mgo g_C)⟩
  have oB : OpnF l.prog w K mg base 1 C "__bool__" (spNBool C) := ⟨_, a_NBool, i_NBool, ok_nbool FNBool bNBool B NC⟩
  have oA : OpnF l.prog w K mg base 4 C (PySem.dunder Operator.Add.info.2) (spAdd C) := ⟨_, a_NAdd, i_NAdd, ok_nadd FNAdd bNAdd NC mN⟩
  have oS : OpnF l.prog w K mg base 4 C (PySem.dunder Operator.Sub.info.2) (spSub C) := ⟨_, a_NSub, i_NSub, ok_nsub FNSub bNSub NC mN⟩
  have oM : OpnF l.prog w K mg base 4 C (PySem.dunder Operator.Mult.info.2) (spMul C) := ⟨_, a_NMul, i_NMul, ok_nmul FNMul bNMul NC mN⟩
  have mN1 : MakF l.prog w K mg base 2 "Number" C (spNum1 C) := ⟨_, ⟨mk_C, a_Num, i_Num, kc_C⟩, ok_num (dvs' := [.int 1]) FNum bM vM (fun vs H Q E ⟨x, dx, t, e, h1, h2⟩ => ⟨x, dx, t, 1, by rw [e]; rfl, by decide, (show Sz 1 1 from by unfold Sz; decide).mono (by decide), h1, h2⟩) B NC (mgo gcd) cW, mgo g_C⟩
  have oN : OpnF l.prog w K mg base 4 C "__neg__" (spNeg C) := ⟨_, a_NNeg, i_NNeg, ok_nneg FNNeg bNNeg NC mN⟩
  have oAb : OpnF l.prog w K mg base 4 C "__abs__" (spAbs C) := ⟨_, a_NAbs, i_NAbs, ok_nabs FNAbs bNAbs B NC mN⟩
  have tL : MetF l.prog w K mg base 1 C "is_less" (spLess C) := ⟨_, clC, ⟨a_NLess, i_NLess, k_NLess⟩, ok_nless FNLess bNLess NC⟩
  have cP : CalF l.prog w K mg base 1 "_law_pot" (spPot K) := ⟨_, ok_pot FPot bPot B, mgo g_fPot, k_Pot⟩
  have cT : CalF l.prog w K mg base 1 "_law_take" spTake := ⟨_, ok_take FTake bTake B, mgo g_fTake, k_Take⟩
  have cO : CalF l.prog w K mg base 2 "_law_of" spOf := ⟨_, ok_of FOf bOf B cT, mgo g_fOf, k_Of⟩
  have cD : CalF l.prog w K mg base 4 "_law_drawn" (spDrawn C) := ⟨_, ok_drawn FDrawn bDrawn B mN cT cO, mgo g_fDrawn, k_Drawn⟩
  have c1 : CalF l.prog w K mg base 5 "_law_sum" (spLSum C) := ⟨_, ok_lsum FLSum bLSum B NC (mgo g_C) oA, mgo g_fLSum, k_LSum⟩
  have c2 : CalF l.prog w K mg base 5 "_law_less" (spLLess C) := ⟨_, ok_lless FLLess bLLess B NC (mgo g_C) oS, mgo g_fLLess, k_LLess⟩
  have c3 : CalF l.prog w K mg base 5 "_law_times" (spLTimes C) := ⟨_, ok_ltimes FLTimes bLTimes B NC (mgo g_C) oM, mgo g_fLTimes, k_LTimes⟩
  have c4 : CalF l.prog w K mg base 5 "_law_turned" (spLTurned C) := ⟨_, ok_lturned FLTurned bLTurned B NC (mgo g_C) oN, mgo g_fLTurned, k_LTurned⟩
  have c5 : CalF l.prog w K mg base 3 "_law_are_same" (spAlike C) := ⟨_, ok_alike FAlike bAlike B gSet NC (mgo g_C) pT pB, mgo g_fAlike, k_Alike⟩
  have cS : CalF l.prog w K mg base 6 "_law_sums_right" (spSums C) := ⟨_, ok_sums FSums bSums B NC mN1 c1 c2 c3 c4 c5 oN oAb, mgo g_fSums, k_Sums⟩
  have cR : CalF l.prog w K mg base 6 "_law_order_right" (spOrder C) := ⟨_, ok_order FOrder bOrder B gR gSo NC NE (mgo g_C) mN1 oA oS oM oN oAb oE oB tL, mgo g_fOrder, k_Order⟩
  exact FnG.of (ok_law FLaw bLaw B cP cD cS cR)

end Ws

open PySem PySem.W PyProof.Rows
set_option maxHeartbeats 0
open_top hdK for PySem.Challenge.rw_whatspeed_k04_whole_numbers_in_sums

theorem PySem.Challenge.cw_whatspeed_k04_whole_numbers_in_sums_holds : PySem.Challenge.rw_whatspeed_k04_whole_numbers_in_sums.Holds := by
  refine hdK ?_
  k_fill
  refine Ws.walk_G (l := PySem.Challenge.rw_whatspeed_k04_whole_numbers_in_sums) (n := 63) (k := 7) (sp := fun w => Ws.spLaw _) rfl (by decide) rfl ⟨rfl, by decide, by decide⟩ (fun w h Y => PySem.W.kIn_of Y) ?F (fun _ _ a ns hl _ hS => ⟨a, ns, rfl, hS, hl, fun _ => rfl⟩)
  case F =>
    intro w mg fa h KX G hmg
    refine' Ws.all_mk KX G hmg ?g_C ?pg_C ?hd_C ?po_C ?sa_C ?mk_C ?kc_C ?n_top_C ?n_bottom_C ?ha_C ?hn_C ?htk_C ?hm_C ?sf_C ?nf_C ?gcd ?g_fWhole ?l_Whole ?c_Whole ?k_Whole ?a_Num ?i_Num ?l_Num ?c_Num ?k_Num ?lT ?dT ?a_NTop ?g_NTop ?t_NTop ?r_NTop ?l_NTop ?c_NTop ?k_NTop ?a_NBot ?g_NBot ?t_NBot ?r_NBot ?l_NBot ?c_NBot ?k_NBot ?a_NEq ?i_NEq ?l_NEq ?c_NEq ?k_NEq ?a_NBool ?i_NBool ?l_NBool ?c_NBool ?k_NBool ?a_NAdd ?i_NAdd ?l_NAdd ?c_NAdd ?k_NAdd ?a_NSub ?i_NSub ?l_NSub ?c_NSub ?k_NSub ?a_NMul ?i_NMul ?l_NMul ?c_NMul ?k_NMul ?a_NNeg ?i_NNeg ?l_NNeg ?c_NNeg ?k_NNeg ?a_NAbs ?i_NAbs ?l_NAbs ?c_NAbs ?k_NAbs ?a_NLess ?i_NLess ?l_NLess ?c_NLess ?k_NLess ?ne_C ?xL_C ?bm_C ?g_fPot ?l_Pot ?c_Pot ?k_Pot ?g_fTake ?l_Take ?c_Take ?k_Take ?g_fOf ?l_Of ?c_Of ?k_Of ?g_fDrawn ?l_Drawn ?c_Drawn ?k_Drawn ?g_fLSum ?l_LSum ?c_LSum ?k_LSum ?g_fLLess ?l_LLess ?c_LLess ?k_LLess ?g_fLTimes ?l_LTimes ?c_LTimes ?k_LTimes ?g_fLTurned ?l_LTurned ?c_LTurned ?k_LTurned ?g_fAlike ?l_Alike ?c_Alike ?k_Alike ?g_fSums ?l_Sums ?c_Sums ?k_Sums ?g_fOrder ?l_Order ?c_Order ?k_Order ?g_fLaw ?l_Law ?c_Law ?k_Law ?z_len ?z_abs ?z_int ?z_bool ?z_max ?z_min ?z_range ?z_all ?z_any ?z_isinstance ?z_repr ?z_sorted ?z_set
    (case g_C => k_is)
    (case pg_C => k_is)
    (case hd_C => k_is)
    (case po_C => k_is)
    (case sa_C => k_is)
    (case mk_C => k_is)
    (case kc_C => k_is)
    (case n_top_C => k_is)
    (case n_bottom_C => k_is)
    (case ha_C => k_is)
    (case hn_C => k_is)
    (case htk_C => k_is)
    (case hm_C => k_is)
    (case sf_C => k_is)
    (case nf_C => k_is)
    (case gcd => k_is)
    (case g_fWhole => k_is)
    (case l_Whole => k_is)
    (case c_Whole => k_is)
    (case k_Whole => k_is)
    (case a_Num => k_is)
    (case i_Num => k_is)
    (case l_Num => k_is)
    (case c_Num => k_is)
    (case k_Num => k_is)
    (case lT => k_is)
    (case dT => rfl)
    (case a_NTop => k_is)
    (case g_NTop => k_is)
    (case t_NTop => k_is)
    (case r_NTop => k_is)
    (case l_NTop => k_is)
    (case c_NTop => k_is)
    (case k_NTop => k_is)
    (case a_NBot => k_is)
    (case g_NBot => k_is)
    (case t_NBot => k_is)
    (case r_NBot => k_is)
    (case l_NBot => k_is)
    (case c_NBot => k_is)
    (case k_NBot => k_is)
    (case a_NEq => k_is)
    (case i_NEq => k_is)
    (case l_NEq => k_is)
    (case c_NEq => k_is)
    (case k_NEq => k_is)
    (case a_NBool => k_is)
    (case i_NBool => k_is)
    (case l_NBool => k_is)
    (case c_NBool => k_is)
    (case k_NBool => k_is)
    (case a_NAdd => k_is)
    (case i_NAdd => k_is)
    (case l_NAdd => k_is)
    (case c_NAdd => k_is)
    (case k_NAdd => k_is)
    (case a_NSub => k_is)
    (case i_NSub => k_is)
    (case l_NSub => k_is)
    (case c_NSub => k_is)
    (case k_NSub => k_is)
    (case a_NMul => k_is)
    (case i_NMul => k_is)
    (case l_NMul => k_is)
    (case c_NMul => k_is)
    (case k_NMul => k_is)
    (case a_NNeg => k_is)
    (case i_NNeg => k_is)
    (case l_NNeg => k_is)
    (case c_NNeg => k_is)
    (case k_NNeg => k_is)
    (case a_NAbs => k_is)
    (case i_NAbs => k_is)
    (case l_NAbs => k_is)
    (case c_NAbs => k_is)
    (case k_NAbs => k_is)
    (case a_NLess => k_is)
    (case i_NLess => k_is)
    (case l_NLess => k_is)
    (case c_NLess => k_is)
    (case k_NLess => k_is)
    (case ne_C => k_is)
    (case xL_C => k_is)
    (case bm_C => rfl)
    (case g_fPot => k_is)
    (case l_Pot => k_is)
    (case c_Pot => k_is)
    (case k_Pot => k_is)
    (case g_fTake => k_is)
    (case l_Take => k_is)
    (case c_Take => k_is)
    (case k_Take => k_is)
    (case g_fOf => k_is)
    (case l_Of => k_is)
    (case c_Of => k_is)
    (case k_Of => k_is)
    (case g_fDrawn => k_is)
    (case l_Drawn => k_is)
    (case c_Drawn => k_is)
    (case k_Drawn => k_is)
    (case g_fLSum => k_is)
    (case l_LSum => k_is)
    (case c_LSum => k_is)
    (case k_LSum => k_is)
    (case g_fLLess => k_is)
    (case l_LLess => k_is)
    (case c_LLess => k_is)
    (case k_LLess => k_is)
    (case g_fLTimes => k_is)
    (case l_LTimes => k_is)
    (case c_LTimes => k_is)
    (case k_LTimes => k_is)
    (case g_fLTurned => k_is)
    (case l_LTurned => k_is)
    (case c_LTurned => k_is)
    (case k_LTurned => k_is)
    (case g_fAlike => k_is)
    (case l_Alike => k_is)
    (case c_Alike => k_is)
    (case k_Alike => k_is)
    (case g_fSums => k_is)
    (case l_Sums => k_is)
    (case c_Sums => k_is)
    (case k_Sums => k_is)
    (case g_fOrder => k_is)
    (case l_Order => k_is)
    (case c_Order => k_is)
    (case k_Order => k_is)
    (case g_fLaw => k_is)
    (case l_Law => k_is)
    (case c_Law => k_is)
    (case k_Law => k_is)
    (case z_len => k_is)
    (case z_abs => k_is)
    (case z_int => k_is)
    (case z_bool => k_is)
    (case z_max => k_is)
    (case z_min => k_is)
    (case z_range => k_is)
    (case z_all => k_is)
    (case z_any => k_is)
    (case z_isinstance => k_is)
    (case z_repr => k_is)
    (case z_sorted => k_is)
    (case z_set => k_is)
#print axioms PySem.Challenge.cw_whatspeed_k04_whole_numbers_in_sums_holds

