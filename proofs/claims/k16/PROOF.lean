import PyProof.Rows.All
import Wide.All
import OpenK.AllK
import Wide.FinOn
import HandS.ForMost
import HandS.Defaults
import HandS.Property
import HandS.OwnEq
import HandS.FStr
import HandS.IsInst
import HandS.TupAny
import HandS.Evl
import HandS.Star
import HandS.SlotsOwn
import KE.KCallOwn
import HandS.Conv
import HandS.ClsMeth
import HandS.CallLocal
import HandS.Text
import HandS.StrMore
import HandS.Style
import HandS.SortRule
import PySem.Challenge.RW_dimdays_k16_showing_known
set_option Elab.async false
set_option linter.all false
set_option maxRecDepth 100000
set_option maxHeartbeats 2000000
/-! rules that every law of this program wants -/
namespace DD
open PySem PySem.Spec PyProof.Rows L2

/-! ### calls by a positional promise -/
section
variable {X : Cx} {CX : CXT} {k : Nat} {f C p g : Addr} {sp : Sp} {E : XK} {x m : Str} {pp pos apos : Pos} {e o : Expr} {es : List Expr} {ta : TE} {t : TA}
def tCallR (sp : Sp) (E : XK) (t : TA) : TE := fun σ H Q => t σ H fun vs H1 => sp vs H1 Q E
theorem wp_fnR {pins : List (Addr × Obj)} {σ : L2.St} {H : Hp} {s : Shared} {Q : VK} {us : List Value} {vs : List V} (F : FnR X.prog X.w X.K X.mg X.base CX k f sp) (hr : Room k X.A) (hx : Passes CX X E) (I : Inv X pins σ H s) (r : Vals vs us) (h : sp vs H Q E) :
    wpAny (model X.prog X.w) X.A (call (.ref f) us) (EP X pins σ Q) X.xe s := wpAny_call (run_fnR F hr hx I r h)
theorem pe_callR (F : FnR X.prog X.w X.K X.mg X.base CX k f sp) (hr : Room k X.A) (hg : Gl X x) (hm : X.mg x = some (.ref f)) (hk : PySem.W.keepIn X.K (.ref f) = true) (hx : Passes CX X E)
    (ha : PA X (e :: es) t) (hdb : (x == ("__debug__" : Str)) = false := by decide) (he : starEach (e :: es) X.env = (false, eval e X.env) :: starEach es X.env := by rfl) (hpl : (backTo pos (starEach es X.env)).any (·.1) = false := by rfl) :
    PE X (.Call (.Name x pp) (e :: es) [] pos) (tCallR sp E t) := by
  refine ⟨fun pins s σ H Q I h => ?_⟩
  refine wpAny_Call_Name_kw (ld_glob I hg hm ?_ hdb)
  refine PySem.W.callWith_K (h₀ := X.base) I.ok.mod.kin hk (thn (ha.run pos pins s σ H _ I h) fun us s1 ⟨vs, H1, I1, r, q⟩ => ⟨I1.kIn, ?_⟩) he hpl
  exact wp_fnR F hr hx I1 r q
/-- o.m(..) of an instance of the class at C -/
def tMethR (C : Addr) (m : Str) (sp : Sp) (E : XK) (ta : TE) (t : TA) : TE := fun σ H Q => ta σ H fun x H1 => ∃ a dx fs, x = .ref a ∧ H1 a = some (.ins C dx fs) ∧ fs.lookup m = none ∧
  t σ H1 fun vs H2 => sp (x :: vs) H2 Q E
theorem pe_methR {pl : Sem Bool} (he : PE X o ta) (c : Cls X.K C) (hm : Meth X.K C m f) (F : FnR X.prog X.w X.K X.mg X.base CX k f sp) (hr : Room k X.A) (hx : Passes CX X E) (ha : PA X (e :: es) t)
    (hst : starEach (e :: es) X.env = (false, eval e X.env) :: starEach es X.env := by rfl) (hpl : (backTo pos (starEach es X.env)).any (·.1) = false := by rfl)
    (ht : eval (.Call (.Attribute o m apos) (e :: es) [] pos) X.env = (do
      let ov ← eval o X.env
      standAt apos.atName
      let (f, first) ← holding [ov] (getMethod ov m pl)
      callWith pos f first (backTo pos (starEach (e :: es) X.env)) (backToKw pos (keywordEach [] X.env))) := by rfl) :
    PE X (.Call (.Attribute o m apos) (e :: es) [] pos) (tMethR C m sp E ta t) := by
  refine ⟨fun pins s σ H Q I h => ?_⟩
  refine PySem.W.methodCall_KW (pl := pl) (thn (he.run pins s σ H _ I h) fun u s1 ⟨x, H1, I1, rx, a, dx, fs, ex, ea, l, q⟩ => ?_) ht
  subst ex
  obtain rfl : u = Value.ref a := rx
  refine getmeth_ok I1 ea c hm l ?_
  refine PySem.W.callWith_K (first := [.ref a]) (h₀ := X.base) I.ok.mod.kin hm.kp (thn (ha.run pos pins s1 σ H1 _ I1 q) fun us s2 ⟨vs, H2, I2, r, q2⟩ => ⟨I2.kIn, ?_⟩) hst hpl
  exact wp_fnR (us := .ref a :: us) (vs := .ref a :: vs) F hr hx I2 (.cons rfl r) q2
/-- e.f, a property -/
def tPropR (C : Addr) (sp : Sp) (E : XK) (ta : TE) : TE := fun σ H Q => ta σ H fun x H1 => ∃ a dx fs, x = .ref a ∧ H1 a = some (.ins C dx fs) ∧ sp [.ref a] H1 Q E
theorem pe_propR (he : PE X e ta) (c : Cls X.K C) (hp : PropOf X.K C m p g) (F : FnR X.prog X.w X.K X.mg X.base CX k g sp) (hr : Room (k + 1) X.A) (hx : Passes CX X.nox E)
    (hab : attributeBase e m X.env (eval e X.env) = eval e X.env := by rfl) : PE X (.Attribute e m pos) (tPropR C sp E ta) := by
  refine ⟨fun pins s σ H Q I h => ?_⟩
  refine attr_of hab (thn (he.run pins s σ H _ I h) fun u s1 ⟨x, H1, I1, rx, a, dx, fs, ex, ea, q⟩ => ?_)
  subst ex
  obtain rfl : u = Value.ref a := rx
  obtain ⟨mA, O, _, _, _, _⟩ := ins_get I1.hok ea
  obtain ⟨od, J, _⟩ := O.look
  obtain ⟨rest, hrec⟩ := hp.rec_
  have I2 := I1.tok (s1.toks + 1)
  have hc : (PySem.W.clsIn X.K C).isSome = true := by
    obtain ⟨cd, hc, _⟩ := PySem.W.any_some c.hd
    rw [hc]
    rfl
  refine PySem.W.get_bind I1.kIn J (PySem.W.plainGet_of (c.get m)).1 (PySem.W.findObj_data hc hp.at_ hp.get hp.tak) (PySem.W.plainGet_of (c.get m)).2 (wpAny_call (PySem.W.prop_get (s := { s1 with toks := s1.toks + 1 }) I1.kIn hrec ?_))
  refine codeAny_mono (F X.A.in1 X.stack { s1 with toks := s1.toks + 1 } H1 [.ref a] [.ref a] Q E hr.in1 I2.env0.in1 (.cons rfl .nil) q) fun r s' hq => ?_
  cases r with
  | error er => exact False.elim (hx pins σ H1 { s1 with toks := s1.toks + 1 } er s' (I2.wish _) hq)
  | ok fl =>
    cases fl with
    | ret u =>
      obtain ⟨v, H', I3, rv, q3⟩ := I2.after hq
      show wpAny _ _ (handedOut u) _ _ _
      rw [PySem.W.handedOut_of (handed_of rv)]
      exact wpAny_pure ⟨v, H', I3, rv, q3⟩
    | next => exact False.elim hq
    | brk => exact False.elim hq
    | cont => exact False.elim hq
/-- a statement that is never reached -/
theorem ps_dead {st : Stmt} : PS X st (fun _ _ _ => False) := ⟨fun _ _ _ _ _ _ h => h.elim⟩
theorem pss_dead {st : List Stmt} : PSs X st (fun _ _ _ => False) := ⟨fun _ _ _ _ _ _ h => h.elim⟩
end

/-! ### str(o), o == p, o != p of own classes -/
section
variable {X : Cx} {CX : CXT} {n : Nat} {f C : Addr} {sp : Sp} {E : XK}
theorem run_atR {pins : List (Addr × Obj)} {σ : L2.St} {H : Hp} {s : Shared} {A : Around} {Q : VK} {us : List Value} {ws : List V} (F : FnR X.prog X.w X.K X.mg X.base CX n f sp) (hr : Room n A) (e0 : Env0 X.prog X.w X.K X.mg X.base A X.stack s H) (hx : Passes CX X E) (I : Inv X pins σ H s) (r : Vals ws us) (h : sp ws H Q E) :
    wpAny (model X.prog X.w) A (call (.ref f) us) (EP X pins σ Q) X.xe s := wpAny_call (SlX.run_at F hr e0 hx I r h)
/-- str(o) by its own __str__ -/
def rStrO (C : Addr) (sp : Sp) (E : XK) : List V → Hp → VK → Prop := fun xs H Q => ∃ a dx fs, xs = [V.ref a] ∧ H a = some (.ins C dx fs) ∧ sp [.ref a] H (fun v H' => ∃ y, v = .str y ∧ Q v H') E
theorem call_strO (hs : PySem.W.findIn X.K (.ref C) "__str__" = some (some (.ref f))) (hf : PySem.W.isFn X.K (.ref f) = true) (F : FnR X.prog X.w X.K X.mg X.base CX n f sp) (hr : Room (n + 2) X.A) (hx : Passes CX X E) : CallR X (.type "str") (rStrO C sp E) := by
  intro pins s σ H xs us Q I r h
  obtain ⟨a, dx, fs, rfl, ea, q⟩ := h
  obtain ⟨u, rfl, ru⟩ := r.one
  cases (show u = Value.ref a from ru)
  obtain ⟨mA, O, _⟩ := ins_get I.hok ea
  obtain ⟨od, J, _⟩ := O.look
  have hr2 : Room n X.A.in1.in1 := (show Room (n + 1) X.A.in1 from Room.in1 hr).in1
  refine PySem.W.kso_call hr2.units0 I.kIn J hs hf (thn (run_atR (us := [.ref a]) (ws := [.ref a]) F hr2 I.env0.in1.in1 hx I (.cons rfl .nil) q) fun w s' z => ?_)
  obtain ⟨v, H', I', rv, y, ev, qv⟩ := z
  subst ev
  obtain ⟨t, rfl⟩ := rv
  exact ⟨.str y, H', I', ⟨t, rfl⟩, qv⟩
/-- x == y, both of the class at C -/
def rEqO (C : Addr) (sp : Sp) (E : XK) : R2 := fun x y H Q => ∃ a dx fs b dy gs, x = .ref a ∧ y = .ref b ∧ H a = some (.ins C dx fs) ∧ H b = some (.ins C dy gs) ∧ sp [.ref a, .ref b] H (fun v H' => ∃ c, v = .bl c ∧ Q v H') E
theorem op_eqO (hs : PySem.W.findIn X.K (.ref C) "__eq__" = some (some (.ref f))) (hf : PySem.W.isFn X.K (.ref f) = true) (F : FnR X.prog X.w X.K X.mg X.base CX n f sp) (hr : Room n X.A) (hx : Passes CX X E) : OpR X (compareOp .Eq) (rEqO C sp E) := by
  intro pins s σ H x y v u Q I rx ry h
  obtain ⟨a, dx, fs, b, dy, gs, rfl, rfl, ea, eb, q⟩ := h
  cases (show v = Value.ref a from rx)
  cases (show u = Value.ref b from ry)
  obtain ⟨mA, O, _⟩ := ins_get I.hok ea
  obtain ⟨od, J, _⟩ := O.look
  obtain ⟨mB, O', _⟩ := ins_get I.hok eb
  obtain ⟨od', J', _⟩ := O'.look
  obtain ⟨m, hF⟩ := I.fr
  show wpAny _ _ (richCompare .Eq _ _) _ _ _
  refine PySem.W.cmp_K (op := .Eq) (tb := .ref C) hr.units0 hF I.ok.mod.kin J J'.type (by simp [PySem.W.notFirst]) hs hf ?_
  refine thn (wpAny_call (run_fnR (us := [.ref a, .ref b]) (vs := [.ref a, .ref b]) F hr hx I (.cons rfl (.cons rfl .nil)) q)) fun w s' z => ?_
  obtain ⟨z', H', I', rz, c, ez, qz⟩ := z
  subst ez
  cases rz
  exact ⟨.bl c, H', I', rfl, qz⟩
theorem ifBound_B {M : Model} {A : Around} {E : Value → Shared → Prop} {s : Shared} {K : PySem.W.Frag} {x C : Addr} {ox : Obj} {od : Option Obj} {name : Str} {id : String} {args : List Value} {Q : Option Value → Shared → Prop} (Xk : K.In s.heap) (I : PySem.W.InstAt s.heap x ox C od)
    (hs : PySem.W.findIn K (.ref C) name = some (some (.builtin id))) (hb : ∀ self, bindSpecial (.builtin id) self = pure (.builtin id, [self]))
    (h : wpAny M A (call (.builtin id) (.ref x :: args)) (fun v => Q (some v)) E s) : wpAny M A (callSpecialIfBound? (.ref x) name args) Q E s := by
  simp only [callSpecialIfBound?, bindSpecialIfBound?]
  refine wpAny_holding (wpAny_bind (wpAny_bind (wpAny_bind (I.type.here ((PySem.W.looks_findIn Xk hs).here ?_)))))
  refine wpAny_bind (wpAny_askSetting (wpAny_ite ?_))
  have fin : wpAny M A (call (.builtin id) ([.ref x] ++ args) >>= fun v => pure (some v)) Q E s := wpAny_bind (wpAny_mono h (fun v s' h' => wpAny_pure h') fun _ _ h' => h')
  split
  · exact wpAny_bind ((PySem.W.Looks.of_pure (hb _)).here (wpAny_pure (by exact fin)))
  · exact wpAny_tryCatch (wpAny_bind ((PySem.W.Looks.of_pure (hb _)).here (wpAny_pure (by exact fin))))
/-- x != y by object.__ne__ over the own __eq__ -/
theorem objNe_K {prog : Program} {w : World} {A : Around} {E : Value → Shared → Prop} {s : Shared} {K : PySem.W.Frag} {x y C f : Addr} {ox : Obj} {od : Option Obj} {Q : Fin → Shared → Prop} (Xk : K.In s.heap) (I : PySem.W.InstAt s.heap x ox C od)
    (hs : PySem.W.findIn K (.ref C) "__eq__" = some (some (.ref f))) (hf : PySem.W.isFn K (.ref f) = true) (hu : A.units < cLine)
    (hcall : wpAny (model prog w) A (call (.ref f) [.ref x, .ref y]) (fun v s' => ∃ b, v = .bool b ∧ Q (.done (.ret (.bool (!b)))) s') E s) :
    wpAny (model prog w) A (Builtin.«object.__ne__» ⟨[.ref x, .ref y], []⟩) Q E s := by
  unfold Builtin.«object.__ne__»
  repeat (first
    | with_reducible refine wpAny_cRoomFor hu ?_
    | (refine wpAny_bind (m := callSpecialIfBound? (.ref x) (Str.ofString "__eq__") [.ref y])
        (PySem.W.ifBound_K Xk I hs hf (wpAny_mono hcall (fun r s' hr => by
          obtain ⟨b, rfl, hq⟩ := hr
          repeat (first | exact hq | exact wpAny_pure hq | exact wpAny_truthy_bool hq | (refine wpAny_bind (m := truthy (.bool _)) (wpAny_truthy_bool ?_)) | wp_step)) fun _ _ e => e)))
    | wp_step)
theorem ne_K {prog : Program} {w : World} {A : Around} {E : Value → Shared → Prop} {s : Shared} {K : PySem.W.Frag} {x y C f : Addr} {ox : Obj} {od : Option Obj} {Q : Value → Shared → Prop} (Xk : K.In s.heap) (I : PySem.W.InstAt s.heap x ox C od)
    (hb : PySem.W.Looks (model prog w) s.heap (typeOf (.ref y)) (.ref C))
    (hn : PySem.W.findIn K (.ref C) "__ne__" = some (some (.builtin "object.__ne__"))) (hm : PySem.W.mroIn K C (.type "object") = some true)
    (hs : PySem.W.findIn K (.ref C) "__eq__" = some (some (.ref f))) (hf : PySem.W.isFn K (.ref f) = true) (hu : A.units + 1 < cLine)
    (hcall : wpAny (model prog w) A.in1 (call (.ref f) [.ref x, .ref y]) (fun v s' => ∃ b, v = .bool b ∧ Q (.bool (!b)) s') E s) :
    wpAny (model prog w) A (richCompare .NotEq (.ref x) (.ref y)) Q E s := by
  unfold richCompare
  simp only [oneThing_ref]
  refine wpAny_holding (wpAny_bind (wpAny_cRoomFor (Nat.lt_of_succ_lt hu) ?_))
  rw [cmpInfo_NotEq]
  dsimp only
  refine wpAny_bind (I.type.here (wpAny_bind (hb.here ?_)))
  rw [show (Value.ref C != Value.ref C) = false from by simp]
  simp only [Bool.false_eq_true, if_false]
  refine wpAny_bind (wpAny_pure ?_)
  simp only [Bool.false_eq_true, if_false]
  simp only [tryCompare]
  refine wpAny_bind (wpAny_bind (ifBound_B Xk I hn (fun _ => rfl) (wpAny_call (codeAny_call_builtin (by decide +kernel) F.cmpEntry_ne (PySem.W.check_slot (i := "object.__ne__") (owner := "object") (n := "__ne__") F.cmpKind_ne F.cmpSplit_ne (I.type.andThen (PySem.W.looks_mroIn Xk hm)) (F.cmpArgs_ne _ _)
    (objNe_K (A := A.in1) Xk I hs hf (by exact hu) (wpAny_mono hcall (fun v s' hv => ?_) fun _ _ e => e)))))))
  obtain ⟨b, rfl, hq⟩ := hv
  first | exact ⟨b, rfl, wpAny_pure (wpAny_pure hq)⟩ | exact ⟨b, rfl, wpAny_pure hq⟩ | exact ⟨b, rfl, hq⟩
def rNeO (C : Addr) (sp : Sp) (E : XK) : R2 := fun x y H Q => ∃ a dx fs b dy gs, x = .ref a ∧ y = .ref b ∧ H a = some (.ins C dx fs) ∧ H b = some (.ins C dy gs) ∧ sp [.ref a, .ref b] H (fun v H' => ∃ c, v = .bl c ∧ Q (.bl (!c)) H') E
theorem op_neO (hn : PySem.W.findIn X.K (.ref C) "__ne__" = some (some (.builtin "object.__ne__"))) (hm : PySem.W.mroIn X.K C (.type "object") = some true) (hs : PySem.W.findIn X.K (.ref C) "__eq__" = some (some (.ref f))) (hf : PySem.W.isFn X.K (.ref f) = true) (F : FnR X.prog X.w X.K X.mg X.base CX n f sp) (hr : Room (n + 1) X.A) (hx : Passes CX X E) : OpR X (compareOp .NotEq) (rNeO C sp E) := by
  intro pins s σ H x y v u Q I rx ry h
  obtain ⟨a, dx, fs, b, dy, gs, rfl, rfl, ea, eb, q⟩ := h
  cases (show v = Value.ref a from rx)
  cases (show u = Value.ref b from ry)
  obtain ⟨mA, O, _⟩ := ins_get I.hok ea
  obtain ⟨od, J, _⟩ := O.look
  obtain ⟨mB, O', _⟩ := ins_get I.hok eb
  obtain ⟨od', J', _⟩ := O'.look
  show wpAny _ _ (richCompare .NotEq _ _) _ _ _
  refine ne_K I.kIn J J'.type hn hm hs hf (hu_of hr) (thn (run_atR (us := [.ref a, .ref b]) (ws := [.ref a, .ref b]) F hr.in1 I.env0.in1 hx I (.cons rfl (.cons rfl .nil)) q) fun w s' z => ?_)
  obtain ⟨z', H', I', rz, c, ez, qz⟩ := z
  subst ez
  cases rz
  exact ⟨c, rfl, .bl (!c), H', I', rfl, qz⟩
end
end DD

set_option Elab.async false
set_option linter.all false
set_option maxRecDepth 100000
set_option maxHeartbeats 2000000
namespace DD
open PySem PySem.Spec PyProof.Rows L2
section
variable {X : Cx} {CX : CXT} {n : Nat} {f C : Addr} {sp : Sp} {E : XK}
/-- len(o) by its own __len__ -/
def rLenO (C : Addr) (sp : Sp) (E : XK) : List V → Hp → VK → Prop := fun xs H Q => ∃ a dx fs, xs = [V.ref a] ∧ H a = some (.ins C dx fs) ∧ sp [.ref a] H (fun v H' => ∃ i : Int, v = .int i ∧ 0 ≤ i ∧ i < 2 ^ 63 ∧ Q v H') E
theorem call_lenO (hs : PySem.W.findIn X.K (.ref C) "__len__" = some (some (.ref f))) (hf : PySem.W.isFn X.K (.ref f) = true) (F : FnR X.prog X.w X.K X.mg X.base CX n f sp) (hr : Room (n + 1) X.A) (hx : Passes CX X E) : CallR X (.builtin "len") (rLenO C sp E) := by
  intro pins s σ H xs us Q I r h
  obtain ⟨a, dx, fs, rfl, ea, q⟩ := h
  obtain ⟨u, rfl, ru⟩ := r.one
  cases (show u = Value.ref a from ru)
  obtain ⟨mA, O, _⟩ := ins_get I.hok ea
  obtain ⟨od, J, _⟩ := O.look
  obtain ⟨m, hF⟩ := I.fr
  refine PySem.W.len_K hF I.ok.mod.kin J hs hf (thn (run_atR (us := [.ref a]) (ws := [.ref a]) F hr.in1 I.env0.in1 hx I (.cons rfl .nil) q) fun w s' z => ?_)
  obtain ⟨v, H', I', rv, i, ev, h0, h1, qv⟩ := z
  subst ev
  obtain ⟨t, rfl⟩ := rv
  exact ⟨⟨h0, h1⟩, .int i, H', I'.tok _, ⟨_, rfl⟩, qv⟩
/-- o[i] by its own __getitem__ -/
def rIxO (C : Addr) (sp : Sp) (E : XK) : R2 := fun x y H Q => ∃ a dx fs, x = .ref a ∧ H a = some (.ins C dx fs) ∧ sp [.ref a, y] H Q E
theorem pe_ixO {a b : Expr} {ta tb : TE} {pos : Pos} (hs : PySem.W.findIn X.K (.ref C) "__getitem__" = some (some (.ref f))) (hf : PySem.W.fnIn X.K f = true) (hfn : PySem.W.isFn X.K (.ref f) = true) (F : FnR X.prog X.w X.K X.mg X.base CX n f sp) (hr : Room (n + 1) X.A) (hx : Passes CX X E) (ha : PE X a ta) (hb : PE X b tb)
    (hsl : ∀ x i, subscripted b true (.ref x) i = runValue (.builtin "lifetime.subscript" ⟨[.ref x, i], []⟩) := by intro _ _; rfl) : PE X (.Subscript a b pos) (tOp (rIxO C sp E) ta tb) := by
  refine ⟨fun pins s σ H Q I h => ?_⟩
  refine Subscript_ (binT ha hb I h fun v u s2 x y H2 I2 rx ry q => ?_)
  obtain ⟨p, dx, fs, rfl, ea, q⟩ := q
  cases (show v = Value.ref p from rx)
  obtain ⟨mA, O, _⟩ := ins_get I2.hok ea
  obtain ⟨od, J, _⟩ := O.look
  obtain ⟨m, hF⟩ := I2.fr
  exact PySem.W.sub_K hF I2.ok.mod.kin J hs hf hfn (run_atR (us := [.ref p, u]) (ws := [.ref p, y]) F hr.in1 I2.env0.in1 hx I2 (.cons rfl (.cons ry .nil)) q) (hsl p u)
end
/-! ### rules whose reading names K itself -/
theorem inK {X : Cx} {K : PySem.W.Frag} (h : X.K = K := by rfl) : OpR X (compareOp .In) (rIn K false) := h ▸ op_in_seq
theorem eqDK {X : Cx} {K : PySem.W.Frag} (hu : X.A.units + 64 < cLine) (h : X.K = K := by rfl) : OpR X (compareOp .Eq) (rEqD K) := h ▸ op_eqD hu
theorem neDK {X : Cx} {K : PySem.W.Frag} (hu : X.A.units + 64 < cLine) (h : X.K = K := by rfl) : OpR X (compareOp .NotEq) (rNeD K) := h ▸ op_neD hu
/-! ### x, y = a, b -/
theorem sw2 {x y : Str} {a b : Expr} {px py pt pv : Pos} {kt kv} {env : Env} (hk : (env.blockKind != .function) = false) (lx : env.scope.names.lookup x = some .local) (ly : env.scope.names.lookup y = some .local)
    (hl : (py.line == px.line) = true := by rfl) (hxy : ((y == x) = false) := by decide +kernel) (h1 : ([a, b].any fun | .Starred .. => true | _ => false) = false := by rfl) (h2 : [a, b].all (foldedForSure 8) = false := by rfl) (h3 : [a, b].all (constantsAlone 8) = false := by rfl) :
    swappedStores [.Tuple [.Name x px, .Name y py] kt pt] (.Tuple [a, b] kv pv) env = pure (some [x, y]) := by
  have kx : (env.kindOf x == some .local) = true := by rw [show env.kindOf x = some .local from lx]; rfl
  have ky : (env.kindOf y == some .local) = true := by rw [show env.kindOf y = some .local from ly]; rfl
  unfold swappedStores
  simp only [pure_bind, List.head?_cons, Option.map_some, Option.getD_some, Expr.pos]
  have e : (px.line == px.line) = true := by simp
  simp only [List.filterMap_cons, List.filterMap_nil, Expr.pos, kx, ky, hl, e, Bool.and_self, if_true, h1, h2, h3, hk, List.length_cons, List.length_nil]
  have ed : ([x, y] : List Str).eraseDups = [x, y] := by
    simp [List.eraseDups_cons, hxy]
  rw [ed]
  refine (if_neg (by decide)).trans ((if_neg ?_).trans ((if_neg (by show ¬ ((2 != 2 || 2 != 2) = true); decide)).trans ((if_neg (by decide)).trans (if_neg (by decide)))))
  rw [Bool.not_eq_true]
  exact h1
/-! ### cls(..), the class in a local name -/
section
variable {X : Cx} {CX : CXT} {k i : Nat} {f C : Addr} {sp : Sp} {E : XK} {x : Str} {p pos : Pos} {e : Expr} {es : List Expr} {t : TA}
def tMakeL (i : Nat) (C : Addr) (sp : Sp) (E : XK) (t : TA) : TE := fun σ H Q => σ[i]? = some (some (.ref C)) ∧ StX.tMakeR C sp E t σ H Q
theorem pe_makeL (i : Nat) (M : Mk X.K C f) (F : FnR X.prog X.w X.K X.mg X.base CX k f sp) (hr : Room (k + 1) X.A) (hx : Passes CX X E) (ha : PA X (e :: es) t) (hN : X.N[i]? = some x := by rfl) (hv : Vis X.env.scope x := by first | exact Or.inl rfl | exact Or.inr (Or.inl rfl) | exact Or.inr (Or.inr rfl))
    (hdb : (x == ("__debug__" : Str)) = false := by decide) (hcd : (x == ("__classdict__" : Str)) = false := by decide)
    (he : starEach (e :: es) X.env = (false, eval e X.env) :: starEach es X.env := by rfl) (hpl : (backTo pos (starEach es X.env)).any (·.1) = false := by rfl) : PE X (.Call (.Name x p) (e :: es) [] pos) (tMakeL i C sp E t) := by
  refine ⟨fun pins s σ H Q I h => ?_⟩
  obtain ⟨hs, ht⟩ := h
  refine wpAny_Call_Name_kw (thn ((pe_var (pos := p) hN hv hdb hcd).run pins s σ H (fun v H1 => v = .ref C ∧ H1 = H) I ⟨.ref C, hs, rfl, rfl⟩) fun u s1 ⟨v, H1, I1, r1, q1⟩ => ?_)
  obtain ⟨rfl, rfl⟩ := q1
  cases r1
  refine PySem.W.callWith_K (h₀ := X.base) I.ok.mod.kin M.kp (thn (ha.run pos pins s1 σ _ _ I1 ht) fun us s2 ⟨vs, H2, I2, r, q⟩ => ⟨I2.kIn, ?_⟩) he hpl
  exact StX.run_makeR M F hr hx I2 r q
end
end DD

set_option Elab.async false
set_option linter.all false
set_option maxRecDepth 100000
set_option maxHeartbeats 2000000
/-! sorted of triples (int, int, one of two words) -/
namespace DD
open PySem PySem.Spec PyProof.Rows L2
abbrev Blk := Int × Int × Bool
/-- the word of a block: private or busy -/
def wd (b : Bool) : Str := if b = true then "private" else "busy"
def blkV (m : Blk) : List V := [.int m.1, .int m.2.1, .str (wd m.2.2)]
def lexT (p q : Blk) : Bool := if p.1 = q.1 then (if p.2.1 = q.2.1 then !p.2.2 && q.2.2 else decide (p.2.1 < q.2.1)) else decide (p.1 < q.1)
def bI (b : Bool) : Int := if b = true then 1 else 0
theorem lexT_iff {p q : Blk} : lexT p q = true ↔ p.1 < q.1 ∨ (p.1 = q.1 ∧ (p.2.1 < q.2.1 ∨ (p.2.1 = q.2.1 ∧ bI p.2.2 < bI q.2.2))) := by
  obtain ⟨a, b, c⟩ := p
  obtain ⟨a', b', c'⟩ := q
  unfold lexT
  by_cases e : a = a'
  · rw [if_pos e]
    by_cases e2 : b = b'
    · rw [if_pos e2]
      subst e e2
      cases c <;> cases c' <;> simp [bI]
    · rw [if_neg e2, decide_eq_true_eq]
      dsimp only at *
      omega
  · rw [if_neg e, decide_eq_true_eq]
    dsimp only at *
    omega
theorem lexT_no {p q : Blk} : lexT p q = false ↔ ¬ (p.1 < q.1 ∨ (p.1 = q.1 ∧ (p.2.1 < q.2.1 ∨ (p.2.1 = q.2.1 ∧ bI p.2.2 < bI q.2.2)))) := by
  rw [← lexT_iff]
  cases lexT p q <;> simp
theorem swo_blk {α : Type} (k : α → Blk) : SrtO.Swo fun v u => lexT (k v) (k u) := by
  refine ⟨fun x y h => ?_, fun x y z h1 h2 => ?_⟩
  · have a := lexT_iff.mp h
    refine lexT_no.mpr ?_
    omega
  · have a := lexT_no.mp h1
    have b := lexT_no.mp h2
    refine lexT_no.mpr ?_
    omega
def IsBk (h : Heap) (v : Value) (m : Blk) : Prop := ∃ a o t u z n, v = .ref a ∧ h.get? a = some o ∧ o.cls = .type "tuple" ∧ o.data = .seq #[.int m.1 t, .int m.2.1 u, .str (wd m.2.2) z] n
theorem IsBk.keeps {h h' : Heap} {v : Value} {m : Blk} (p : IsBk h v m) (k : ∀ b o, h.get? b = some o → o.cls = .type "tuple" → h'.get? b = some o) : IsBk h' v m := by
  obtain ⟨a, o, t, u, z, n, e, ho, hc, hd⟩ := p
  exact ⟨a, o, t, u, z, n, e, k _ _ ho hc, hc, hd⟩
theorem wd_eq {b c : Bool} : (wd b == wd c) = (b == c) := by cases b <;> cases c <;> decide +kernel
theorem wd_lt {b c : Bool} (h : ¬ b = c) : decide ((wd b).cps.toList < (wd c).cps.toList) = (!b && c) := by cases b <;> cases c <;> first | exact absurd rfl h | decide +kernel
section
variable {prog : Program} {w : World} {A : Around} {E : Value → Shared → Prop} {s : Shared}
theorem blk_cmp {vs : List Value} {k : Value → Blk} (hp : ∀ v ∈ vs, IsBk s.heap v (k v)) : SrtO.Cmp prog w A s (tuples' true) (fun p => p.1 ∈ vs) (SrtO.lt2 fun v u => lexT (k v) (k u)) := by
  intro p q hm hm'
  have h1 := hp _ hm
  have h2 := hp _ hm'
  show wpAny (model prog w) A (keyLt' (tuples' true) p.1 q.1) (fun r s' => s' = s ∧ r = lexT (k p.1) (k q.1)) (fun _ _ => False) s
  generalize k p.1 = m at h1 ⊢
  generalize k q.1 = m' at h2 ⊢
  obtain ⟨x, y, c⟩ := m
  obtain ⟨x', y', c'⟩ := m'
  obtain ⟨a, o, t, u, z, n, e, ho, hc, hd⟩ := h1
  obtain ⟨a', o', t', u', z', n', e', ho', hc', hd'⟩ := h2
  rw [e, e']
  refine PySem.W.kat_lt ho hd ho' hd' ?_
  show PySem.W.KatLex prog w A true (decide (3 < 3)) _ [(.int x t, .int x' t'), (.int y u, .int y' u'), (.str (wd c) z, .str (wd c') z')] 0 s
  refine PySem.W.kat_cons (SeqAt.EqAt.int_int x t x' t' prog w _ _ ?_)
  unfold lexT
  refine PySem.W.kat_go (fun e1 => ?_) (fun e1 => ?_)
  · have ex : x = x' := by simpa using e1
    refine PySem.W.kat_yes (PySem.W.kat_cons (SeqAt.EqAt.int_int y u y' u' prog w _ _ ?_))
    refine PySem.W.kat_go (fun e2 => ?_) (fun e2 => ?_)
    · have ey : y = y' := by simpa using e2
      refine PySem.W.kat_yes (PySem.W.kat_cons (SeqAt.EqAt.str_str (wd c) z (wd c') z' prog w _ _ ?_))
      rw [wd_eq]
      refine PySem.W.kat_go (fun e3 => ?_) (fun e3 => ?_)
      · have ec : c = c' := by simpa using e3
        refine PySem.W.kat_yes (PySem.W.kat_nil ⟨rfl, ?_⟩)
        dsimp only
        rw [if_pos ex, if_pos ey, ec]
        cases c' <;> rfl
      · have ec : ¬ c = c' := by simpa using e3
        refine PySem.W.kat_no (PySem.W.kat_one _ _ (PySem.P.lt_str ?_))
        refine ⟨rfl, ?_⟩
        dsimp only
        rw [if_pos ex, if_pos ey, ← wd_lt ec]
    · have ey : ¬ y = y' := by simpa using e2
      refine PySem.W.kat_no (PySem.W.kat_one _ _ (PyProof.Rows.lt_int ?_))
      refine ⟨rfl, ?_⟩
      dsimp only
      rw [if_pos ex, if_neg ey]
  · have ex : ¬ x = x' := by simpa using e1
    refine PySem.W.kat_no (oneLt_int ⟨rfl, ?_⟩)
    dsimp only
    rw [if_neg ex]
theorem blk_firsts {h : Heap} : ∀ {vs : List Value}, (∀ v ∈ vs, ∃ m, IsBk h v m) → ∃ fs : List Value, PySem.W.KatTups h vs fs ∧ fs.length = vs.length ∧ ∀ f ∈ fs, ∃ x t, f = Value.int x t
  | [], _ => ⟨[], PySem.W.KatTups.nil, rfl, fun _ hm => by simp at hm⟩
  | v :: vs, hp => by
    obtain ⟨fs, h1, h2, h3⟩ := blk_firsts (vs := vs) fun v' hm => hp v' (List.mem_cons_of_mem _ hm)
    obtain ⟨m, a, o, t, u, z, n, e, ho, hc, hd⟩ := hp v (List.mem_cons_self ..)
    subst e
    refine ⟨.int m.1 t :: fs, PySem.W.KatTups.cons ho hc hd rfl h1, by rw [List.length_cons, List.length_cons, h2], fun f hm => ?_⟩
    rcases List.mem_cons.mp hm with rfl | hm
    · exact ⟨_, t, rfl⟩
    · exact h3 f hm
theorem blk_sortable {a : Addr} {vs : List Value} {k : Value → Blk} (h0 : 0 < vs.length) (hp : ∀ v ∈ vs, IsBk s.heap v (k v)) (ha : ∀ o, s.heap.get? a = some o → o.cls ≠ .type "tuple") : SrtO.SortableO prog w A s a vs fun v u => lexT (k v) (k u) := by
  intro h' keep
  have hp' : ∀ v ∈ vs, IsBk h' v (k v) := fun v hm => (hp v hm).keeps fun b o e c => keep b o (fun z => by subst z; exact ha o e c) e
  obtain ⟨fs, h1, h2, h3⟩ := blk_firsts fun v hm => ⟨_, hp' v hm⟩
  refine ⟨tuples' true, fun Q E hq => ?_, blk_cmp hp'⟩
  refine PySem.W.kat_kind (T := .type "int") h1 (by omega) (fun f hm => ?_) (by rfl) ?_
  · obtain ⟨x, t, rfl⟩ := h3 f hm
    exact PySem.W.Looks.now
  · have e : (Value.type "int" != Value.type "tuple") = true := by first | decide +kernel | rfl | decide
    rw [e]
    exact hq
theorem sorted_blks {l : Addr} {vs : List Value} {k : Value → Blk} {Q : Value → Shared → Prop} (hl : s.heap.IsList l vs.toArray) (hz : vs.length ≤ sizeLine) (hp : ∀ v ∈ vs, IsBk s.heap v (k v))
    (h : ∀ (h' : Heap) (d : Addr) (out : List Value), SrtO.Srtd (fun v u => lexT (k v) (k u)) out → SrtO.Stb (fun v u => lexT (k v) (k u)) out vs → (∀ b o, s.heap.get? b = some o → h'.get? b = some o) → s.heap.objs.size ≤ d → (∃ n, h'.get? d = some (seqObj "list" out.toArray n)) → Q (.ref d) { s with heap := h' }) :
    wpAny (model prog w) A (call (.builtin "sorted") [.ref l]) Q E s := by
  refine SrtO.sorted_ord (swo_blk k) hl hz (fun h2 h₁ a ha kk => ?_) fun out hs hb => ?_
  · refine blk_sortable (s := { s with heap := h₁ }) (by omega) (fun v hm => (hp v hm).keeps fun b o e _ => (kk b o e).2) fun o e => ?_
    have e' : some o = some (seqObj "list" vs.toArray 0) := e.symm.trans ha
    cases e'
    intro c
    exact absurd (Value.type.inj c) (by decide)
  · exact h _ _ out hs hb (fun b o e => PyProof.Rows.sortedAll_old e) (Nat.le_succ _) (PyProof.Rows.sortedAll_at s.heap vs out.toArray)
end
/-- sorted(xs), xs a list of blocks (k says which): a new list, sorted, equal ones in their order -/
def rSortedB (K : PySem.W.Frag) : List V → Hp → VK → Prop := fun vs H Q => ∃ (a : Addr) (xs : List V) (k : V → Blk), vs = [V.ref a] ∧ SqL K H a xs ∧ (∀ x ∈ xs, ∃ t, x = V.ref t ∧ H t = some (.tup (blkV (k x)))) ∧
  ∀ ys p, SrtO.Srtd (fun x y => lexT (k x) (k y)) ys → ys.Perm xs → H p = none → Q (.ref p) (upd H p (.lst ys))
section
variable {X : Cx}
theorem cr_sortedB : CallR X (.builtin "sorted") (rSortedB X.K) := by
  intro pins s σ H vs us Q I r h
  obtain ⟨a, xs, k, rfl, hs, hx, q⟩ := h
  obtain ⟨its, rv, hl, hz⟩ := I.list hs
  obtain ⟨u, rfl, ru⟩ := vals1 r
  obtain rfl : u = Value.ref a := ru
  obtain ⟨e1, e2⟩ := refs_back rv fun x m => by
    obtain ⟨t, e, _⟩ := hx x m
    exact ⟨t, e⟩
  refine sorted_blks (k := fun u => k (backV u)) hl.isList (by rw [← rv.length]; exact hz) (fun v hv => ?_) fun h' d out h1 h2 kp hd hn => ?_
  · obtain ⟨t, rfl⟩ := e2 v hv
    have hm : V.ref t ∈ xs := by rw [e1]; exact List.mem_map.mpr ⟨_, hv, rfl⟩
    obtain ⟨t', e, ht⟩ := hx _ hm
    cases e
    obtain ⟨_, its2, r2, o, ho, hc, n, hd⟩ := I.hok _ _ ht
    show IsBk s.heap (Value.ref t) (k (V.ref t))
    generalize k (V.ref t) = m at r2 ⊢
    cases r2 with
    | cons r0 r2 =>
      cases r2 with
      | cons r1 r2 =>
        cases r2 with
        | cons r3 r2 =>
          cases r2
          obtain ⟨t1, rfl⟩ := r0
          obtain ⟨t2, rfl⟩ := r1
          obtain ⟨t3, rfl⟩ := r3
          exact ⟨t, o, t1, t2, t3, n, rfl, ho, hc, hd⟩
  · have h3 : ∀ u ∈ out, ∃ a, u = Value.ref a := fun u hu => e2 u (h2.perm.mem_iff.mp hu)
    obtain ⟨n, hn⟩ := hn
    have hb : (out.map backV).Perm xs := by
      rw [e1]
      exact h2.perm.map _
    refine ⟨.ref d, upd H d (.lst (out.map backV)), I.laid (t' := s.toks) kp hd ⟨?_, out, n, vals_back h3, hn⟩, rfl, q _ d (SrtO.srtd_map (lt := fun x y => lexT (k x) (k y)) h1) hb (I.hok.fresh hd)⟩
    rw [hb.length_eq]
    exact hz
end
section
variable {X : Cx} {CX : CXT} {k : Nat} {f : Addr} {sp : Sp} {E : XK} {x : Str} {pp pos : Pos}
/-- f(), a def without arguments -/
theorem pe_callR0 (F : FnR X.prog X.w X.K X.mg X.base CX k f sp) (hr : Room k X.A) (hg : Gl X x) (hm : X.mg x = some (.ref f)) (hk : PySem.W.keepIn X.K (.ref f) = true) (hx : Passes CX X E)
    (hdb : (x == ("__debug__" : Str)) = false := by decide) : PE X (.Call (.Name x pp) [] [] pos) (fun σ H Q => sp [] H Q E) := by
  refine ⟨fun pins s σ H Q I h => ?_⟩
  refine wpAny_Call_Name_kw (ld_glob I hg hm ?_ hdb)
  exact PySem.W.callWith_K0 I.kIn hk (wp_fnR F hr hx I .nil h)
end
end DD

set_option Elab.async false
set_option linter.all false
set_option maxRecDepth 100000
set_option maxHeartbeats 2000000
namespace DD
open PySem PySem.Spec PyProof.Rows L2 ClX
def top (i : Nat) : Stmt := PySem.Challenge.pw_dimdays_k16_showing_known.main.body.getD i (.Pass ⟨0, 0, 0, 0⟩)
abbrev s_put_down : Stmt := top 3
theorem sc_put_down : FnScope ["tick", "step"] ["tick", "step"] (defScope s_put_down) := ⟨rfl, rfl, rfl, by decide +kernel, rfl, by decide +kernel, by decide +kernel⟩
abbrev s_put_up : Stmt := top 4
theorem sc_put_up : FnScope ["tick", "step"] ["tick", "step"] (defScope s_put_up) := ⟨rfl, rfl, rfl, by decide +kernel, rfl, by decide +kernel, by decide +kernel⟩
abbrev s_word_shown : Stmt := top 5
theorem sc_word_shown : FnScope ["rule", "is_private"] ["rule", "is_private"] (defScope s_word_shown) := ⟨rfl, rfl, rfl, by decide +kernel, rfl, by decide +kernel, by decide +kernel⟩
abbrev s_is_joined : Stmt := top 6
theorem sc_is_joined : FnScope ["rule", "word", "end", "begin"] ["rule", "word", "end", "begin"] (defScope s_is_joined) := ⟨rfl, rfl, rfl, by decide +kernel, rfl, by decide +kernel, by decide +kernel⟩
abbrev s_span_shown : Stmt := top 7
theorem sc_span_shown : FnScope ["rule", "begin", "end", "start", "till"] ["rule", "begin", "end"] (defScope s_span_shown) := ⟨rfl, rfl, rfl, by decide +kernel, rfl, by decide +kernel, by decide +kernel⟩
abbrev s_is_integer : Stmt := top 15
theorem sc_is_integer : FnScope ["value"] ["value"] (defScope s_is_integer) := ⟨rfl, rfl, rfl, by decide +kernel, rfl, by decide +kernel, by decide +kernel⟩
abbrev s_is_number : Stmt := top 16
theorem sc_is_number : FnScope ["value"] ["value"] (defScope s_is_number) := ⟨rfl, rfl, rfl, by decide +kernel, rfl, by decide +kernel, by decide +kernel⟩
abbrev s_is_positive : Stmt := top 17
theorem sc_is_positive : FnScope ["value"] ["value"] (defScope s_is_positive) := ⟨rfl, rfl, rfl, by decide +kernel, rfl, by decide +kernel, by decide +kernel⟩
abbrev s_is_sequence : Stmt := top 18
theorem sc_is_sequence : FnScope ["value"] ["value"] (defScope s_is_sequence) := ⟨rfl, rfl, rfl, by decide +kernel, rfl, by decide +kernel, by decide +kernel⟩
abbrev s__meeting_spans : Stmt := top 23
theorem sc__meeting_spans : FnScope ["rule", "day", "word", "step", "begin", "end", "is_private"] ["rule", "day", "word"] (defScope s__meeting_spans) := ⟨rfl, rfl, rfl, by decide +kernel, rfl, by decide +kernel, by decide +kernel⟩
abbrev s__joined_spans : Stmt := top 24
theorem sc__joined_spans : FnScope ["rule", "word", "spans", "joined", "begin", "end"] ["rule", "word", "spans"] (defScope s__joined_spans) := ⟨rfl, rfl, rfl, by decide +kernel, rfl, by decide +kernel, by decide +kernel⟩
abbrev s__blocks : Stmt := top 25
theorem sc__blocks : FnScope ["rule", "day", "word", "joined", "cut", "span", "begin", "end"] ["rule", "day", "word"] (defScope s__blocks) := ⟨rfl, rfl, rfl, by decide +kernel, rfl, by decide +kernel, by decide +kernel⟩
abbrev s_show : Stmt := top 26
theorem sc_show : FnScope ["rule", "day", "word", "block"] ["rule", "day"] (defScope s_show) := ⟨rfl, rfl, rfl, by decide +kernel, rfl, by decide +kernel, by decide +kernel⟩
abbrev s__is_meeting : Stmt := top 28
theorem sc__is_meeting : FnScope ["value", "begin", "end", "is_private"] ["value"] (defScope s__is_meeting) := ⟨rfl, rfl, rfl, by decide +kernel, rfl, by decide +kernel, by decide +kernel⟩
abbrev s__are_meetings : Stmt := top 29
theorem sc__are_meetings : FnScope ["value", "length", "ahead", "meeting"] ["value", "length"] (defScope s__are_meetings) := ⟨rfl, rfl, rfl, by decide +kernel, rfl, by decide +kernel, by decide +kernel⟩
abbrev s__are_hours : Stmt := top 37
theorem sc__are_hours : FnScope ["value", "start", "till"] ["value"] (defScope s__are_hours) := ⟨rfl, rfl, rfl, by decide +kernel, rfl, by decide +kernel, by decide +kernel⟩
abbrev s__wrong_argument : Stmt := top 38
theorem sc__wrong_argument : FnScope ["step", "gap", "least", "private", "hours"] ["step", "gap", "least", "private", "hours"] (defScope s__wrong_argument) := ⟨rfl, rfl, rfl, by decide +kernel, rfl, by decide +kernel, by decide +kernel⟩
abbrev s__law_seed : Stmt := top 44
theorem sc__law_seed : FnScope ["_law_script", "_law_k", "_law_cell"] ["_law_script", "_law_k"] (defScope s__law_seed) := ⟨rfl, rfl, rfl, by decide +kernel, rfl, by decide +kernel, by decide +kernel⟩
abbrev s__law_choose : Stmt := top 45
theorem sc__law_choose : FnScope ["_law_box", "_law_many", "_law_raw", "_law_digit"] ["_law_box", "_law_many"] (defScope s__law_choose) := ⟨rfl, rfl, rfl, by decide +kernel, rfl, by decide +kernel, by decide +kernel⟩
abbrev s__law_one_of : Stmt := top 46
theorem sc__law_one_of : FnScope ["_law_box", "_law_some"] ["_law_box", "_law_some"] (defScope s__law_one_of) := ⟨rfl, rfl, rfl, by decide +kernel, rfl, by decide +kernel, by decide +kernel⟩
abbrev s__law_day_right : Stmt := top 47
theorem sc__law_day_right : FnScope ["_law_a", "_law_day", "_law_due"] ["_law_a"] (defScope s__law_day_right) := ⟨rfl, rfl, rfl, by decide +kernel, rfl, by decide +kernel, by decide +kernel⟩
abbrev s__law_lone_right : Stmt := top 48
theorem sc__law_lone_right : FnScope ["_law_a", "_law_lone"] ["_law_a"] (defScope s__law_lone_right) := ⟨rfl, rfl, rfl, by decide +kernel, rfl, by decide +kernel, by decide +kernel⟩
abbrev s__law_last_right : Stmt := top 49
theorem sc__law_last_right : FnScope ["_law_last"] [] (defScope s__law_last_right) := ⟨rfl, rfl, rfl, by decide +kernel, rfl, by decide +kernel, by decide +kernel⟩
abbrev s_law : Stmt := top 50
theorem sc_law : FnScope ["_law_script", "_law_k", "_law_box", "_law_a", "_law_step"] ["_law_script"] (defScope s_law) := ⟨rfl, rfl, rfl, by decide +kernel, rfl, by decide +kernel, by decide +kernel⟩
abbrev s_Day___init__ : Stmt := inClass (top 34) 0
theorem sc_Day___init__ : FnScope ["self", "length", "meetings"] ["self", "length", "meetings"] (defScope s_Day___init__) := ⟨rfl, rfl, rfl, by decide +kernel, rfl, by decide +kernel, by decide +kernel⟩
abbrev s_Rule___init__ : Stmt := inClass (top 42) 0
theorem sc_Rule___init__ : FnScope ["self", "step", "gap", "least", "private", "hours", "wrong"] ["self", "step", "gap", "least", "private", "hours"] (defScope s_Rule___init__) := ⟨rfl, rfl, rfl, by decide +kernel, rfl, by decide +kernel, by decide +kernel⟩
structure Ad where
  f_put_down : Addr
  f_put_up : Addr
  f_word_shown : Addr
  f_is_joined : Addr
  f_span_shown : Addr
  f_is_integer : Addr
  f_is_number : Addr
  f_is_positive : Addr
  f_is_sequence : Addr
  f__meeting_spans : Addr
  f__joined_spans : Addr
  f__blocks : Addr
  f_show : Addr
  f__is_meeting : Addr
  f__are_meetings : Addr
  f__are_hours : Addr
  f__wrong_argument : Addr
  f__law_seed : Addr
  f__law_choose : Addr
  f__law_one_of : Addr
  f__law_day_right : Addr
  f__law_lone_right : Addr
  f__law_last_right : Addr
  f_law : Addr
  f_Day___init__ : Addr
  f_Rule___init__ : Addr
  C_Day : Addr
  C_Rule : Addr
  c_PRIVATE_WORDS : Addr
  c_WORDS : Addr
  z_Day : Addr
def dv_Rule (d : Ad) : List V := [.int 1, .int 0, .int 0, .str "busy", .non]
def dv_Day (d : Ad) : List V := [.ref d.z_Day]
def v_PRIVATE_WORDS : List V := [.str "busy", .str "none", .str "apart", .str "one"]
def v_WORDS : List V := [.str "busy", .str "private"]

structure Txt (K : PySem.W.Frag) (mg : Str → Option Value) (d : Ad) : Prop where
  m_put_down : mg "put_down" = some (.ref d.f_put_down)
  k_put_down : PySem.W.keepIn K (.ref d.f_put_down) = true
  F_put_down : ∃ fd, Fun K "put_down" "put_down" s_put_down d.f_put_down fd
  m_put_up : mg "put_up" = some (.ref d.f_put_up)
  k_put_up : PySem.W.keepIn K (.ref d.f_put_up) = true
  F_put_up : ∃ fd, Fun K "put_up" "put_up" s_put_up d.f_put_up fd
  m_word_shown : mg "word_shown" = some (.ref d.f_word_shown)
  k_word_shown : PySem.W.keepIn K (.ref d.f_word_shown) = true
  F_word_shown : ∃ fd, Fun K "word_shown" "word_shown" s_word_shown d.f_word_shown fd
  m_is_joined : mg "is_joined" = some (.ref d.f_is_joined)
  k_is_joined : PySem.W.keepIn K (.ref d.f_is_joined) = true
  F_is_joined : ∃ fd, Fun K "is_joined" "is_joined" s_is_joined d.f_is_joined fd
  m_span_shown : mg "span_shown" = some (.ref d.f_span_shown)
  k_span_shown : PySem.W.keepIn K (.ref d.f_span_shown) = true
  F_span_shown : ∃ fd, Fun K "span_shown" "span_shown" s_span_shown d.f_span_shown fd
  m_is_integer : mg "is_integer" = some (.ref d.f_is_integer)
  k_is_integer : PySem.W.keepIn K (.ref d.f_is_integer) = true
  F_is_integer : ∃ fd, Fun K "is_integer" "is_integer" s_is_integer d.f_is_integer fd
  m_is_number : mg "is_number" = some (.ref d.f_is_number)
  k_is_number : PySem.W.keepIn K (.ref d.f_is_number) = true
  F_is_number : ∃ fd, Fun K "is_number" "is_number" s_is_number d.f_is_number fd
  m_is_positive : mg "is_positive" = some (.ref d.f_is_positive)
  k_is_positive : PySem.W.keepIn K (.ref d.f_is_positive) = true
  F_is_positive : ∃ fd, Fun K "is_positive" "is_positive" s_is_positive d.f_is_positive fd
  m_is_sequence : mg "is_sequence" = some (.ref d.f_is_sequence)
  k_is_sequence : PySem.W.keepIn K (.ref d.f_is_sequence) = true
  F_is_sequence : ∃ fd, Fun K "is_sequence" "is_sequence" s_is_sequence d.f_is_sequence fd
  m__meeting_spans : mg "_meeting_spans" = some (.ref d.f__meeting_spans)
  k__meeting_spans : PySem.W.keepIn K (.ref d.f__meeting_spans) = true
  F__meeting_spans : ∃ fd, Fun K "_meeting_spans" "_meeting_spans" s__meeting_spans d.f__meeting_spans fd
  m__joined_spans : mg "_joined_spans" = some (.ref d.f__joined_spans)
  k__joined_spans : PySem.W.keepIn K (.ref d.f__joined_spans) = true
  F__joined_spans : ∃ fd, Fun K "_joined_spans" "_joined_spans" s__joined_spans d.f__joined_spans fd
  m__blocks : mg "_blocks" = some (.ref d.f__blocks)
  k__blocks : PySem.W.keepIn K (.ref d.f__blocks) = true
  F__blocks : ∃ fd, Fun K "_blocks" "_blocks" s__blocks d.f__blocks fd
  m_show : mg "show" = some (.ref d.f_show)
  k_show : PySem.W.keepIn K (.ref d.f_show) = true
  F_show : ∃ fd, Fun K "show" "show" s_show d.f_show fd
  m__is_meeting : mg "_is_meeting" = some (.ref d.f__is_meeting)
  k__is_meeting : PySem.W.keepIn K (.ref d.f__is_meeting) = true
  F__is_meeting : ∃ fd, Fun K "_is_meeting" "_is_meeting" s__is_meeting d.f__is_meeting fd
  m__are_meetings : mg "_are_meetings" = some (.ref d.f__are_meetings)
  k__are_meetings : PySem.W.keepIn K (.ref d.f__are_meetings) = true
  F__are_meetings : ∃ fd, Fun K "_are_meetings" "_are_meetings" s__are_meetings d.f__are_meetings fd
  m__are_hours : mg "_are_hours" = some (.ref d.f__are_hours)
  k__are_hours : PySem.W.keepIn K (.ref d.f__are_hours) = true
  F__are_hours : ∃ fd, Fun K "_are_hours" "_are_hours" s__are_hours d.f__are_hours fd
  m__wrong_argument : mg "_wrong_argument" = some (.ref d.f__wrong_argument)
  k__wrong_argument : PySem.W.keepIn K (.ref d.f__wrong_argument) = true
  F__wrong_argument : ∃ fd, Fun K "_wrong_argument" "_wrong_argument" s__wrong_argument d.f__wrong_argument fd
  m__law_seed : mg "_law_seed" = some (.ref d.f__law_seed)
  k__law_seed : PySem.W.keepIn K (.ref d.f__law_seed) = true
  F__law_seed : ∃ fd, Fun K "_law_seed" "_law_seed" s__law_seed d.f__law_seed fd
  m__law_choose : mg "_law_choose" = some (.ref d.f__law_choose)
  k__law_choose : PySem.W.keepIn K (.ref d.f__law_choose) = true
  F__law_choose : ∃ fd, Fun K "_law_choose" "_law_choose" s__law_choose d.f__law_choose fd
  m__law_one_of : mg "_law_one_of" = some (.ref d.f__law_one_of)
  k__law_one_of : PySem.W.keepIn K (.ref d.f__law_one_of) = true
  F__law_one_of : ∃ fd, Fun K "_law_one_of" "_law_one_of" s__law_one_of d.f__law_one_of fd
  m__law_day_right : mg "_law_day_right" = some (.ref d.f__law_day_right)
  k__law_day_right : PySem.W.keepIn K (.ref d.f__law_day_right) = true
  F__law_day_right : ∃ fd, Fun K "_law_day_right" "_law_day_right" s__law_day_right d.f__law_day_right fd
  m__law_lone_right : mg "_law_lone_right" = some (.ref d.f__law_lone_right)
  k__law_lone_right : PySem.W.keepIn K (.ref d.f__law_lone_right) = true
  F__law_lone_right : ∃ fd, Fun K "_law_lone_right" "_law_lone_right" s__law_lone_right d.f__law_lone_right fd
  m__law_last_right : mg "_law_last_right" = some (.ref d.f__law_last_right)
  k__law_last_right : PySem.W.keepIn K (.ref d.f__law_last_right) = true
  F__law_last_right : ∃ fd, Fun K "_law_last_right" "_law_last_right" s__law_last_right d.f__law_last_right fd
  m_law : mg "law" = some (.ref d.f_law)
  k_law : PySem.W.keepIn K (.ref d.f_law) = true
  F_law : ∃ fd, Fun K "law" "law" s_law d.f_law fd
  F_Day___init__ : ∃ fd, FunD K "__init__" "Day.__init__" (defArgs s_Day___init__) (defBody s_Day___init__) (defScope s_Day___init__) (dv_Day d) [] d.f_Day___init__ fd
  F_Rule___init__ : ∃ fd, FunD K "__init__" "Rule.__init__" (defArgs s_Rule___init__) (defBody s_Rule___init__) (defScope s_Rule___init__) (dv_Rule d) [] d.f_Rule___init__ fd
  m_Day : mg "Day" = some (.ref d.C_Day)
  cl_Day : Cls K d.C_Day
  mk_Day : Mk K d.C_Day d.f_Day___init__
  na_Day_length : NoAttr K d.C_Day "length"
  na_Day_meetings : NoAttr K d.C_Day "meetings"
  o_Day : PySem.W.mroIn K d.C_Day (.type "object") = some true
  ic_Day : PySem.W.findIn K (.ref d.C_Day) "__class__" = some (some (.builtin "object.__class__"))
  m_Rule : mg "Rule" = some (.ref d.C_Rule)
  cl_Rule : Cls K d.C_Rule
  mk_Rule : Mk K d.C_Rule d.f_Rule___init__
  na_Rule_step : NoAttr K d.C_Rule "step"
  na_Rule_gap : NoAttr K d.C_Rule "gap"
  na_Rule_least : NoAttr K d.C_Rule "least"
  na_Rule_private : NoAttr K d.C_Rule "private"
  na_Rule_hours : NoAttr K d.C_Rule "hours"
  o_Rule : PySem.W.mroIn K d.C_Rule (.type "object") = some true
  ic_Rule : PySem.W.findIn K (.ref d.C_Rule) "__class__" = some (some (.builtin "object.__class__"))
  oc1 : PySem.W.specialIn K (.builtin "object.__class__") "__get__" = some (some (.builtin "getset_descriptor.__get__"))
  oc2 : PySem.W.takesIn K (.builtin "object.__class__") = some true
  w_zDay : ∀ H, SqT K H d.z_Day []
  b_isinstance : mg "isinstance" = none
  b_int : mg "int" = none
  b_bool : mg "bool" = none
  b_list : mg "list" = none
  b_tuple : mg "tuple" = none
  b_len : mg "len" = none
  b_range : mg "range" = none
  b_abs : mg "abs" = none
  b_min : mg "min" = none
  b_max : mg "max" = none
  b_sorted : mg "sorted" = none
  m_PRIVATE_WORDS : mg "PRIVATE_WORDS" = some (.ref d.c_PRIVATE_WORDS)
  w_PRIVATE_WORDS : ∀ H, SqT K H d.c_PRIVATE_WORDS v_PRIVATE_WORDS
  m_WORDS : mg "WORDS" = some (.ref d.c_WORDS)
  w_WORDS : ∀ H, SqT K H d.c_WORDS v_WORDS

/-! ### small words -/
section
variable {P : Program} {w : World} {K : PySem.W.Frag} {mg : Str → Option Value} {base : Heap}
theorem vals_abs : ∀ {us : List Value} {vs : List V}, us.mapM absV = some vs → Vals vs us
  | [], vs, h => by
    simp at h
    subst h
    exact .nil
  | u :: us, vs, h => by
    rw [List.mapM_cons] at h
    cases e : absV u with
    | none => rw [e] at h; simp at h
    | some v =>
      cases e2 : us.mapM absV with
      | none => rw [e, e2] at h; simp at h
      | some ws =>
        rw [e, e2] at h
        simp at h
        subst h
        refine .cons ?_ (vals_abs e2)
        cases u <;> simp [absV] at e <;> subst e <;> first | rfl | exact ⟨_, rfl⟩
theorem sqt_mk {H : Hp} {c : Addr} {td : Option Addr} {it : Array Value} {n : Nat} {ts : Array (Option Value)} {vs : List V} (l : K.lookup c = some ⟨.type "tuple", td, .seq it n, ts⟩) (lv : it.toList.mapM absV = some vs) (hz : vs.length ≤ sizeLine) : SqT K H c vs := by
  have r := vals_abs lv
  refine .inr ⟨_, it, n, l, rfl, rfl, ?_, r⟩
  rw [← Array.length_toList, ← r.length]
  exact hz
theorem fund_mk {x qual : Str} {st : Stmt} {f T : Addr} {oc tc : Value} {od an td : Option Addr} {osl ts : Array (Option Value)} {it : Array Value} {tn : Nat} {kV doc pm cdv ct : Value} {dvs : List V}
    (l : K.lookup f = some ⟨oc, od, .func (PySem.W.fnOf x qual (defArgs st) (defBody st) (defScope st) (.ref T) kV doc pm an cdv ct), osl⟩) (lt : K.lookup T = some ⟨tc, td, .seq it tn, ts⟩) (lv : it.toList.mapM absV = some dvs) (hn : dvs ≠ [])
    (c : PySem.W.codeIn K cdv qual = true) (k : PySem.W.keepIn K (.ref f) = true) : FunD K x qual (defArgs st) (defBody st) (defScope st) dvs [] f (PySem.W.fnOf x qual (defArgs st) (defBody st) (defScope st) (.ref T) kV doc pm an cdv ct) :=
  ⟨⟨oc, od, .ref T, kV, doc, pm, an, cdv, ct, osl, rfl, l, c, .inr ⟨hn, T, _, it.toList, tn, rfl, lt, by simp, vals_abs lv⟩, .inl rfl⟩, k⟩
/-- a def without defaults, by its body: a positional promise -/
theorem mkR {x qual : Str} {st : Stmt} {f : Addr} {N ps : List Str} {k : Nat} {sp : Sp} (F : ∃ fd, Fun K x qual st f fd) (S : FnScope N ps (defScope st)) (len : ∀ vs H Q E, sp vs H Q E → vs.length = ps.length)
    (hb : ∀ (kV doc pm : Value) (an : Option Addr) (cdv ct : Value) (us : List Value), us.length = ps.length → bindArgs (PySem.W.fnOf x qual (defArgs st) (defBody st) (defScope st) .none kV doc pm an cdv ct) ⟨us, []⟩ = pure (ps.zip us))
    (hbody : ∀ (cdv : Value) (A : Around) (outer : List Env) (s : Shared) (H : Hp) (vs : List V) (Q : VK) (E : XK), Room k (A.deeper (envOfC qual (defScope st) s.heap.objs.size f cdv)) → sp vs H Q E →
      ∃ t, PSs (cxOf CX0 P w K mg base N qual (defScope st) f cdv A outer s H E).nox (defBody st) t ∧ t { nx := fun _ H' => Q .non H', rt := Q } (start N vs) H) : FnR P w K mg base CX0 (k + 1) f sp := by
  obtain ⟨fd, F⟩ := F
  have G : FnOk P w K mg base CX0 (k + 1) f fd ps sp := F.ok S len hbody
  refine (G.raw (F.binds hb) .nil).imp fun vs H Q E h => ?_
  rw [List.append_nil]
  exact h
/-- a def with defaults, all arguments written but the last ones: j is where the defaults that fill up begin -/
theorem mkRD {x qual : Str} {st : Stmt} {f : Addr} {N ps : List Str} {k : Nat} {sp sp' : Sp} {dvs : List V} (n j : Nat) (F : ∃ fd, FunD K x qual (defArgs st) (defBody st) (defScope st) dvs [] f fd) (hd : dvs ≠ []) (hn : n + (dvs.length - j) = ps.length) (S : FnScope N ps (defScope st)) (len : ∀ vs H Q E, sp vs H Q E → vs.length = ps.length)
    (hb : ∀ (T : Addr) (kV doc pm : Value) (an : Option Addr) (cdv ct : Value) (us its : List Value), us.length = n → its.length = dvs.length →
      ∃ k, bindArgs (PySem.W.fnOf x qual (defArgs st) (defBody st) (defScope st) (.ref T) kV doc pm an cdv ct) ⟨us, []⟩ = seqItems? (.ref T) >>= k ∧ k (some its.toArray) = pure (ps.zip (us ++ its.drop j)))
    (hs : ∀ vs H Q E, sp' vs H Q E → sp (vs ++ dvs.drop j) H Q E)
    (hbody : ∀ (cdv : Value) (A : Around) (outer : List Env) (s : Shared) (H : Hp) (vs : List V) (Q : VK) (E : XK), Room k (A.deeper (envOfC qual (defScope st) s.heap.objs.size f cdv)) → sp vs H Q E →
      ∃ t, PSs (cxOf CX0 P w K mg base N qual (defScope st) f cdv A outer s H E) (defBody st) t ∧ t { nx := fun _ H' => Q .non H', rt := Q } (start N vs) H) : FnR P w K mg base CX0 (k + 1) f sp' := by
  obtain ⟨fd, F⟩ := F
  have G : FnOk P w K mg base CX0 (k + 1) f fd ps sp := F.ok S len hbody
  obtain ⟨ds, hv, b⟩ := F.binds1 n j hd hn hb
  exact (G.raw b hv).imp hs
end
/-- the place of a name among written ones -/
theorem look_at {fs : List (Str × V)} {ks : List Str} {f g : Str} {i : Nat} {v : V} (hk : fs.map (·.1) = ks) (hi : ks.findIdx? (· == f) = some i) (hv : fs[i]? = some (g, v)) : fs.lookup f = some v := by
  induction fs generalizing ks i with
  | nil => simp at hv
  | cons p fs ih =>
    obtain ⟨k, x⟩ := p
    subst hk
    rw [List.map_cons, List.findIdx?_cons] at hi
    by_cases e : (k == f) = true
    · rw [if_pos e] at hi
      cases hi
      have e2 : (f == k) = true := by rw [beq_iff_eq] at e ⊢; exact e.symm
      simp at hv
      simp [List.lookup, e2, hv.2]
    · rw [if_neg e] at hi
      have e2 : (f == k) = false := by
        rw [beq_eq_false_iff_ne]; rintro rfl; exact e (by simp)
      obtain ⟨j, hj, rfl⟩ := Option.map_eq_some_iff.mp hi
      simp only [List.lookup, e2]
      exact ih rfl hj (by simpa using hv)
theorem look_no {fs : List (Str × V)} {ks : List Str} {f : Str} (hk : fs.map (·.1) = ks) (hi : ks.contains f = false) : fs.lookup f = none := by
  induction fs generalizing ks with
  | nil => rfl
  | cons p fs ih =>
    obtain ⟨k, x⟩ := p
    subst hk
    rw [List.map_cons, List.contains_cons, Bool.or_eq_false_iff] at hi
    simp only [List.lookup, hi.1]
    exact ih rfl hi.2
theorem putF_new {f : Str} {v : V} : ∀ {fs : List (Str × V)} {ks : List Str}, fs.map (·.1) = ks → ks.contains f = false → putF f v fs = fs ++ [(f, v)]
  | [], _, _, _ => rfl
  | (k, x) :: fs, ks, hk, hc => by
    subst hk
    rw [List.map_cons, List.contains_cons, Bool.or_eq_false_iff] at hc
    have ne : ¬ k = f := fun e => by rw [e] at hc; simp at hc
    rw [show putF f v ((k, x) :: fs) = (if k = f then (k, v) :: fs else (k, x) :: putF f v fs) from rfl, if_neg ne, putF_new rfl hc.2]
    rfl
theorem Same.new {H : Hp} {p : Addr} {o : HO} (h : H p = none) : Same H (upd H p o) := fun a u e => by
  rw [upd_ne (ne_of_none e h)]
  exact e
theorem Same.new' {H H1 : Hp} {p : Addr} {o : HO} (s : Same H H1) (h : H1 p = none) : Same H (upd H1 p o) := s.trans (Same.new h)
theorem Same.tup {K : PySem.W.Frag} {H H' : Hp} {a : Addr} {xs : List V} (e : Same H H') (h : SqT K H a xs) : SqT K H' a xs := by
  rcases h with (h | ⟨o, h⟩) | h
  · exact .inl (.inl (e _ _ h))
  · exact .inl (.inr ⟨o, e _ _ h⟩)
  · exact .inr h
theorem sz {n : Nat} (h : n ≤ 100000) : n ≤ sizeLine := Nat.le_trans h (by decide)
theorem rd_fld {K : PySem.W.Frag} {i : Nat} {σ : L2.St} {H : Hp} {f : Str} {Q : VK} {a C dx : Addr} {fs : List (Str × V)} {v : V} (hs : σ[i]? = some (some (.ref a))) (ho : H a = some (.ins C dx fs)) (c : Cls K C) (n : NoAttr K C f) (l : fs.lookup f = some v) (q : Q v H) : tFld K (tVar i) f σ H Q :=
  ⟨_, hs, a, C, dx, fs, v, rfl, ho, c, n, l, q⟩

/-! ### rules whose reading names K itself -/
theorem ixT_K {X : Cx} {K : PySem.W.Frag} (h : X.K = K := by rfl) : IxR X (rIxT K) := h ▸ ix_tup
theorem ixL_K {X : Cx} {K : PySem.W.Frag} (h : X.K = K := by rfl) : IxR X (rIxL K) := h ▸ ix_list
theorem pe_fldK {X : Cx} {K : PySem.W.Frag} {e : Expr} {f : Str} {pos : Pos} {ta : TE} (he : PE X e ta) (hb : attributeBase e f X.env (eval e X.env) = eval e X.env) (h : X.K = K := by rfl) : PE X (.Attribute e f pos) (tFld K ta f) := h ▸ pe_fld he hb
theorem pg_tupK {X : Cx} {K : PySem.W.Frag} {es : List Expr} {k : Nat} {t : TGs} {n : Nat} {pos : Pos} (hc : X.calm = true) (h : PGs X es t)
    (hn : (assignEach es X.env).length = n := by rfl) (hst : (assignEach es X.env).findIdx? (·.1) = none := by rfl) (hK : X.K = K := by rfl) : PG X (.Tuple es k pos) (gTup K n t) := hK ▸ pg_tup hc h hn hst
/-! ### what kind of value -/
def TyI (K : PySem.W.Frag) (H : Hp) (x : V) (b : Bool) : Prop := ∃ t b1 b2, TyX K H x t ∧ PySem.W.kitOne K t (.type "int") = some b1 ∧ PySem.W.kitOne K t (.type "bool") = some b2 ∧ b = (b1 && !b2)
theorem tyI_int {K : PySem.W.Frag} {H : Hp} {i : Int} : TyI K H (.int i) true := ⟨_, true, false, .base (.int i), kit_ty (by decide +kernel), kit_ty (by decide +kernel), rfl⟩
theorem isi_own {K : PySem.W.Frag} {C : Addr} : PySem.W.kitOne K (.ref C) (.ref C) = some true := by simp [PySem.W.kitOne]
section
variable {P : Program} {w : World} {K : PySem.W.Frag} {mg : Str → Option Value} {base : Heap} {d : Ad}
def sp_is_integer (K : PySem.W.Frag) : Sp := fun vs H Q _ => ∃ x b, vs = [x] ∧ TyI K H x b ∧ Q (.bl b) H
theorem ok_is_integer (T : Txt K mg d) : FnR P w K mg base CX0 1 d.f_is_integer (sp_is_integer K) := by
  refine mkR T.F_is_integer sc_is_integer (fun vs H Q E h => ?_) (fun _ _ _ _ _ _ us hl => match us, hl with | [_], _ => rfl) (fun cdv A outer s H vs Q E hr h => ?_)
  · obtain ⟨x, b, rfl, _⟩ := h
    rfl
  · obtain ⟨x, b, rfl, ⟨t, b1, b2, ty, k1, k2, e⟩, q⟩ := h
    refine ⟨_, (pss_one (ps_ret (pe_and (pe_callB call_isi (by rfl) T.b_isinstance (by decide +kernel) (pa_cons (pv 0) (pa_cons (pe_bltn (v := .ty "int") rfl T.b_int (by decide +kernel) rfl) pa_nil))) (pe_one (pe_not (pe_callB call_isi (by rfl) T.b_isinstance (by decide +kernel) (pa_cons (pv 0) (pa_cons (pe_bltn (v := .ty "bool") rfl T.b_bool (by decide +kernel) rfl) pa_nil)))))))), ?_⟩
    refine ⟨x, rfl, x, .ty "int", t, .type "int", b1, rfl, .ty _, ty, k1, b1, rfl, ?_⟩
    subst e
    cases b1 with
    | false => exact iteF q
    | true =>
      refine iteT ?_
      exact ⟨x, rfl, x, .ty "bool", t, .type "bool", b2, rfl, .ty _, ty, k2, b2, rfl, q⟩
def sp_is_number (K : PySem.W.Frag) : Sp := fun vs H Q _ => (∃ i, vs = [.int i] ∧ Q (.bl (decide (0 ≤ i))) H) ∨ ∃ x, vs = [x] ∧ TyI K H x false ∧ Q (.bl false) H
theorem ok_is_number (T : Txt K mg d) : FnR P w K mg base CX0 2 d.f_is_number (sp_is_number K) := by
  refine mkR T.F_is_number sc_is_number (fun vs H Q E h => ?_) (fun _ _ _ _ _ _ us hl => match us, hl with | [_], _ => rfl) (fun cdv A outer s H vs Q E hr h => ?_)
  · rcases h with ⟨_, rfl, _⟩ | ⟨_, rfl, _⟩ <;> rfl
  · refine ⟨_, (pss_one (ps_ret (pe_and (pe_callR (ok_is_integer T) (hr.mono (by decide)) rfl T.m_is_integer T.k_is_integer pass0 (pa_cons (pv 0) pa_nil)) (pe_one (pe_cmpR op_ge (pv 0) pe_int (nomark _)))))), ?_⟩
    rcases h with ⟨i, rfl, q⟩ | ⟨x, rfl, ty, q⟩
    · refine ⟨_, rfl, _, true, rfl, tyI_int, true, rfl, iteT ?_⟩
      exact ⟨_, rfl, i, 0, rfl, rfl, q⟩
    · exact ⟨_, rfl, _, false, rfl, ty, false, rfl, iteF q⟩
def sp_is_positive (K : PySem.W.Frag) : Sp := fun vs H Q _ => (∃ i, vs = [.int i] ∧ Q (.bl (decide (1 ≤ i))) H) ∨ ∃ x, vs = [x] ∧ TyI K H x false ∧ Q (.bl false) H
theorem ok_is_positive (T : Txt K mg d) : FnR P w K mg base CX0 2 d.f_is_positive (sp_is_positive K) := by
  refine mkR T.F_is_positive sc_is_positive (fun vs H Q E h => ?_) (fun _ _ _ _ _ _ us hl => match us, hl with | [_], _ => rfl) (fun cdv A outer s H vs Q E hr h => ?_)
  · rcases h with ⟨_, rfl, _⟩ | ⟨_, rfl, _⟩ <;> rfl
  · refine ⟨_, (pss_one (ps_ret (pe_and (pe_callR (ok_is_integer T) (hr.mono (by decide)) rfl T.m_is_integer T.k_is_integer pass0 (pa_cons (pv 0) pa_nil)) (pe_one (pe_cmpR op_ge (pv 0) pe_int (nomark _)))))), ?_⟩
    rcases h with ⟨i, rfl, q⟩ | ⟨x, rfl, ty, q⟩
    · refine ⟨_, rfl, _, true, rfl, tyI_int, true, rfl, iteT ?_⟩
      exact ⟨_, rfl, i, 1, rfl, rfl, q⟩
    · exact ⟨_, rfl, _, false, rfl, ty, false, rfl, iteF q⟩
end
end DD

set_option Elab.async false
set_option linter.all false
set_option maxRecDepth 100000
set_option maxHeartbeats 2000000
namespace DD
open PySem PySem.Spec PyProof.Rows L2 StX
/-! ### [e for x in tuple for y in range(..)] -/
section
variable {K : PySem.W.Frag} {σ : L2.St} {vs vs1 : List Nat} {g g1 : TG} {tt tt1 : TT} {te : TE} {wi1 : TI}
theorem lc2_tup {a : Addr} {xs : List V} {H1 : Hp} {D : Addr} {Qd : Hp → Prop} (Pv : Nat → Hp → Prop) (h0 : Pv 0 (upd H1 D (.lst []))) (hl : ∀ i H, i ≤ xs.length → Pv i H → SqT K H a xs)
    (hs : ∀ i x H, xs[i]? = some x → Pv i H → g x (wipe σ vs) H fun σ2 H2 => wipe σ2 vs = wipe σ vs ∧ tt σ2 H2 fun b H3 =>
      if b = true then wi1 σ2 H3 fun J1 H4 => ∃ W1 : Nat → Nat → Hp → Prop, (∃ m, W1 0 m H4) ∧ ∀ j k H, W1 j k H →
        (J1.stop j H ∧ Pv (i + 1) H) ∨ (J1.go j H ∧ ∃ Nx1 : Hp → Prop, (∀ H', Nx1 H' → ∃ k', k' < k ∧ W1 (j + 1) k' H') ∧ ∀ x H', J1.yld j H x H' → g1 x (wipe σ2 vs1) H' fun σ3 H5 => wipe σ3 vs1 = wipe σ2 vs1 ∧ tt1 σ3 H5 fun b H6 =>
          if b = true then te σ3 H6 fun y H7 => ∃ acc, H7 D = some (.lst acc) ∧ acc.length < sizeLine ∧ Nx1 (upd H7 D (.lst (acc ++ [y]))) else Nx1 H6)
      else Pv (i + 1) H3) (hd : ∀ H, Pv xs.length H → Qd H) :
    ∃ W : Nat → Nat → Hp → Prop, (∃ m, W 0 m (upd H1 D (.lst []))) ∧ ∀ i m H, W i m H →
      ((Itt K a).stop i H ∧ Qd H) ∨ ((Itt K a).go i H ∧ ∃ Nx : Hp → Prop, (∀ H', Nx H' → ∃ m', m' < m ∧ W (i + 1) m' H') ∧ ∀ x H', (Itt K a).yld i H x H' → g x (wipe σ vs) H' fun σ2 H2 => wipe σ2 vs = wipe σ vs ∧ tt σ2 H2 fun b H3 =>
        if b = true then wi1 σ2 H3 fun J1 H4 => ∃ W1 : Nat → Nat → Hp → Prop, (∃ m, W1 0 m H4) ∧ ∀ j k H, W1 j k H →
          (J1.stop j H ∧ Nx H) ∨ (J1.go j H ∧ ∃ Nx1 : Hp → Prop, (∀ H', Nx1 H' → ∃ k', k' < k ∧ W1 (j + 1) k' H') ∧ ∀ x H', J1.yld j H x H' → g1 x (wipe σ2 vs1) H' fun σ3 H5 => wipe σ3 vs1 = wipe σ2 vs1 ∧ tt1 σ3 H5 fun b H6 =>
            if b = true then te σ3 H6 fun y H7 => ∃ acc, H7 D = some (.lst acc) ∧ acc.length < sizeLine ∧ Nx1 (upd H7 D (.lst (acc ++ [y]))) else Nx1 H6)
        else Nx H3) := by
  refine ⟨fun i m H => m = xs.length - i ∧ i ≤ xs.length ∧ Pv i H, ⟨xs.length, by simp, Nat.zero_le _, h0⟩, ?_⟩
  rintro i m H ⟨rfl, hi, p⟩
  have q := hl i H hi p
  by_cases hlt : i < xs.length
  · refine .inr ⟨⟨xs, xs[i], q, by simp [hlt]⟩, Pv (i + 1), fun H' p' => ⟨xs.length - (i + 1), by omega, rfl, hlt, p'⟩, fun x H' y => ?_⟩
    obtain ⟨e, y⟩ := y
    subst e
    exact hs i x _ (y xs q) p
  · have e : i = xs.length := by omega
    subst e
    exact .inl ⟨⟨xs, q, Nat.le_refl _⟩, hd H p⟩
theorem in_range {lo : Int} {n : Nat} {H4 : Hp} {D : Addr} {Qd : Hp → Prop} (Pv : Nat → Hp → Prop) (h0 : Pv 0 H4)
    (hs : ∀ j H, j < n → Pv j H → g1 (.int (lo + j)) (wipe σ vs1) H fun σ3 H5 => wipe σ3 vs1 = wipe σ vs1 ∧ tt1 σ3 H5 fun b H6 =>
      if b = true then te σ3 H6 fun y H7 => ∃ acc, H7 D = some (.lst acc) ∧ acc.length < sizeLine ∧ Pv (j + 1) (upd H7 D (.lst (acc ++ [y]))) else Pv (j + 1) H6) (hd : ∀ H, Pv n H → Qd H) :
    ∃ W1 : Nat → Nat → Hp → Prop, (∃ m, W1 0 m H4) ∧ ∀ j k H, W1 j k H →
      ((Itr lo n).stop j H ∧ Qd H) ∨ ((Itr lo n).go j H ∧ ∃ Nx1 : Hp → Prop, (∀ H', Nx1 H' → ∃ k', k' < k ∧ W1 (j + 1) k' H') ∧ ∀ x H', (Itr lo n).yld j H x H' → g1 x (wipe σ vs1) H' fun σ3 H5 => wipe σ3 vs1 = wipe σ vs1 ∧ tt1 σ3 H5 fun b H6 =>
        if b = true then te σ3 H6 fun y H7 => ∃ acc, H7 D = some (.lst acc) ∧ acc.length < sizeLine ∧ Nx1 (upd H7 D (.lst (acc ++ [y]))) else Nx1 H6) := by
  refine ⟨fun j k H => k = n - j ∧ j ≤ n ∧ Pv j H, ⟨n, by simp, Nat.zero_le _, h0⟩, ?_⟩
  rintro j k H ⟨rfl, hj, p⟩
  by_cases hlt : j < n
  · refine .inr ⟨hlt, Pv (j + 1), fun H' p' => ⟨n - (j + 1), by omega, rfl, hlt, p'⟩, fun x H' y => ?_⟩
    obtain ⟨e, y⟩ := y
    subst e y
    exact hs j _ hlt p
  · have e : j = n := by omega
    subst e
    exact .inl ⟨Nat.le_refl _, hd H p⟩
end
/-! ### meetings -/
abbrev Mt := Int × Int × Bool
def mtV (m : Mt) : List V := [.int m.1, .int m.2.1, .bl m.2.2]
def IsMt (H : Hp) (v : V) (m : Mt) : Prop := ∃ a, v = .ref a ∧ H a = some (.tup (mtV m))
def IsMts (H : Hp) (vs : List V) (ms : List Mt) : Prop := vs.length = ms.length ∧ ∀ (i : Nat) v m, vs[i]? = some v → ms[i]? = some m → IsMt H v m
theorem IsMt.mono {H H' : Hp} {v : V} {m : Mt} (e : Same H H') (x : IsMt H v m) : IsMt H' v m := by
  obtain ⟨a, e1, e2⟩ := x
  exact ⟨a, e1, e _ _ e2⟩
theorem IsMts.mono {H H' : Hp} {vs : List V} {ms : List Mt} (e : Same H H') (x : IsMts H vs ms) : IsMts H' vs ms := ⟨x.1, fun i v m h1 h2 => (x.2 i v m h1 h2).mono e⟩
theorem IsMts.nil {H : Hp} : IsMts H [] [] := ⟨rfl, fun i v m h => by simp at h⟩
theorem IsMts.cons {H : Hp} {v : V} {m : Mt} {vs : List V} {ms : List Mt} (x : IsMt H v m) (xs : IsMts H vs ms) : IsMts H (v :: vs) (m :: ms) := by
  refine ⟨by simp [xs.1], fun i v' m' h1 h2 => ?_⟩
  cases i with
  | zero =>
    simp at h1 h2
    subst h1 h2
    exact x
  | succ i =>
    simp at h1 h2
    exact xs.2 i v' m' h1 h2
theorem IsMts.get {H : Hp} {vs : List V} {ms : List Mt} (x : IsMts H vs ms) {i : Nat} {v : V} (h : vs[i]? = some v) : ∃ m, ms[i]? = some m ∧ IsMt H v m := by
  have hi : i < ms.length := by rw [← x.1]; exact (List.getElem?_eq_some_iff.mp h).1
  exact ⟨ms[i], List.getElem?_eq_getElem hi, x.2 i v _ h (List.getElem?_eq_getElem hi)⟩
theorem IsMts.take {H : Hp} {vs : List V} {ms : List Mt} (x : IsMts H vs ms) (n : Nat) : IsMts H (vs.take n) (ms.take n) := by
  refine ⟨by simp [x.1], fun i v m h1 h2 => ?_⟩
  rw [List.getElem?_take] at h1 h2
  split at h1
  · rename_i hi
    rw [if_pos hi] at h2
    exact x.2 i v m h1 h2
  · cases h1
theorem IsMts.drop {H : Hp} {vs : List V} {ms : List Mt} (x : IsMts H vs ms) (n : Nat) : IsMts H (vs.drop n) (ms.drop n) := by
  refine ⟨by simp [x.1], fun i v m h1 h2 => ?_⟩
  rw [List.getElem?_drop] at h1 h2
  exact x.2 _ v m h1 h2
theorem IsMts.append {H : Hp} {vs ws : List V} {ms ns : List Mt} (x : IsMts H vs ms) (y : IsMts H ws ns) : IsMts H (vs ++ ws) (ms ++ ns) := by
  refine ⟨by simp [x.1, y.1], fun i v m h1 h2 => ?_⟩
  by_cases hi : i < vs.length
  · rw [List.getElem?_append_left hi] at h1
    rw [List.getElem?_append_left (by rw [← x.1]; exact hi)] at h2
    exact x.2 i v m h1 h2
  · rw [List.getElem?_append_right (by omega)] at h1
    rw [List.getElem?_append_right (by rw [← x.1]; omega), ← x.1] at h2
    exact y.2 _ v m h1 h2
def mtOk (m : Mt) : Bool := decide (0 ≤ m.1) && decide (0 ≤ m.2.1) && decide (m.1 < m.2.1)
/-- meetings from ahead on that a day of n ticks can have -/
def good (n : Int) : Int → List Mt → Bool
  | _, [] => true
  | ahead, m :: ms => mtOk m && !decide (m.1 < ahead) && !decide (n < m.2.1) && good n m.2.1 ms
theorem good_len {n : Int} : ∀ {a : Int} {ms : List Mt}, good n a ms = true → a ≤ n → (ms.length : Int) ≤ n - a
  | a, [], _, h => by simp; omega
  | a, m :: ms, h, ha => by
    simp only [good, mtOk, Bool.and_eq_true, Bool.not_eq_true', decide_eq_true_eq, decide_eq_false_iff_not] at h
    have ih := good_len (n := n) (a := m.2.1) (ms := ms) h.2 (by omega)
    simp only [List.length_cons, Int.natCast_add, Int.natCast_one]
    omega
section
variable {P : Program} {w : World} {K : PySem.W.Frag} {mg : Str → Option Value} {base : Heap} {d : Ad}
def sp_is_meeting : Sp := fun vs H Q _ => ∃ v m, vs = [v] ∧ IsMt H v m ∧ Q (.bl (mtOk m)) H
theorem ok__is_meeting (T : Txt K mg d) : FnR P w K mg base CX0 3 d.f__is_meeting sp_is_meeting := by
  refine mkR T.F__is_meeting sc__is_meeting (fun vs H Q E h => ?_) (fun _ _ _ _ _ _ us hl => match us, hl with | [_], _ => rfl) (fun cdv A outer s H vs Q E hr h => ?_)
  · obtain ⟨_, _, rfl, _⟩ := h
    rfl
  · obtain ⟨v, ⟨b, e, p⟩, rfl, ⟨a, rfl, ha⟩, q⟩ := h
    refine ⟨_, (pss_cons (ps_if (PW.pt (pw_or (pt_not (pt_val (pe_callB call_isi (by rfl) T.b_isinstance (by decide +kernel) (pa_cons (pv 0) (pa_cons (pe_bltn (v := .ty "tuple") rfl T.b_tuple (by decide +kernel) rfl) pa_nil))))) (pw_or1 (pt_cmpR op_ne (pe_callB call_len_seq (by rfl) T.b_len PySem.boot_len (pa_cons (pv 0) pa_nil)) pe_int (nomark _))))) (pss_one (ps_ret pe_bl)) pss_nil) (pss_cons (ps_asg (pv 0) (pg_tup rfl (pgs_cons (pg_name (i := 1) sc__is_meeting.nd rfl (by first | exact Or.inl rfl | exact Or.inr rfl)) (pgs_cons (pg_name (i := 2) sc__is_meeting.nd rfl (by first | exact Or.inl rfl | exact Or.inr rfl)) (pgs_cons (pg_name (i := 3) sc__is_meeting.nd rfl (by first | exact Or.inl rfl | exact Or.inr rfl)) pgs_nil))))) (pss_one (ps_ret (pe_and (pe_callR (ok_is_number T) (hr.mono (by decide)) rfl T.m_is_number T.k_is_number pass0 (pa_cons (pv 1) pa_nil)) (pe_and (pe_callR (ok_is_number T) (hr.mono (by decide)) rfl T.m_is_number T.k_is_number pass0 (pa_cons (pv 2) pa_nil)) (pe_and (pe_callB call_isi (by rfl) T.b_isinstance (by decide +kernel) (pa_cons (pv 3) (pa_cons (pe_bltn (v := .ty "bool") rfl T.b_bool (by decide +kernel) rfl) pa_nil))) (pe_one (pe_cmpR op_lt (pv 1) (pv 2) (nomark _)))))))))), ?_⟩
    refine ⟨_, rfl, _, .ty "tuple", _, _, true, rfl, .ty _, .base (.tup ha), kit_ty (by decide +kernel), true, rfl, ?_⟩
    refine ⟨_, rfl, a, _, rfl, .inr (.inl (.inl ha)), rfl, false, rfl, ?_⟩
    refine ⟨_, rfl, a, _, rfl, .inl (.inl ha), rfl, _, _, rfl, _, _, rfl, _, _, rfl, rfl, ?_⟩
    have e0 : mtOk (b, e, p) = (decide (0 ≤ b) && decide (0 ≤ e) && decide (b < e)) := rfl
    rw [e0] at q
    refine ⟨_, rfl, .inl ⟨b, rfl, ?_⟩⟩
    refine ⟨_, rfl, ?_⟩
    by_cases hb : 0 ≤ b
    · rw [decide_eq_true hb] at q ⊢
      refine iteT ⟨_, rfl, .inl ⟨e, rfl, ?_⟩⟩
      refine ⟨_, rfl, ?_⟩
      by_cases he : 0 ≤ e
      · rw [decide_eq_true he] at q ⊢
        refine iteT ⟨_, rfl, _, .ty "bool", _, _, true, rfl, .ty _, .base (.bl p), kit_ty (by decide +kernel), ?_⟩
        refine ⟨_, rfl, iteT ?_⟩
        exact ⟨_, rfl, _, rfl, b, e, rfl, rfl, q⟩
      · rw [decide_eq_false he] at q ⊢
        exact iteF q
    · rw [decide_eq_false hb] at q ⊢
      exact iteF q
def sp_is_sequence (K : PySem.W.Frag) : Sp := fun vs H Q _ => ∃ x t b, vs = [x] ∧ (∀ H', Same H H' → TyX K H' x t) ∧ PySem.W.kitAny K t [.type "list", .type "tuple"] = some b ∧ ∀ H', Same H H' → Q (.bl b) H'
theorem ok_is_sequence (T : Txt K mg d) : FnR P w K mg base CX0 1 d.f_is_sequence (sp_is_sequence K) := by
  refine mkR T.F_is_sequence sc_is_sequence (fun vs H Q E h => ?_) (fun _ _ _ _ _ _ us hl => match us, hl with | [_], _ => rfl) (fun cdv A outer s H vs Q E hr h => ?_)
  · obtain ⟨_, _, _, rfl, _⟩ := h
    rfl
  · obtain ⟨x, t, b, rfl, ty, k, q⟩ := h
    refine ⟨_, (pss_one (ps_ret (pe_callB call_isiT (by rfl) T.b_isinstance (by decide +kernel) (pa_cons (pv 0) (pa_cons (pe_tup (pa_cons (pe_bltn (v := .ty "list") rfl T.b_list (by decide +kernel) rfl) (pa_cons (pe_bltn (v := .ty "tuple") rfl T.b_tuple (by decide +kernel) rfl) pa_nil))) pa_nil))))), ?_⟩
    refine ⟨_, rfl, (by show 2 ≤ sizeLine; decide), fun p np => ?_⟩
    have s1 : Same H (upd H p (.tup [.ty "list", .ty "tuple"])) := Same.new np
    exact ⟨x, p, [.ty "list", .ty "tuple"], t, _, b, rfl, upd_same, .cons (.ty _) (.cons (.ty _) .nil), ty _ s1, k, q _ s1⟩
theorem any_list : PySem.W.kitAny K (.type "list") [.type "list", .type "tuple"] = some true := kitAny_cons (b := true) (kit_ty (by decide +kernel)) (fun h => nomatch h) fun _ => rfl
theorem any_tuple : PySem.W.kitAny K (.type "tuple") [.type "list", .type "tuple"] = some true := kitAny_cons (b := false) (kit_ty (by decide +kernel)) (fun _ => kitAny_cons (b := true) (kit_ty (by decide +kernel)) (fun h => nomatch h) fun _ => rfl) fun h => nomatch h
/-- a list or tuple of meetings -/
def MtsV (K : PySem.W.Frag) (H : Hp) (v : V) (ms : List Mt) : Prop := ∃ a vs, v = .ref a ∧ (SqL K H a vs ∨ SqT K H a vs) ∧ IsMts H vs ms
theorem MtsV.mono {H H' : Hp} {v : V} {ms : List Mt} (e : Same H H') (x : MtsV K H v ms) : MtsV K H' v ms := by
  obtain ⟨a, vs, e1, e2, e3⟩ := x
  exact ⟨a, vs, e1, e2.imp e.seq (Same.tup e), e3.mono e⟩
theorem ty_sql {H : Hp} {a : Addr} {vs : List V} (h : SqL K H a vs) : TyX K H (.ref a) (.type "list") := by
  rcases h with (h | ⟨o, h⟩) | ⟨o, _, _, h, c, _⟩
  · exact .base (.lst h)
  · exact .base (.frz h)
  · exact .kList h c
theorem ty_sqt {H : Hp} {a : Addr} {vs : List V} (h : SqT K H a vs) : TyX K H (.ref a) (.type "tuple") := by
  rcases h with (h | ⟨o, h⟩) | ⟨o, _, _, h, c, _⟩
  · exact .base (.tup h)
  · exact .fTuple h
  · exact .kTuple h c
def sp_are_meetings (K : PySem.W.Frag) : Sp := fun vs H Q _ => ∃ (v : V) (n : Int) (ms : List Mt), vs = [v, .int n] ∧ MtsV K H v ms ∧ ∀ H', Same H H' → Q (.bl (good n 0 ms)) H'
/-- the end of the meeting ahead of the i-th -/
def aheadOf (ms : List Mt) (i : Nat) : Int := match i with
  | 0 => 0
  | i + 1 => match ms[i]? with | some m => m.2.1 | none => 0
theorem ok__are_meetings (T : Txt K mg d) : FnR P w K mg base CX0 4 d.f__are_meetings (sp_are_meetings K) := by
  refine mkR T.F__are_meetings sc__are_meetings (fun vs H Q E h => ?_) (fun _ _ _ _ _ _ us hl => match us, hl with | [_, _], _ => rfl) (fun cdv A outer s H vs Q E hr h => ?_)
  · obtain ⟨_, _, _, rfl, _⟩ := h
    rfl
  · obtain ⟨v, n, ms, rfl, ⟨a, vs, rfl, hv, hm⟩, q⟩ := h
    rcases hv with hv | hv
    · refine ⟨_, (pss_cons (ps_if (pt_not (pt_val (pe_callR (ok_is_sequence T) (hr.mono (by decide)) rfl T.m_is_sequence T.k_is_sequence pass0 (pa_cons (pv 0) pa_nil)))) (pss_one (ps_ret pe_bl)) pss_nil) (pss_cons (ps_set (i := 2) sc__are_meetings.nd rfl (by first | exact Or.inl rfl | exact Or.inr rfl) pe_int) (pss_cons (ps_for PassesOwn.never rfl (pi_list (pv 0)) (pg_name (i := 3) sc__are_meetings.nd rfl (by first | exact Or.inl rfl | exact Or.inr rfl)) (pss_cons (ps_if (PW.pt (pw_or (pt_not (pt_val (pe_callR (ok__is_meeting T) (hr.mono (by decide)) rfl T.m__is_meeting T.k__is_meeting pass0 (pa_cons (pv 3) pa_nil)))) (pw_or (pt_cmpR op_lt (pe_ix ix_tup (pv 3) pe_int (fun _ _ => rfl)) (pv 2) (nomark _)) (pw_or1 (pt_cmpR op_gt (pe_ix ix_tup (pv 3) pe_int (fun _ _ => rfl)) (pv 1) (nomark _)))))) (pss_one (ps_ret pe_bl)) pss_nil) (pss_one (ps_set (i := 2) sc__are_meetings.nd rfl (by first | exact Or.inl rfl | exact Or.inr rfl) (pe_ix ix_tup (pv 3) pe_int (fun _ _ => rfl)))))) (pss_one (ps_ret pe_bl))))), ?_⟩
      refine ⟨_, rfl, _, _, true, rfl, fun H' e => ty_sql (e.seq hv), any_list, fun H1 s1 => ?_⟩
      refine ⟨_, rfl, iteF ?_⟩
      have Pv0 : Same H H1 ∧ good n (aheadOf ms 0) (ms.drop 0) = good n 0 ms := ⟨s1, rfl⟩
      refine ⟨_, rfl, a, rfl, ⟨vs, s1.seq hv⟩, for_list (K := K) (a := a) (xs := vs) (fun i σ H2 => ∃ x, σ = [some (.ref a), some (.int n), some (.int (aheadOf ms i)), x] ∧ Same H H2 ∧ good n (aheadOf ms i) (ms.drop i) = good n 0 ms)
        ⟨none, rfl, Pv0⟩ (fun i σ H2 _ ⟨_, _, s2, _⟩ => s2.seq hv) ?_ ?_⟩
      · rintro i x σ H2 hx ⟨x0, rfl, s2, g⟩
        obtain ⟨m, hm1, hm2⟩ := hm.get hx
        have hil : i < ms.length := (List.getElem?_eq_some_iff.mp hm1).1
        have hd : ms.drop i = m :: ms.drop (i + 1) := by
          rw [List.drop_eq_getElem_cons hil]
          rw [List.getElem?_eq_getElem hil] at hm1
          rw [Option.some.inj hm1]
        rw [hd] at g
        have hah : aheadOf ms (i + 1) = m.2.1 := by simp [aheadOf, hm1]
        have m2 := hm2.mono s2
        obtain ⟨b, rfl, hb⟩ := id m2
        refine ⟨_, rfl, _, m, rfl, m2, ?_⟩
        refine ⟨_, rfl, ?_⟩
        have eg : good n (aheadOf ms i) (m :: ms.drop (i + 1)) = (mtOk m && !decide (m.1 < aheadOf ms i) && !decide (n < m.2.1) && good n m.2.1 (ms.drop (i + 1))) := rfl
        rw [eg] at g
        cases ho : mtOk m with
        | false =>
          refine iteT (iteT ?_)
          rw [ho] at g
          have q2 := q H2 s2
          rw [← g] at q2
          exact q2
        | true =>
          refine iteF ?_
          rw [ho] at g
          refine ⟨_, rfl, b, _, _, _, rfl, rfl, .inl (.inl hb), atI_nat (j := 0) rfl, _, rfl, _, _, rfl, rfl, _, rfl, ?_⟩
          by_cases c1 : m.1 < aheadOf ms i
          · rw [decide_eq_true c1] at g ⊢
            refine iteT (iteT ?_)
            have q2 := q H2 s2
            rw [← g] at q2
            exact q2
          · rw [decide_eq_false c1] at g ⊢
            refine iteF ?_
            refine ⟨_, rfl, b, _, _, _, rfl, rfl, .inl (.inl hb), atI_nat (j := 1) rfl, _, rfl, _, _, rfl, rfl, _, rfl, ?_⟩
            by_cases c2 : n < m.2.1
            · rw [decide_eq_true c2] at g ⊢
              refine iteT ?_
              have q2 := q H2 s2
              rw [← g] at q2
              exact q2
            · rw [decide_eq_false c2] at g ⊢
              refine iteF ?_
              refine ⟨_, rfl, b, _, _, _, rfl, rfl, .inl (.inl hb), atI_nat (j := 1) rfl, ?_⟩
              refine ⟨some (.ref b), ?_, s2, ?_⟩
              · rw [hah]
                rfl
              · rw [hah]
                exact g
      · rintro σ H2 ⟨x, rfl, s2, g⟩
        have q2 := q H2 s2
        rw [hm.1, List.drop_length] at g
        rw [← g] at q2
        exact q2
    · refine ⟨_, (pss_cons (ps_if (pt_not (pt_val (pe_callR (ok_is_sequence T) (hr.mono (by decide)) rfl T.m_is_sequence T.k_is_sequence pass0 (pa_cons (pv 0) pa_nil)))) (pss_one (ps_ret pe_bl)) pss_nil) (pss_cons (ps_set (i := 2) sc__are_meetings.nd rfl (by first | exact Or.inl rfl | exact Or.inr rfl) pe_int) (pss_cons (ps_for PassesOwn.never rfl (pi_tup (pv 0)) (pg_name (i := 3) sc__are_meetings.nd rfl (by first | exact Or.inl rfl | exact Or.inr rfl)) (pss_cons (ps_if (PW.pt (pw_or (pt_not (pt_val (pe_callR (ok__is_meeting T) (hr.mono (by decide)) rfl T.m__is_meeting T.k__is_meeting pass0 (pa_cons (pv 3) pa_nil)))) (pw_or (pt_cmpR op_lt (pe_ix ix_tup (pv 3) pe_int (fun _ _ => rfl)) (pv 2) (nomark _)) (pw_or1 (pt_cmpR op_gt (pe_ix ix_tup (pv 3) pe_int (fun _ _ => rfl)) (pv 1) (nomark _)))))) (pss_one (ps_ret pe_bl)) pss_nil) (pss_one (ps_set (i := 2) sc__are_meetings.nd rfl (by first | exact Or.inl rfl | exact Or.inr rfl) (pe_ix ix_tup (pv 3) pe_int (fun _ _ => rfl)))))) (pss_one (ps_ret pe_bl))))), ?_⟩
      refine ⟨_, rfl, _, _, true, rfl, fun H' e => ty_sqt (Same.tup e hv), any_tuple, fun H1 s1 => ?_⟩
      refine ⟨_, rfl, iteF ?_⟩
      have Pv0 : Same H H1 ∧ good n (aheadOf ms 0) (ms.drop 0) = good n 0 ms := ⟨s1, rfl⟩
      refine ⟨_, rfl, a, rfl, ⟨vs, Same.tup s1 hv⟩, for_tup (K := K) (a := a) (xs := vs) (fun i σ H2 => ∃ x, σ = [some (.ref a), some (.int n), some (.int (aheadOf ms i)), x] ∧ Same H H2 ∧ good n (aheadOf ms i) (ms.drop i) = good n 0 ms)
        ⟨none, rfl, Pv0⟩ (fun i σ H2 _ ⟨_, _, s2, _⟩ => Same.tup s2 hv) ?_ ?_⟩
      · rintro i x σ H2 hx ⟨x0, rfl, s2, g⟩
        obtain ⟨m, hm1, hm2⟩ := hm.get hx
        have hil : i < ms.length := (List.getElem?_eq_some_iff.mp hm1).1
        have hd : ms.drop i = m :: ms.drop (i + 1) := by
          rw [List.drop_eq_getElem_cons hil]
          rw [List.getElem?_eq_getElem hil] at hm1
          rw [Option.some.inj hm1]
        rw [hd] at g
        have hah : aheadOf ms (i + 1) = m.2.1 := by simp [aheadOf, hm1]
        have m2 := hm2.mono s2
        obtain ⟨b, rfl, hb⟩ := id m2
        refine ⟨_, rfl, _, m, rfl, m2, ?_⟩
        refine ⟨_, rfl, ?_⟩
        have eg : good n (aheadOf ms i) (m :: ms.drop (i + 1)) = (mtOk m && !decide (m.1 < aheadOf ms i) && !decide (n < m.2.1) && good n m.2.1 (ms.drop (i + 1))) := rfl
        rw [eg] at g
        cases ho : mtOk m with
        | false =>
          refine iteT (iteT ?_)
          rw [ho] at g
          have q2 := q H2 s2
          rw [← g] at q2
          exact q2
        | true =>
          refine iteF ?_
          rw [ho] at g
          refine ⟨_, rfl, b, _, _, _, rfl, rfl, .inl (.inl hb), atI_nat (j := 0) rfl, _, rfl, _, _, rfl, rfl, _, rfl, ?_⟩
          by_cases c1 : m.1 < aheadOf ms i
          · rw [decide_eq_true c1] at g ⊢
            refine iteT (iteT ?_)
            have q2 := q H2 s2
            rw [← g] at q2
            exact q2
          · rw [decide_eq_false c1] at g ⊢
            refine iteF ?_
            refine ⟨_, rfl, b, _, _, _, rfl, rfl, .inl (.inl hb), atI_nat (j := 1) rfl, _, rfl, _, _, rfl, rfl, _, rfl, ?_⟩
            by_cases c2 : n < m.2.1
            · rw [decide_eq_true c2] at g ⊢
              refine iteT ?_
              have q2 := q H2 s2
              rw [← g] at q2
              exact q2
            · rw [decide_eq_false c2] at g ⊢
              refine iteF ?_
              refine ⟨_, rfl, b, _, _, _, rfl, rfl, .inl (.inl hb), atI_nat (j := 1) rfl, ?_⟩
              refine ⟨some (.ref b), ?_, s2, ?_⟩
              · rw [hah]
                rfl
              · rw [hah]
                exact g
      · rintro σ H2 ⟨x, rfl, s2, g⟩
        have q2 := q H2 s2
        rw [hm.1, List.drop_length] at g
        rw [← g] at q2
        exact q2
end
end DD

set_option Elab.async false
set_option linter.all false
set_option maxRecDepth 100000
set_option maxHeartbeats 2000000
namespace DD
open PySem PySem.Spec PyProof.Rows L2 StX
section
variable {P : Program} {w : World} {K : PySem.W.Frag} {mg : Str → Option Value} {base : Heap} {d : Ad}
/-! ### days -/
def flD (n : Int) (t : V) : List (Str × V) := [("length", .int n), ("meetings", t)]
theorem fd2 {a b : V} : putF "meetings" b ([("length", a)] : List (Str × V)) = ([("length", a), ("meetings", b)] : List (Str × V)) := putF_new (ks := ["length"]) rfl (by decide +kernel)
theorem lkD_length {n : Int} {t : V} : (flD n t).lookup ("length" : Str) = some (V.int n) := look_at rfl (by decide +kernel : (["length", "meetings"] : List Str).findIdx? (· == ("length" : Str)) = some 0) rfl
theorem lkD_meetings {n : Int} {t : V} : (flD n t).lookup ("meetings" : Str) = some t := look_at rfl (by decide +kernel : (["length", "meetings"] : List Str).findIdx? (· == ("meetings" : Str)) = some 1) rfl
def IsDay (d : Ad) (K : PySem.W.Frag) (H : Hp) (v : V) (n : Int) (ms : List Mt) : Prop := ∃ a dx t vs, v = .ref a ∧ H a = some (.ins d.C_Day dx (flD n (.ref t))) ∧ SqT K H t vs ∧ IsMts H vs ms
theorem IsDay.mono {H H' : Hp} {v : V} {n : Int} {ms : List Mt} (e : Same H H') (x : IsDay d K H v n ms) : IsDay d K H' v n ms := by
  obtain ⟨a, dx, t, vs, e1, e2, e3, e4⟩ := x
  exact ⟨a, dx, t, vs, e1, e _ _ e2, Same.tup e e3, e4.mono e⟩
/-- a day's length and meetings that are right -/
structure DayOk (n : Int) (ms : List Mt) : Prop where
  lo : 1 ≤ n
  hi : n ≤ 1000
  g : good n 0 ms = true
def sp_Day_init (d : Ad) (K : PySem.W.Frag) : Sp := fun vs H Q _ => ∃ (x dx : Addr) (n : Int) (v : V) (ms : List Mt), vs = [.ref x, .int n, v] ∧ H x = some (.ins d.C_Day dx []) ∧ MtsV K H v ms ∧ DayOk n ms ∧
  ∀ H' t ws, (∀ b u, H b = some u → b ≠ x → H' b = some u) → H' x = some (.ins d.C_Day dx (flD n (.ref t))) → SqT K H' t ws → IsMts H' ws ms → Q .non H'
/-- a sequence is not the instance that changes -/
theorem off_l {H1 H2 : Hp} {x a C dx : Addr} {fs : List (Str × V)} {ws : List V} (h : SqL K H1 a ws) (hx : H1 x = some (.ins C dx fs)) (k : ∀ b u, H1 b = some u → b ≠ x → H2 b = some u) : SqL K H2 a ws := by
  rcases h with (h | ⟨o, h⟩) | h
  · exact .inl (.inl (k _ _ h (ne_of h hx (by intro z; cases z))))
  · exact .inl (.inr ⟨o, k _ _ h (ne_of h hx (by intro z; cases z))⟩)
  · exact .inr h
theorem off_t {H1 H2 : Hp} {x a C dx : Addr} {fs : List (Str × V)} {ws : List V} (h : SqT K H1 a ws) (hx : H1 x = some (.ins C dx fs)) (k : ∀ b u, H1 b = some u → b ≠ x → H2 b = some u) : SqT K H2 a ws := by
  rcases h with (h | ⟨o, h⟩) | h
  · exact .inl (.inl (k _ _ h (ne_of h hx (by intro z; cases z))))
  · exact .inl (.inr ⟨o, k _ _ h (ne_of h hx (by intro z; cases z))⟩)
  · exact .inr h
theorem body_Day_init (T : Txt K mg d) (cdv : Value) (A : Around) (outer : List Env) (s : Shared) (H : Hp) (vs : List V) (Q : VK) (E : XK) (hr : Room 4 (A.deeper (envOfC "Day.__init__" (defScope s_Day___init__) s.heap.objs.size d.f_Day___init__ cdv))) (h : sp_Day_init d K vs H Q E) :
    ∃ t, PSs (cxOf CX0 P w K mg base ["self", "length", "meetings"] "Day.__init__" (defScope s_Day___init__) d.f_Day___init__ cdv A outer s H E).nox (defBody s_Day___init__) t ∧ t { nx := fun _ H' => Q .non H', rt := Q } (start ["self", "length", "meetings"] vs) H := by
  obtain ⟨x, dx, n, v, ms, rfl, hx, hv, O, q⟩ := h
  refine ⟨_, (pss_cons (ps_if (pt_not (pt_val (pe_callR (ok_is_positive T) (hr.mono (by decide)) rfl T.m_is_positive T.k_is_positive pass0 (pa_cons (pv 1) pa_nil)))) (pss_one ps_dead) pss_nil) (pss_cons (ps_if (pt_not (pt_val (pe_callR (ok__are_meetings T) (hr.mono (by decide)) rfl T.m__are_meetings T.k__are_meetings pass0 (pa_cons (pv 2) (pa_cons (pv 1) pa_nil))))) (pss_one ps_dead) pss_nil) (pss_cons (ps_fld (pv 0) (pv 1) rfl) (pss_one (ps_fld (pv 0) (pe_callTy call_tuple_of rfl T.b_tuple (by decide +kernel) (pa_cons (pv 2) pa_nil)) rfl))))), ?_⟩
  refine ⟨_, rfl, .inl ⟨n, rfl, ?_⟩⟩
  refine ⟨_, rfl, ?_⟩
  rw [decide_eq_true O.lo]
  refine iteF ⟨_, rfl, _, rfl, v, n, ms, rfl, hv, fun H1 s1 => ?_⟩
  refine ⟨_, rfl, ?_⟩
  rw [O.g]
  refine iteF ?_
  refine ⟨_, rfl, _, rfl, x, _, dx, _, rfl, s1 _ _ hx, T.cl_Day, T.na_Day_length, (by show 0 < 1000; decide), ?_⟩
  obtain ⟨a, ws, rfl, hw, hm⟩ := hv.mono s1
  have hx1 := s1 _ _ hx
  have mts : ∀ {H2 : Hp}, (∀ b u, H1 b = some u → b ≠ x → H2 b = some u) → IsMts H2 ws ms := fun {H2} k => by
    refine ⟨hm.1, fun i v m h1 h2 => ?_⟩
    obtain ⟨p, e1, e2⟩ := hm.2 i v m h1 h2
    exact ⟨p, e1, k p _ e2 (ne_of e2 hx1 (by intro z; cases z))⟩
  rcases hw with hw | hw
  · refine ⟨_, rfl, a, ws, rfl, .inl ⟨off_l hw hx1 fun b u e hb => by rw [upd_ne hb]; exact e, fun l nl => ?_⟩⟩
    have hlx : x ≠ l := ne_of_none (H := upd H1 x (.ins d.C_Day dx (putF "length" (V.int n) []))) upd_same nl
    have k2 : ∀ b u, H1 b = some u → b ≠ x → b ≠ l := fun b u e hb => ne_of_none (H := upd H1 x (.ins d.C_Day dx (putF "length" (V.int n) []))) (by rw [upd_ne hb]; exact e) nl
    refine ⟨_, rfl, x, _, dx, _, rfl, (by rw [upd_ne hlx]; exact upd_same), T.cl_Day, T.na_Day_meetings, (by show 1 < 1000; decide), ?_⟩
    rw [show putF "length" (V.int n) [] = ([("length", V.int n)] : List (Str × V)) from rfl, fd2]
    have kp : ∀ (o : HO) (b : Addr) (u : HO), H1 b = some u → b ≠ x → upd (upd (upd H1 x (.ins d.C_Day dx (putF "length" (V.int n) []))) l (.tup ws)) x o b = some u := fun o b u e hb => by
      rw [upd_ne hb, upd_ne (k2 b u e hb), upd_ne hb]
      exact e
    refine q _ l ws (fun b u e hb => kp _ b u (s1 _ _ e) hb) upd_same (.inl (.inl ?_)) (mts (kp _))
    rw [upd_ne (Ne.symm hlx)]
    exact upd_same
  · refine ⟨_, rfl, a, ws, rfl, .inr ⟨off_t hw hx1 fun b u e hb => by rw [upd_ne hb]; exact e, ?_⟩⟩
    refine ⟨_, rfl, x, _, dx, _, rfl, upd_same, T.cl_Day, T.na_Day_meetings, (by show 1 < 1000; decide), ?_⟩
    rw [show putF "length" (V.int n) [] = ([("length", V.int n)] : List (Str × V)) from rfl, fd2]
    have kp : ∀ (o1 o : HO) (b : Addr) (u : HO), H1 b = some u → b ≠ x → upd (upd H1 x o1) x o b = some u := fun o1 o b u e hb => by
      rw [upd_ne hb, upd_ne hb]
      exact e
    exact q _ a ws (fun b u e hb => kp _ _ b u (s1 _ _ e) hb) upd_same (off_t hw hx1 (kp _ _)) (mts (kp _ _))
theorem ok_Day_init2 (T : Txt K mg d) : FnR P w K mg base CX0 5 d.f_Day___init__ (sp_Day_init d K) :=
  mkRD 3 1 T.F_Day___init__ (by simp [dv_Day]) rfl sc_Day___init__ (fun vs H Q E h => by obtain ⟨_, _, _, _, _, rfl, _⟩ := h; rfl)
    (fun _ _ _ _ _ _ _ us its h1 h2 => match us, its, h1, h2 with | [_, _, _], [_], _, _ => ⟨_, rfl, rfl⟩)
    (fun vs H Q E h => by rw [show (dv_Day d).drop 1 = [] from rfl, List.append_nil]; exact h)
    (fun cdv A outer s H vs Q E hr h => let ⟨t, h1, h2⟩ := body_Day_init T cdv A outer s H vs Q E hr h; ⟨t, h1.nox, h2⟩)
theorem made_day {H1 : Hp} {n : Int} {v : V} {ms : List Mt} {Q : VK} {E : XK} (hv : MtsV K H1 v ms) (O : DayOk n ms) (q : ∀ v H', Same H1 H' → IsDay d K H' v n ms → Q v H') :
    ∀ x dx, H1 x = none → H1 dx = none → dx ≠ x → sp_Day_init d K [.ref x, .int n, v] (upd (upd H1 dx (.own x)) x (.ins d.C_Day dx [])) (fun v H2 => v = .non ∧ Q (.ref x) H2) E := by
  intro x dx nx ndx ne
  have s0 : Same H1 (upd (upd H1 dx (.own x)) x (.ins d.C_Day dx [])) := Same.new' (Same.new ndx) (by rw [upd_ne (Ne.symm ne)]; exact nx)
  refine ⟨x, dx, n, v, ms, rfl, upd_same, hv.mono s0, O, fun H' t ws k1 k2 k3 k4 => ⟨rfl, ?_⟩⟩
  have s1 : Same H1 H' := fun b u e => k1 b u (s0 b u e) (ne_of_none e nx)
  exact q _ H' s1 ⟨x, dx, t, ws, rfl, k2, k3, k4⟩
theorem made_day' {H1 : Hp} {n : Int} {v : V} {ms : List Mt} {W : VK} {E : XK} {x dx : Addr} (hv : MtsV K H1 v ms) (O : DayOk n ms) (nx : H1 x = none) (ndx : H1 dx = none) (ne : dx ≠ x) (q : ∀ H', Same H1 H' → IsDay d K H' (.ref x) n ms → W .non H') :
    sp_Day_init d K [.ref x, .int n, v] (upd (upd H1 dx (.own x)) x (.ins d.C_Day dx [])) W E := by
  have s0 : Same H1 (upd (upd H1 dx (.own x)) x (.ins d.C_Day dx [])) := Same.new' (Same.new ndx) (by rw [upd_ne (Ne.symm ne)]; exact nx)
  refine ⟨x, dx, n, v, ms, rfl, upd_same, hv.mono s0, O, fun H' t ws k1 k2 k3 k4 => ?_⟩
  have s1 : Same H1 H' := fun b u e => k1 b u (s0 b u e) (ne_of_none e nx)
  exact q H' s1 ⟨x, dx, t, ws, rfl, k2, k3, k4⟩
theorem lkD_no {m : Str} {n : Int} {t : V} (h : (["length", "meetings"] : List Str).contains m = false) : (flD n t).lookup m = none := look_no rfl h
theorem take_snoc {α : Type} {xs : List α} {i : Nat} {x : α} (h : xs[i]? = some x) : xs.take (i + 1) = xs.take i ++ [x] := by
  obtain ⟨hi, e⟩ := List.getElem?_eq_some_iff.mp h
  rw [List.take_add_one, h]
  rfl
end
end DD

set_option Elab.async false
set_option linter.all false
set_option maxRecDepth 100000
set_option maxHeartbeats 2000000
namespace DD
open PySem PySem.Spec PyProof.Rows L2 StX

section
variable {P : Program} {w : World} {K : PySem.W.Frag} {mg : Str → Option Value} {base : Heap} {d : Ad}
/-! ### rules -/
/-- the hours of a rule -/
def IsHours (H : Hp) (h : V) (o : Option (Int × Int)) : Prop := (h = .non ∧ o = none) ∨ ∃ a i j, h = .ref a ∧ H a = some (.tup [.int i, .int j]) ∧ o = some (i, j)
theorem IsHours.mono {H H' : Hp} {h : V} {o : Option (Int × Int)} (e : Same H H') (x : IsHours H h o) : IsHours H' h o := by
  rcases x with x | ⟨a, i, j, e1, e2, e3⟩
  · exact .inl x
  · exact .inr ⟨a, i, j, e1, e _ _ e2, e3⟩
def hoursOk : Option (Int × Int) → Bool
  | none => true
  | some (i, j) => decide (0 ≤ i) && decide (0 ≤ j) && decide (i < j)
def sp_are_hours (K : PySem.W.Frag) : Sp := fun vs H Q _ => ∃ h o, vs = [h] ∧ IsHours H h o ∧ Q (.bl (hoursOk o)) H
theorem ok__are_hours (T : Txt K mg d) : FnR P w K mg base CX0 3 d.f__are_hours (sp_are_hours K) := by
  refine mkR T.F__are_hours sc__are_hours (fun vs H Q E h => ?_) (fun _ _ _ _ _ _ us hl => match us, hl with | [_], _ => rfl) (fun cdv A outer s H vs Q E hr h => ?_)
  · obtain ⟨_, _, rfl, _⟩ := h
    rfl
  · obtain ⟨h, o, rfl, hh, q⟩ := h
    refine ⟨_, (pss_cons (ps_if (pt_cmp (pc_isN (pv 0))) (pss_one (ps_ret pe_bl)) pss_nil) (pss_cons (ps_if (PW.pt (pw_or (pt_not (pt_val (pe_callB call_isi (by rfl) T.b_isinstance (by decide +kernel) (pa_cons (pv 0) (pa_cons (pe_bltn (v := .ty "tuple") rfl T.b_tuple (by decide +kernel) rfl) pa_nil))))) (pw_or1 (pt_cmpR op_ne (pe_callB call_len_seq (by rfl) T.b_len PySem.boot_len (pa_cons (pv 0) pa_nil)) pe_int (nomark _))))) (pss_one (ps_ret pe_bl)) pss_nil) (pss_cons (ps_asg (pv 0) (pg_tup rfl (pgs_cons (pg_name (i := 1) sc__are_hours.nd rfl (by first | exact Or.inl rfl | exact Or.inr rfl)) (pgs_cons (pg_name (i := 2) sc__are_hours.nd rfl (by first | exact Or.inl rfl | exact Or.inr rfl)) pgs_nil)))) (pss_one (ps_ret (pe_and (pe_callR (ok_is_number T) (hr.mono (by decide)) rfl T.m_is_number T.k_is_number pass0 (pa_cons (pv 1) pa_nil)) (pe_and (pe_callR (ok_is_number T) (hr.mono (by decide)) rfl T.m_is_number T.k_is_number pass0 (pa_cons (pv 2) pa_nil)) (pe_one (pe_cmpR op_lt (pv 1) (pv 2) (nomark _)))))))))), ?_⟩
    rcases hh with ⟨rfl, rfl⟩ | ⟨a, i, j, rfl, ha, rfl⟩
    · refine ⟨_, rfl, _, rfl, ?_⟩
      exact q
    · refine ⟨_, rfl, _, rfl, ?_⟩
      -- not isinstance(value, tuple) or len(value) != 2
      refine ⟨_, rfl, _, .ty "tuple", _, _, true, rfl, .ty _, .base (.tup ha), kit_ty (by decide +kernel), true, rfl, ?_⟩
      refine ⟨_, rfl, a, _, rfl, .inr (.inl (.inl ha)), rfl, false, rfl, ?_⟩
      -- start, till = value
      refine ⟨_, rfl, a, _, rfl, .inl (.inl ha), rfl, _, _, rfl, _, _, rfl, rfl, ?_⟩
      refine ⟨_, rfl, .inl ⟨i, rfl, ?_⟩⟩
      refine ⟨_, rfl, ?_⟩
      by_cases hi : 0 ≤ i
      · rw [decide_eq_true hi]
        refine iteT ⟨_, rfl, .inl ⟨j, rfl, ?_⟩⟩
        refine ⟨_, rfl, ?_⟩
        by_cases hj : 0 ≤ j
        · rw [decide_eq_true hj]
          refine iteT ⟨_, rfl, _, rfl, i, j, rfl, rfl, ?_⟩
          have e : hoursOk (some (i, j)) = decide (i < j) := by simp [hoursOk, hi, hj]
          rw [e] at q
          exact q
        · rw [decide_eq_false hj]
          refine iteF ?_
          have e : hoursOk (some (i, j)) = false := by simp [hoursOk, hj]
          rw [e] at q
          exact q
      · rw [decide_eq_false hi]
        refine iteF ?_
        have e : hoursOk (some (i, j)) = false := by simp [hoursOk, hi]
        rw [e] at q
        exact q
/-- the arguments of a rule that are all right -/
structure RuleOk (s g l : Int) (p : Str) (o : Option (Int × Int)) : Prop where
  s : 1 ≤ s
  g : 0 ≤ g
  l : 0 ≤ l
  p : inV (.str p) v_PRIVATE_WORDS = true
  h : hoursOk o = true
def sp_wrong (K : PySem.W.Frag) : Sp := fun vs H Q _ => ∃ (s g l : Int) (p : Str) (h : V) (o : Option (Int × Int)), vs = [.int s, .int g, .int l, .str p, h] ∧ IsHours H h o ∧ RuleOk s g l p o ∧ Q .non H
theorem ok__wrong_argument (T : Txt K mg d) : FnR P w K mg base CX0 4 d.f__wrong_argument (sp_wrong K) := by
  refine mkR T.F__wrong_argument sc__wrong_argument (fun vs H Q E h => ?_) (fun _ _ _ _ _ _ us hl => match us, hl with | [_, _, _, _, _], _ => rfl) (fun cdv A outer s H vs Q E hr h => ?_)
  · obtain ⟨_, _, _, _, _, _, rfl, _⟩ := h
    rfl
  · obtain ⟨st, g, l, p, h, o, rfl, hh, R, q⟩ := h
    refine ⟨_, (pss_cons (ps_if (pt_not (pt_val (pe_callR (ok_is_positive T) (hr.mono (by decide)) rfl T.m_is_positive T.k_is_positive pass0 (pa_cons (pv 0) pa_nil)))) (pss_one (ps_ret pe_str)) pss_nil) (pss_cons (ps_if (pt_not (pt_val (pe_callR (ok_is_number T) (hr.mono (by decide)) rfl T.m_is_number T.k_is_number pass0 (pa_cons (pv 1) pa_nil)))) (pss_one (ps_ret pe_str)) pss_nil) (pss_cons (ps_if (pt_not (pt_val (pe_callR (ok_is_number T) (hr.mono (by decide)) rfl T.m_is_number T.k_is_number pass0 (pa_cons (pv 2) pa_nil)))) (pss_one (ps_ret pe_str)) pss_nil) (pss_cons (ps_if (pt_cmpR op_notIn_seq (pv 3) (pe_glob (v := .ref d.c_PRIVATE_WORDS) rfl T.m_PRIVATE_WORDS rfl) rfl) (pss_one (ps_ret pe_str)) pss_nil) (pss_cons (ps_if (pt_not (pt_val (pe_callR (ok__are_hours T) (hr.mono (by decide)) rfl T.m__are_hours T.k__are_hours pass0 (pa_cons (pv 4) pa_nil)))) (pss_one (ps_ret pe_str)) pss_nil) (pss_one (ps_ret pe_non))))))), ?_⟩
    refine ⟨_, rfl, .inl ⟨st, rfl, ?_⟩⟩
    refine ⟨_, rfl, ?_⟩
    rw [decide_eq_true R.s]
    refine iteF ⟨_, rfl, .inl ⟨g, rfl, ?_⟩⟩
    refine ⟨_, rfl, ?_⟩
    rw [decide_eq_true R.g]
    refine iteF ⟨_, rfl, .inl ⟨l, rfl, ?_⟩⟩
    refine ⟨_, rfl, ?_⟩
    rw [decide_eq_true R.l]
    refine iteF ⟨_, rfl, _, _, rfl, .inr (T.w_PRIVATE_WORDS _), rfl, rfl, _, rfl, ?_⟩
    show if (if true = true then !inV (V.str p) v_PRIVATE_WORDS else inV (V.str p) v_PRIVATE_WORDS) = true then _ else _
    rw [if_pos rfl, R.p]
    refine iteF ⟨_, rfl, h, o, rfl, hh, ?_⟩
    rw [R.h]
    refine ⟨_, rfl, ?_⟩
    exact iteF q
/-- a rule stands there -/
def flR (s g l : Int) (p : Str) (h : V) : List (Str × V) := [("step", .int s), ("gap", .int g), ("least", .int l), ("private", .str p), ("hours", h)]
def IsRule (d : Ad) (H : Hp) (v : V) (s g l : Int) (p : Str) (o : Option (Int × Int)) : Prop := ∃ a dx h, v = .ref a ∧ H a = some (.ins d.C_Rule dx (flR s g l p h)) ∧ IsHours H h o
theorem IsRule.mono {H H' : Hp} {v : V} {s g l : Int} {p : Str} {o : Option (Int × Int)} (e : Same H H') (x : IsRule d H v s g l p o) : IsRule d H' v s g l p o := by
  obtain ⟨a, dx, h, e1, e2, e3⟩ := x
  exact ⟨a, dx, h, e1, e _ _ e2, e3.mono e⟩
theorem fl2 {a b : V} : putF "gap" b ([("step", a)] : List (Str × V)) = ([("step", a), ("gap", b)] : List (Str × V)) := putF_new (ks := ["step"]) rfl (by decide +kernel)
theorem fl3 {a b c : V} : putF "least" c ([("step", a), ("gap", b)] : List (Str × V)) = ([("step", a), ("gap", b), ("least", c)] : List (Str × V)) := putF_new (ks := ["step", "gap"]) rfl (by decide +kernel)
theorem fl4 {a b c e : V} : putF "private" e ([("step", a), ("gap", b), ("least", c)] : List (Str × V)) = ([("step", a), ("gap", b), ("least", c), ("private", e)] : List (Str × V)) := putF_new (ks := ["step", "gap", "least"]) rfl (by decide +kernel)
theorem fl5 {a b c e f : V} : putF "hours" f ([("step", a), ("gap", b), ("least", c), ("private", e)] : List (Str × V)) = ([("step", a), ("gap", b), ("least", c), ("private", e), ("hours", f)] : List (Str × V)) := putF_new (ks := ["step", "gap", "least", "private"]) rfl (by decide +kernel)
def sp_Rule_init (d : Ad) : Sp := fun vs H Q _ => ∃ (x dx : Addr) (s g l : Int) (p : Str) (h : V) (o : Option (Int × Int)), vs = [.ref x, .int s, .int g, .int l, .str p, h] ∧ H x = some (.ins d.C_Rule dx []) ∧ IsHours H h o ∧ RuleOk s g l p o ∧
  ∀ H', (∀ b u, H b = some u → b ≠ x → H' b = some u) → H' x = some (.ins d.C_Rule dx (flR s g l p h)) → Q .non H'
theorem body_Rule_init (T : Txt K mg d) (cdv : Value) (A : Around) (outer : List Env) (s : Shared) (H : Hp) (vs : List V) (Q : VK) (E : XK) (hr : Room 4 (A.deeper (envOfC "Rule.__init__" (defScope s_Rule___init__) s.heap.objs.size d.f_Rule___init__ cdv))) (h : sp_Rule_init d vs H Q E) :
    ∃ t, PSs (cxOf CX0 P w K mg base ["self", "step", "gap", "least", "private", "hours", "wrong"] "Rule.__init__" (defScope s_Rule___init__) d.f_Rule___init__ cdv A outer s H E).nox (defBody s_Rule___init__) t ∧ t { nx := fun _ H' => Q .non H', rt := Q } (start ["self", "step", "gap", "least", "private", "hours", "wrong"] vs) H := by
  obtain ⟨x, dx, st, g, l, p, h, o, rfl, hx, hh, R, q⟩ := h
  refine ⟨_, (pss_cons (ps_set (i := 6) sc_Rule___init__.nd rfl (by first | exact Or.inl rfl | exact Or.inr rfl) (pe_callR (ok__wrong_argument T) (hr.mono (by decide)) rfl T.m__wrong_argument T.k__wrong_argument pass0 (pa_cons (pv 1) (pa_cons (pv 2) (pa_cons (pv 3) (pa_cons (pv 4) (pa_cons (pv 5) pa_nil))))))) (pss_cons (ps_if (pt_cmp (pc_notN (pv 6))) (pss_one ps_dead) pss_nil) (pss_cons (ps_fld (pv 0) (pv 1) rfl) (pss_cons (ps_fld (pv 0) (pv 2) rfl) (pss_cons (ps_fld (pv 0) (pv 3) rfl) (pss_cons (ps_fld (pv 0) (pv 4) rfl) (pss_one (ps_fld (pv 0) (pv 5) rfl)))))))), ?_⟩
  -- wrong = _wrong_argument(..); if wrong is not None
  refine ⟨_, rfl, _, rfl, _, rfl, _, rfl, _, rfl, st, g, l, p, h, o, rfl, hh, R, ?_⟩
  refine ⟨_, rfl, _, rfl, iteF ?_⟩
  -- the stores
  refine ⟨_, rfl, _, rfl, x, _, dx, _, rfl, hx, T.cl_Rule, T.na_Rule_step, (by show 0 < 1000; decide), ?_⟩
  refine ⟨_, rfl, _, rfl, x, _, dx, _, rfl, upd_same, T.cl_Rule, T.na_Rule_gap, (by show 1 < 1000; decide), ?_⟩
  rw [show putF "step" (V.int st) [] = ([("step", V.int st)] : List (Str × V)) from rfl, fl2]
  refine ⟨_, rfl, _, rfl, x, _, dx, _, rfl, upd_same, T.cl_Rule, T.na_Rule_least, (by show 2 < 1000; decide), ?_⟩
  rw [fl3]
  refine ⟨_, rfl, _, rfl, x, _, dx, _, rfl, upd_same, T.cl_Rule, T.na_Rule_private, (by show 3 < 1000; decide), ?_⟩
  rw [fl4]
  refine ⟨_, rfl, _, rfl, x, _, dx, _, rfl, upd_same, T.cl_Rule, T.na_Rule_hours, (by show 4 < 1000; decide), ?_⟩
  rw [fl5]
  refine q _ (fun b u e hb => ?_) upd_same
  rw [upd_ne hb, upd_ne hb, upd_ne hb, upd_ne hb, upd_ne hb]
  exact e
/-- Rule(..) with n written arguments: what stands for the others -/
theorem ok_Rule_init5 (T : Txt K mg d) : FnR P w K mg base CX0 5 d.f_Rule___init__ (sp_Rule_init d) :=
  mkRD 6 5 T.F_Rule___init__ (by simp [dv_Rule]) rfl sc_Rule___init__ (fun vs H Q E h => by obtain ⟨_, _, _, _, _, _, _, _, rfl, _⟩ := h; rfl)
    (fun _ _ _ _ _ _ _ us its h1 h2 => match us, its, h1, h2 with | [_, _, _, _, _, _], [_, _, _, _, _], _, _ => ⟨_, rfl, rfl⟩)
    (fun vs H Q E h => by rw [show (dv_Rule d).drop 5 = [] from rfl, List.append_nil]; exact h)
    (fun cdv A outer s H vs Q E hr h => let ⟨t, h1, h2⟩ := body_Rule_init T cdv A outer s H vs Q E hr h; ⟨t, h1.nox, h2⟩)
theorem ok_Rule_init4 (T : Txt K mg d) : FnR P w K mg base CX0 5 d.f_Rule___init__ (fun vs H Q E => sp_Rule_init d (vs ++ [.non]) H Q E) :=
  mkRD 5 4 T.F_Rule___init__ (by simp [dv_Rule]) rfl sc_Rule___init__ (fun vs H Q E h => by obtain ⟨_, _, _, _, _, _, _, _, rfl, _⟩ := h; rfl)
    (fun _ _ _ _ _ _ _ us its h1 h2 => match us, its, h1, h2 with | [_, _, _, _, _], [_, _, _, _, _], _, _ => ⟨_, rfl, rfl⟩)
    (fun vs H Q E h => h)
    (fun cdv A outer s H vs Q E hr h => let ⟨t, h1, h2⟩ := body_Rule_init T cdv A outer s H vs Q E hr h; ⟨t, h1.nox, h2⟩)
theorem ok_Rule_init3 (T : Txt K mg d) : FnR P w K mg base CX0 5 d.f_Rule___init__ (fun vs H Q E => sp_Rule_init d (vs ++ [.str "busy", .non]) H Q E) :=
  mkRD 4 3 T.F_Rule___init__ (by simp [dv_Rule]) rfl sc_Rule___init__ (fun vs H Q E h => by obtain ⟨_, _, _, _, _, _, _, _, rfl, _⟩ := h; rfl)
    (fun _ _ _ _ _ _ _ us its h1 h2 => match us, its, h1, h2 with | [_, _, _, _], [_, _, _, _, _], _, _ => ⟨_, rfl, rfl⟩)
    (fun vs H Q E h => h)
    (fun cdv A outer s H vs Q E hr h => let ⟨t, h1, h2⟩ := body_Rule_init T cdv A outer s H vs Q E hr h; ⟨t, h1.nox, h2⟩)
theorem ok_Rule_init2 (T : Txt K mg d) : FnR P w K mg base CX0 5 d.f_Rule___init__ (fun vs H Q E => sp_Rule_init d (vs ++ [.int 0, .str "busy", .non]) H Q E) :=
  mkRD 3 2 T.F_Rule___init__ (by simp [dv_Rule]) rfl sc_Rule___init__ (fun vs H Q E h => by obtain ⟨_, _, _, _, _, _, _, _, rfl, _⟩ := h; rfl)
    (fun _ _ _ _ _ _ _ us its h1 h2 => match us, its, h1, h2 with | [_, _, _], [_, _, _, _, _], _, _ => ⟨_, rfl, rfl⟩)
    (fun vs H Q E h => h)
    (fun cdv A outer s H vs Q E hr h => let ⟨t, h1, h2⟩ := body_Rule_init T cdv A outer s H vs Q E hr h; ⟨t, h1.nox, h2⟩)
/-- what making a rule gives -/
theorem made_rule {H1 : Hp} {s g l : Int} {p : Str} {h : V} {o : Option (Int × Int)} {Q : VK} {E : XK} (hh : IsHours H1 h o) (R : RuleOk s g l p o) (q : ∀ v H', Same H1 H' → IsRule d H' v s g l p o → Q v H') :
    ∀ x dx, H1 x = none → H1 dx = none → dx ≠ x → sp_Rule_init d [.ref x, .int s, .int g, .int l, .str p, h] (upd (upd H1 dx (.own x)) x (.ins d.C_Rule dx [])) (fun v H2 => v = .non ∧ Q (.ref x) H2) E := by
  intro x dx nx ndx ne
  have s0 : Same H1 (upd (upd H1 dx (.own x)) x (.ins d.C_Rule dx [])) := Same.new' (Same.new ndx) (by rw [upd_ne (Ne.symm ne)]; exact nx)
  refine ⟨x, dx, s, g, l, p, h, o, rfl, upd_same, hh.mono s0, R, fun H' k1 k2 => ⟨rfl, ?_⟩⟩
  have s1 : Same H1 H' := fun b u e => k1 b u (s0 b u e) (ne_of_none e nx)
  exact q _ H' s1 ⟨x, dx, h, rfl, k2, hh.mono s1⟩
theorem fdiv_mul_nonneg {s g : Int} (hs : 1 ≤ s) (hg : 0 ≤ g) : 0 ≤ g / s * s ∧ g / s * s ≤ g ∧ 0 ≤ g / s := by
  have h0 : 0 ≤ g / s := Int.ediv_nonneg hg (by omega)
  refine ⟨Int.mul_nonneg h0 (by omega), ?_, h0⟩
  exact Int.ediv_mul_le g (by omega)
theorem lkR_step {s g l : Int} {p : Str} {h : V} : (flR s g l p h).lookup ("step" : Str) = some (V.int s) :=
  look_at rfl (by decide +kernel : (["step", "gap", "least", "private", "hours"] : List Str).findIdx? (· == ("step" : Str)) = some 0) rfl
theorem lkR_gap {s g l : Int} {p : Str} {h : V} : (flR s g l p h).lookup ("gap" : Str) = some (V.int g) :=
  look_at rfl (by decide +kernel : (["step", "gap", "least", "private", "hours"] : List Str).findIdx? (· == ("gap" : Str)) = some 1) rfl
theorem lkR_least {s g l : Int} {p : Str} {h : V} : (flR s g l p h).lookup ("least" : Str) = some (V.int l) :=
  look_at rfl (by decide +kernel : (["step", "gap", "least", "private", "hours"] : List Str).findIdx? (· == ("least" : Str)) = some 2) rfl
theorem lkR_private {s g l : Int} {p : Str} {h : V} : (flR s g l p h).lookup ("private" : Str) = some (V.str p) :=
  look_at rfl (by decide +kernel : (["step", "gap", "least", "private", "hours"] : List Str).findIdx? (· == ("private" : Str)) = some 3) rfl
theorem lkR_hours {s g l : Int} {p : Str} {h : V} : (flR s g l p h).lookup ("hours" : Str) = some h :=
  look_at rfl (by decide +kernel : (["step", "gap", "least", "private", "hours"] : List Str).findIdx? (· == ("hours" : Str)) = some 4) rfl
theorem made_rule' {H1 : Hp} {s g l : Int} {p : Str} {h : V} {o : Option (Int × Int)} {W : VK} {E : XK} {x dx : Addr} (hh : IsHours H1 h o) (R : RuleOk s g l p o) (nx : H1 x = none) (ndx : H1 dx = none) (ne : dx ≠ x) (q : ∀ H', Same H1 H' → IsRule d H' (.ref x) s g l p o → W .non H') :
    sp_Rule_init d [.ref x, .int s, .int g, .int l, .str p, h] (upd (upd H1 dx (.own x)) x (.ins d.C_Rule dx [])) W E := by
  have s0 : Same H1 (upd (upd H1 dx (.own x)) x (.ins d.C_Rule dx [])) := Same.new' (Same.new ndx) (by rw [upd_ne (Ne.symm ne)]; exact nx)
  refine ⟨x, dx, s, g, l, p, h, o, rfl, upd_same, hh.mono s0, R, fun H' k1 k2 => ?_⟩
  have s1 : Same H1 H' := fun b u e => k1 b u (s0 b u e) (ne_of_none e nx)
  exact q H' s1 ⟨x, dx, h, rfl, k2, hh.mono s1⟩
theorem ok_Rule_init1 (T : Txt K mg d) : FnR P w K mg base CX0 5 d.f_Rule___init__ (fun vs H Q E => sp_Rule_init d (vs ++ [.int 0, .int 0, .str "busy", .non]) H Q E) :=
  mkRD 2 1 T.F_Rule___init__ (by simp [dv_Rule]) rfl sc_Rule___init__ (fun vs H Q E h => by obtain ⟨_, _, _, _, _, _, _, _, rfl, _⟩ := h; rfl)
    (fun _ _ _ _ _ _ _ us its h1 h2 => match us, its, h1, h2 with | [_, _], [_, _, _, _, _], _, _ => ⟨_, rfl, rfl⟩)
    (fun vs H Q E h => h)
    (fun cdv A outer s H vs Q E hr h => let ⟨t, h1, h2⟩ := body_Rule_init T cdv A outer s H vs Q E hr h; ⟨t, h1.nox, h2⟩)
theorem word_of {p : Str} (h : inV (.str p) v_PRIVATE_WORDS = true) : p = "busy" ∨ p = "none" ∨ p = "apart" ∨ p = "one" := by
  simp only [inV, v_PRIVATE_WORDS, List.any_cons, List.any_nil, eqV, Bool.or_false, Bool.or_eq_true, beq_iff_eq] at h
  rcases h with h | h | h | h
  · exact .inl h.symm
  · exact .inr (.inl h.symm)
  · exact .inr (.inr (.inl h.symm))
  · exact .inr (.inr (.inr h.symm))
theorem ok_str {p : Str} (h : inV (.str p) v_PRIVATE_WORDS = true) : PyData.canLay0 (.str p) = true := by
  rcases word_of h with rfl | rfl | rfl | rfl <;> decide +kernel
end
end DD

set_option Elab.async false
set_option linter.all false
set_option maxRecDepth 100000
set_option maxHeartbeats 2000000
namespace DD
open PySem PySem.Spec PyProof.Rows L2 StX
section
variable {P : Program} {w : World} {K : PySem.W.Frag} {mg : Str → Option Value} {base : Heap} {d : Ad}
/-! ### the law's own draws -/
def sp_seed (K : PySem.W.Frag) : Sp := fun vs H Q _ => ∃ (a : Addr) (ns : List Int) (k : Nat), vs = [.ref a, .int k] ∧ SqL K H a (ns.map V.int) ∧ ∀ b x y H', H b = none → Same H H' → H' b = some (.lst [.int x, .int y]) → Q (.ref b) H'
theorem ok__law_seed (T : Txt K mg d) : FnR P w K mg base CX0 1 d.f__law_seed (sp_seed K) := by
  refine mkR T.F__law_seed sc__law_seed (fun vs H Q E h => ?_) (fun _ _ _ _ _ _ us hl => match us, hl with | [_, _], _ => rfl) (fun cdv A outer s H vs Q E hr h => ?_)
  · obtain ⟨_, _, _, rfl, _⟩ := h
    rfl
  · obtain ⟨a, ns, k, rfl, hS, q⟩ := h
    refine ⟨_, (pss_cons (ps_set (i := 2) sc__law_seed.nd rfl (by first | exact Or.inl rfl | exact Or.inr rfl) (pe_op op_add (pe_op op_mul pe_int (pv 1)) pe_int)) (pss_cons (ps_if (pt_cmpR op_lt (pv 1) (pe_callB call_len_seq (by rfl) T.b_len PySem.boot_len (pa_cons (pv 0) pa_nil)) (nomark _)) (pss_one (ps_set (i := 2) sc__law_seed.nd rfl (by first | exact Or.inl rfl | exact Or.inr rfl) (pe_callB call_abs (by rfl) T.b_abs (by decide +kernel) (pa_cons (pe_ix ix_list (pv 0) (pv 1) (fun _ _ => rfl)) pa_nil)))) (pss_one (ps_if (pt_cmpR op_gt (pe_callB call_len_seq (by rfl) T.b_len PySem.boot_len (pa_cons (pv 0) pa_nil)) pe_int (nomark _)) (pss_one (ps_set (i := 2) sc__law_seed.nd rfl (by first | exact Or.inl rfl | exact Or.inr rfl) (pe_op op_add (pv 2) (pe_op op_mul (pe_op op_mod (pe_callTy call_int1 rfl T.b_int (by decide +kernel) (pa_cons (pe_callB call_abs (by rfl) T.b_abs (by decide +kernel) (pa_cons (pe_ix ix_list (pv 0) (pe_op op_mod (pe_callTy call_int1 rfl T.b_int (by decide +kernel) (pa_cons (pv 1) pa_nil)) (pe_callB call_len_seq (by rfl) T.b_len PySem.boot_len (pa_cons (pv 0) pa_nil))) (fun _ _ => rfl)) pa_nil)) pa_nil)) pe_int) pe_int)))) pss_nil))) (pss_one (ps_ret (pe_lst (pa_cons (pe_ifExp (pt_cmpR op_ge (pv 2) (pe_op op_pow pe_int pe_int) (nomark _)) (pv 2) pe_int) (pa_cons (pe_op op_add (pe_op op_mod (pe_callTy call_int1 rfl T.b_int (by decide +kernel) (pa_cons (pe_op op_add (pe_op op_mul (pe_op op_mod (pe_callTy call_int1 rfl T.b_int (by decide +kernel) (pa_cons (pv 2) pa_nil)) pe_int) pe_int) (pe_op op_mul pe_int (pv 1))) pa_nil)) pe_int) pe_int) pa_nil))))))), ?_⟩
    refine ⟨_, rfl, _, _, rfl, rfl, .inl ⟨by decide, by decide⟩, _, _, rfl, rfl, ?_⟩
    refine ⟨_, rfl, _, rfl, a, _, rfl, .inl hS, _, _, rfl, rfl, _, rfl, ?_⟩
    refine ite2 (fun h1 => ?_) (fun h1 => ?_)
    · have hk : k < ns.length := by
        have := of_decide_eq_true h1
        rw [List.length_map] at this
        omega
      refine ⟨_, rfl, _, rfl, a, _, _, _, rfl, rfl, hS, atI_nat (j := k) (by rw [List.getElem?_map, List.getElem?_eq_getElem hk]; rfl), _, rfl, ?_⟩
      refine ⟨_, rfl, _, _, rfl, rfl, ⟨by decide, by decide, by decide⟩, _, _, rfl, rfl, _, rfl, ?_⟩
      refine ite2 (fun _ => ?_) (fun _ => ?_)
      · refine ⟨_, rfl, _, rfl, .inl ⟨_, rfl, _, _, rfl, rfl, (by show (0 : Int) < 2147483629; decide), _, _, rfl, rfl, .inr ⟨by decide, by decide⟩, _, rfl, _, _, rfl, rfl, .inl ⟨by decide, by decide⟩, _, _, rfl, rfl, .inl ⟨_, rfl, _, _, rfl, rfl, (by show (0 : Int) < 2147483629; decide), _, _, rfl, rfl, (by show 2 ≤ sizeLine; decide), fun p np => ?_⟩⟩⟩
        exact q p _ _ _ np (Same.new np) upd_same
      · refine ⟨_, rfl, .inl ⟨_, rfl, _, _, rfl, rfl, (by show (0 : Int) < 2147483629; decide), _, _, rfl, rfl, .inr ⟨by decide, by decide⟩, _, rfl, _, _, rfl, rfl, .inl ⟨by decide, by decide⟩, _, _, rfl, rfl, .inl ⟨_, rfl, _, _, rfl, rfl, (by show (0 : Int) < 2147483629; decide), _, _, rfl, rfl, (by show 2 ≤ sizeLine; decide), fun p np => ?_⟩⟩⟩
        exact q p _ _ _ np (Same.new np) upd_same
    · refine ⟨_, rfl, a, _, rfl, .inl hS, _, _, rfl, rfl, _, rfl, ?_⟩
      refine ite2 (fun h2 => ?_) (fun h2 => ?_)
      · have hn : 0 < ns.length := by
          have := of_decide_eq_true h2
          rw [List.length_map] at this
          omega
        have e : ((k : Int) % ((ns.map V.int).length : Int)) = ((k % ns.length : Nat) : Int) := by rw [List.length_map, Int.natCast_emod]
        have hk : k % ns.length < ns.length := Nat.mod_lt _ hn
        refine ⟨_, rfl, _, rfl, _, rfl, .inl ⟨_, rfl, _, rfl, a, _, rfl, .inl hS, _, _, rfl, rfl, (by rw [List.length_map]; omega), ?_⟩⟩
        have hat : atI (ns.map V.int) ((k : Int) % ((ns.map V.int).length : Int)) = some (V.int (ns[k % ns.length])) := by
          rw [e]
          exact atI_nat (j := k % ns.length) (by rw [List.getElem?_map, List.getElem?_eq_getElem hk]; rfl)
        refine ⟨a, _, _, _, rfl, rfl, hS, hat, _, rfl, .inl ⟨_, rfl, _, _, rfl, rfl, (by show (0 : Int) < 2147483629; decide), _, _, rfl, rfl, .inr ⟨by decide, by decide⟩, _, _, rfl, rfl, ?_⟩⟩
        refine ⟨_, rfl, _, _, rfl, rfl, ⟨by decide, by decide, by decide⟩, _, _, rfl, rfl, _, rfl, ?_⟩
        refine ite2 (fun _ => ?_) (fun _ => ?_)
        · refine ⟨_, rfl, _, rfl, .inl ⟨_, rfl, _, _, rfl, rfl, (by show (0 : Int) < 2147483629; decide), _, _, rfl, rfl, .inr ⟨by decide, by decide⟩, _, rfl, _, _, rfl, rfl, .inl ⟨by decide, by decide⟩, _, _, rfl, rfl, .inl ⟨_, rfl, _, _, rfl, rfl, (by show (0 : Int) < 2147483629; decide), _, _, rfl, rfl, (by show 2 ≤ sizeLine; decide), fun p np => ?_⟩⟩⟩
          exact q p _ _ _ np (Same.new np) upd_same
        · refine ⟨_, rfl, .inl ⟨_, rfl, _, _, rfl, rfl, (by show (0 : Int) < 2147483629; decide), _, _, rfl, rfl, .inr ⟨by decide, by decide⟩, _, rfl, _, _, rfl, rfl, .inl ⟨by decide, by decide⟩, _, _, rfl, rfl, .inl ⟨_, rfl, _, _, rfl, rfl, (by show (0 : Int) < 2147483629; decide), _, _, rfl, rfl, (by show 2 ≤ sizeLine; decide), fun p np => ?_⟩⟩⟩
          exact q p _ _ _ np (Same.new np) upd_same
      · refine ⟨_, rfl, _, _, rfl, rfl, ⟨by decide, by decide, by decide⟩, _, _, rfl, rfl, _, rfl, ?_⟩
        refine ite2 (fun _ => ?_) (fun _ => ?_)
        · refine ⟨_, rfl, _, rfl, .inl ⟨_, rfl, _, _, rfl, rfl, (by show (0 : Int) < 2147483629; decide), _, _, rfl, rfl, .inr ⟨by decide, by decide⟩, _, rfl, _, _, rfl, rfl, .inl ⟨by decide, by decide⟩, _, _, rfl, rfl, .inl ⟨_, rfl, _, _, rfl, rfl, (by show (0 : Int) < 2147483629; decide), _, _, rfl, rfl, (by show 2 ≤ sizeLine; decide), fun p np => ?_⟩⟩⟩
          exact q p _ _ _ np (Same.new np) upd_same
        · refine ⟨_, rfl, .inl ⟨_, rfl, _, _, rfl, rfl, (by show (0 : Int) < 2147483629; decide), _, _, rfl, rfl, .inr ⟨by decide, by decide⟩, _, rfl, _, _, rfl, rfl, .inl ⟨by decide, by decide⟩, _, _, rfl, rfl, .inl ⟨_, rfl, _, _, rfl, rfl, (by show (0 : Int) < 2147483629; decide), _, _, rfl, rfl, (by show 2 ≤ sizeLine; decide), fun p np => ?_⟩⟩⟩
          exact q p _ _ _ np (Same.new np) upd_same
/-- a draw from a box -/
def sp_choose : Sp := fun vs H Q _ => ∃ (b : Addr) (x y m : Int), vs = [.ref b, .int m] ∧ H b = some (.lst [.int x, .int y]) ∧ 0 < m ∧ m < 1073741824 ∧ ∀ r x' y', 0 ≤ r → r < m → Q (.int r) (upd H b (.lst [.int x', .int y']))
theorem ok__law_choose (T : Txt K mg d) : FnR P w K mg base CX0 1 d.f__law_choose sp_choose := by
  refine mkR T.F__law_choose sc__law_choose (fun vs H Q E h => ?_) (fun _ _ _ _ _ _ us hl => match us, hl with | [_, _], _ => rfl) (fun cdv A outer s H vs Q E hr h => ?_)
  · obtain ⟨_, _, _, _, rfl, _⟩ := h
    rfl
  · obtain ⟨b, x, y, m, rfl, hb, hm, hm2, q⟩ := h
    refine ⟨_, (pss_cons (ps_if (pt_cmpR op_gt (pe_ix ix_list (pv 0) pe_int (fun _ _ => rfl)) pe_int (nomark _)) (pss_cons (ps_set (i := 3) sc__law_choose.nd rfl (by first | exact Or.inl rfl | exact Or.inr rfl) (pe_op op_mod (pe_callTy call_int1 rfl T.b_int (by decide +kernel) (pa_cons (pe_ix ix_list (pv 0) pe_int (fun _ _ => rfl)) pa_nil)) (pv 1))) (pss_cons (ps_asg (pe_op op_fdiv (pe_ix ix_list (pv 0) pe_int (fun _ _ => rfl)) (pv 1)) (pg_sub (pv 0) pe_int set_list)) (pss_one (ps_ret (pv 3))))) pss_nil) (pss_cons (ps_set (i := 2) sc__law_choose.nd rfl (by first | exact Or.inl rfl | exact Or.inr rfl) (pe_op op_mod (pe_callTy call_int1 rfl T.b_int (by decide +kernel) (pa_cons (pe_op op_add (pe_op op_mul (pe_ix ix_list (pv 0) pe_int (fun _ _ => rfl)) pe_int) pe_int) pa_nil)) pe_int)) (pss_cons (ps_asg (pe_op op_add (pe_op op_mod (pe_callTy call_int1 rfl T.b_int (by decide +kernel) (pa_cons (pe_op op_add (pe_op op_mul (pv 2) pe_int) pe_int) pa_nil)) pe_int) pe_int) (pg_sub (pv 0) pe_int set_list)) (pss_one (ps_ret (pe_op op_mod (pe_callTy call_int1 rfl T.b_int (by decide +kernel) (pa_cons (pe_op op_fdiv (pe_op op_add (pe_op op_mul (pv 2) pe_int) (pe_ix ix_list (pv 0) pe_int (fun _ _ => rfl))) pe_int) pa_nil)) (pv 1))))))), ?_⟩
    refine ⟨_, rfl, b, _, _, _, rfl, rfl, .inl (.inl hb), atI_nat (j := 0) rfl, _, _, rfl, rfl, _, rfl, ?_⟩
    refine ite2 (fun _ => ?_) (fun _ => ?_)
    · refine ⟨_, rfl, b, _, _, _, rfl, rfl, .inl (.inl hb), atI_nat (j := 0) rfl, .inl ⟨_, rfl, _, rfl, _, _, rfl, rfl, hm, ?_⟩⟩
      refine ⟨_, rfl, b, _, _, _, rfl, rfl, .inl (.inl hb), atI_nat (j := 0) rfl, _, rfl, _, _, rfl, rfl, ⟨hm, hm2⟩, ?_⟩
      refine ⟨_, rfl, b, _, _, 0, rfl, rfl, hb, rfl, ?_⟩
      refine ⟨_, rfl, ?_⟩
      exact q _ _ _ (Int.emod_nonneg _ (by omega)) (Int.emod_lt_of_pos _ hm)
    · refine ⟨_, rfl, b, _, _, _, rfl, rfl, .inl (.inl hb), atI_nat (j := 1) rfl, _, _, rfl, rfl, .inr ⟨by decide, by decide⟩, _, _, rfl, rfl, .inl ⟨_, rfl, _, _, rfl, rfl, (by show (0 : Int) < 2147483563; decide), ?_⟩⟩
      refine ⟨_, rfl, _, _, rfl, rfl, .inr ⟨by decide, by decide⟩, _, _, rfl, rfl, .inl ⟨_, rfl, _, _, rfl, rfl, (by show (0 : Int) < 2147483629; decide), _, _, rfl, rfl, ?_⟩⟩
      refine ⟨_, rfl, b, _, _, 1, rfl, rfl, hb, rfl, ?_⟩
      refine ⟨_, rfl, _, _, rfl, rfl, .inr ⟨by decide, by decide⟩, _, rfl, b, _, _, _, rfl, rfl, .inl (.inl upd_same), atI_nat (j := 1) rfl, _, _, rfl, rfl, _, _, rfl, rfl, ⟨by decide, by decide⟩, .inl ⟨_, rfl, _, rfl, _, _, rfl, rfl, hm, ?_⟩⟩
      exact q _ _ _ (Int.emod_nonneg _ (by omega)) (Int.emod_lt_of_pos _ hm)
end
end DD

set_option Elab.async false
set_option linter.all false
set_option maxRecDepth 100000
set_option maxHeartbeats 2000000
namespace DD
open PySem PySem.Spec PyProof.Rows L2 StX
/-! ### what a draw leaves as it was -/
def SameX (b : Addr) (H H' : Hp) : Prop := ∀ c o, H c = some o → c ≠ b → H' c = some o
def Imm (H H' : Hp) : Prop := ∀ c o, H c = some o → (∀ xs, o ≠ .lst xs) → H' c = some o
theorem SameX.refl {b : Addr} {H : Hp} : SameX b H H := fun _ _ h _ => h
theorem SameX.of {b : Addr} {H H' : Hp} (e : Same H H') : SameX b H H' := fun c o h _ => e c o h
theorem SameX.trans {b : Addr} {H H1 H2 : Hp} (e : SameX b H H1) (f : SameX b H1 H2) : SameX b H H2 := fun c o h n => f c o (e c o h n) n
theorem SameX.upd {b : Addr} {H : Hp} {o : HO} : SameX b H (upd H b o) := fun c u h n => by rw [upd_ne n]; exact h
theorem Imm.of {H H' : Hp} (e : Same H H') : Imm H H' := fun c o h _ => e c o h
theorem Imm.refl {H : Hp} : Imm H H := fun _ _ h _ => h
theorem Imm.trans {H H1 H2 : Hp} (e : Imm H H1) (f : Imm H1 H2) : Imm H H2 := fun c o h n => f c o (e c o h n) n
theorem SameX.imm {b : Addr} {H H' : Hp} {xs : List V} (e : SameX b H H') (hb : H b = some (.lst xs)) : Imm H H' := fun c o h n => e c o h fun z => by
  subst z
  rw [hb] at h
  exact n xs (Option.some.inj h).symm
/-- a list is written -/
theorem Imm.upd {l : Addr} {H : Hp} {xs : List V} {o : HO} (hl : H l = some (.lst xs)) : Imm H (L2.upd H l o) := SameX.imm SameX.upd hl
theorem Imm.tup {K : PySem.W.Frag} {H H' : Hp} {a : Addr} {xs : List V} (e : Imm H H') (h : SqT K H a xs) : SqT K H' a xs := by
  rcases h with (h | ⟨o, h⟩) | h
  · exact .inl (.inl (e _ _ h fun _ z => nomatch z))
  · exact .inl (.inr ⟨o, e _ _ h fun _ z => nomatch z⟩)
  · exact .inr h
def IsBox (H : Hp) (b : Addr) : Prop := ∃ x y : Int, H b = some (.lst [.int x, .int y])
theorem IsBox.same {H H' : Hp} {b : Addr} (e : Same H H') (h : IsBox H b) : IsBox H' b := by
  obtain ⟨x, y, h⟩ := h
  exact ⟨x, y, e _ _ h⟩
theorem IsBox.new {H : Hp} {b : Addr} {x y : Int} : IsBox (upd H b (.lst [.int x, .int y])) b := ⟨x, y, upd_same⟩
theorem IsBox.imm {H H' : Hp} {b : Addr} (h : IsBox H b) (e : SameX b H H') : Imm H H' := by
  obtain ⟨x, y, h⟩ := h
  exact e.imm h
section
variable {P : Program} {w : World} {K : PySem.W.Frag} {mg : Str → Option Value} {base : Heap} {d : Ad}
/-- one of a list -/
def sp_one_of : Sp := fun vs H Q _ => ∃ (b l : Addr) (xs : List V), vs = [.ref b, .ref l] ∧ IsBox H b ∧ H l = some (.lst xs) ∧ l ≠ b ∧ xs ≠ [] ∧ xs.length ≤ 1000 ∧ ∀ (i : Nat) v H', xs[i]? = some v → SameX b H H' → IsBox H' b → Q v H'
theorem ok__law_one_of (T : Txt K mg d) : FnR P w K mg base CX0 2 d.f__law_one_of sp_one_of := by
  refine mkR T.F__law_one_of sc__law_one_of (fun vs H Q E h => ?_) (fun _ _ _ _ _ _ us hl => match us, hl with | [_, _], _ => rfl) (fun cdv A outer s H vs Q E hr h => ?_)
  · obtain ⟨_, _, _, rfl, _⟩ := h
    rfl
  · obtain ⟨b, l, xs, rfl, ⟨x, y, hb⟩, hl, ne, h0, hz, q⟩ := h
    have h1 : 0 < xs.length := List.length_pos_iff.mpr h0
    refine ⟨_, (pss_one (ps_ret (pe_ix ix_list (pv 1) (pe_callR (ok__law_choose T) (hr.mono (by decide)) rfl T.m__law_choose T.k__law_choose pass0 (pa_cons (pv 0) (pa_cons (pe_callB call_len_seq (by rfl) T.b_len PySem.boot_len (pa_cons (pv 1) pa_nil)) pa_nil))) (fun _ _ => rfl)))), ?_⟩
    refine ⟨_, rfl, _, rfl, _, rfl, l, xs, rfl, .inl (.inl (.inl hl)), b, x, y, _, rfl, hb, by omega, by omega, fun r x' y' r0 r1 => ?_⟩
    obtain ⟨j, rfl⟩ : ∃ j : Nat, r = (j : Int) := ⟨r.toNat, by omega⟩
    have hr1 : j < xs.length := by omega
    exact ⟨l, xs, _, xs[j], rfl, rfl, .inl (.inl (by rw [upd_ne ne]; exact hl)), atI_nat (List.getElem?_eq_getElem hr1), q j _ _ (List.getElem?_eq_getElem hr1) SameX.upd IsBox.new⟩
theorem ints_get {ns : List Int} {j : Nat} {v : V} (h : (ns.map V.int)[j]? = some v) : ∃ z ∈ ns, v = .int z := by
  rw [List.getElem?_map] at h
  obtain ⟨z, h1, h2⟩ := Option.map_eq_some_iff.mp h
  exact ⟨z, List.mem_of_getElem? h1, h2.symm⟩
end
end DD

set_option Elab.async false
set_option linter.all false
set_option maxRecDepth 100000
set_option maxHeartbeats 2000000
namespace DD
open PySem PySem.Spec PyProof.Rows L2 StX
theorem pi_listK {X : Cx} {K : PySem.W.Frag} {tg l : Expr} {tl : TE} (hl : PE X l tl) (h : X.K = K := by rfl) : PI X tg l (iList K tl) := h ▸ pi_list hl
theorem pi_tupK {X : Cx} {K : PySem.W.Frag} {tg l : Expr} {tl : TE} (hl : PE X l tl) (h : X.K = K := by rfl) : PI X tg l (iTup K tl) := h ▸ pi_tup hl
theorem Same.mut {H H' : Hp} {p : Addr} {o : HO} (e : Same H H') (h : H p = none) : Same H (upd H' p o) := fun a u ha => by
  rw [upd_ne (ne_of_none ha h)]
  exact e a u ha
theorem sz1000 {n : Nat} (h : n ≤ 1000) : n < sizeLine := Nat.lt_of_le_of_lt h (by decide)
theorem ixN_last {ws : List V} {x : V} : ixN (ws ++ [x]).length (-1) = some ws.length := by
  unfold ixN
  rw [if_neg (by decide), if_pos (by rw [List.length_append, List.length_singleton]; omega), List.length_append, List.length_singleton]
  congr 1
  omega
theorem set_last {ws : List V} {x y : V} : (ws ++ [x]).set ws.length y = ws ++ [y] := by
  rw [List.set_append_right _ _ (Nat.le_refl _)]
  simp
/-! ### rows of tuples -/
def IsRw {α : Type} (f : α → List V) (H : Hp) (v : V) (m : α) : Prop := ∃ a, v = .ref a ∧ H a = some (.tup (f m))
def IsRs {α : Type} (f : α → List V) (H : Hp) (vs : List V) (ms : List α) : Prop := vs.length = ms.length ∧ ∀ (i : Nat) v m, vs[i]? = some v → ms[i]? = some m → IsRw f H v m
section
variable {α : Type} {f : α → List V}
theorem IsRw.on {H H' : Hp} {v : V} {m : α} (e : ∀ a xs, H a = some (.tup xs) → H' a = some (.tup xs)) (x : IsRw f H v m) : IsRw f H' v m := by
  obtain ⟨a, e1, e2⟩ := x
  exact ⟨a, e1, e _ _ e2⟩
theorem IsRs.on {H H' : Hp} {vs : List V} {ms : List α} (e : ∀ a xs, H a = some (.tup xs) → H' a = some (.tup xs)) (x : IsRs f H vs ms) : IsRs f H' vs ms := ⟨x.1, fun i v m h1 h2 => (x.2 i v m h1 h2).on e⟩
theorem IsRs.mono {H H' : Hp} {vs : List V} {ms : List α} (e : Same H H') (x : IsRs f H vs ms) : IsRs f H' vs ms := x.on fun a xs h => e a _ h
theorem tup_upd {H : Hp} {l : Addr} {ys : List V} {o : HO} (hl : H l = some (.lst ys)) : ∀ a xs, H a = some (.tup xs) → upd H l o a = some (.tup xs) := fun a xs h => by
  rw [upd_ne (ne_of h hl (by intro z; cases z))]
  exact h
theorem IsRs.nil {H : Hp} : IsRs f H [] [] := ⟨rfl, fun i v m h => by simp at h⟩
theorem IsRs.get {H : Hp} {vs : List V} {ms : List α} (x : IsRs f H vs ms) {i : Nat} {v : V} (h : vs[i]? = some v) : ∃ m, ms[i]? = some m ∧ IsRw f H v m := by
  have hi : i < ms.length := by rw [← x.1]; exact (List.getElem?_eq_some_iff.mp h).1
  exact ⟨ms[i], List.getElem?_eq_getElem hi, x.2 i v _ h (List.getElem?_eq_getElem hi)⟩
theorem IsRs.cons {H : Hp} {v : V} {m : α} {vs : List V} {ms : List α} (x : IsRw f H v m) (xs : IsRs f H vs ms) : IsRs f H (v :: vs) (m :: ms) := by
  refine ⟨by simp [xs.1], fun i v' m' h1 h2 => ?_⟩
  cases i with
  | zero =>
    simp at h1 h2
    subst h1 h2
    exact x
  | succ i =>
    simp at h1 h2
    exact xs.2 i v' m' h1 h2
theorem IsRs.append {H : Hp} {vs ws : List V} {ms ns : List α} (x : IsRs f H vs ms) (y : IsRs f H ws ns) : IsRs f H (vs ++ ws) (ms ++ ns) := by
  refine ⟨by simp [x.1, y.1], fun i v m h1 h2 => ?_⟩
  by_cases hi : i < vs.length
  · rw [List.getElem?_append_left hi] at h1
    rw [List.getElem?_append_left (by rw [← x.1]; exact hi)] at h2
    exact x.2 i v m h1 h2
  · rw [List.getElem?_append_right (by omega)] at h1
    rw [List.getElem?_append_right (by rw [← x.1]; omega), ← x.1] at h2
    exact y.2 _ v m h1 h2
theorem IsRs.one {H : Hp} {v : V} {m : α} (x : IsRw f H v m) : IsRs f H [v] [m] := .cons x .nil
theorem IsRs.take {H : Hp} {vs : List V} {ms : List α} (x : IsRs f H vs ms) (n : Nat) : IsRs f H (vs.take n) (ms.take n) := by
  refine ⟨by simp [x.1], fun i v m h1 h2 => ?_⟩
  rw [List.getElem?_take] at h1 h2
  split at h1
  · rename_i hi
    rw [if_pos hi] at h2
    exact x.2 i v m h1 h2
  · cases h1
/-- the last one: what is ahead of it, and it -/
theorem IsRs.last {H : Hp} {vs : List V} {ms : List α} {m : α} (x : IsRs f H vs (ms ++ [m])) : ∃ ws v, vs = ws ++ [v] ∧ IsRs f H ws ms ∧ IsRw f H v m := by
  have hl := x.1
  rw [List.length_append, List.length_singleton] at hl
  have hi : ms.length < vs.length := by omega
  refine ⟨vs.take ms.length, vs[ms.length], ?_, ?_, ?_⟩
  · rw [List.take_append_getElem hi, List.take_of_length_le (by omega)]
  · have y := x.take ms.length
    rw [List.take_left] at y
    exact y
  · exact x.2 ms.length _ _ (List.getElem?_eq_getElem hi) (by simp)
end
/-- rows of values, each as told -/
structure AllR {α : Type} (R : V → α → Prop) (vs : List V) (ms : List α) : Prop where
  len : vs.length = ms.length
  at_ : ∀ (i : Nat) v m, vs[i]? = some v → ms[i]? = some m → R v m
theorem AllR.nil {α : Type} {R : V → α → Prop} : AllR R [] [] := ⟨rfl, fun i v m h => by simp at h⟩
theorem AllR.imp {α : Type} {R S : V → α → Prop} {vs : List V} {ms : List α} (h : ∀ v m, R v m → S v m) (x : AllR R vs ms) : AllR S vs ms := ⟨x.len, fun i v m h1 h2 => h v m (x.at_ i v m h1 h2)⟩
theorem AllR.snoc {α : Type} {R : V → α → Prop} {vs : List V} {ms : List α} {v : V} {m : α} (x : AllR R vs ms) (y : R v m) : AllR R (vs ++ [v]) (ms ++ [m]) := by
  refine ⟨by simp [x.len], fun i v' m' h1 h2 => ?_⟩
  by_cases hi : i < vs.length
  · rw [List.getElem?_append_left hi] at h1
    rw [List.getElem?_append_left (by rw [← x.len]; exact hi)] at h2
    exact x.at_ i v' m' h1 h2
  · rw [List.getElem?_append_right (by omega)] at h1
    rw [List.getElem?_append_right (by rw [← x.len]; omega), ← x.len] at h2
    cases e : i - vs.length with
    | zero =>
      rw [e] at h1 h2
      simp at h1 h2
      subst h1 h2
      exact y
    | succ k =>
      rw [e] at h1
      simp at h1
theorem AllR.get {α : Type} {R : V → α → Prop} {vs : List V} {ms : List α} (x : AllR R vs ms) {i : Nat} {v : V} (h : vs[i]? = some v) : ∃ m, ms[i]? = some m ∧ R v m := by
  have hi : i < ms.length := by rw [← x.len]; exact (List.getElem?_eq_some_iff.mp h).1
  exact ⟨ms[i], List.getElem?_eq_getElem hi, x.at_ i v _ h (List.getElem?_eq_getElem hi)⟩
theorem none_of {H H' : Hp} {a : Addr} (e : Same H H') (h : H' a = none) : H a = none := by
  cases z : H a with
  | none => rfl
  | some o => rw [e a o z] at h; cases h
theorem hours_on {H H' : Hp} {v : V} {o : Option (Int × Int)} (e : ∀ a xs, H a = some (.tup xs) → H' a = some (.tup xs)) (x : IsHours H v o) : IsHours H' v o := by
  rcases x with x | ⟨a, i, j, e1, e2, e3⟩
  · exact .inl x
  · exact .inr ⟨a, i, j, e1, e _ _ e2, e3⟩
def prV (m : Int × Int) : List V := [.int m.1, .int m.2]
/-! ### the mirror -/
def pDown (t s : Int) : Int := t / s * s
def pUp (t s : Int) : Int := (t + s - 1) / s * s
/-- the word of a meeting by a rule: private, busy, or none -/
def kindB (p : Str) (b : Bool) : Option Bool := if b = false ∨ p = "busy" then some false else if p = "none" then none else some true
def kindV : Option Bool → V
  | some b => .str (wd b)
  | none => .non
def joinB (g : Int) (p : Str) (w : Bool) (e b : Int) : Bool := (w && decide (p = "one")) || decide (b - e ≤ g)
def mx (i j : Int) : Int := if j > i then j else i
def mn (i j : Int) : Int := if j < i then j else i
def cutS (l : Int) (o : Option (Int × Int)) (b e : Int) : Option (Int × Int) :=
  if e - b < l then none else match o with
    | none => some (b, e)
    | some (st, ti) => if mx b st < mn e ti then some (mx b st, mn e ti) else none
def spansL (s : Int) (p : Str) (w : Bool) (ms : List Mt) : List (Int × Int) := (ms.filter fun m => decide (kindB p m.2.2 = some w)).map fun m => (pDown m.1 s, pUp m.2.1 s)
def joinStep (g : Int) (p : Str) (w : Bool) (acc : List (Int × Int)) (x : Int × Int) : List (Int × Int) := match acc.getLast? with
  | some l => if joinB g p w l.2 x.1 = true then acc.dropLast ++ [(l.1, x.2)] else acc ++ [x]
  | none => [x]
def joinedL (g : Int) (p : Str) (w : Bool) (ps : List (Int × Int)) : List (Int × Int) := ps.foldl (joinStep g p w) []
def blocksL (s g l : Int) (p : Str) (o : Option (Int × Int)) (ms : List Mt) (w : Bool) : List Blk := ((joinedL g p w (spansL s p w ms)).map fun x => cutS l o x.1 x.2).filterMap fun c => c.map fun x => (x.1, x.2, w)
def insB (m : Blk) : List Blk → List Blk
  | [] => [m]
  | x :: xs => if lexT x m = true then x :: insB m xs else m :: x :: xs
def sortB (l : List Blk) : List Blk := l.foldr insB []
def showL (s g l : Int) (p : Str) (o : Option (Int × Int)) (ms : List Mt) : List Blk := sortB (blocksL s g l p o ms false ++ blocksL s g l p o ms true)
theorem insB_perm {m : Blk} : ∀ {l : List Blk}, (insB m l).Perm (m :: l)
  | [] => List.Perm.refl _
  | x :: xs => by
    unfold insB
    split
    · exact ((insB_perm (m := m) (l := xs)).cons x).trans (List.Perm.swap m x xs)
    · exact List.Perm.refl _
theorem sortB_perm : ∀ {l : List Blk}, (sortB l).Perm l
  | [] => List.Perm.refl _
  | x :: xs => insB_perm.trans ((sortB_perm (l := xs)).cons x)
abbrev SrB (l : List Blk) : Prop := l.Pairwise fun x y => lexT y x = false
theorem insB_srt {m : Blk} : ∀ {l : List Blk}, SrB l → SrB (insB m l)
  | [], _ => List.pairwise_singleton _ _
  | x :: xs, h => by
    have O := swo_blk (id : Blk → Blk)
    have hx := List.pairwise_cons.mp h
    unfold insB
    split
    · rename_i c
      refine List.pairwise_cons.mpr ⟨fun y hy => ?_, insB_srt hx.2⟩
      rcases List.mem_cons.mp (insB_perm.mem_iff.mp hy) with rfl | hy
      · have a := lexT_iff.mp c
        refine lexT_no.mpr ?_
        omega
      · exact hx.1 y hy
    · rename_i c
      have c' : lexT x m = false := by simpa using c
      refine List.pairwise_cons.mpr ⟨fun y hy => ?_, h⟩
      rcases List.mem_cons.mp hy with rfl | hy
      · exact c'
      · have a := lexT_no.mp c'
        have b := lexT_no.mp (hx.1 y hy)
        refine lexT_no.mpr ?_
        omega
theorem sortB_srt : ∀ {l : List Blk}, SrB (sortB l)
  | [] => List.Pairwise.nil
  | x :: xs => insB_srt (sortB_srt (l := xs))
theorem bI_inj {b c : Bool} (h : bI b = bI c) : b = c := by cases b <;> cases c <;> simp [bI] at h <;> rfl
theorem blk_eq {x y : Blk} (h1 : lexT x y = false) (h2 : lexT y x = false) : x = y := by
  have a := lexT_no.mp h1
  have b := lexT_no.mp h2
  have e1 : x.1 = y.1 := by omega
  have e2 : x.2.1 = y.2.1 := by omega
  have e3 : bI x.2.2 = bI y.2.2 := by omega
  exact Prod.ext e1 (Prod.ext e2 (bI_inj e3))
theorem srB_uniq : ∀ {l m : List Blk}, SrB l → SrB m → l.Perm m → l = m
  | [], m, _, _, h => (List.Perm.eq_nil h.symm).symm
  | x :: l, [], _, _, h => absurd h.length_eq (by simp)
  | x :: l, y :: m, hl, hm, h => by
    have el := List.pairwise_cons.mp hl
    have em := List.pairwise_cons.mp hm
    have e : x = y := by
      rcases List.mem_cons.mp (h.mem_iff.mp (List.mem_cons_self (a := x) (l := l))) with e | hx
      · exact e
      · rcases List.mem_cons.mp (h.mem_iff.mpr (List.mem_cons_self (a := y) (l := m))) with e | hy
        · exact e.symm
        · exact blk_eq (em.1 x hx) (el.1 y hy)
    subst e
    rw [srB_uniq el.2 em.2 h.cons_inv]
theorem sortB_of {l m : List Blk} (hs : SrB m) (h : m.Perm l) : m = sortB l := srB_uniq hs sortB_srt (h.trans sortB_perm.symm)
theorem joinStep_nil {g : Int} {p : Str} {w : Bool} {x : Int × Int} : joinStep g p w [] x = [x] := rfl
theorem joinStep_on {g : Int} {p : Str} {w : Bool} {acc : List (Int × Int)} {l x : Int × Int} (h : joinB g p w l.2 x.1 = true) : joinStep g p w (acc ++ [l]) x = acc ++ [(l.1, x.2)] := by
  unfold joinStep
  rw [List.getLast?_concat]
  dsimp only
  rw [if_pos h, List.dropLast_concat]
theorem joinStep_off {g : Int} {p : Str} {w : Bool} {acc : List (Int × Int)} {l x : Int × Int} (h : joinB g p w l.2 x.1 = false) : joinStep g p w (acc ++ [l]) x = acc ++ [l] ++ [x] := by
  unfold joinStep
  rw [List.getLast?_concat]
  dsimp only
  rw [if_neg (by rw [h]; decide)]
/-! ### what the blocks in a row of addresses are -/
open Classical in
noncomputable def kOf (H : Hp) (x : V) : Blk := if h : ∃ m, IsRw blkV H x m then h.choose else (0, 0, false)
theorem blkV_inj {m n : Blk} (h : blkV m = blkV n) : m = n := by
  obtain ⟨a, b, c⟩ := m
  obtain ⟨a', b', c'⟩ := n
  simp only [blkV, List.cons.injEq, V.int.injEq, V.str.injEq, and_true] at h
  obtain ⟨rfl, rfl, h⟩ := h
  have e : (wd c == wd c') = true := by rw [h]; simp
  rw [wd_eq] at e
  rw [beq_iff_eq.mp e]
theorem kOf_is {H : Hp} {x : V} {m : Blk} (h : IsRw blkV H x m) : kOf H x = m := by
  have hx : ∃ m, IsRw blkV H x m := ⟨m, h⟩
  unfold kOf
  rw [dif_pos hx]
  obtain ⟨a, e, ha⟩ := hx.choose_spec
  obtain ⟨b, e', hb⟩ := h
  rw [e'] at e
  cases e
  rw [hb] at ha
  exact (blkV_inj (HO.tup.inj (Option.some.inj ha))).symm
theorem kOf_map {H : Hp} : ∀ {xs : List V} {bs : List Blk}, IsRs blkV H xs bs → xs.map (kOf H) = bs := fun {xs bs} h => by
  refine List.ext_getElem? fun i => ?_
  rw [List.getElem?_map]
  cases e : xs[i]? with
  | none =>
    have hl : xs.length ≤ i := List.getElem?_eq_none_iff.mp e
    rw [h.1] at hl
    rw [List.getElem?_eq_none hl]
    rfl
  | some x =>
    obtain ⟨m, e1, e2⟩ := h.get e
    rw [e1, Option.map_some, kOf_is e2]
theorem rs_of_k {H : Hp} {ys : List V} (h : ∀ y ∈ ys, IsRw blkV H y (kOf H y)) : IsRs blkV H ys (ys.map (kOf H)) := by
  refine ⟨by simp, fun i v m h1 h2 => ?_⟩
  rw [List.getElem?_map, h1, Option.map_some] at h2
  cases h2
  exact h v (List.mem_of_getElem? h1)
/-! ### lengths -/
theorem joinStep_len {g : Int} {p : Str} {w : Bool} {acc : List (Int × Int)} {x : Int × Int} : (joinStep g p w acc x).length ≤ acc.length + 1 := by
  unfold joinStep
  split
  · split
    · simp only [List.length_append, List.length_dropLast, List.length_singleton]
      omega
    · simp
  · simp
theorem fold_len {g : Int} {p : Str} {w : Bool} : ∀ {ps acc : List (Int × Int)}, (ps.foldl (joinStep g p w) acc).length ≤ acc.length + ps.length
  | [], acc => by simp
  | x :: ps, acc => by
    have h := fold_len (g := g) (p := p) (w := w) (ps := ps) (acc := joinStep g p w acc x)
    have h2 := joinStep_len (g := g) (p := p) (w := w) (acc := acc) (x := x)
    simp only [List.foldl_cons, List.length_cons]
    omega
theorem joinedL_len {g : Int} {p : Str} {w : Bool} {ps : List (Int × Int)} : (joinedL g p w ps).length ≤ ps.length := by
  have h := fold_len (g := g) (p := p) (w := w) (ps := ps) (acc := [])
  simpa [joinedL] using h
theorem spansL_len {s : Int} {p : Str} {w : Bool} {ms : List Mt} : (spansL s p w ms).length ≤ ms.length := by
  unfold spansL
  rw [List.length_map]
  exact List.length_filter_le _ _
theorem blocksL_len {s g l : Int} {p : Str} {o : Option (Int × Int)} {ms : List Mt} {w : Bool} : (blocksL s g l p o ms w).length ≤ ms.length := by
  unfold blocksL
  refine Nat.le_trans (List.length_filterMap_le _ _) ?_
  rw [List.length_map]
  exact Nat.le_trans joinedL_len spansL_len
theorem joinedL_succ {g : Int} {p : Str} {w : Bool} {ps : List (Int × Int)} {i : Nat} {x : Int × Int} (h : ps[i]? = some x) : joinedL g p w (ps.take (i + 1)) = joinStep g p w (joinedL g p w (ps.take i)) x := by
  rw [take_snoc h]
  simp [joinedL]
end DD

set_option Elab.async false
set_option linter.all false
set_option maxRecDepth 100000
set_option maxHeartbeats 2000000
namespace DD
open PySem PySem.Spec PyProof.Rows L2 StX
section
variable {P : Program} {w : World} {K : PySem.W.Frag} {mg : Str → Option Value} {base : Heap} {d : Ad}
def sp_put (f : Int → Int → Int) : Sp := fun vs H Q _ => ∃ (t s : Int), vs = [.int t, .int s] ∧ 1 ≤ s ∧ s < 1000 ∧ Q (.int (f t s)) H
theorem ok_put_down (T : Txt K mg d) : FnR P w K mg base CX0 1 d.f_put_down (sp_put pDown) := by
  refine mkR T.F_put_down sc_put_down (fun vs H Q E h => ?_) (fun _ _ _ _ _ _ us hl => match us, hl with | [_, _], _ => rfl) (fun cdv A outer s H vs Q E hr h => ?_)
  · obtain ⟨_, _, rfl, _⟩ := h
    rfl
  · obtain ⟨t, st, rfl, h1, h2, q⟩ := h
    refine ⟨_, (pss_one (ps_ret (pe_op op_mul (pe_op op_fdiv (pv 0) (pv 1)) (pv 1)))), ?_⟩
    have cdiv : CDiv t st := ⟨by omega, by omega⟩
    exact ⟨_, rfl, _, rfl, _, _, rfl, rfl, cdiv, _, rfl, _, _, rfl, rfl, .inr ⟨by omega, by omega⟩, q⟩
theorem ok_put_up (T : Txt K mg d) : FnR P w K mg base CX0 1 d.f_put_up (sp_put pUp) := by
  refine mkR T.F_put_up sc_put_up (fun vs H Q E h => ?_) (fun _ _ _ _ _ _ us hl => match us, hl with | [_, _], _ => rfl) (fun cdv A outer s H vs Q E hr h => ?_)
  · obtain ⟨_, _, rfl, _⟩ := h
    rfl
  · obtain ⟨t, st, rfl, h1, h2, q⟩ := h
    refine ⟨_, (pss_one (ps_ret (pe_op op_mul (pe_op op_fdiv (pe_op op_sub (pe_op op_add (pv 0) (pv 1)) pe_int) (pv 1)) (pv 1)))), ?_⟩
    have cdiv : CDiv (t + st - 1) st := ⟨by omega, by omega⟩
    exact ⟨_, rfl, _, rfl, _, _, rfl, rfl, _, _, rfl, rfl, _, rfl, _, _, rfl, rfl, cdiv, _, rfl, _, _, rfl, rfl, .inr ⟨by omega, by omega⟩, q⟩
def sp_word_shown (d : Ad) : Sp := fun vs H Q _ => ∃ (v : V) (s g l : Int) (p : Str) (o : Option (Int × Int)) (b : Bool), vs = [v, .bl b] ∧ IsRule d H v s g l p o ∧ Q (kindV (kindB p b)) H
theorem dec_str {a b : Str} : decide (V.str a = V.str b) = decide (a = b) := by
  by_cases e : a = b
  · rw [decide_eq_true e, decide_eq_true (congrArg V.str e)]
  · rw [decide_eq_false e, decide_eq_false fun z => e (V.str.inj z)]
theorem ok_word_shown (T : Txt K mg d) : FnR P w K mg base CX0 1 d.f_word_shown (sp_word_shown d) := by
  refine mkR T.F_word_shown sc_word_shown (fun vs H Q E h => ?_) (fun _ _ _ _ _ _ us hl => match us, hl with | [_, _], _ => rfl) (fun cdv A outer s H vs Q E hr h => ?_)
  · obtain ⟨_, _, _, _, _, _, _, rfl, _⟩ := h
    rfl
  · obtain ⟨v, st, g, l, p, o, b, rfl, ⟨a, dx, h, rfl, ha, hh⟩, q⟩ := h
    refine ⟨_, (pss_cons (ps_if (PW.pt (pw_or (pt_not (pt_val (pv 1))) (pw_or1 (pt_cmpR op_eq (pe_fld (pv 0) rfl) pe_str (nomark _))))) (pss_one (ps_ret pe_str)) pss_nil) (pss_cons (ps_if (pt_cmpR op_eq (pe_fld (pv 0) rfl) pe_str (nomark _)) (pss_one (ps_ret pe_non)) pss_nil) (pss_one (ps_ret pe_str)))), ?_⟩
    refine ⟨_, rfl, b, rfl, ?_⟩
    cases b with
    | false => exact iteT (iteT q)
    | true =>
      refine iteF ?_
      refine ⟨_, rfl, _, _, _, _, _, rfl, ha, T.cl_Rule, T.na_Rule_private, lkR_private, rfl, _, rfl, ?_⟩
      rw [dec_str]
      by_cases e1 : p = "busy"
      · rw [decide_eq_true e1]
        subst e1
        exact iteT q
      · rw [decide_eq_false e1]
        refine iteF ?_
        refine ⟨_, rfl, _, _, _, _, _, rfl, ha, T.cl_Rule, T.na_Rule_private, lkR_private, rfl, _, rfl, ?_⟩
        rw [dec_str]
        by_cases e2 : p = "none"
        · rw [decide_eq_true e2]
          refine iteT ?_
          rw [show kindB p true = none from by unfold kindB; rw [if_neg (by simp [e1]), if_pos e2]] at q
          exact q
        · rw [decide_eq_false e2]
          refine iteF ?_
          rw [show kindB p true = some true from by unfold kindB; rw [if_neg (by simp [e1]), if_neg e2]] at q
          exact q
theorem wd_priv {w : Bool} : decide (V.str (wd w) = V.str "private") = w := by cases w <;> decide +kernel
def sp_is_joined (d : Ad) : Sp := fun vs H Q _ => ∃ (v : V) (s g l : Int) (p : Str) (o : Option (Int × Int)) (w : Bool) (e b : Int), vs = [v, .str (wd w), .int e, .int b] ∧ IsRule d H v s g l p o ∧ Q (.bl (joinB g p w e b)) H
theorem ok_is_joined (T : Txt K mg d) : FnR P w K mg base CX0 1 d.f_is_joined (sp_is_joined d) := by
  refine mkR T.F_is_joined sc_is_joined (fun vs H Q E h => ?_) (fun _ _ _ _ _ _ us hl => match us, hl with | [_, _, _, _], _ => rfl) (fun cdv A outer s H vs Q E hr h => ?_)
  · obtain ⟨_, _, _, _, _, _, _, _, _, rfl, _⟩ := h
    rfl
  · obtain ⟨v, st, g, l, p, o, wb, e, b, rfl, ⟨a, dx, h, rfl, ha, hh⟩, q⟩ := h
    refine ⟨_, (pss_cons (ps_if (PW.pt (pw_and (pt_cmpR op_eq (pv 1) pe_str (nomark _)) (pw_and1 (pt_cmpR op_eq (pe_fld (pv 0) rfl) pe_str (nomark _))))) (pss_one (ps_ret pe_bl)) pss_nil) (pss_one (ps_ret (pe_cmpR op_le (pe_op op_sub (pv 3) (pv 2)) (pe_fld (pv 0) rfl) (nomark _))))), ?_⟩
    have fin : ∀ {σ : L2.St}, σ = [some (.ref a), some (.str (wd wb)), some (.int e), some (.int b)] → joinB g p wb e b = decide (b - e ≤ g) → tRet (tOp (rI0 fun i j => .bl (decide (i ≤ j))) (tOp (rI0 fun i j => .int (i - j)) (tVar 3) (tVar 2)) (tFld K (tVar 0) "gap")) { nx := fun _ H' => Q .non H', rt := Q } σ H := by
      rintro σ rfl ej
      rw [ej] at q
      exact ⟨_, rfl, _, rfl, _, _, rfl, rfl, _, rfl, _, _, _, _, _, rfl, ha, T.cl_Rule, T.na_Rule_gap, lkR_gap, _, _, rfl, rfl, q⟩
    refine ⟨_, rfl, rfl, _, rfl, ?_⟩
    rw [wd_priv]
    cases wb with
    | false => exact iteF (iteF (fin rfl rfl))
    | true =>
      refine iteT ?_
      refine ⟨_, rfl, _, _, _, _, _, rfl, ha, T.cl_Rule, T.na_Rule_private, lkR_private, rfl, _, rfl, ?_⟩
      rw [dec_str]
      by_cases e1 : p = "one"
      · rw [decide_eq_true e1]
        refine iteT ?_
        rw [show joinB g p true e b = true from by simp [joinB, e1]] at q
        exact q
      · rw [decide_eq_false e1]
        exact iteF (fin rfl (by simp [joinB, e1]))
def sp_span_shown (d : Ad) : Sp := fun vs H Q _ => ∃ (v : V) (s g l : Int) (p : Str) (o : Option (Int × Int)) (b e : Int), vs = [v, .int b, .int e] ∧ IsRule d H v s g l p o ∧ ∀ r H', Same H H' → IsHours H' r (cutS l o b e) → Q r H'
theorem ok_span_shown (T : Txt K mg d) : FnR P w K mg base CX0 1 d.f_span_shown (sp_span_shown d) := by
  refine mkR T.F_span_shown sc_span_shown (fun vs H Q E h => ?_) (fun _ _ _ _ _ _ us hl => match us, hl with | [_, _, _], _ => rfl) (fun cdv A outer s H vs Q E hr h => ?_)
  · obtain ⟨_, _, _, _, _, _, _, _, rfl, _⟩ := h
    rfl
  · obtain ⟨v, st, g, l, p, o, b, e, rfl, ⟨a, dx, h, rfl, ha, hh⟩, q⟩ := h
    refine ⟨_, (pss_cons (ps_if (pt_cmpR op_lt (pe_op op_sub (pv 2) (pv 1)) (pe_fld (pv 0) rfl) (nomark _)) (pss_one (ps_ret pe_non)) pss_nil) (pss_cons (ps_if (pt_cmp (pc_isN (pe_fld (pv 0) rfl))) (pss_one (ps_ret (pe_tup (pa_cons (pv 1) (pa_cons (pv 2) pa_nil))))) pss_nil) (pss_cons (ps_asg (pe_fld (pv 0) rfl) (pg_tup rfl (pgs_cons (pg_name (i := 3) sc_span_shown.nd rfl (by first | exact Or.inl rfl | exact Or.inr rfl)) (pgs_cons (pg_name (i := 4) sc_span_shown.nd rfl (by first | exact Or.inl rfl | exact Or.inr rfl)) pgs_nil)))) (pss_cons (ps_par (i := 1) (j := 2) rfl sc_span_shown.nd rfl rfl (by decide) rfl rfl (pa_cons (pe_callB (call_max2 rfl) (by rfl) T.b_max (by decide +kernel) (pa_cons (pv 1) (pa_cons (pv 3) pa_nil))) (pa_cons (pe_callB (call_min2 rfl) (by rfl) T.b_min (by decide +kernel) (pa_cons (pv 2) (pa_cons (pv 4) pa_nil))) pa_nil)) (by first | rfl | exact sw2 (by rfl) (by rfl) (by rfl))) (pss_one (ps_ret (pe_ifExp (pt_cmpR op_lt (pv 1) (pv 2) (nomark _)) (pe_tup (pa_cons (pv 1) (pa_cons (pv 2) pa_nil))) pe_non))))))), ?_⟩
    refine ⟨_, rfl, _, rfl, _, _, rfl, rfl, _, rfl, _, _, _, _, _, rfl, ha, T.cl_Rule, T.na_Rule_least, lkR_least, _, _, rfl, rfl, _, rfl, ?_⟩
    by_cases c1 : e - b < l
    · rw [decide_eq_true c1]
      refine iteT ?_
      exact q _ _ (fun _ _ z => z) (.inl ⟨rfl, by unfold cutS; rw [if_pos c1]⟩)
    · rw [decide_eq_false c1]
      refine iteF ?_
      refine ⟨_, rfl, _, _, _, _, _, rfl, ha, T.cl_Rule, T.na_Rule_hours, lkR_hours, ?_⟩
      rcases hh with ⟨rfl, rfl⟩ | ⟨ah, i, j, rfl, hah, rfl⟩
      · refine ⟨_, rfl, iteT ?_⟩
        refine ⟨_, rfl, _, rfl, (by show 2 ≤ sizeLine; decide), fun t nt => ?_⟩
        exact q _ _ (Same.new nt) (.inr ⟨t, b, e, rfl, upd_same, by unfold cutS; rw [if_neg c1]⟩)
      · refine ⟨_, rfl, iteF ?_⟩
        refine ⟨_, rfl, _, _, _, _, _, rfl, ha, T.cl_Rule, T.na_Rule_hours, lkR_hours, ah, _, rfl, .inl (.inl hah), rfl, _, _, rfl, _, _, rfl, rfl, ?_⟩
        refine ⟨_, rfl, _, rfl, _, _, rfl, _, rfl, _, rfl, _, _, rfl, _, _, rfl, ?_⟩
        refine ⟨_, rfl, _, rfl, _, _, rfl, rfl, _, rfl, ?_⟩
        refine ite2 (fun c2 => ?_) (fun c2 => ?_)
        · have c2 : mx b i < mn e j := of_decide_eq_true c2
          refine ⟨_, rfl, _, rfl, (by show 2 ≤ sizeLine; decide), fun t nt => ?_⟩
          exact q _ _ (Same.new nt) (.inr ⟨t, mx b i, mn e j, rfl, upd_same, by unfold cutS; rw [if_neg c1]; dsimp only; rw [if_pos c2]⟩)
        · have c2 : ¬ mx b i < mn e j := fun z => c2 (decide_eq_true z)
          exact q _ _ (fun _ _ z => z) (.inl ⟨rfl, by unfold cutS; rw [if_neg c1]; dsimp only; rw [if_neg c2]⟩)
def kindD : Option Bool → PyData
  | some b => .str (wd b)
  | none => .none
theorem dp_kind {H : Hp} {k : Option Bool} : Dp K H (kindV k) (kindD k) := by
  cases k with
  | none => exact .non
  | some b => exact .str _
theorem shaped_kind {k : Option Bool} : SeqAt.shaped (kindD k) = true := by
  rcases k with _ | _ | _ <;> decide +kernel
theorem eqv_kind {k : Option Bool} {b : Bool} : PyData.eqv (kindD k) (.str (wd b)) = decide (k = some b) := by
  rcases k with _ | c
  · cases b <;> rfl
  · cases b <;> cases c <;> decide +kernel
def sp_meeting_spans (d : Ad) (K : PySem.W.Frag) : Sp := fun vs H Q _ => ∃ (v u : V) (s g l : Int) (p : Str) (o : Option (Int × Int)) (n : Int) (ms : List Mt) (w : Bool), vs = [v, u, .str (wd w)] ∧ IsRule d H v s g l p o ∧ RuleOk s g l p o ∧ s < 1000 ∧ IsDay d K H u n ms ∧ ms.length ≤ 1000 ∧
  ∀ a xs H', Same H H' → H' a = some (.lst xs) → IsRs prV H' xs (spansL s p w ms) → Q (.ref a) H'
theorem ok__meeting_spans (T : Txt K mg d) : FnR P w K mg base CX0 2 d.f__meeting_spans (sp_meeting_spans d K) := by
  refine mkR T.F__meeting_spans sc__meeting_spans (fun vs H Q E h => ?_) (fun _ _ _ _ _ _ us hl => match us, hl with | [_, _, _], _ => rfl) (fun cdv A outer s H vs Q E hr h => ?_)
  · obtain ⟨_, _, _, _, _, _, _, _, _, _, rfl, _⟩ := h
    rfl
  · obtain ⟨v, u, st, g, l, p, o, n, ms, wb, rfl, R, RO, hs, D, hz, q⟩ := h
    have hu := hr.units
    have hs1 := RO.s
    refine ⟨_, (pss_cons (ps_set (i := 3) sc__meeting_spans.nd rfl (by first | exact Or.inl rfl | exact Or.inr rfl) (pe_fld (pv 0) rfl)) (pss_one (ps_ret (pe_lc (own := [("begin", 4), ("end", 5), ("is_private", 6)]) rfl sc__meeting_spans.nd (pi_tup (pe_fld (pv 1) rfl)) (blkOk_by (N := ["rule", "day", "word", "step", "begin", "end", "is_private"]) (sc := defScope s__meeting_spans) (by decide +kernel)) (fun _ _ _ _ _ => (pg_tupK (K := K) (n := 3) rfl (pgs_cons (pg_name (i := 4) sc__meeting_spans.nd rfl (by first | exact Or.inl rfl | exact Or.inr rfl)) (pgs_cons (pg_name (i := 5) sc__meeting_spans.nd rfl (by first | exact Or.inl rfl | exact Or.inr rfl)) (pgs_cons (pg_name (i := 6) sc__meeting_spans.nd rfl (by first | exact Or.inl rfl | exact Or.inr rfl)) pgs_nil))))) (fun _ _ _ _ _ => (pts_one (pt_cmpR (eqDK (K := K) hu) (pe_callR (ok_word_shown T) (hr.mono (by decide)) rfl T.m_word_shown T.k_word_shown pass0 (pa_cons (pv 0) (pa_cons (pv 6) pa_nil))) (pv 2) (nomark _)))) (fun _ _ _ _ _ => (pe_tup (pa_cons (pe_callR (ok_put_down T) (hr.mono (by decide)) rfl T.m_put_down T.k_put_down pass0 (pa_cons (pv 4) (pa_cons (pv 3) pa_nil))) (pa_cons (pe_callR (ok_put_up T) (hr.mono (by decide)) rfl T.m_put_up T.k_put_up pass0 (pa_cons (pv 5) (pa_cons (pv 3) pa_nil))) pa_nil)))))))), ?_⟩
    obtain ⟨a, dx, h, rfl, ha, hh⟩ := id R
    obtain ⟨b, dy, t, ws, rfl, hb, ht, hm⟩ := id D
    refine ⟨_, rfl, _, _, _, _, _, rfl, ha, T.cl_Rule, T.na_Rule_step, lkR_step, ?_⟩
    refine ⟨_, rfl, _, _, _, _, _, rfl, hb, T.cl_Day, T.na_Day_meetings, lkD_meetings, t, rfl, ⟨ws, ht⟩, fun C nC => ?_⟩
    refine lc_tup (K := K) (a := t) (xs := ws) (fun i H2 => Same H H2 ∧ ∃ ys, H2 C = some (.lst ys) ∧ IsRs prV H2 ys (spansL st p wb (ms.take i))) ⟨Same.new nC, [], upd_same, .nil⟩ (fun i H2 _ h2 => Same.tup h2.1 ht) ?_ ?_
    · rintro i x H2 hx ⟨s2, ys, h2, r2⟩
      obtain ⟨m, hm1, hm2⟩ := hm.get hx
      obtain ⟨c, rfl, hc⟩ := hm2.mono s2
      have e1 : ms.take (i + 1) = ms.take i ++ [m] := take_snoc hm1
      refine ⟨c, _, rfl, .inl (.inl hc), rfl, _, _, rfl, _, _, rfl, _, _, rfl, rfl, rfl, ?_⟩
      refine ⟨_, rfl, _, rfl, _, st, g, l, p, o, _, rfl, R.mono s2, ?_⟩
      refine ⟨_, rfl, kindD (kindB p m.2.2), .str (wd wb), dp_kind, .str _, shaped_kind, shaped_kind (k := some wb), ?_⟩
      rw [eqv_kind]
      refine ⟨_, rfl, ?_⟩
      have e2 : spansL st p wb (ms.take (i + 1)) = spansL st p wb (ms.take i) ++ (if kindB p m.2.2 = some wb then [(pDown m.1 st, pUp m.2.1 st)] else []) := by
        rw [e1]
        by_cases ek : kindB p m.2.2 = some wb <;> simp [spansL, ek]
      by_cases ek : kindB p m.2.2 = some wb
      · rw [decide_eq_true ek]
        rw [if_pos ek] at e2
        refine iteT ?_
        refine ⟨_, rfl, _, rfl, _, _, rfl, hs1, hs, _, rfl, _, rfl, _, _, rfl, hs1, hs, (by show 2 ≤ sizeLine; decide), fun p2 n2 => ?_⟩
        have s3 := Same.new (o := .tup [.int (pDown m.1 st), .int (pUp m.2.1 st)]) n2
        have h3 := s3 _ _ h2
        refine ⟨ys, h3, sz1000 ?_, Same.mut (s2.trans s3) nC, ys ++ [.ref p2], upd_same, ?_⟩
        · have := r2.1
          have := spansL_len (s := st) (p := p) (w := wb) (ms := ms.take i)
          rw [List.length_take] at this
          omega
        · rw [e2]
          exact ((r2.mono s3).append (.one ⟨p2, rfl, upd_same⟩)).on (tup_upd h3)
      · rw [decide_eq_false ek]
        rw [if_neg ek, List.append_nil] at e2
        refine iteF ⟨s2, ys, h2, ?_⟩
        rw [e2]
        exact r2
    · rintro H2 ⟨s2, ys, h2, r2⟩
      rw [hm.1, List.take_length] at r2
      exact q C ys H2 s2 h2 r2
end
end DD

set_option Elab.async false
set_option linter.all false
set_option maxRecDepth 100000
set_option maxHeartbeats 2000000
namespace DD
open PySem PySem.Spec PyProof.Rows L2 StX
section
variable {P : Program} {w : World} {K : PySem.W.Frag} {mg : Str → Option Value} {base : Heap} {d : Ad}
def sp_joined_spans (d : Ad) : Sp := fun vs H Q _ => ∃ (v : V) (a : Addr) (s g l : Int) (p : Str) (o : Option (Int × Int)) (xs : List V) (ps : List (Int × Int)) (w : Bool), vs = [v, .str (wd w), .ref a] ∧ IsRule d H v s g l p o ∧ H a = some (.lst xs) ∧ IsRs prV H xs ps ∧ ps.length ≤ 1000 ∧
  ∀ r ys H', Same H H' → H' r = some (.lst ys) → IsRs prV H' ys (joinedL g p w ps) → Q (.ref r) H'
theorem ok__joined_spans (T : Txt K mg d) : FnR P w K mg base CX0 2 d.f__joined_spans (sp_joined_spans d) := by
  refine mkR T.F__joined_spans sc__joined_spans (fun vs H Q E h => ?_) (fun _ _ _ _ _ _ us hl => match us, hl with | [_, _, _], _ => rfl) (fun cdv A outer s H vs Q E hr h => ?_)
  · obtain ⟨_, _, _, _, _, _, _, _, _, _, rfl, _⟩ := h
    rfl
  · obtain ⟨v, a, st, g, l, p, o, xs, ps, wb, rfl, R, ha, hp, hz, q⟩ := h
    have hu := hr.units
    refine ⟨_, (pss_cons (ps_set (i := 3) sc__joined_spans.nd rfl (by first | exact Or.inl rfl | exact Or.inr rfl) (pe_lst pa_nil)) (pss_cons (ps_for PassesOwn.never rfl (pi_list (pv 2)) (pg_tup rfl (pgs_cons (pg_name (i := 4) sc__joined_spans.nd rfl (by first | exact Or.inl rfl | exact Or.inr rfl)) (pgs_cons (pg_name (i := 5) sc__joined_spans.nd rfl (by first | exact Or.inl rfl | exact Or.inr rfl)) pgs_nil))) (pss_one (ps_if (PW.pt (pw_and (pt_cmpR op_gt (pe_callB call_len_seq (by rfl) T.b_len PySem.boot_len (pa_cons (pv 3) pa_nil)) pe_int (nomark _)) (pw_and1 (pt_val (pe_callR (ok_is_joined T) (hr.mono (by decide)) rfl T.m_is_joined T.k_is_joined pass0 (pa_cons (pv 0) (pa_cons (pv 1) (pa_cons (pe_ix ix_tup (pe_ix ix_list (pv 3) (pe_un un_neg pe_int) (fun _ _ => rfl)) pe_int (fun _ _ => rfl)) (pa_cons (pv 4) pa_nil))))))))) (pss_one (ps_asg (pe_tup (pa_cons (pe_ix ix_tup (pe_ix ix_list (pv 3) (pe_un un_neg pe_int) (fun _ _ => rfl)) pe_int (fun _ _ => rfl)) (pa_cons (pv 5) pa_nil))) (pg_sub (pv 3) (pe_un un_neg pe_int) set_list))) (pss_one (ps_expr (pe_bm PySem.F.plainAttrs_list PySem.F.slot_list_append PySem.F.type_list_append mt_append (pv 3) (pa_cons (pe_tup (pa_cons (pv 4) (pa_cons (pv 5) pa_nil))) pa_nil))))))) (pss_one (ps_ret (pv 3))))), ?_⟩
    refine ⟨(by show 0 ≤ sizeLine; decide), fun j nj => ?_⟩
    have s1 := Same.new (o := .lst []) nj
    refine ⟨_, rfl, a, rfl, ⟨xs, .inl (.inl (s1 _ _ ha))⟩, for_list (K := K) (a := a) (xs := xs) (fun i σ H2 => ∃ x1 x2 ys, σ = [some v, some (.str (wd wb)), some (.ref a), some (.ref j), x1, x2] ∧ Same H H2 ∧ H2 j = some (.lst ys) ∧ IsRs prV H2 ys (joinedL g p wb (ps.take i)))
      ⟨none, none, [], rfl, s1, upd_same, .nil⟩ (fun i σ H2 _ ⟨_, _, _, _, s2, _⟩ => .inl (.inl (s2 _ _ ha))) ?_ ?_⟩
    · rintro i x σ H2 hx ⟨x1, x2, ys, rfl, s2, h2, r2⟩
      obtain ⟨m, hm1, hm2⟩ := hp.get hx
      obtain ⟨c, rfl, hc⟩ := (hm2.on (fun b zs e => s2 _ _ e) : IsRw prV H2 _ m)
      have e1 := joinedL_succ (g := g) (p := p) (w := wb) hm1
      refine ⟨c, _, rfl, .inl (.inl hc), rfl, _, _, rfl, _, _, rfl, rfl, ?_⟩
      have hlen : ys.length ≤ 1000 := by
        have h1 := r2.1
        have h2 := joinedL_len (g := g) (p := p) (w := wb) (ps := ps.take i)
        rw [List.length_take] at h2
        omega
      have put : ∀ {H3 : Hp}, Same H H3 → H3 j = some (.lst ys) → IsRs prV H3 ys (joinedL g p wb (ps.take i)) → joinStep g p wb (joinedL g p wb (ps.take i)) m = joinedL g p wb (ps.take i) ++ [m] →
          ∀ p6, H3 p6 = none → Same H (upd (upd H3 p6 (.tup [.int m.1, .int m.2])) j (.lst (ys ++ [.ref p6]))) ∧ IsRs prV (upd (upd H3 p6 (.tup [.int m.1, .int m.2])) j (.lst (ys ++ [.ref p6]))) (ys ++ [.ref p6]) (joinedL g p wb (ps.take (i + 1))) := by
        intro H3 s3 h3 r3 ej p6 n6
        have s6 := Same.new (o := .tup [.int m.1, .int m.2]) n6
        refine ⟨Same.mut (s3.trans s6) nj, ?_⟩
        rw [e1, ej]
        exact ((r3.mono s6).append (.one ⟨p6, rfl, upd_same⟩)).on (tup_upd (s6 _ _ h3))
      refine ⟨_, rfl, j, ys, rfl, .inl (.inl (.inl h2)), _, _, rfl, rfl, _, rfl, ?_⟩
      rcases List.eq_nil_or_concat (joinedL g p wb (ps.take i)) with e0 | ⟨acc, last, e0⟩
      · rw [e0] at r2
        obtain rfl : ys = [] := List.length_eq_zero_iff.mp r2.1
        refine iteF (iteF ?_)
        refine ⟨_, rfl, .inl ⟨rfl, [], .inl (.inl h2)⟩, _, rfl, _, rfl, (by show 2 ≤ sizeLine; decide), fun p6 n6 => ?_⟩
        have s6 := Same.new (o := .tup [.int m.1, .int m.2]) n6
        refine ⟨j, [], _, rfl, rfl, s6 _ _ h2, sz1000 (by simp), ?_⟩
        obtain ⟨f1, f2⟩ := put s2 h2 (by rw [e0]; exact r2) (by rw [e0]; rfl) p6 n6
        exact ⟨_, _, _, rfl, f1, upd_same, f2⟩
      · have r2' := r2
        rw [e0, List.concat_eq_append] at r2'
        rw [List.concat_eq_append] at e0
        obtain ⟨ws, vl, rfl, rA, ⟨cl, rfl, hcl⟩⟩ := r2'.last
        rw [decide_eq_true (by rw [List.length_append, List.length_singleton]; omega)]
        refine iteT ?_
        refine ⟨_, rfl, _, rfl, _, rfl, 1, rfl, j, _, _, _, rfl, rfl, .inl (.inl h2), atI_last _ _, cl, _, _, _, rfl, rfl, .inl (.inl hcl), atI_nat (j := 1) rfl, _, rfl, ?_⟩
        refine ⟨v, st, g, l, p, o, wb, last.2, m.1, rfl, R.mono s2, ?_⟩
        refine ⟨_, rfl, ?_⟩
        cases ej : joinB g p wb last.2 m.1 with
        | true =>
          refine iteT ?_
          refine ⟨_, rfl, 1, rfl, j, _, _, _, rfl, rfl, .inl (.inl h2), atI_last _ _, cl, _, _, _, rfl, rfl, .inl (.inl hcl), atI_nat (j := 0) rfl, _, rfl, (by show 2 ≤ sizeLine; decide), fun p3 n3 => ?_⟩
          have s3 := Same.new (o := .tup [.int last.1, .int m.2]) n3
          have h3 := s3 _ _ h2
          refine ⟨_, rfl, 1, rfl, j, _, _, _, rfl, rfl, h3, ixN_last, ?_⟩
          rw [set_last]
          refine ⟨_, _, _, rfl, Same.mut (s2.trans s3) nj, upd_same, ?_⟩
          rw [e1, e0, joinStep_on ej]
          exact ((rA.mono s3).append (.one ⟨p3, rfl, upd_same⟩)).on (tup_upd h3)
        | false =>
          refine iteF ?_
          refine ⟨_, rfl, .inl ⟨rfl, _, .inl (.inl h2)⟩, _, rfl, _, rfl, (by show 2 ≤ sizeLine; decide), fun p6 n6 => ?_⟩
          have s6 := Same.new (o := .tup [.int m.1, .int m.2]) n6
          refine ⟨j, _, _, rfl, rfl, s6 _ _ h2, sz1000 hlen, ?_⟩
          obtain ⟨f1, f2⟩ := put s2 h2 r2 (by rw [e0]; exact joinStep_off ej) p6 n6
          exact ⟨_, _, _, rfl, f1, upd_same, f2⟩
    · rintro σ H2 ⟨x1, x2, ys, rfl, s2, h2, r2⟩
      rw [hp.1, List.take_length] at r2
      exact ⟨_, rfl, q j ys H2 s2 h2 r2⟩
end
end DD

set_option Elab.async false
set_option linter.all false
set_option maxRecDepth 100000
set_option maxHeartbeats 2000000
namespace DD
open PySem PySem.Spec PyProof.Rows L2 StX
section
variable {P : Program} {w : World} {K : PySem.W.Frag} {mg : Str → Option Value} {base : Heap} {d : Ad}
def sp_blocks (d : Ad) (K : PySem.W.Frag) : Sp := fun vs H Q _ => ∃ (v u : V) (s g l : Int) (p : Str) (o : Option (Int × Int)) (n : Int) (ms : List Mt) (w : Bool), vs = [v, u, .str (wd w)] ∧ IsRule d H v s g l p o ∧ RuleOk s g l p o ∧ s < 1000 ∧ IsDay d K H u n ms ∧ ms.length ≤ 1000 ∧
  ∀ a xs H', Same H H' → H a = none → H' a = some (.lst xs) → IsRs blkV H' xs (blocksL s g l p o ms w) → Q (.ref a) H'
theorem ok__blocks (T : Txt K mg d) : FnR P w K mg base CX0 3 d.f__blocks (sp_blocks d K) := by
  refine mkR T.F__blocks sc__blocks (fun vs H Q E h => ?_) (fun _ _ _ _ _ _ us hl => match us, hl with | [_, _, _], _ => rfl) (fun cdv A outer s H vs Q E hr h => ?_)
  · obtain ⟨_, _, _, _, _, _, _, _, _, _, rfl, _⟩ := h
    rfl
  · obtain ⟨v, u, st, g, l, p, o, n, ms, wb, rfl, R, RO, hs, D, hz, q⟩ := h
    refine ⟨_, (pss_cons (ps_set (i := 3) sc__blocks.nd rfl (by first | exact Or.inl rfl | exact Or.inr rfl) (pe_callR (ok__joined_spans T) (hr.mono (by decide)) rfl T.m__joined_spans T.k__joined_spans pass0 (pa_cons (pv 0) (pa_cons (pv 2) (pa_cons (pe_callR (ok__meeting_spans T) (hr.mono (by decide)) rfl T.m__meeting_spans T.k__meeting_spans pass0 (pa_cons (pv 0) (pa_cons (pv 1) (pa_cons (pv 2) pa_nil)))) pa_nil))))) (pss_cons (ps_setLc (i := 4) (own := [("begin", 6), ("end", 7)]) rfl sc__blocks.nd rfl rfl (by rfl) (pi_list (pv 3)) (blkOk_by (N := ["rule", "day", "word", "joined", "cut", "span", "begin", "end"]) (sc := defScope s__blocks) (by decide +kernel)) (fun _ _ _ _ _ => (pg_tupK (K := K) (n := 2) rfl (pgs_cons (pg_name (i := 6) sc__blocks.nd rfl (by first | exact Or.inl rfl | exact Or.inr rfl)) (pgs_cons (pg_name (i := 7) sc__blocks.nd rfl (by first | exact Or.inl rfl | exact Or.inr rfl)) pgs_nil)))) (fun _ _ _ _ _ => pts_nil) (fun _ _ _ _ _ => (pe_callR (ok_span_shown T) (hr.mono (by decide)) rfl T.m_span_shown T.k_span_shown pass0 (pa_cons (pv 0) (pa_cons (pv 6) (pa_cons (pv 7) pa_nil)))))) (pss_one (ps_ret (pe_lc (own := [("span", 5)]) rfl sc__blocks.nd (pi_list (pv 4)) (blkOk_by (N := ["rule", "day", "word", "joined", "cut", "span", "begin", "end"]) (sc := defScope s__blocks) (by decide +kernel)) (fun _ _ _ _ _ => (pg_name (i := 5) sc__blocks.nd rfl (by first | exact Or.inl rfl | exact Or.inr rfl))) (fun _ _ _ _ _ => (pts_one (pt_cmp (pc_notN (pv 5))))) (fun _ _ _ _ _ => (pe_tup (pa_cons (pe_ix (ixT_K (K := K)) (pv 5) pe_int (fun _ _ => rfl)) (pa_cons (pe_ix (ixT_K (K := K)) (pv 5) pe_int (fun _ _ => rfl)) (pa_cons (pv 2) pa_nil)))))))))), ?_⟩
    refine ⟨_, rfl, _, rfl, _, rfl, _, rfl, _, rfl, v, u, st, g, l, p, o, n, ms, wb, rfl, R, RO, hs, D, hz, fun a xs H1 s1 ha r1 => ?_⟩
    refine ⟨v, a, st, g, l, p, o, xs, _, wb, rfl, R.mono s1, ha, r1, Nat.le_trans spansL_len hz, fun r ys H2 s2 hr2 r2 => ?_⟩
    have s02 := s1.trans s2
    have jl : (joinedL g p wb (spansL st p wb ms)).length ≤ 1000 := Nat.le_trans joinedL_len (Nat.le_trans spansL_len hz)
    refine ⟨_, rfl, r, rfl, ⟨ys, .inl (.inl hr2)⟩, fun C nC => ?_⟩
    refine lc_list (K := K) (a := r) (xs := ys) (fun i H3 => Same H2 H3 ∧ ∃ zs, H3 C = some (.lst zs) ∧ AllR (IsHours H3) zs (((joinedL g p wb (spansL st p wb ms)).take i).map fun x => cutS l o x.1 x.2)) ⟨Same.new nC, [], upd_same, .nil⟩ (fun i H3 _ h3 => .inl (.inl (h3.1 _ _ hr2))) ?_ ?_
    · rintro i x H3 hx ⟨s3, zs, h3, r3⟩
      obtain ⟨m, hm1, hm2⟩ := r2.get hx
      obtain ⟨c, rfl, hc⟩ := (hm2.on (fun b ws e => s3 _ _ e) : IsRw prV H3 _ m)
      refine ⟨c, _, rfl, .inl (.inl hc), rfl, _, _, rfl, _, _, rfl, rfl, rfl, ?_⟩
      refine ⟨_, rfl, _, rfl, _, rfl, v, st, g, l, p, o, _, _, rfl, R.mono (s02.trans s3), fun y H4 s4 hy => ?_⟩
      have h4 := s4 _ _ h3
      have hl3 := r3.len
      rw [List.length_map, List.length_take] at hl3
      refine ⟨zs, h4, sz1000 (by omega), Same.mut (s3.trans s4) nC, zs ++ [y], upd_same, ?_⟩
      rw [take_snoc hm1, List.map_append]
      exact ((r3.imp fun v m h => h.mono s4).snoc hy).imp fun v m h => hours_on (tup_upd h4) h
    · rintro H3 ⟨s3, zs, h3, r3⟩
      have el : ys.length = (joinedL g p wb (spansL st p wb ms)).length := r2.1
      rw [el, List.take_length] at r3
      have s03 := s02.trans s3
      refine ⟨_, rfl, C, rfl, ⟨zs, .inl (.inl h3)⟩, fun B nB => ?_⟩
      have hB := none_of s03 nB
      generalize hcs : ((joinedL g p wb (spansL st p wb ms)).map fun x => cutS l o x.1 x.2) = cs at r3
      have csl : cs.length ≤ 1000 := by rw [← hcs, List.length_map]; exact jl
      refine lc_list (K := K) (a := C) (xs := zs) (fun i H4 => Same H3 H4 ∧ ∃ bs, H4 B = some (.lst bs) ∧ IsRs blkV H4 bs ((cs.take i).filterMap fun c => c.map fun x => (x.1, x.2, wb))) ⟨Same.new nB, [], upd_same, .nil⟩ (fun i H4 _ h4 => .inl (.inl (h4.1 _ _ h3))) ?_ ?_
      · rintro i x H4 hx ⟨s4, bs, h4, r4⟩
        obtain ⟨c, hc1, hc2⟩ := r3.get hx
        have hc4 := hc2.mono s4
        have lb : bs.length ≤ 1000 := by
          have h1 := r4.1
          have h2 := List.length_filterMap_le (fun c : Option (Int × Int) => c.map fun x => ((x.1, x.2, wb) : Blk)) (cs.take i)
          rw [List.length_take] at h2
          omega
        refine ⟨rfl, _, rfl, _, rfl, ?_⟩
        rcases hc4 with ⟨rfl, rfl⟩ | ⟨ah, i1, j1, rfl, hah, rfl⟩
        · refine iteF ⟨s4, bs, h4, ?_⟩
          rw [take_snoc hc1, List.filterMap_append]
          simpa using r4
        · refine iteT ?_
          refine ⟨_, rfl, ah, _, _, _, rfl, rfl, .inl (.inl hah), atI_nat (j := 0) rfl, _, rfl, ah, _, _, _, rfl, rfl, .inl (.inl hah), atI_nat (j := 1) rfl, _, rfl, (by show 3 ≤ sizeLine; decide), fun p5 n5 => ?_⟩
          have s5 := Same.new (o := .tup [.int i1, .int j1, .str (wd wb)]) n5
          have h5 := s5 _ _ h4
          refine ⟨bs, h5, sz1000 lb, Same.mut (s4.trans s5) nB, bs ++ [.ref p5], upd_same, ?_⟩
          rw [take_snoc hc1, List.filterMap_append]
          exact ((r4.mono s5).append (.one ⟨p5, rfl, upd_same⟩)).on (tup_upd h5)
      · rintro H4 ⟨s4, bs, h4, r4⟩
        have el2 : zs.length = cs.length := r3.len
        rw [el2, List.take_length, ← hcs] at r4
        exact q B bs H4 (s03.trans s4) hB h4 r4
end
end DD

set_option Elab.async false
set_option linter.all false
set_option maxRecDepth 100000
set_option maxHeartbeats 2000000
namespace DD
open PySem PySem.Spec PyProof.Rows L2 StX
section
variable {K : PySem.W.Frag} {σ : L2.St} {vs vs1 : List Nat} {g g1 : TG} {tt tt1 : TT} {te : TE} {wi1 : TI}
theorem in_list {a : Addr} {xs : List V} {H4 : Hp} {D : Addr} {Qd : Hp → Prop} (Pv : Nat → Hp → Prop) (h0 : Pv 0 H4) (hl : ∀ i H, i ≤ xs.length → Pv i H → SqL K H a xs)
    (hs : ∀ j x H, xs[j]? = some x → Pv j H → g1 x (wipe σ vs1) H fun σ3 H5 => wipe σ3 vs1 = wipe σ vs1 ∧ tt1 σ3 H5 fun b H6 =>
      if b = true then te σ3 H6 fun y H7 => ∃ acc, H7 D = some (.lst acc) ∧ acc.length < sizeLine ∧ Pv (j + 1) (upd H7 D (.lst (acc ++ [y]))) else Pv (j + 1) H6) (hd : ∀ H, Pv xs.length H → Qd H) :
    ∃ W1 : Nat → Nat → Hp → Prop, (∃ m, W1 0 m H4) ∧ ∀ j k H, W1 j k H →
      ((Itl K a).stop j H ∧ Qd H) ∨ ((Itl K a).go j H ∧ ∃ Nx1 : Hp → Prop, (∀ H', Nx1 H' → ∃ k', k' < k ∧ W1 (j + 1) k' H') ∧ ∀ x H', (Itl K a).yld j H x H' → g1 x (wipe σ vs1) H' fun σ3 H5 => wipe σ3 vs1 = wipe σ vs1 ∧ tt1 σ3 H5 fun b H6 =>
        if b = true then te σ3 H6 fun y H7 => ∃ acc, H7 D = some (.lst acc) ∧ acc.length < sizeLine ∧ Nx1 (upd H7 D (.lst (acc ++ [y]))) else Nx1 H6) := by
  refine ⟨fun j k H => k = xs.length - j ∧ j ≤ xs.length ∧ Pv j H, ⟨xs.length, by simp, Nat.zero_le _, h0⟩, ?_⟩
  rintro j k H ⟨rfl, hj, p⟩
  have q := hl j H hj p
  by_cases hlt : j < xs.length
  · refine .inr ⟨⟨xs, xs[j], q, by simp [hlt]⟩, Pv (j + 1), fun H' p' => ⟨xs.length - (j + 1), by omega, rfl, hlt, p'⟩, fun x H' y => ?_⟩
    obtain ⟨e, y⟩ := y
    subst e
    exact hs j x _ (y xs q) p
  · have e : j = xs.length := by omega
    subst e
    exact .inl ⟨⟨xs, q, Nat.le_refl _⟩, hd H p⟩
end
section
variable {P : Program} {w : World} {K : PySem.W.Frag} {mg : Str → Option Value} {base : Heap} {d : Ad}
def preL (f : Bool → List Blk) (i : Nat) : List Blk := ([false, true].take i).flatMap f
def sp_show (d : Ad) (K : PySem.W.Frag) : Sp := fun vs H Q _ => ∃ (v u : V) (s g l : Int) (p : Str) (o : Option (Int × Int)) (n : Int) (ms : List Mt), vs = [v, u] ∧ IsRule d H v s g l p o ∧ RuleOk s g l p o ∧ s < 1000 ∧ IsDay d K H u n ms ∧ ms.length ≤ 1000 ∧
  ∀ a ys H', Same H H' → H' a = some (.tup ys) → IsRs blkV H' ys (showL s g l p o ms) → Q (.ref a) H'
theorem ok_show (T : Txt K mg d) : FnR P w K mg base CX0 4 d.f_show (sp_show d K) := by
  refine mkR T.F_show sc_show (fun vs H Q E h => ?_) (fun _ _ _ _ _ _ us hl => match us, hl with | [_, _], _ => rfl) (fun cdv A outer s H vs Q E hr h => ?_)
  · obtain ⟨_, _, _, _, _, _, _, _, _, rfl, _⟩ := h
    rfl
  · obtain ⟨v, u, st, g, l, p, o, n, ms, rfl, R, RO, hs, D, hz, q⟩ := h
    refine ⟨_, (pss_one (ps_ret (pe_callTy call_tuple_of rfl T.b_tuple (by decide +kernel) (pa_cons (pe_callB cr_sortedB (by rfl) T.b_sorted (by decide +kernel) (pa_cons (pe_lc2 (own := [("word", 2), ("block", 3)]) (vs1 := [3]) rfl sc_show.nd (pi_tup (pe_glob (v := .ref d.c_WORDS) rfl T.m_WORDS rfl)) (blkOk_by (N := ["rule", "day", "word", "block"]) (sc := defScope s_show) (by decide +kernel)) (by decide) (fun _ _ _ _ _ => (pg_name (i := 2) sc_show.nd rfl (by first | exact Or.inl rfl | exact Or.inr rfl))) (fun _ _ _ _ _ => pts_nil) (fun _ _ _ _ _ => (pi_listK (K := K) (pe_callR (ok__blocks T) (hr.mono (by decide)) rfl T.m__blocks T.k__blocks pass0 (pa_cons (pv 0) (pa_cons (pv 1) (pa_cons (pv 2) pa_nil)))))) (fun _ _ _ _ _ => (pg_name (i := 3) sc_show.nd rfl (by first | exact Or.inl rfl | exact Or.inr rfl))) (fun _ _ _ _ _ => pts_nil) (fun _ _ _ _ _ => (pv 3))) pa_nil)) pa_nil)))), ?_⟩
    refine ⟨d.c_WORDS, rfl, ⟨v_WORDS, T.w_WORDS H⟩, fun C nC => ?_⟩
    refine lc2_tup (K := K) (a := d.c_WORDS) (xs := v_WORDS) (fun i H2 => Same H H2 ∧ ∃ bs, H2 C = some (.lst bs) ∧ IsRs blkV H2 bs (preL (blocksL st g l p o ms) i)) ⟨Same.new nC, [], upd_same, .nil⟩ (fun i H2 _ h2 => T.w_WORDS H2) ?_ ?_
    · rintro i x H2 hx ⟨s2, bs, h2, r2⟩
      obtain ⟨wb, hwb, rfl, hpre⟩ : ∃ wb, True ∧ x = .str (wd wb) ∧ ∀ f : Bool → List Blk, preL f (i + 1) = preL f i ++ f wb := by
        match i, hx with
        | 0, hx =>
          cases hx
          exact ⟨false, trivial, rfl, fun f => by simp [preL]⟩
        | 1, hx =>
          cases hx
          exact ⟨true, trivial, rfl, fun f => by simp [preL]⟩
        | k + 2, hx => simp [v_WORDS] at hx
      have lpre : ∀ i, (preL (blocksL st g l p o ms) i).length ≤ 2000 := by
        intro i
        have h1 := blocksL_len (s := st) (g := g) (l := l) (p := p) (o := o) (ms := ms) (w := false)
        have h2 := blocksL_len (s := st) (g := g) (l := l) (p := p) (o := o) (ms := ms) (w := true)
        match i with
        | 0 => simp [preL]
        | 1 =>
          simp [preL]
          omega
        | k + 2 =>
          simp [preL]
          omega
      refine ⟨rfl, ?_⟩
      refine ⟨_, rfl, _, rfl, _, rfl, v, u, st, g, l, p, o, n, ms, wb, rfl, R.mono s2, RO, hs, D.mono s2, hz, fun a xs H3 s3 na ha r3 => ?_⟩
      have hCa : C ≠ a := ne_of_none h2 na
      refine ⟨a, rfl, ⟨xs, .inl (.inl ha)⟩, ?_⟩
      refine in_list (K := K) (a := a) (xs := xs) (fun j H4 => Same H H4 ∧ H4 a = some (.lst xs) ∧ IsRs blkV H4 xs (blocksL st g l p o ms wb) ∧ ∃ bs, H4 C = some (.lst bs) ∧ IsRs blkV H4 bs (preL (blocksL st g l p o ms) i ++ (blocksL st g l p o ms wb).take j))
        ⟨s2.trans s3, ha, r3, bs, s3 _ _ h2, by simpa using r2.mono s3⟩ (fun j H4 _ h4 => .inl (.inl h4.2.1)) ?_ ?_
      · rintro j y H4 hy ⟨s4, ha4, r4, bs4, h4, t4⟩
        obtain ⟨m, hm1, hm2⟩ := r4.get hy
        obtain ⟨c, rfl, hc⟩ := hm2
        refine ⟨rfl, ?_⟩
        have lb : bs4.length ≤ 10000 := by
          have h1 := t4.1
          have h2 := lpre i
          have h3 := blocksL_len (s := st) (g := g) (l := l) (p := p) (o := o) (ms := ms) (w := wb)
          rw [List.length_append, List.length_take] at h1
          omega
        refine ⟨_, rfl, bs4, h4, Nat.lt_of_le_of_lt lb (by decide), Same.mut s4 nC, by rw [upd_ne hCa.symm]; exact ha4, r4.on (tup_upd h4), bs4 ++ [.ref c], upd_same, ?_⟩
        rw [take_snoc hm1, ← List.append_assoc]
        exact (t4.append (.one ⟨c, rfl, hc⟩)).on (tup_upd h4)
      · rintro H4 ⟨s4, _, r4, bs4, h4, t4⟩
        refine ⟨s4, bs4, h4, ?_⟩
        rw [r4.1, List.take_length, ← hpre] at t4
        exact t4
    · rintro H2 ⟨s2, bs, h2, r2⟩
      have ep : preL (blocksL st g l p o ms) v_WORDS.length = blocksL st g l p o ms false ++ blocksL st g l p o ms true := by simp [preL, v_WORDS]
      rw [ep] at r2
      refine ⟨C, bs, kOf H2, rfl, .inl (.inl h2), fun x hx => ?_, fun ys p1 hsr hpm np1 => ?_⟩
      · obtain ⟨i, hi⟩ := List.getElem?_of_mem hx
        obtain ⟨m, _, hm⟩ := r2.get hi
        rw [kOf_is hm]
        exact hm
      · have s3 := Same.new (o := .lst ys) np1
        refine ⟨p1, ys, rfl, .inl ⟨.inl (.inl upd_same), fun t nt => ?_⟩⟩
        refine q t ys _ (s2.trans (Same.new' s3 nt)) upd_same ?_
        have hy : IsRs blkV H2 ys (ys.map (kOf H2)) := rs_of_k fun y hy => by
          obtain ⟨i, hi⟩ := List.getElem?_of_mem (hpm.mem_iff.mp hy)
          obtain ⟨m, _, hm⟩ := r2.get hi
          rw [kOf_is hm]
          exact hm
        have e : ys.map (kOf H2) = showL st g l p o ms := by
          refine sortB_of (List.pairwise_map.mpr hsr) ?_
          rw [← kOf_map r2]
          exact hpm.map _
        rw [e] at hy
        exact (hy.mono s3).mono (Same.new nt)
end
end DD

set_option Elab.async false
set_option linter.all false
set_option maxRecDepth 100000
set_option maxHeartbeats 4000000
namespace DD
open PySem PySem.Spec PyProof.Rows L2 StX
/-! ### views as data -/
def bkD (m : Blk) : PyData := .tuple [.int m.1, .int m.2.1, .str (wd m.2.2)]
def bsD (bs : List Blk) : PyData := .tuple (bs.map bkD)
section
variable {K : PySem.W.Frag}
theorem dp_rows {H : Hp} : ∀ {vs : List V} {bs : List Blk}, IsRs blkV H vs bs → DpAll K H vs (bs.map bkD)
  | [], [], _ => .nil
  | [], m :: ms, h => absurd h.1 (by simp)
  | v :: vs, [], h => absurd h.1 (by simp)
  | v :: vs, m :: ms, h => by
    obtain ⟨a, rfl, ha⟩ := h.2 0 v m rfl rfl
    refine .cons (.tup (.inl (.inl ha)) (.cons (.int _) (.cons (.int _) (.cons (.str _) .nil)))) (dp_rows ⟨by simpa using h.1, fun i v' m' h1 h2 => h.2 (i + 1) v' m' h1 h2⟩)
theorem lay_wd {b : Bool} : PyData.canLay0 (.str (wd b)) = true := by cases b <;> decide +kernel
theorem lay_bks : ∀ {bs : List Blk}, PyData.canLayAll0 (bs.map bkD) = true
  | [] => rfl
  | m :: bs => by
    show ((PyData.canLay0 (.int m.1) && (PyData.canLay0 (.int m.2.1) && (PyData.canLay0 (.str (wd m.2.2)) && PyData.canLayAll0 []))) && PyData.canLayAll0 (bs.map bkD)) = true
    rw [lay_bks (bs := bs), lay_wd]
    rfl
theorem depth_bks : ∀ {bs : List Blk}, PyData.depthAll (bs.map bkD) ≤ 1
  | [] => by decide
  | m :: bs => by
    show max (PyData.depth (bkD m)) (PyData.depthAll (bs.map bkD)) ≤ 1
    have h := depth_bks (bs := bs)
    have h2 : PyData.depth (bkD m) = 1 := rfl
    omega
theorem shaped_bks {bs : List Blk} : SeqAt.shaped (bsD bs) = true := by
  unfold SeqAt.shaped
  rw [Bool.and_eq_true_iff]
  refine ⟨lay_bks, decide_eq_true ?_⟩
  show PyData.depthAll (bs.map bkD) + 1 ≤ 64
  have := depth_bks (bs := bs)
  omega
theorem eqv_str {b c : Bool} : PyData.eqv (.str (wd b)) (.str (wd c)) = (b == c) := by cases b <;> cases c <;> decide +kernel
theorem eqv_bk {m n : Blk} : PyData.eqv (bkD m) (bkD n) = decide (m = n) := by
  obtain ⟨a, b, c⟩ := m
  obtain ⟨a', b', c'⟩ := n
  show (PyData.eqv (.int a) (.int a') && (PyData.eqv (.int b) (.int b') && (PyData.eqv (.str (wd c)) (.str (wd c')) && true))) = _
  rw [eqv_str, Bool.eq_iff_iff]
  simp [PyData.eqv]
theorem eqv_bks : ∀ {bs cs : List Blk}, PyData.eqvAll (bs.map bkD) (cs.map bkD) = decide (bs = cs)
  | [], [] => by simp [PyData.eqvAll]
  | [], c :: cs => by simp [PyData.eqvAll]
  | b :: bs, [] => by simp [PyData.eqvAll]
  | b :: bs, c :: cs => by
    show (PyData.eqv (bkD b) (bkD c) && PyData.eqvAll (bs.map bkD) (cs.map bkD)) = _
    rw [eqv_bk, eqv_bks, Bool.eq_iff_iff]
    simp
theorem eqv_view {bs cs : List Blk} : PyData.eqv (bsD bs) (bsD cs) = decide (bs = cs) := eqv_bks
theorem ne_views {H : Hp} {a b : Addr} {ys zs : List V} {bs cs : List Blk} {Q : VK} (ha : H a = some (.tup ys)) (ra : IsRs blkV H ys bs) (hb : H b = some (.tup zs)) (rb : IsRs blkV H zs cs) (e : bs = cs) (q : Q (.bl false) H) : rNeD K (.ref a) (.ref b) H Q := by
  refine ⟨bsD bs, bsD cs, .tup (.inl (.inl ha)) (dp_rows ra), .tup (.inl (.inl hb)) (dp_rows rb), shaped_bks, shaped_bks, ?_⟩
  rw [eqv_view, decide_eq_true e]
  exact q
theorem eq_views {H : Hp} {a b : Addr} {ys zs : List V} {bs cs : List Blk} {Q : VK} (ha : H a = some (.tup ys)) (ra : IsRs blkV H ys bs) (hb : H b = some (.tup zs)) (rb : IsRs blkV H zs cs) (e : bs = cs) (q : Q (.bl true) H) : rEqD K (.ref a) (.ref b) H Q := by
  refine ⟨bsD bs, bsD cs, .tup (.inl (.inl ha)) (dp_rows ra), .tup (.inl (.inl hb)) (dp_rows rb), shaped_bks, shaped_bks, ?_⟩
  rw [eqv_view, decide_eq_true e]
  exact q
end
section
variable {P : Program} {w : World} {K : PySem.W.Frag} {mg : Str → Option Value} {base : Heap} {d : Ad}
def sp_yes (n : Nat) : Sp := fun vs H Q _ => ∃ a : Int, (a = 0 ∨ a = 12 ∨ a = 24) ∧ vs = (if n = 0 then [] else [.int a]) ∧ ∀ H', Same H H' → Q (.bl true) H'
theorem ok__law_last_right (T : Txt K mg d) : FnR P w K mg base CX0 8 d.f__law_last_right (sp_yes 0) := by
  refine mkR T.F__law_last_right sc__law_last_right (fun vs H Q E h => ?_) (fun _ _ _ _ _ _ us hl => match us, hl with | [], _ => rfl) (fun cdv A outer s H vs Q E hr h => ?_)
  · obtain ⟨_, _, rfl, _⟩ := h
    rfl
  · obtain ⟨a, hcase, rfl, q⟩ := h
    have hu := hr.units
    refine ⟨_, (pss_cons (ps_set (i := 0) sc__law_last_right.nd rfl (by first | exact Or.inl rfl | exact Or.inr rfl) (pe_makeR T.mk_Day (ok_Day_init2 T) (hr.mono (by decide)) rfl T.m_Day pass0 (pa_cons pe_int (pa_cons (pe_lst (pa_cons (pe_tup (pa_cons pe_int (pa_cons pe_int (pa_cons pe_bl pa_nil)))) pa_nil)) pa_nil)))) (pss_cons (ps_if (pt_cmpR (op_neD hu) (pe_callR (ok_show T) (hr.mono (by decide)) rfl T.m_show T.k_show pass0 (pa_cons (pe_makeR T.mk_Rule (ok_Rule_init1 T) (hr.mono (by decide)) rfl T.m_Rule pass0 (pa_cons pe_int pa_nil)) (pa_cons (pv 0) pa_nil))) (pe_tup (pa_cons (pe_tup (pa_cons pe_int (pa_cons pe_int (pa_cons pe_str pa_nil)))) pa_nil)) (nomark _)) (pss_one (ps_ret pe_bl)) pss_nil) (pss_cons (ps_if (pt_cmpR (op_neD hu) (pe_callR (ok_show T) (hr.mono (by decide)) rfl T.m_show T.k_show pass0 (pa_cons (pe_makeR T.mk_Rule (ok_Rule_init5 T) (hr.mono (by decide)) rfl T.m_Rule pass0 (pa_cons pe_int (pa_cons pe_int (pa_cons pe_int (pa_cons pe_str (pa_cons (pe_tup (pa_cons pe_int (pa_cons pe_int pa_nil))) pa_nil)))))) (pa_cons (pv 0) pa_nil))) (pe_tup (pa_cons (pe_tup (pa_cons pe_int (pa_cons pe_int (pa_cons pe_str pa_nil)))) pa_nil)) (nomark _)) (pss_one (ps_ret pe_bl)) pss_nil) (pss_one (ps_ret (pe_and (pe_cmpR (op_eqD hu) (pe_callR (ok_show T) (hr.mono (by decide)) rfl T.m_show T.k_show pass0 (pa_cons (pe_makeR T.mk_Rule (ok_Rule_init3 T) (hr.mono (by decide)) rfl T.m_Rule pass0 (pa_cons pe_int (pa_cons pe_int (pa_cons pe_int pa_nil)))) (pa_cons (pv 0) pa_nil))) (pe_tup pa_nil) (nomark _)) (pe_one (pe_cmpR (op_eqD hu) (pe_callR (ok_show T) (hr.mono (by decide)) rfl T.m_show T.k_show pass0 (pa_cons (pe_makeR T.mk_Rule (ok_Rule_init5 T) (hr.mono (by decide)) rfl T.m_Rule pass0 (pa_cons pe_int (pa_cons pe_int (pa_cons pe_int (pa_cons pe_str (pa_cons (pe_tup (pa_cons pe_int (pa_cons pe_int pa_nil))) pa_nil)))))) (pa_cons (pv 0) pa_nil))) (pe_tup pa_nil) (nomark _))))))))), ?_⟩
    refine ⟨(by show 3 ≤ sizeLine; decide), fun p0 n0 => ?_⟩
    have s0 := Same.new (o := .tup [.int 45, .int 47, .bl false]) n0
    refine ⟨(by show 1 ≤ sizeLine; decide), fun l1 m1 => ?_⟩
    have sl := Same.new (o := .lst [.ref p0]) m1
    have f0 := (s0.trans sl)
    have z1 : ([(45, 47, false)] : List Mt).length ≤ 1000 := by show 1 ≤ 1000; decide
    have O1 : DayOk 47 [(45, 47, false)] := ⟨by decide, by decide, by decide +kernel⟩
    refine fun x dx nx ndx ne => made_day' (K := K) (ms := [(45, 47, false)]) ⟨l1, _, rfl, .inl (.inl (.inl upd_same)), (.cons ⟨p0, rfl, sl _ _ upd_same⟩ .nil)⟩ O1 nx ndx ne fun Hd ed D1 => ⟨rfl, ?_⟩
    have R1 : RuleOk 4 0 0 "busy" none := ⟨by decide, by decide, by decide, by decide +kernel, by decide +kernel⟩
    refine fun x1 dx1 nx1 ndx1 ne1 => made_rule' (.inl ⟨rfl, rfl⟩) R1 nx1 ndx1 ne1 fun Ha1 ea1 Ia1 => ⟨rfl, _, rfl, ?_⟩
    have g1 := ea1
    refine ⟨_, _, 4, 0, 0, _, _, 47, _, rfl, Ia1, R1, by decide, D1.mono g1, z1, fun a1 ys1 H1 e1 h1 r1 => ?_⟩
    refine ⟨(by show 3 ≤ sizeLine; decide), fun p1_0 n1_0 => ?_⟩
    have s1_0 := Same.new (o := .tup [.int 44, .int 48, .str "busy"]) n1_0
    refine ⟨(by show 1 ≤ sizeLine; decide), fun t1 m1 => ?_⟩
    have s1_t := Same.new (o := .tup [.ref p1_0]) m1
    have c1 := (s1_0.trans s1_t)
    have f1 := g1.trans (e1.trans c1)
    refine ne_views (cs := [(44, 48, false)]) (c1 _ _ h1) (r1.mono c1) upd_same (.cons ⟨p1_0, rfl, s1_t _ _ upd_same⟩ .nil) (by decide +kernel) ⟨_, rfl, iteF ?_⟩
    have R2 : RuleOk 4 0 4 "busy" (some (46, 48)) := ⟨by decide, by decide, by decide, by decide +kernel, by decide +kernel⟩
    refine ⟨(by show 2 ≤ sizeLine; decide), fun ph2 nh2 => ?_⟩
    have sh2 := Same.new (o := .tup [.int 46, .int 48]) nh2
    refine fun x2 dx2 nx2 ndx2 ne2 => made_rule' (.inr ⟨ph2, 46, 48, rfl, upd_same, rfl⟩) R2 nx2 ndx2 ne2 fun Ha2 ea2 Ia2 => ⟨rfl, _, rfl, ?_⟩
    have g2 := f1.trans (sh2.trans ea2)
    refine ⟨_, _, 4, 0, 4, _, _, 47, _, rfl, Ia2, R2, by decide, D1.mono g2, z1, fun a2 ys2 H2 e2 h2 r2 => ?_⟩
    refine ⟨(by show 3 ≤ sizeLine; decide), fun p2_0 n2_0 => ?_⟩
    have s2_0 := Same.new (o := .tup [.int 46, .int 48, .str "busy"]) n2_0
    refine ⟨(by show 1 ≤ sizeLine; decide), fun t2 m2 => ?_⟩
    have s2_t := Same.new (o := .tup [.ref p2_0]) m2
    have c2 := (s2_0.trans s2_t)
    have f2 := g2.trans (e2.trans c2)
    refine ne_views (cs := [(46, 48, false)]) (c2 _ _ h2) (r2.mono c2) upd_same (.cons ⟨p2_0, rfl, s2_t _ _ upd_same⟩ .nil) (by decide +kernel) ⟨_, rfl, iteF ?_⟩
    have R3 : RuleOk 4 0 5 "busy" none := ⟨by decide, by decide, by decide, by decide +kernel, by decide +kernel⟩
    refine fun x3 dx3 nx3 ndx3 ne3 => made_rule' (.inl ⟨rfl, rfl⟩) R3 nx3 ndx3 ne3 fun Ha3 ea3 Ia3 => ⟨rfl, _, rfl, ?_⟩
    have g3 := f2.trans ea3
    refine ⟨_, _, 4, 0, 5, _, _, 47, _, rfl, Ia3, R3, by decide, D1.mono g3, z1, fun a3 ys3 H3 e3 h3 r3 => ?_⟩
    refine ⟨(by show 0 ≤ sizeLine; decide), fun t3 m3 => ?_⟩
    have s3_t := Same.new (o := .tup []) m3
    have c3 := s3_t
    have f3 := g3.trans (e3.trans c3)
    refine eq_views (cs := []) (c3 _ _ h3) (r3.mono c3) upd_same .nil (by decide +kernel) ⟨true, rfl, iteT ?_⟩
    have R4 : RuleOk 4 0 0 "busy" (some (0, 44)) := ⟨by decide, by decide, by decide, by decide +kernel, by decide +kernel⟩
    refine ⟨(by show 2 ≤ sizeLine; decide), fun ph4 nh4 => ?_⟩
    have sh4 := Same.new (o := .tup [.int 0, .int 44]) nh4
    refine fun x4 dx4 nx4 ndx4 ne4 => made_rule' (.inr ⟨ph4, 0, 44, rfl, upd_same, rfl⟩) R4 nx4 ndx4 ne4 fun Ha4 ea4 Ia4 => ⟨rfl, _, rfl, ?_⟩
    have g4 := f3.trans (sh4.trans ea4)
    refine ⟨_, _, 4, 0, 0, _, _, 47, _, rfl, Ia4, R4, by decide, D1.mono g4, z1, fun a4 ys4 H4 e4 h4 r4 => ?_⟩
    refine ⟨(by show 0 ≤ sizeLine; decide), fun t4 m4 => ?_⟩
    have s4_t := Same.new (o := .tup []) m4
    have c4 := s4_t
    have f4 := g4.trans (e4.trans c4)
    refine eq_views (cs := []) (c4 _ _ h4) (r4.mono c4) upd_same .nil (by decide +kernel) (q _ (f0.trans (ed.trans f4)))
theorem ok__law_lone_right (T : Txt K mg d) : FnR P w K mg base CX0 8 d.f__law_lone_right (sp_yes 1) := by
  refine mkR T.F__law_lone_right sc__law_lone_right (fun vs H Q E h => ?_) (fun _ _ _ _ _ _ us hl => match us, hl with | [_], _ => rfl) (fun cdv A outer s H vs Q E hr h => ?_)
  · obtain ⟨_, _, rfl, _⟩ := h
    rfl
  · obtain ⟨a, hcase, rfl, q⟩ := h
    have hu := hr.units
    refine ⟨_, (pss_cons (ps_set (i := 1) sc__law_lone_right.nd rfl (by first | exact Or.inl rfl | exact Or.inr rfl) (pe_makeR T.mk_Day (ok_Day_init2 T) (hr.mono (by decide)) rfl T.m_Day pass0 (pa_cons pe_int (pa_cons (pe_lst (pa_cons (pe_tup (pa_cons (pv 0) (pa_cons (pe_op op_add (pv 0) pe_int) (pa_cons pe_bl pa_nil)))) (pa_cons (pe_tup (pa_cons (pe_op op_add (pv 0) pe_int) (pa_cons (pe_op op_add (pv 0) pe_int) (pa_cons pe_bl pa_nil)))) (pa_cons (pe_tup (pa_cons (pe_op op_add (pv 0) pe_int) (pa_cons (pe_op op_add (pv 0) pe_int) (pa_cons pe_bl pa_nil)))) pa_nil)))) pa_nil)))) (pss_cons (ps_if (pt_cmpR (op_neD hu) (pe_callR (ok_show T) (hr.mono (by decide)) rfl T.m_show T.k_show pass0 (pa_cons (pe_makeR T.mk_Rule (ok_Rule_init4 T) (hr.mono (by decide)) rfl T.m_Rule pass0 (pa_cons pe_int (pa_cons pe_int (pa_cons pe_int (pa_cons pe_str pa_nil))))) (pa_cons (pv 1) pa_nil))) (pe_tup (pa_cons (pe_tup (pa_cons (pv 0) (pa_cons (pe_op op_add (pv 0) pe_int) (pa_cons pe_str pa_nil)))) (pa_cons (pe_tup (pa_cons (pe_op op_add (pv 0) pe_int) (pa_cons (pe_op op_add (pv 0) pe_int) (pa_cons pe_str pa_nil)))) pa_nil))) (nomark _)) (pss_one (ps_ret pe_bl)) pss_nil) (pss_one (ps_ret (pe_cmpR (op_eqD hu) (pe_callR (ok_show T) (hr.mono (by decide)) rfl T.m_show T.k_show pass0 (pa_cons (pe_makeR T.mk_Rule (ok_Rule_init5 T) (hr.mono (by decide)) rfl T.m_Rule pass0 (pa_cons pe_int (pa_cons pe_int (pa_cons pe_int (pa_cons pe_str (pa_cons (pe_tup (pa_cons (pe_op op_add (pv 0) pe_int) (pa_cons pe_int pa_nil))) pa_nil)))))) (pa_cons (pv 1) pa_nil))) (pe_tup (pa_cons (pe_tup (pa_cons (pe_op op_add (pv 0) pe_int) (pa_cons (pe_op op_add (pv 0) pe_int) (pa_cons pe_str pa_nil)))) pa_nil)) (nomark _)))))), ?_⟩
    refine ⟨_, rfl, _, rfl, _, _, rfl, rfl, (by show 3 ≤ sizeLine; decide), fun p0 n0 => ?_⟩
    have s0 := Same.new (o := .tup [.int a, .int (a + 1), .bl true]) n0
    refine ⟨_, rfl, _, _, rfl, rfl, _, rfl, _, _, rfl, rfl, (by show 3 ≤ sizeLine; decide), fun p1 n1 => ?_⟩
    have s1 := Same.new (o := .tup [.int (a + 9), .int (a + 10), .bl true]) n1
    refine ⟨_, rfl, _, _, rfl, rfl, _, rfl, _, _, rfl, rfl, (by show 3 ≤ sizeLine; decide), fun p2 n2 => ?_⟩
    have s2 := Same.new (o := .tup [.int (a + 10), .int (a + 11), .bl false]) n2
    refine ⟨(by show 3 ≤ sizeLine; decide), fun l1 m1 => ?_⟩
    have sl := Same.new (o := .lst [.ref p0, .ref p1, .ref p2]) m1
    have f0 := (s0.trans (s1.trans (s2.trans sl)))
    have z1 : ([(a, (a + 1), true), ((a + 9), (a + 10), true), ((a + 10), (a + 11), false)] : List Mt).length ≤ 1000 := by show 3 ≤ 1000; decide
    have O1 : DayOk 48 [(a, (a + 1), true), ((a + 9), (a + 10), true), ((a + 10), (a + 11), false)] := ⟨by decide, by decide, by rcases hcase with rfl | rfl | rfl <;> decide +kernel⟩
    refine fun x dx nx ndx ne => made_day' (K := K) (ms := [(a, (a + 1), true), ((a + 9), (a + 10), true), ((a + 10), (a + 11), false)]) ⟨l1, _, rfl, .inl (.inl (.inl upd_same)), (.cons ⟨p0, rfl, (s1.trans (s2.trans sl)) _ _ upd_same⟩ (.cons ⟨p1, rfl, (s2.trans sl) _ _ upd_same⟩ (.cons ⟨p2, rfl, sl _ _ upd_same⟩ .nil)))⟩ O1 nx ndx ne fun Hd ed D1 => ⟨rfl, ?_⟩
    have R1 : RuleOk 1 0 0 "one" none := ⟨by decide, by decide, by decide, by decide +kernel, by decide +kernel⟩
    refine fun x1 dx1 nx1 ndx1 ne1 => made_rule' (.inl ⟨rfl, rfl⟩) R1 nx1 ndx1 ne1 fun Ha1 ea1 Ia1 => ⟨rfl, _, rfl, ?_⟩
    have g1 := ea1
    refine ⟨_, _, 1, 0, 0, _, _, 48, _, rfl, Ia1, R1, by decide, D1.mono g1, z1, fun a1 ys1 H1 e1 h1 r1 => ?_⟩
    refine ⟨_, rfl, _, rfl, _, _, rfl, rfl, (by show 3 ≤ sizeLine; decide), fun p1_0 n1_0 => ?_⟩
    have s1_0 := Same.new (o := .tup [.int a, .int (a + 10), .str "private"]) n1_0
    refine ⟨_, rfl, _, _, rfl, rfl, _, rfl, _, _, rfl, rfl, (by show 3 ≤ sizeLine; decide), fun p1_1 n1_1 => ?_⟩
    have s1_1 := Same.new (o := .tup [.int (a + 10), .int (a + 11), .str "busy"]) n1_1
    refine ⟨(by show 2 ≤ sizeLine; decide), fun t1 m1 => ?_⟩
    have s1_t := Same.new (o := .tup [.ref p1_0, .ref p1_1]) m1
    have c1 := (s1_0.trans (s1_1.trans s1_t))
    have f1 := g1.trans (e1.trans c1)
    refine ne_views (cs := [(a, (a + 10), true), ((a + 10), (a + 11), false)]) (c1 _ _ h1) (r1.mono c1) upd_same (.cons ⟨p1_0, rfl, (s1_1.trans s1_t) _ _ upd_same⟩ (.cons ⟨p1_1, rfl, s1_t _ _ upd_same⟩ .nil)) (by rcases hcase with rfl | rfl | rfl <;> decide +kernel) ⟨_, rfl, iteF ?_⟩
    have R2 : RuleOk 1 0 2 "one" (some ((a + 9), 48)) := ⟨by decide, by decide, by decide, by decide +kernel, by rcases hcase with rfl | rfl | rfl <;> decide +kernel⟩
    refine ⟨_, rfl, _, _, rfl, rfl, (by show 2 ≤ sizeLine; decide), fun ph2 nh2 => ?_⟩
    have sh2 := Same.new (o := .tup [.int (a + 9), .int 48]) nh2
    refine fun x2 dx2 nx2 ndx2 ne2 => made_rule' (.inr ⟨ph2, (a + 9), 48, rfl, upd_same, rfl⟩) R2 nx2 ndx2 ne2 fun Ha2 ea2 Ia2 => ⟨rfl, _, rfl, ?_⟩
    have g2 := f1.trans (sh2.trans ea2)
    refine ⟨_, _, 1, 0, 2, _, _, 48, _, rfl, Ia2, R2, by decide, D1.mono g2, z1, fun a2 ys2 H2 e2 h2 r2 => ?_⟩
    refine ⟨_, rfl, _, _, rfl, rfl, _, rfl, _, _, rfl, rfl, (by show 3 ≤ sizeLine; decide), fun p2_0 n2_0 => ?_⟩
    have s2_0 := Same.new (o := .tup [.int (a + 9), .int (a + 10), .str "private"]) n2_0
    refine ⟨(by show 1 ≤ sizeLine; decide), fun t2 m2 => ?_⟩
    have s2_t := Same.new (o := .tup [.ref p2_0]) m2
    have c2 := (s2_0.trans s2_t)
    have f2 := g2.trans (e2.trans c2)
    refine eq_views (cs := [((a + 9), (a + 10), true)]) (c2 _ _ h2) (r2.mono c2) upd_same (.cons ⟨p2_0, rfl, s2_t _ _ upd_same⟩ .nil) (by rcases hcase with rfl | rfl | rfl <;> decide +kernel) (q _ (f0.trans (ed.trans f2)))
theorem ok__law_day_right (T : Txt K mg d) : FnR P w K mg base CX0 8 d.f__law_day_right (sp_yes 1) := by
  refine mkR T.F__law_day_right sc__law_day_right (fun vs H Q E h => ?_) (fun _ _ _ _ _ _ us hl => match us, hl with | [_], _ => rfl) (fun cdv A outer s H vs Q E hr h => ?_)
  · obtain ⟨_, _, rfl, _⟩ := h
    rfl
  · obtain ⟨a, hcase, rfl, q⟩ := h
    have hu := hr.units
    refine ⟨_, (pss_cons (ps_set (i := 1) sc__law_day_right.nd rfl (by first | exact Or.inl rfl | exact Or.inr rfl) (pe_makeR T.mk_Day (ok_Day_init2 T) (hr.mono (by decide)) rfl T.m_Day pass0 (pa_cons pe_int (pa_cons (pe_lst (pa_cons (pe_tup (pa_cons (pe_op op_add (pv 0) pe_int) (pa_cons (pe_op op_add (pv 0) pe_int) (pa_cons pe_bl pa_nil)))) (pa_cons (pe_tup (pa_cons (pe_op op_add (pv 0) pe_int) (pa_cons (pe_op op_add (pv 0) pe_int) (pa_cons pe_bl pa_nil)))) (pa_cons (pe_tup (pa_cons (pe_op op_add (pv 0) pe_int) (pa_cons (pe_op op_add (pv 0) pe_int) (pa_cons pe_bl pa_nil)))) pa_nil)))) pa_nil)))) (pss_cons (ps_if (pt_cmpR (op_neD hu) (pe_callR (ok_show T) (hr.mono (by decide)) rfl T.m_show T.k_show pass0 (pa_cons (pe_makeR T.mk_Rule (ok_Rule_init2 T) (hr.mono (by decide)) rfl T.m_Rule pass0 (pa_cons pe_int (pa_cons pe_int pa_nil))) (pa_cons (pv 1) pa_nil))) (pe_tup (pa_cons (pe_tup (pa_cons (pe_op op_add (pv 0) pe_int) (pa_cons (pe_op op_add (pv 0) pe_int) (pa_cons pe_str pa_nil)))) (pa_cons (pe_tup (pa_cons (pe_op op_add (pv 0) pe_int) (pa_cons (pe_op op_add (pv 0) pe_int) (pa_cons pe_str pa_nil)))) pa_nil))) (nomark _)) (pss_one (ps_ret pe_bl)) pss_nil) (pss_cons (ps_if (pt_cmpR (op_neD hu) (pe_callR (ok_show T) (hr.mono (by decide)) rfl T.m_show T.k_show pass0 (pa_cons (pe_makeR T.mk_Rule (ok_Rule_init2 T) (hr.mono (by decide)) rfl T.m_Rule pass0 (pa_cons pe_int (pa_cons pe_int pa_nil))) (pa_cons (pv 1) pa_nil))) (pe_tup (pa_cons (pe_tup (pa_cons (pe_op op_add (pv 0) pe_int) (pa_cons (pe_op op_add (pv 0) pe_int) (pa_cons pe_str pa_nil)))) pa_nil)) (nomark _)) (pss_one (ps_ret pe_bl)) pss_nil) (pss_cons (ps_if (pt_cmpR (op_neD hu) (pe_callR (ok_show T) (hr.mono (by decide)) rfl T.m_show T.k_show pass0 (pa_cons (pe_makeR T.mk_Rule (ok_Rule_init3 T) (hr.mono (by decide)) rfl T.m_Rule pass0 (pa_cons pe_int (pa_cons pe_int (pa_cons pe_int pa_nil)))) (pa_cons (pv 1) pa_nil))) (pe_tup (pa_cons (pe_tup (pa_cons (pe_op op_add (pv 0) pe_int) (pa_cons (pe_op op_add (pv 0) pe_int) (pa_cons pe_str pa_nil)))) pa_nil)) (nomark _)) (pss_one (ps_ret pe_bl)) pss_nil) (pss_cons (ps_set (i := 2) sc__law_day_right.nd rfl (by first | exact Or.inl rfl | exact Or.inr rfl) (pe_tup (pa_cons (pe_tup (pa_cons (pv 0) (pa_cons (pe_op op_add (pv 0) pe_int) (pa_cons pe_str pa_nil)))) (pa_cons (pe_tup (pa_cons (pe_op op_add (pv 0) pe_int) (pa_cons (pe_op op_add (pv 0) pe_int) (pa_cons pe_str pa_nil)))) (pa_cons (pe_tup (pa_cons (pe_op op_add (pv 0) pe_int) (pa_cons (pe_op op_add (pv 0) pe_int) (pa_cons pe_str pa_nil)))) pa_nil))))) (pss_cons (ps_if (pt_cmpR (op_neD hu) (pe_callR (ok_show T) (hr.mono (by decide)) rfl T.m_show T.k_show pass0 (pa_cons (pe_makeR T.mk_Rule (ok_Rule_init4 T) (hr.mono (by decide)) rfl T.m_Rule pass0 (pa_cons pe_int (pa_cons pe_int (pa_cons pe_int (pa_cons pe_str pa_nil))))) (pa_cons (pv 1) pa_nil))) (pv 2) (nomark _)) (pss_one (ps_ret pe_bl)) pss_nil) (pss_cons (ps_if (pt_cmpR (op_neD hu) (pe_callR (ok_show T) (hr.mono (by decide)) rfl T.m_show T.k_show pass0 (pa_cons (pe_makeR T.mk_Rule (ok_Rule_init4 T) (hr.mono (by decide)) rfl T.m_Rule pass0 (pa_cons pe_int (pa_cons pe_int (pa_cons pe_int (pa_cons pe_str pa_nil))))) (pa_cons (pv 1) pa_nil))) (pe_tup (pa_cons (pe_tup (pa_cons (pe_op op_add (pv 0) pe_int) (pa_cons (pe_op op_add (pv 0) pe_int) (pa_cons pe_str pa_nil)))) (pa_cons (pe_tup (pa_cons (pe_op op_add (pv 0) pe_int) (pa_cons (pe_op op_add (pv 0) pe_int) (pa_cons pe_str pa_nil)))) pa_nil))) (nomark _)) (pss_one (ps_ret pe_bl)) pss_nil) (pss_cons (ps_if (pt_cmpR (op_neD hu) (pe_callR (ok_show T) (hr.mono (by decide)) rfl T.m_show T.k_show pass0 (pa_cons (pe_makeR T.mk_Rule (ok_Rule_init4 T) (hr.mono (by decide)) rfl T.m_Rule pass0 (pa_cons pe_int (pa_cons pe_int (pa_cons pe_int (pa_cons pe_str pa_nil))))) (pa_cons (pv 1) pa_nil))) (pe_tup (pa_cons (pe_tup (pa_cons (pe_op op_add (pv 0) pe_int) (pa_cons (pe_op op_add (pv 0) pe_int) (pa_cons pe_str pa_nil)))) pa_nil)) (nomark _)) (pss_one (ps_ret pe_bl)) pss_nil) (pss_cons (ps_if (pt_cmpR (op_neD hu) (pe_callR (ok_show T) (hr.mono (by decide)) rfl T.m_show T.k_show pass0 (pa_cons (pe_makeR T.mk_Rule (ok_Rule_init2 T) (hr.mono (by decide)) rfl T.m_Rule pass0 (pa_cons pe_int (pa_cons pe_int pa_nil))) (pa_cons (pv 1) pa_nil))) (pe_tup (pa_cons (pe_tup (pa_cons (pv 0) (pa_cons (pe_op op_add (pv 0) pe_int) (pa_cons pe_str pa_nil)))) pa_nil)) (nomark _)) (pss_one (ps_ret pe_bl)) pss_nil) (pss_one (ps_ret (pe_cmpR (op_eqD hu) (pe_callR (ok_show T) (hr.mono (by decide)) rfl T.m_show T.k_show pass0 (pa_cons (pe_makeR T.mk_Rule (ok_Rule_init5 T) (hr.mono (by decide)) rfl T.m_Rule pass0 (pa_cons pe_int (pa_cons pe_int (pa_cons pe_int (pa_cons pe_str (pa_cons (pe_tup (pa_cons (pe_op op_add (pv 0) pe_int) (pa_cons (pe_op op_add (pv 0) pe_int) pa_nil))) pa_nil)))))) (pa_cons (pv 1) pa_nil))) (pe_tup (pa_cons (pe_tup (pa_cons (pe_op op_add (pv 0) pe_int) (pa_cons (pe_op op_add (pv 0) pe_int) (pa_cons pe_str pa_nil)))) pa_nil)) (nomark _))))))))))))), ?_⟩
    refine ⟨_, rfl, _, _, rfl, rfl, _, rfl, _, _, rfl, rfl, (by show 3 ≤ sizeLine; decide), fun p0 n0 => ?_⟩
    have s0 := Same.new (o := .tup [.int (a + 1), .int (a + 2), .bl false]) n0
    refine ⟨_, rfl, _, _, rfl, rfl, _, rfl, _, _, rfl, rfl, (by show 3 ≤ sizeLine; decide), fun p1 n1 => ?_⟩
    have s1 := Same.new (o := .tup [.int (a + 4), .int (a + 6), .bl true]) n1
    refine ⟨_, rfl, _, _, rfl, rfl, _, rfl, _, _, rfl, rfl, (by show 3 ≤ sizeLine; decide), fun p2 n2 => ?_⟩
    have s2 := Same.new (o := .tup [.int (a + 9), .int (a + 10), .bl false]) n2
    refine ⟨(by show 3 ≤ sizeLine; decide), fun l1 m1 => ?_⟩
    have sl := Same.new (o := .lst [.ref p0, .ref p1, .ref p2]) m1
    have f0 := (s0.trans (s1.trans (s2.trans sl)))
    have z1 : ([((a + 1), (a + 2), false), ((a + 4), (a + 6), true), ((a + 9), (a + 10), false)] : List Mt).length ≤ 1000 := by show 3 ≤ 1000; decide
    have O1 : DayOk 48 [((a + 1), (a + 2), false), ((a + 4), (a + 6), true), ((a + 9), (a + 10), false)] := ⟨by decide, by decide, by rcases hcase with rfl | rfl | rfl <;> decide +kernel⟩
    refine fun x dx nx ndx ne => made_day' (K := K) (ms := [((a + 1), (a + 2), false), ((a + 4), (a + 6), true), ((a + 9), (a + 10), false)]) ⟨l1, _, rfl, .inl (.inl (.inl upd_same)), (.cons ⟨p0, rfl, (s1.trans (s2.trans sl)) _ _ upd_same⟩ (.cons ⟨p1, rfl, (s2.trans sl) _ _ upd_same⟩ (.cons ⟨p2, rfl, sl _ _ upd_same⟩ .nil)))⟩ O1 nx ndx ne fun Hd ed D1 => ⟨rfl, ?_⟩
    have R1 : RuleOk 1 2 0 "busy" none := ⟨by decide, by decide, by decide, by decide +kernel, by decide +kernel⟩
    refine fun x1 dx1 nx1 ndx1 ne1 => made_rule' (.inl ⟨rfl, rfl⟩) R1 nx1 ndx1 ne1 fun Ha1 ea1 Ia1 => ⟨rfl, _, rfl, ?_⟩
    have g1 := ea1
    refine ⟨_, _, 1, 2, 0, _, _, 48, _, rfl, Ia1, R1, by decide, D1.mono g1, z1, fun a1 ys1 H1 e1 h1 r1 => ?_⟩
    refine ⟨_, rfl, _, _, rfl, rfl, _, rfl, _, _, rfl, rfl, (by show 3 ≤ sizeLine; decide), fun p1_0 n1_0 => ?_⟩
    have s1_0 := Same.new (o := .tup [.int (a + 1), .int (a + 6), .str "busy"]) n1_0
    refine ⟨_, rfl, _, _, rfl, rfl, _, rfl, _, _, rfl, rfl, (by show 3 ≤ sizeLine; decide), fun p1_1 n1_1 => ?_⟩
    have s1_1 := Same.new (o := .tup [.int (a + 9), .int (a + 10), .str "busy"]) n1_1
    refine ⟨(by show 2 ≤ sizeLine; decide), fun t1 m1 => ?_⟩
    have s1_t := Same.new (o := .tup [.ref p1_0, .ref p1_1]) m1
    have c1 := (s1_0.trans (s1_1.trans s1_t))
    have f1 := g1.trans (e1.trans c1)
    refine ne_views (cs := [((a + 1), (a + 6), false), ((a + 9), (a + 10), false)]) (c1 _ _ h1) (r1.mono c1) upd_same (.cons ⟨p1_0, rfl, (s1_1.trans s1_t) _ _ upd_same⟩ (.cons ⟨p1_1, rfl, s1_t _ _ upd_same⟩ .nil)) (by rcases hcase with rfl | rfl | rfl <;> decide +kernel) ⟨_, rfl, iteF ?_⟩
    have R2 : RuleOk 1 3 0 "busy" none := ⟨by decide, by decide, by decide, by decide +kernel, by decide +kernel⟩
    refine fun x2 dx2 nx2 ndx2 ne2 => made_rule' (.inl ⟨rfl, rfl⟩) R2 nx2 ndx2 ne2 fun Ha2 ea2 Ia2 => ⟨rfl, _, rfl, ?_⟩
    have g2 := f1.trans ea2
    refine ⟨_, _, 1, 3, 0, _, _, 48, _, rfl, Ia2, R2, by decide, D1.mono g2, z1, fun a2 ys2 H2 e2 h2 r2 => ?_⟩
    refine ⟨_, rfl, _, _, rfl, rfl, _, rfl, _, _, rfl, rfl, (by show 3 ≤ sizeLine; decide), fun p2_0 n2_0 => ?_⟩
    have s2_0 := Same.new (o := .tup [.int (a + 1), .int (a + 10), .str "busy"]) n2_0
    refine ⟨(by show 1 ≤ sizeLine; decide), fun t2 m2 => ?_⟩
    have s2_t := Same.new (o := .tup [.ref p2_0]) m2
    have c2 := (s2_0.trans s2_t)
    have f2 := g2.trans (e2.trans c2)
    refine ne_views (cs := [((a + 1), (a + 10), false)]) (c2 _ _ h2) (r2.mono c2) upd_same (.cons ⟨p2_0, rfl, s2_t _ _ upd_same⟩ .nil) (by rcases hcase with rfl | rfl | rfl <;> decide +kernel) ⟨_, rfl, iteF ?_⟩
    have R3 : RuleOk 1 0 2 "busy" none := ⟨by decide, by decide, by decide, by decide +kernel, by decide +kernel⟩
    refine fun x3 dx3 nx3 ndx3 ne3 => made_rule' (.inl ⟨rfl, rfl⟩) R3 nx3 ndx3 ne3 fun Ha3 ea3 Ia3 => ⟨rfl, _, rfl, ?_⟩
    have g3 := f2.trans ea3
    refine ⟨_, _, 1, 0, 2, _, _, 48, _, rfl, Ia3, R3, by decide, D1.mono g3, z1, fun a3 ys3 H3 e3 h3 r3 => ?_⟩
    refine ⟨_, rfl, _, _, rfl, rfl, _, rfl, _, _, rfl, rfl, (by show 3 ≤ sizeLine; decide), fun p3_0 n3_0 => ?_⟩
    have s3_0 := Same.new (o := .tup [.int (a + 4), .int (a + 6), .str "busy"]) n3_0
    refine ⟨(by show 1 ≤ sizeLine; decide), fun t3 m3 => ?_⟩
    have s3_t := Same.new (o := .tup [.ref p3_0]) m3
    have c3 := (s3_0.trans s3_t)
    have f3 := g3.trans (e3.trans c3)
    refine ne_views (cs := [((a + 4), (a + 6), false)]) (c3 _ _ h3) (r3.mono c3) upd_same (.cons ⟨p3_0, rfl, s3_t _ _ upd_same⟩ .nil) (by rcases hcase with rfl | rfl | rfl <;> decide +kernel) ⟨_, rfl, iteF ?_⟩
    refine ⟨_, rfl, _, rfl, _, _, rfl, rfl, (by show 3 ≤ sizeLine; decide), fun p4_0 n4_0 => ?_⟩
    have s4_0 := Same.new (o := .tup [.int a, .int (a + 2), .str "busy"]) n4_0
    refine ⟨_, rfl, _, _, rfl, rfl, _, rfl, _, _, rfl, rfl, (by show 3 ≤ sizeLine; decide), fun p4_1 n4_1 => ?_⟩
    have s4_1 := Same.new (o := .tup [.int (a + 4), .int (a + 6), .str "private"]) n4_1
    refine ⟨_, rfl, _, _, rfl, rfl, _, rfl, _, _, rfl, rfl, (by show 3 ≤ sizeLine; decide), fun p4_2 n4_2 => ?_⟩
    have s4_2 := Same.new (o := .tup [.int (a + 8), .int (a + 10), .str "busy"]) n4_2
    refine ⟨(by show 3 ≤ sizeLine; decide), fun t4 m4 => ?_⟩
    have s4_t := Same.new (o := .tup [.ref p4_0, .ref p4_1, .ref p4_2]) m4
    have c4 := (s4_0.trans (s4_1.trans (s4_2.trans s4_t)))
    have rd4 : IsRs blkV _ _ [(a, (a + 2), false), ((a + 4), (a + 6), true), ((a + 8), (a + 10), false)] := (.cons ⟨p4_0, rfl, (s4_1.trans (s4_2.trans s4_t)) _ _ upd_same⟩ (.cons ⟨p4_1, rfl, (s4_2.trans s4_t) _ _ upd_same⟩ (.cons ⟨p4_2, rfl, s4_t _ _ upd_same⟩ .nil)))
    have u4 := f3.trans c4
    have R4 : RuleOk 2 0 0 "apart" none := ⟨by decide, by decide, by decide, by decide +kernel, by decide +kernel⟩
    refine fun x4 dx4 nx4 ndx4 ne4 => made_rule' (.inl ⟨rfl, rfl⟩) R4 nx4 ndx4 ne4 fun Ha4 ea4 Ia4 => ⟨rfl, _, rfl, ?_⟩
    have g4 := u4.trans ea4
    refine ⟨_, _, 2, 0, 0, _, _, 48, _, rfl, Ia4, R4, by decide, D1.mono g4, z1, fun a4 ys4 H4 e4 h4 r4 => ?_⟩
    have v4 := ea4.trans e4
    have f4 := g4.trans e4
    refine ⟨_, rfl, ?_⟩
    refine ne_views (cs := [(a, (a + 2), false), ((a + 4), (a + 6), true), ((a + 8), (a + 10), false)]) h4 r4 (v4 _ _ upd_same) (rd4.mono v4) (by rcases hcase with rfl | rfl | rfl <;> decide +kernel) ⟨_, rfl, iteF ?_⟩
    have R5 : RuleOk 1 6 0 "none" none := ⟨by decide, by decide, by decide, by decide +kernel, by decide +kernel⟩
    refine fun x5 dx5 nx5 ndx5 ne5 => made_rule' (.inl ⟨rfl, rfl⟩) R5 nx5 ndx5 ne5 fun Ha5 ea5 Ia5 => ⟨rfl, _, rfl, ?_⟩
    have g5 := f4.trans ea5
    refine ⟨_, _, 1, 6, 0, _, _, 48, _, rfl, Ia5, R5, by decide, D1.mono g5, z1, fun a5 ys5 H5 e5 h5 r5 => ?_⟩
    refine ⟨_, rfl, _, _, rfl, rfl, _, rfl, _, _, rfl, rfl, (by show 3 ≤ sizeLine; decide), fun p5_0 n5_0 => ?_⟩
    have s5_0 := Same.new (o := .tup [.int (a + 1), .int (a + 2), .str "busy"]) n5_0
    refine ⟨_, rfl, _, _, rfl, rfl, _, rfl, _, _, rfl, rfl, (by show 3 ≤ sizeLine; decide), fun p5_1 n5_1 => ?_⟩
    have s5_1 := Same.new (o := .tup [.int (a + 9), .int (a + 10), .str "busy"]) n5_1
    refine ⟨(by show 2 ≤ sizeLine; decide), fun t5 m5 => ?_⟩
    have s5_t := Same.new (o := .tup [.ref p5_0, .ref p5_1]) m5
    have c5 := (s5_0.trans (s5_1.trans s5_t))
    have f5 := g5.trans (e5.trans c5)
    refine ne_views (cs := [((a + 1), (a + 2), false), ((a + 9), (a + 10), false)]) (c5 _ _ h5) (r5.mono c5) upd_same (.cons ⟨p5_0, rfl, (s5_1.trans s5_t) _ _ upd_same⟩ (.cons ⟨p5_1, rfl, s5_t _ _ upd_same⟩ .nil)) (by rcases hcase with rfl | rfl | rfl <;> decide +kernel) ⟨_, rfl, iteF ?_⟩
    have R6 : RuleOk 1 7 0 "none" none := ⟨by decide, by decide, by decide, by decide +kernel, by decide +kernel⟩
    refine fun x6 dx6 nx6 ndx6 ne6 => made_rule' (.inl ⟨rfl, rfl⟩) R6 nx6 ndx6 ne6 fun Ha6 ea6 Ia6 => ⟨rfl, _, rfl, ?_⟩
    have g6 := f5.trans ea6
    refine ⟨_, _, 1, 7, 0, _, _, 48, _, rfl, Ia6, R6, by decide, D1.mono g6, z1, fun a6 ys6 H6 e6 h6 r6 => ?_⟩
    refine ⟨_, rfl, _, _, rfl, rfl, _, rfl, _, _, rfl, rfl, (by show 3 ≤ sizeLine; decide), fun p6_0 n6_0 => ?_⟩
    have s6_0 := Same.new (o := .tup [.int (a + 1), .int (a + 10), .str "busy"]) n6_0
    refine ⟨(by show 1 ≤ sizeLine; decide), fun t6 m6 => ?_⟩
    have s6_t := Same.new (o := .tup [.ref p6_0]) m6
    have c6 := (s6_0.trans s6_t)
    have f6 := g6.trans (e6.trans c6)
    refine ne_views (cs := [((a + 1), (a + 10), false)]) (c6 _ _ h6) (r6.mono c6) upd_same (.cons ⟨p6_0, rfl, s6_t _ _ upd_same⟩ .nil) (by rcases hcase with rfl | rfl | rfl <;> decide +kernel) ⟨_, rfl, iteF ?_⟩
    have R7 : RuleOk 6 6 0 "busy" none := ⟨by decide, by decide, by decide, by decide +kernel, by decide +kernel⟩
    refine fun x7 dx7 nx7 ndx7 ne7 => made_rule' (.inl ⟨rfl, rfl⟩) R7 nx7 ndx7 ne7 fun Ha7 ea7 Ia7 => ⟨rfl, _, rfl, ?_⟩
    have g7 := f6.trans ea7
    refine ⟨_, _, 6, 6, 0, _, _, 48, _, rfl, Ia7, R7, by decide, D1.mono g7, z1, fun a7 ys7 H7 e7 h7 r7 => ?_⟩
    refine ⟨_, rfl, _, rfl, _, _, rfl, rfl, (by show 3 ≤ sizeLine; decide), fun p7_0 n7_0 => ?_⟩
    have s7_0 := Same.new (o := .tup [.int a, .int (a + 12), .str "busy"]) n7_0
    refine ⟨(by show 1 ≤ sizeLine; decide), fun t7 m7 => ?_⟩
    have s7_t := Same.new (o := .tup [.ref p7_0]) m7
    have c7 := (s7_0.trans s7_t)
    have f7 := g7.trans (e7.trans c7)
    refine ne_views (cs := [(a, (a + 12), false)]) (c7 _ _ h7) (r7.mono c7) upd_same (.cons ⟨p7_0, rfl, s7_t _ _ upd_same⟩ .nil) (by rcases hcase with rfl | rfl | rfl <;> decide +kernel) ⟨_, rfl, iteF ?_⟩
    have R8 : RuleOk 6 6 0 "busy" (some ((a + 2), (a + 3))) := ⟨by decide, by decide, by decide, by decide +kernel, by rcases hcase with rfl | rfl | rfl <;> decide +kernel⟩
    refine ⟨_, rfl, _, _, rfl, rfl, _, rfl, _, _, rfl, rfl, (by show 2 ≤ sizeLine; decide), fun ph8 nh8 => ?_⟩
    have sh8 := Same.new (o := .tup [.int (a + 2), .int (a + 3)]) nh8
    refine fun x8 dx8 nx8 ndx8 ne8 => made_rule' (.inr ⟨ph8, (a + 2), (a + 3), rfl, upd_same, rfl⟩) R8 nx8 ndx8 ne8 fun Ha8 ea8 Ia8 => ⟨rfl, _, rfl, ?_⟩
    have g8 := f7.trans (sh8.trans ea8)
    refine ⟨_, _, 6, 6, 0, _, _, 48, _, rfl, Ia8, R8, by decide, D1.mono g8, z1, fun a8 ys8 H8 e8 h8 r8 => ?_⟩
    refine ⟨_, rfl, _, _, rfl, rfl, _, rfl, _, _, rfl, rfl, (by show 3 ≤ sizeLine; decide), fun p8_0 n8_0 => ?_⟩
    have s8_0 := Same.new (o := .tup [.int (a + 2), .int (a + 3), .str "busy"]) n8_0
    refine ⟨(by show 1 ≤ sizeLine; decide), fun t8 m8 => ?_⟩
    have s8_t := Same.new (o := .tup [.ref p8_0]) m8
    have c8 := (s8_0.trans s8_t)
    have f8 := g8.trans (e8.trans c8)
    refine eq_views (cs := [((a + 2), (a + 3), false)]) (c8 _ _ h8) (r8.mono c8) upd_same (.cons ⟨p8_0, rfl, s8_t _ _ upd_same⟩ .nil) (by rcases hcase with rfl | rfl | rfl <;> decide +kernel) (q _ (f0.trans (ed.trans f8)))
end
def spLaw (K : PySem.W.Frag) : Sp := fun vs H Q _ => ∃ (a : Addr) (ns : List Int), vs = [.ref a] ∧ SqL K H a (ns.map V.int) ∧ ns.length ≤ 63 ∧ ∀ H', Q (.bl true) H'
theorem same_x {H H1 H2 : Hp} {b : Addr} (e : Same H H1) (x : SameX b H1 H2) (n : H b = none) : Same H H2 := fun c o h => x c o (e c o h) (ne_of_none h n)
section
variable {P : Program} {w : World} {K : PySem.W.Frag} {mg : Str → Option Value} {base : Heap} {d : Ad}
theorem ok_law {f : Addr} {fd : FuncData} (T : Txt K mg d) (F : Fun K "law" "law" s_law f fd) : FnOk P w K mg base CX0 14 f fd ["_law_script"] (spLaw K) := by
  refine F.ok sc_law (fun vs H Q E h => ?_) (fun cdv A outer s H vs Q E hr h => ?_)
  · obtain ⟨_, _, rfl, _⟩ := h
    rfl
  · obtain ⟨a, ns, rfl, hS, hl, q⟩ := h
    have hu := hr.units
    refine ⟨_, (pss_cons (ps_for PassesOwn.never rfl (pi_range1 rfl T.b_range (pa_cons (pe_callB (call_max2 rfl) (by rfl) T.b_max (by decide +kernel) (pa_cons pe_int (pa_cons (pe_callB (call_min2 rfl) (by rfl) T.b_min (by decide +kernel) (pa_cons pe_int (pa_cons (pe_callB call_len_seq (by rfl) T.b_len PySem.boot_len (pa_cons (pv 0) pa_nil)) pa_nil))) pa_nil))) pa_nil)) (pg_name (i := 1) sc_law.nd rfl (by first | exact Or.inl rfl | exact Or.inr rfl)) (pss_cons (ps_set (i := 2) sc_law.nd rfl (by first | exact Or.inl rfl | exact Or.inr rfl) (pe_callR (ok__law_seed T) (hr.mono (by decide)) rfl T.m__law_seed T.k__law_seed pass0 (pa_cons (pv 0) (pa_cons (pv 1) pa_nil)))) (pss_cons (ps_par (i := 3) (j := 4) rfl sc_law.nd rfl rfl (by decide) rfl rfl (pa_cons (pe_op op_mul pe_int (pe_callR (ok__law_choose T) (hr.mono (by decide)) rfl T.m__law_choose T.k__law_choose pass0 (pa_cons (pv 2) (pa_cons pe_int pa_nil)))) (pa_cons (pe_callR (ok__law_one_of T) (hr.mono (by decide)) rfl T.m__law_one_of T.k__law_one_of pass0 (pa_cons (pv 2) (pa_cons (pe_lst (pa_cons pe_int (pa_cons pe_int (pa_cons pe_int (pa_cons pe_int (pa_cons pe_int pa_nil)))))) pa_nil))) pa_nil)) (by first | rfl | exact sw2 (by rfl) (by rfl) (by rfl))) (pss_cons (ps_if (PW.pt (pw_or (pt_not (pt_val (pe_callR (ok__law_day_right T) (hr.mono (by decide)) rfl T.m__law_day_right T.k__law_day_right pass0 (pa_cons (pv 3) pa_nil)))) (pw_or (pt_not (pt_val (pe_callR (ok__law_lone_right T) (hr.mono (by decide)) rfl T.m__law_lone_right T.k__law_lone_right pass0 (pa_cons (pv 3) pa_nil)))) (pw_or1 (pt_not (pt_val (pe_callR0 (ok__law_last_right T) (hr.mono (by decide)) rfl T.m__law_last_right T.k__law_last_right pass0))))))) (pss_one (ps_ret pe_bl)) pss_nil) (pss_one (ps_if (pt_cmpR (op_neD hu) (pe_callR (ok_show T) (hr.mono (by decide)) rfl T.m_show T.k_show pass0 (pa_cons (pe_makeR T.mk_Rule (ok_Rule_init1 T) (hr.mono (by decide)) rfl T.m_Rule pass0 (pa_cons (pv 4) pa_nil)) (pa_cons (pe_makeR T.mk_Day (ok_Day_init2 T) (hr.mono (by decide)) rfl T.m_Day pass0 (pa_cons pe_int (pa_cons (pe_lst (pa_cons (pe_tup (pa_cons (pv 3) (pa_cons (pe_op op_add (pv 3) pe_int) (pa_cons pe_bl pa_nil)))) pa_nil)) pa_nil))) pa_nil))) (pe_tup (pa_cons (pe_tup (pa_cons (pv 3) (pa_cons (pe_op op_add (pv 3) pe_int) (pa_cons pe_str pa_nil)))) pa_nil)) (nomark _)) (pss_one (ps_ret pe_bl)) pss_nil)))))) (pss_one (ps_ret pe_bl))), ?_⟩
    refine ⟨_, rfl, a, _, rfl, .inl hS, _, _, rfl, _, _, rfl, _, rfl, ?_, ?_, ?_⟩
    · rw [List.length_map]
      split <;> split <;> omega
    · rw [List.length_map]
      split <;> split <;> omega
    refine for_range (fun i σ H2 => ∃ s1 s2 s3 s4, σ = [some (.ref a), s1, s2, s3, s4] ∧ Same H H2) ⟨_, _, _, _, rfl, Same.refl H⟩ ?_ ?_
    · rintro i σ H2 hi ⟨s1, s2, s3, s4, rfl, e2⟩
      refine ⟨_, rfl, _, rfl, a, ns, i, by rw [Int.zero_add], e2.seq hS, fun b x y H3 nb e3 hb => ?_⟩
      have nbH : H b = none := none_of e2 nb
      refine ⟨_, rfl, b, x, y, 3, rfl, hb, by decide, by decide, fun z x' y' z0 z1 => ⟨_, _, rfl, rfl, .inl ⟨by decide, by decide⟩, ?_⟩⟩
      have hcase : 12 * z = 0 ∨ 12 * z = 12 ∨ 12 * z = 24 := by omega
      have f1 : Same H (upd H3 b (.lst [.int x', .int y'])) := Same.mut (e2.trans e3) nbH
      generalize hH4 : upd H3 b (HO.lst [V.int x', V.int y']) = H4 at f1
      have hb4 : H4 b = some (.lst [.int x', .int y']) := by rw [← hH4]; exact upd_same
      refine ⟨_, rfl, (by show 5 ≤ sizeLine; decide), fun p np => ?_⟩
      have sp5 := Same.new (o := .lst (([1, 2, 3, 4, 6] : List Int).map V.int)) np
      refine ⟨b, p, _, rfl, ⟨_, _, sp5 _ _ hb4⟩, upd_same, (ne_of_none hb4 np).symm, List.cons_ne_nil _ _, (by show 5 ≤ 1000; decide), fun j v H5 hv e5 bx5 => ?_⟩
      obtain ⟨st, hst, rfl⟩ := ints_get (ns := [1, 2, 3, 4, 6]) hv
      have f5 : Same H H5 := same_x (f1.trans sp5) e5 nbH
      refine ⟨_, _, rfl, ?_⟩
      have kO : ∀ A : Int, (A = 0 ∨ A = 12 ∨ A = 24) → DayOk 48 [(A, A + 12, false)] := fun A h => ⟨by decide, by decide, by rcases h with rfl | rfl | rfl <;> decide +kernel⟩
      have kS : ∀ A st : Int, (A = 0 ∨ A = 12 ∨ A = 24) → (st = 1 ∨ st = 2 ∨ st = 3 ∨ st = 4 ∨ st = 6) → showL st 0 0 "busy" none [(A, A + 12, false)] = [(A, A + 12, false)] := by
        intro A st h1 h2
        rcases h1 with rfl | rfl | rfl <;> rcases h2 with rfl | rfl | rfl | rfl | rfl <;> decide +kernel
      refine ⟨_, rfl, (12 * z), hcase, rfl, fun H6 e6 => ⟨_, rfl, iteF ?_⟩⟩
      refine ⟨_, rfl, (12 * z), hcase, rfl, fun H7 e7 => ⟨_, rfl, iteF ?_⟩⟩
      refine ⟨0, .inl rfl, rfl, fun H8 e8 => ⟨_, rfl, iteF ?_⟩⟩
      have f8 := f5.trans (e6.trans (e7.trans e8))
      have hs5 : st = 1 ∨ st = 2 ∨ st = 3 ∨ st = 4 ∨ st = 6 := by simpa using hst
      have R : RuleOk st 0 0 "busy" none := ⟨by omega, by decide, by decide, by decide +kernel, by decide +kernel⟩
      refine ⟨_, rfl, fun xr dxr nxr ndxr ner => made_rule' (.inl ⟨rfl, rfl⟩) R nxr ndxr ner fun H9 e9 I9 => ⟨rfl, ?_⟩⟩
      refine ⟨_, rfl, _, rfl, _, _, rfl, rfl, (by show 3 ≤ sizeLine; decide), fun p1 n1 => ⟨(by show 1 ≤ sizeLine; decide), fun l1 m1 => ?_⟩⟩
      have s1 := Same.new (o := .tup [.int (12 * z), .int ((12 * z) + 12), .bl false]) n1
      have s2 := Same.new (o := .lst [.ref p1]) m1
      have O := kO _ hcase
      refine fun xd dxd nxd ndxd ned => made_day' (K := K) (ms := [((12 * z), (12 * z) + 12, false)]) ⟨l1, _, rfl, .inl (.inl (.inl upd_same)), .cons ⟨p1, rfl, s2 _ _ upd_same⟩ .nil⟩ O nxd ndxd ned fun H10 e10 D10 => ⟨rfl, ?_⟩
      have c10 := s1.trans (s2.trans e10)
      refine ⟨_, _, st, 0, 0, _, _, 48, _, rfl, I9.mono c10, R, by omega, D10, (by show 1 ≤ 1000; decide), fun a11 ys11 H11 e11 h11 r11 => ?_⟩
      refine ⟨_, rfl, _, rfl, _, _, rfl, rfl, (by show 3 ≤ sizeLine; decide), fun p2 n2 => ⟨(by show 1 ≤ sizeLine; decide), fun t2 m2 => ?_⟩⟩
      have s3 := Same.new (o := .tup [.int (12 * z), .int ((12 * z) + 12), .str "busy"]) n2
      have s4 := Same.new (o := .tup [.ref p2]) m2
      have c12 := s3.trans s4
      refine ne_views (cs := [((12 * z), (12 * z) + 12, false)]) (c12 _ _ h11) (r11.mono c12) upd_same (.one ⟨p2, rfl, s4 _ _ upd_same⟩) ?_ ⟨_, rfl, iteF ?_⟩
      · exact kS _ _ hcase hs5
      · exact ⟨_, _, _, _, rfl, f8.trans (e9.trans (c10.trans (e11.trans c12)))⟩
    · rintro σ H2 ⟨s1, s2, s3, s4, rfl, e2⟩
      exact q H2
end
end DD

set_option Elab.async false
set_option linter.all false
set_option maxRecDepth 100000
set_option maxHeartbeats 4000000
namespace DD
open PySem PySem.Spec PyProof.Rows L2 StX
theorem all_mk {l : PySem.W.OpenLaw} {w : World} {K : PySem.W.Frag} {h : Heap} {mg : Str → Option Value} {fa : Addr} (X : K.In h) (G : h.Ns mainGlobals mg) (hfa : mg "law" = some (.ref fa))
    {f_put_down f_put_up f_word_shown f_is_joined f_span_shown f_is_integer f_is_number f_is_positive f_is_sequence f__meeting_spans f__joined_spans f__blocks f_show f__is_meeting f__are_meetings f__are_hours f__wrong_argument f__law_seed f__law_choose f__law_one_of f__law_day_right f__law_lone_right f__law_last_right f_law f_Day___init__ f_Rule___init__ C_Day C_Rule c_PRIVATE_WORDS c_WORDS : Addr}
     (a_Rule : PySem.W.nsIn K mainGlobals "Rule" = some (some (.ref C_Rule)))
     (a_Day : PySem.W.nsIn K mainGlobals "Day" = some (some (.ref C_Day)))
    {oc_put_down kV_put_down do_put_down pm_put_down cd_put_down ct_put_down : Value} {od_put_down an_put_down : Option Addr} {sl_put_down : Array (Option Value)} (a_put_down : PySem.W.nsIn K mainGlobals "put_down" = some (some (.ref f_put_down)))
     (l_put_down : K.lookup f_put_down = some ⟨oc_put_down, od_put_down, .func (PySem.W.fnOf "put_down" "put_down" (defArgs s_put_down) (defBody s_put_down) (defScope s_put_down) .none kV_put_down do_put_down pm_put_down an_put_down cd_put_down ct_put_down), sl_put_down⟩)
     (c_put_down : PySem.W.codeIn K cd_put_down "put_down" = true)
     (k_put_down : PySem.W.keepIn K (.ref f_put_down) = true)
    {oc_put_up kV_put_up do_put_up pm_put_up cd_put_up ct_put_up : Value} {od_put_up an_put_up : Option Addr} {sl_put_up : Array (Option Value)} (a_put_up : PySem.W.nsIn K mainGlobals "put_up" = some (some (.ref f_put_up)))
     (l_put_up : K.lookup f_put_up = some ⟨oc_put_up, od_put_up, .func (PySem.W.fnOf "put_up" "put_up" (defArgs s_put_up) (defBody s_put_up) (defScope s_put_up) .none kV_put_up do_put_up pm_put_up an_put_up cd_put_up ct_put_up), sl_put_up⟩)
     (c_put_up : PySem.W.codeIn K cd_put_up "put_up" = true)
     (k_put_up : PySem.W.keepIn K (.ref f_put_up) = true)
    {oc_word_shown kV_word_shown do_word_shown pm_word_shown cd_word_shown ct_word_shown : Value} {od_word_shown an_word_shown : Option Addr} {sl_word_shown : Array (Option Value)} (a_word_shown : PySem.W.nsIn K mainGlobals "word_shown" = some (some (.ref f_word_shown)))
     (l_word_shown : K.lookup f_word_shown = some ⟨oc_word_shown, od_word_shown, .func (PySem.W.fnOf "word_shown" "word_shown" (defArgs s_word_shown) (defBody s_word_shown) (defScope s_word_shown) .none kV_word_shown do_word_shown pm_word_shown an_word_shown cd_word_shown ct_word_shown), sl_word_shown⟩)
     (c_word_shown : PySem.W.codeIn K cd_word_shown "word_shown" = true)
     (k_word_shown : PySem.W.keepIn K (.ref f_word_shown) = true)
    {oc_is_joined kV_is_joined do_is_joined pm_is_joined cd_is_joined ct_is_joined : Value} {od_is_joined an_is_joined : Option Addr} {sl_is_joined : Array (Option Value)} (a_is_joined : PySem.W.nsIn K mainGlobals "is_joined" = some (some (.ref f_is_joined)))
     (l_is_joined : K.lookup f_is_joined = some ⟨oc_is_joined, od_is_joined, .func (PySem.W.fnOf "is_joined" "is_joined" (defArgs s_is_joined) (defBody s_is_joined) (defScope s_is_joined) .none kV_is_joined do_is_joined pm_is_joined an_is_joined cd_is_joined ct_is_joined), sl_is_joined⟩)
     (c_is_joined : PySem.W.codeIn K cd_is_joined "is_joined" = true)
     (k_is_joined : PySem.W.keepIn K (.ref f_is_joined) = true)
    {oc_span_shown kV_span_shown do_span_shown pm_span_shown cd_span_shown ct_span_shown : Value} {od_span_shown an_span_shown : Option Addr} {sl_span_shown : Array (Option Value)} (a_span_shown : PySem.W.nsIn K mainGlobals "span_shown" = some (some (.ref f_span_shown)))
     (l_span_shown : K.lookup f_span_shown = some ⟨oc_span_shown, od_span_shown, .func (PySem.W.fnOf "span_shown" "span_shown" (defArgs s_span_shown) (defBody s_span_shown) (defScope s_span_shown) .none kV_span_shown do_span_shown pm_span_shown an_span_shown cd_span_shown ct_span_shown), sl_span_shown⟩)
     (c_span_shown : PySem.W.codeIn K cd_span_shown "span_shown" = true)
     (k_span_shown : PySem.W.keepIn K (.ref f_span_shown) = true)
    {oc_is_integer kV_is_integer do_is_integer pm_is_integer cd_is_integer ct_is_integer : Value} {od_is_integer an_is_integer : Option Addr} {sl_is_integer : Array (Option Value)} (a_is_integer : PySem.W.nsIn K mainGlobals "is_integer" = some (some (.ref f_is_integer)))
     (l_is_integer : K.lookup f_is_integer = some ⟨oc_is_integer, od_is_integer, .func (PySem.W.fnOf "is_integer" "is_integer" (defArgs s_is_integer) (defBody s_is_integer) (defScope s_is_integer) .none kV_is_integer do_is_integer pm_is_integer an_is_integer cd_is_integer ct_is_integer), sl_is_integer⟩)
     (c_is_integer : PySem.W.codeIn K cd_is_integer "is_integer" = true)
     (k_is_integer : PySem.W.keepIn K (.ref f_is_integer) = true)
    {oc_is_number kV_is_number do_is_number pm_is_number cd_is_number ct_is_number : Value} {od_is_number an_is_number : Option Addr} {sl_is_number : Array (Option Value)} (a_is_number : PySem.W.nsIn K mainGlobals "is_number" = some (some (.ref f_is_number)))
     (l_is_number : K.lookup f_is_number = some ⟨oc_is_number, od_is_number, .func (PySem.W.fnOf "is_number" "is_number" (defArgs s_is_number) (defBody s_is_number) (defScope s_is_number) .none kV_is_number do_is_number pm_is_number an_is_number cd_is_number ct_is_number), sl_is_number⟩)
     (c_is_number : PySem.W.codeIn K cd_is_number "is_number" = true)
     (k_is_number : PySem.W.keepIn K (.ref f_is_number) = true)
    {oc_is_positive kV_is_positive do_is_positive pm_is_positive cd_is_positive ct_is_positive : Value} {od_is_positive an_is_positive : Option Addr} {sl_is_positive : Array (Option Value)} (a_is_positive : PySem.W.nsIn K mainGlobals "is_positive" = some (some (.ref f_is_positive)))
     (l_is_positive : K.lookup f_is_positive = some ⟨oc_is_positive, od_is_positive, .func (PySem.W.fnOf "is_positive" "is_positive" (defArgs s_is_positive) (defBody s_is_positive) (defScope s_is_positive) .none kV_is_positive do_is_positive pm_is_positive an_is_positive cd_is_positive ct_is_positive), sl_is_positive⟩)
     (c_is_positive : PySem.W.codeIn K cd_is_positive "is_positive" = true)
     (k_is_positive : PySem.W.keepIn K (.ref f_is_positive) = true)
    {oc_is_sequence kV_is_sequence do_is_sequence pm_is_sequence cd_is_sequence ct_is_sequence : Value} {od_is_sequence an_is_sequence : Option Addr} {sl_is_sequence : Array (Option Value)} (a_is_sequence : PySem.W.nsIn K mainGlobals "is_sequence" = some (some (.ref f_is_sequence)))
     (l_is_sequence : K.lookup f_is_sequence = some ⟨oc_is_sequence, od_is_sequence, .func (PySem.W.fnOf "is_sequence" "is_sequence" (defArgs s_is_sequence) (defBody s_is_sequence) (defScope s_is_sequence) .none kV_is_sequence do_is_sequence pm_is_sequence an_is_sequence cd_is_sequence ct_is_sequence), sl_is_sequence⟩)
     (c_is_sequence : PySem.W.codeIn K cd_is_sequence "is_sequence" = true)
     (k_is_sequence : PySem.W.keepIn K (.ref f_is_sequence) = true)
    {oc__meeting_spans kV__meeting_spans do__meeting_spans pm__meeting_spans cd__meeting_spans ct__meeting_spans : Value} {od__meeting_spans an__meeting_spans : Option Addr} {sl__meeting_spans : Array (Option Value)} (a__meeting_spans : PySem.W.nsIn K mainGlobals "_meeting_spans" = some (some (.ref f__meeting_spans)))
     (l__meeting_spans : K.lookup f__meeting_spans = some ⟨oc__meeting_spans, od__meeting_spans, .func (PySem.W.fnOf "_meeting_spans" "_meeting_spans" (defArgs s__meeting_spans) (defBody s__meeting_spans) (defScope s__meeting_spans) .none kV__meeting_spans do__meeting_spans pm__meeting_spans an__meeting_spans cd__meeting_spans ct__meeting_spans), sl__meeting_spans⟩)
     (c__meeting_spans : PySem.W.codeIn K cd__meeting_spans "_meeting_spans" = true)
     (k__meeting_spans : PySem.W.keepIn K (.ref f__meeting_spans) = true)
    {oc__joined_spans kV__joined_spans do__joined_spans pm__joined_spans cd__joined_spans ct__joined_spans : Value} {od__joined_spans an__joined_spans : Option Addr} {sl__joined_spans : Array (Option Value)} (a__joined_spans : PySem.W.nsIn K mainGlobals "_joined_spans" = some (some (.ref f__joined_spans)))
     (l__joined_spans : K.lookup f__joined_spans = some ⟨oc__joined_spans, od__joined_spans, .func (PySem.W.fnOf "_joined_spans" "_joined_spans" (defArgs s__joined_spans) (defBody s__joined_spans) (defScope s__joined_spans) .none kV__joined_spans do__joined_spans pm__joined_spans an__joined_spans cd__joined_spans ct__joined_spans), sl__joined_spans⟩)
     (c__joined_spans : PySem.W.codeIn K cd__joined_spans "_joined_spans" = true)
     (k__joined_spans : PySem.W.keepIn K (.ref f__joined_spans) = true)
    {oc__blocks kV__blocks do__blocks pm__blocks cd__blocks ct__blocks : Value} {od__blocks an__blocks : Option Addr} {sl__blocks : Array (Option Value)} (a__blocks : PySem.W.nsIn K mainGlobals "_blocks" = some (some (.ref f__blocks)))
     (l__blocks : K.lookup f__blocks = some ⟨oc__blocks, od__blocks, .func (PySem.W.fnOf "_blocks" "_blocks" (defArgs s__blocks) (defBody s__blocks) (defScope s__blocks) .none kV__blocks do__blocks pm__blocks an__blocks cd__blocks ct__blocks), sl__blocks⟩)
     (c__blocks : PySem.W.codeIn K cd__blocks "_blocks" = true)
     (k__blocks : PySem.W.keepIn K (.ref f__blocks) = true)
    {oc_show kV_show do_show pm_show cd_show ct_show : Value} {od_show an_show : Option Addr} {sl_show : Array (Option Value)} (a_show : PySem.W.nsIn K mainGlobals "show" = some (some (.ref f_show)))
     (l_show : K.lookup f_show = some ⟨oc_show, od_show, .func (PySem.W.fnOf "show" "show" (defArgs s_show) (defBody s_show) (defScope s_show) .none kV_show do_show pm_show an_show cd_show ct_show), sl_show⟩)
     (c_show : PySem.W.codeIn K cd_show "show" = true)
     (k_show : PySem.W.keepIn K (.ref f_show) = true)
    {oc__is_meeting kV__is_meeting do__is_meeting pm__is_meeting cd__is_meeting ct__is_meeting : Value} {od__is_meeting an__is_meeting : Option Addr} {sl__is_meeting : Array (Option Value)} (a__is_meeting : PySem.W.nsIn K mainGlobals "_is_meeting" = some (some (.ref f__is_meeting)))
     (l__is_meeting : K.lookup f__is_meeting = some ⟨oc__is_meeting, od__is_meeting, .func (PySem.W.fnOf "_is_meeting" "_is_meeting" (defArgs s__is_meeting) (defBody s__is_meeting) (defScope s__is_meeting) .none kV__is_meeting do__is_meeting pm__is_meeting an__is_meeting cd__is_meeting ct__is_meeting), sl__is_meeting⟩)
     (c__is_meeting : PySem.W.codeIn K cd__is_meeting "_is_meeting" = true)
     (k__is_meeting : PySem.W.keepIn K (.ref f__is_meeting) = true)
    {oc__are_meetings kV__are_meetings do__are_meetings pm__are_meetings cd__are_meetings ct__are_meetings : Value} {od__are_meetings an__are_meetings : Option Addr} {sl__are_meetings : Array (Option Value)} (a__are_meetings : PySem.W.nsIn K mainGlobals "_are_meetings" = some (some (.ref f__are_meetings)))
     (l__are_meetings : K.lookup f__are_meetings = some ⟨oc__are_meetings, od__are_meetings, .func (PySem.W.fnOf "_are_meetings" "_are_meetings" (defArgs s__are_meetings) (defBody s__are_meetings) (defScope s__are_meetings) .none kV__are_meetings do__are_meetings pm__are_meetings an__are_meetings cd__are_meetings ct__are_meetings), sl__are_meetings⟩)
     (c__are_meetings : PySem.W.codeIn K cd__are_meetings "_are_meetings" = true)
     (k__are_meetings : PySem.W.keepIn K (.ref f__are_meetings) = true)
    {oc__are_hours kV__are_hours do__are_hours pm__are_hours cd__are_hours ct__are_hours : Value} {od__are_hours an__are_hours : Option Addr} {sl__are_hours : Array (Option Value)} (a__are_hours : PySem.W.nsIn K mainGlobals "_are_hours" = some (some (.ref f__are_hours)))
     (l__are_hours : K.lookup f__are_hours = some ⟨oc__are_hours, od__are_hours, .func (PySem.W.fnOf "_are_hours" "_are_hours" (defArgs s__are_hours) (defBody s__are_hours) (defScope s__are_hours) .none kV__are_hours do__are_hours pm__are_hours an__are_hours cd__are_hours ct__are_hours), sl__are_hours⟩)
     (c__are_hours : PySem.W.codeIn K cd__are_hours "_are_hours" = true)
     (k__are_hours : PySem.W.keepIn K (.ref f__are_hours) = true)
    {oc__wrong_argument kV__wrong_argument do__wrong_argument pm__wrong_argument cd__wrong_argument ct__wrong_argument : Value} {od__wrong_argument an__wrong_argument : Option Addr} {sl__wrong_argument : Array (Option Value)} (a__wrong_argument : PySem.W.nsIn K mainGlobals "_wrong_argument" = some (some (.ref f__wrong_argument)))
     (l__wrong_argument : K.lookup f__wrong_argument = some ⟨oc__wrong_argument, od__wrong_argument, .func (PySem.W.fnOf "_wrong_argument" "_wrong_argument" (defArgs s__wrong_argument) (defBody s__wrong_argument) (defScope s__wrong_argument) .none kV__wrong_argument do__wrong_argument pm__wrong_argument an__wrong_argument cd__wrong_argument ct__wrong_argument), sl__wrong_argument⟩)
     (c__wrong_argument : PySem.W.codeIn K cd__wrong_argument "_wrong_argument" = true)
     (k__wrong_argument : PySem.W.keepIn K (.ref f__wrong_argument) = true)
    {oc__law_seed kV__law_seed do__law_seed pm__law_seed cd__law_seed ct__law_seed : Value} {od__law_seed an__law_seed : Option Addr} {sl__law_seed : Array (Option Value)} (a__law_seed : PySem.W.nsIn K mainGlobals "_law_seed" = some (some (.ref f__law_seed)))
     (l__law_seed : K.lookup f__law_seed = some ⟨oc__law_seed, od__law_seed, .func (PySem.W.fnOf "_law_seed" "_law_seed" (defArgs s__law_seed) (defBody s__law_seed) (defScope s__law_seed) .none kV__law_seed do__law_seed pm__law_seed an__law_seed cd__law_seed ct__law_seed), sl__law_seed⟩)
     (c__law_seed : PySem.W.codeIn K cd__law_seed "_law_seed" = true)
     (k__law_seed : PySem.W.keepIn K (.ref f__law_seed) = true)
    {oc__law_choose kV__law_choose do__law_choose pm__law_choose cd__law_choose ct__law_choose : Value} {od__law_choose an__law_choose : Option Addr} {sl__law_choose : Array (Option Value)} (a__law_choose : PySem.W.nsIn K mainGlobals "_law_choose" = some (some (.ref f__law_choose)))
     (l__law_choose : K.lookup f__law_choose = some ⟨oc__law_choose, od__law_choose, .func (PySem.W.fnOf "_law_choose" "_law_choose" (defArgs s__law_choose) (defBody s__law_choose) (defScope s__law_choose) .none kV__law_choose do__law_choose pm__law_choose an__law_choose cd__law_choose ct__law_choose), sl__law_choose⟩)
     (c__law_choose : PySem.W.codeIn K cd__law_choose "_law_choose" = true)
     (k__law_choose : PySem.W.keepIn K (.ref f__law_choose) = true)
    {oc__law_one_of kV__law_one_of do__law_one_of pm__law_one_of cd__law_one_of ct__law_one_of : Value} {od__law_one_of an__law_one_of : Option Addr} {sl__law_one_of : Array (Option Value)} (a__law_one_of : PySem.W.nsIn K mainGlobals "_law_one_of" = some (some (.ref f__law_one_of)))
     (l__law_one_of : K.lookup f__law_one_of = some ⟨oc__law_one_of, od__law_one_of, .func (PySem.W.fnOf "_law_one_of" "_law_one_of" (defArgs s__law_one_of) (defBody s__law_one_of) (defScope s__law_one_of) .none kV__law_one_of do__law_one_of pm__law_one_of an__law_one_of cd__law_one_of ct__law_one_of), sl__law_one_of⟩)
     (c__law_one_of : PySem.W.codeIn K cd__law_one_of "_law_one_of" = true)
     (k__law_one_of : PySem.W.keepIn K (.ref f__law_one_of) = true)
    {oc__law_day_right kV__law_day_right do__law_day_right pm__law_day_right cd__law_day_right ct__law_day_right : Value} {od__law_day_right an__law_day_right : Option Addr} {sl__law_day_right : Array (Option Value)} (a__law_day_right : PySem.W.nsIn K mainGlobals "_law_day_right" = some (some (.ref f__law_day_right)))
     (l__law_day_right : K.lookup f__law_day_right = some ⟨oc__law_day_right, od__law_day_right, .func (PySem.W.fnOf "_law_day_right" "_law_day_right" (defArgs s__law_day_right) (defBody s__law_day_right) (defScope s__law_day_right) .none kV__law_day_right do__law_day_right pm__law_day_right an__law_day_right cd__law_day_right ct__law_day_right), sl__law_day_right⟩)
     (c__law_day_right : PySem.W.codeIn K cd__law_day_right "_law_day_right" = true)
     (k__law_day_right : PySem.W.keepIn K (.ref f__law_day_right) = true)
    {oc__law_lone_right kV__law_lone_right do__law_lone_right pm__law_lone_right cd__law_lone_right ct__law_lone_right : Value} {od__law_lone_right an__law_lone_right : Option Addr} {sl__law_lone_right : Array (Option Value)} (a__law_lone_right : PySem.W.nsIn K mainGlobals "_law_lone_right" = some (some (.ref f__law_lone_right)))
     (l__law_lone_right : K.lookup f__law_lone_right = some ⟨oc__law_lone_right, od__law_lone_right, .func (PySem.W.fnOf "_law_lone_right" "_law_lone_right" (defArgs s__law_lone_right) (defBody s__law_lone_right) (defScope s__law_lone_right) .none kV__law_lone_right do__law_lone_right pm__law_lone_right an__law_lone_right cd__law_lone_right ct__law_lone_right), sl__law_lone_right⟩)
     (c__law_lone_right : PySem.W.codeIn K cd__law_lone_right "_law_lone_right" = true)
     (k__law_lone_right : PySem.W.keepIn K (.ref f__law_lone_right) = true)
    {oc__law_last_right kV__law_last_right do__law_last_right pm__law_last_right cd__law_last_right ct__law_last_right : Value} {od__law_last_right an__law_last_right : Option Addr} {sl__law_last_right : Array (Option Value)} (a__law_last_right : PySem.W.nsIn K mainGlobals "_law_last_right" = some (some (.ref f__law_last_right)))
     (l__law_last_right : K.lookup f__law_last_right = some ⟨oc__law_last_right, od__law_last_right, .func (PySem.W.fnOf "_law_last_right" "_law_last_right" (defArgs s__law_last_right) (defBody s__law_last_right) (defScope s__law_last_right) .none kV__law_last_right do__law_last_right pm__law_last_right an__law_last_right cd__law_last_right ct__law_last_right), sl__law_last_right⟩)
     (c__law_last_right : PySem.W.codeIn K cd__law_last_right "_law_last_right" = true)
     (k__law_last_right : PySem.W.keepIn K (.ref f__law_last_right) = true)
    {oc_law kV_law do_law pm_law cd_law ct_law : Value} {od_law an_law : Option Addr} {sl_law : Array (Option Value)} (a_law : PySem.W.nsIn K mainGlobals "law" = some (some (.ref f_law)))
     (l_law : K.lookup f_law = some ⟨oc_law, od_law, .func (PySem.W.fnOf "law" "law" (defArgs s_law) (defBody s_law) (defScope s_law) .none kV_law do_law pm_law an_law cd_law ct_law), sl_law⟩)
     (c_law : PySem.W.codeIn K cd_law "law" = true)
     (k_law : PySem.W.keepIn K (.ref f_law) = true)
    {oc_Day___init__ kV_Day___init__ do_Day___init__ pm_Day___init__ cd_Day___init__ ct_Day___init__ : Value} {od_Day___init__ an_Day___init__ : Option Addr} {sl_Day___init__ : Array (Option Value)} (a_Day___init__ : PySem.W.findIn K (.ref C_Day) "__init__" = some (some (.ref f_Day___init__)))
     (i_Day___init__ : PySem.W.isFn K (.ref f_Day___init__) = true)
    {T_Day___init__ : Addr} (l_Day___init__ : K.lookup f_Day___init__ = some ⟨oc_Day___init__, od_Day___init__, .func (PySem.W.fnOf "__init__" "Day.__init__" (defArgs s_Day___init__) (defBody s_Day___init__) (defScope s_Day___init__) (.ref T_Day___init__) kV_Day___init__ do_Day___init__ pm_Day___init__ an_Day___init__ cd_Day___init__ ct_Day___init__), sl_Day___init__⟩)
    {tc_Day___init__ : Value} {td_Day___init__ : Option Addr} {it_Day___init__ : Array Value} {tn_Day___init__ : Nat} {ts_Day___init__ : Array (Option Value)} (lt_Day___init__ : K.lookup T_Day___init__ = some ⟨tc_Day___init__, td_Day___init__, .seq it_Day___init__ tn_Day___init__, ts_Day___init__⟩)
    {z_Day : Addr} (lv_Day___init__ : it_Day___init__.toList.mapM absV = some [V.ref z_Day])
    {td_zDay : Option Addr} {it_zDay : Array Value} {tn_zDay : Nat} {ts_zDay : Array (Option Value)} (l_zDay : K.lookup z_Day = some ⟨.type "tuple", td_zDay, .seq it_zDay tn_zDay, ts_zDay⟩)
     (lv_zDay : it_zDay.toList.mapM absV = some [])
     (c_Day___init__ : PySem.W.codeIn K cd_Day___init__ "Day.__init__" = true)
     (k_Day___init__ : PySem.W.keepIn K (.ref f_Day___init__) = true)
    {oc_Rule___init__ kV_Rule___init__ do_Rule___init__ pm_Rule___init__ cd_Rule___init__ ct_Rule___init__ : Value} {od_Rule___init__ an_Rule___init__ : Option Addr} {sl_Rule___init__ : Array (Option Value)} (a_Rule___init__ : PySem.W.findIn K (.ref C_Rule) "__init__" = some (some (.ref f_Rule___init__)))
     (i_Rule___init__ : PySem.W.isFn K (.ref f_Rule___init__) = true)
    {T_Rule___init__ : Addr} (l_Rule___init__ : K.lookup f_Rule___init__ = some ⟨oc_Rule___init__, od_Rule___init__, .func (PySem.W.fnOf "__init__" "Rule.__init__" (defArgs s_Rule___init__) (defBody s_Rule___init__) (defScope s_Rule___init__) (.ref T_Rule___init__) kV_Rule___init__ do_Rule___init__ pm_Rule___init__ an_Rule___init__ cd_Rule___init__ ct_Rule___init__), sl_Rule___init__⟩)
    {tc_Rule___init__ : Value} {td_Rule___init__ : Option Addr} {it_Rule___init__ : Array Value} {tn_Rule___init__ : Nat} {ts_Rule___init__ : Array (Option Value)} (lt_Rule___init__ : K.lookup T_Rule___init__ = some ⟨tc_Rule___init__, td_Rule___init__, .seq it_Rule___init__ tn_Rule___init__, ts_Rule___init__⟩)
     (lv_Rule___init__ : it_Rule___init__.toList.mapM absV = some [V.int 1, V.int 0, V.int 0, V.str "busy", V.non])
     (c_Rule___init__ : PySem.W.codeIn K cd_Rule___init__ "Rule.__init__" = true)
     (k_Rule___init__ : PySem.W.keepIn K (.ref f_Rule___init__) = true)
     (pg_Day : PySem.W.plainGet K C_Day Str.empty = true)
     (hd_Day : PySem.W.hasDictIn K C_Day = true)
     (po_Day : PySem.W.plainOver K C_Day = true)
     (sa_Day : PySem.W.findIn K (.ref C_Day) "__setattr__" = some (some (.builtin "object.__setattr__")))
     (mk_Day : PySem.W.makesIn K C_Day = true)
     (kc_Day : PySem.W.keepIn K (.ref C_Day) = true)
     (na_Day_length : PySem.W.findIn K (.ref C_Day) "length" = some none)
     (na_Day_meetings : PySem.W.findIn K (.ref C_Day) "meetings" = some none)
     (o_Day : PySem.W.mroIn K C_Day (.type "object") = some true)
     (ic_Day : PySem.W.findIn K (.ref C_Day) "__class__" = some (some (.builtin "object.__class__")))
     (pg_Rule : PySem.W.plainGet K C_Rule Str.empty = true)
     (hd_Rule : PySem.W.hasDictIn K C_Rule = true)
     (po_Rule : PySem.W.plainOver K C_Rule = true)
     (sa_Rule : PySem.W.findIn K (.ref C_Rule) "__setattr__" = some (some (.builtin "object.__setattr__")))
     (mk_Rule : PySem.W.makesIn K C_Rule = true)
     (kc_Rule : PySem.W.keepIn K (.ref C_Rule) = true)
     (na_Rule_step : PySem.W.findIn K (.ref C_Rule) "step" = some none)
     (na_Rule_gap : PySem.W.findIn K (.ref C_Rule) "gap" = some none)
     (na_Rule_least : PySem.W.findIn K (.ref C_Rule) "least" = some none)
     (na_Rule_private : PySem.W.findIn K (.ref C_Rule) "private" = some none)
     (na_Rule_hours : PySem.W.findIn K (.ref C_Rule) "hours" = some none)
     (o_Rule : PySem.W.mroIn K C_Rule (.type "object") = some true)
     (ic_Rule : PySem.W.findIn K (.ref C_Rule) "__class__" = some (some (.builtin "object.__class__")))
     (oc1 : PySem.W.specialIn K (.builtin "object.__class__") "__get__" = some (some (.builtin "getset_descriptor.__get__")))
     (oc2 : PySem.W.takesIn K (.builtin "object.__class__") = some true)
     (b_isinstance : PySem.W.nsIn K mainGlobals "isinstance" = some none)
     (b_int : PySem.W.nsIn K mainGlobals "int" = some none)
     (b_bool : PySem.W.nsIn K mainGlobals "bool" = some none)
     (b_list : PySem.W.nsIn K mainGlobals "list" = some none)
     (b_tuple : PySem.W.nsIn K mainGlobals "tuple" = some none)
     (b_len : PySem.W.nsIn K mainGlobals "len" = some none)
     (b_range : PySem.W.nsIn K mainGlobals "range" = some none)
     (b_abs : PySem.W.nsIn K mainGlobals "abs" = some none)
     (b_min : PySem.W.nsIn K mainGlobals "min" = some none)
     (b_max : PySem.W.nsIn K mainGlobals "max" = some none)
     (b_sorted : PySem.W.nsIn K mainGlobals "sorted" = some none)
     (a_PRIVATE_WORDS : PySem.W.nsIn K mainGlobals "PRIVATE_WORDS" = some (some (.ref c_PRIVATE_WORDS)))
    {td_PRIVATE_WORDS : Option Addr} {it_PRIVATE_WORDS : Array Value} {tn_PRIVATE_WORDS : Nat} {ts_PRIVATE_WORDS : Array (Option Value)} (l_PRIVATE_WORDS : K.lookup c_PRIVATE_WORDS = some ⟨.type "tuple", td_PRIVATE_WORDS, .seq it_PRIVATE_WORDS tn_PRIVATE_WORDS, ts_PRIVATE_WORDS⟩)
     (lv_PRIVATE_WORDS : it_PRIVATE_WORDS.toList.mapM absV = some v_PRIVATE_WORDS)
     (a_WORDS : PySem.W.nsIn K mainGlobals "WORDS" = some (some (.ref c_WORDS)))
    {td_WORDS : Option Addr} {it_WORDS : Array Value} {tn_WORDS : Nat} {ts_WORDS : Array (Option Value)} (l_WORDS : K.lookup c_WORDS = some ⟨.type "tuple", td_WORDS, .seq it_WORDS tn_WORDS, ts_WORDS⟩)
     (lv_WORDS : it_WORDS.toList.mapM absV = some v_WORDS)
    : ∃ fd : FuncData, (∀ (s : Shared) (v : Value), BindsTo s fd ⟨[v], []⟩ [("_law_script", v)]) ∧ ∀ base : Heap, K.In base → base.Ns mainGlobals mg → FnOk l.prog w K mg base CX0 14 fa fd ["_law_script"] (spLaw K) := by
  have e := hfa.symm.trans (PySem.W.mg_of X G a_law)
  cases e
  have T : Txt K mg { f_put_down := f_put_down, f_put_up := f_put_up, f_word_shown := f_word_shown, f_is_joined := f_is_joined, f_span_shown := f_span_shown, f_is_integer := f_is_integer, f_is_number := f_is_number, f_is_positive := f_is_positive, f_is_sequence := f_is_sequence, f__meeting_spans := f__meeting_spans, f__joined_spans := f__joined_spans, f__blocks := f__blocks, f_show := f_show, f__is_meeting := f__is_meeting, f__are_meetings := f__are_meetings, f__are_hours := f__are_hours, f__wrong_argument := f__wrong_argument, f__law_seed := f__law_seed, f__law_choose := f__law_choose, f__law_one_of := f__law_one_of, f__law_day_right := f__law_day_right, f__law_lone_right := f__law_lone_right, f__law_last_right := f__law_last_right, f_law := fa, f_Day___init__ := f_Day___init__, z_Day := z_Day, f_Rule___init__ := f_Rule___init__, C_Day := C_Day, C_Rule := C_Rule, c_PRIVATE_WORDS := c_PRIVATE_WORDS, c_WORDS := c_WORDS } := { m_put_down := PySem.W.mg_of X G a_put_down, k_put_down := k_put_down, F_put_down := ⟨_, fun_mk (st := s_put_down) l_put_down c_put_down k_put_down⟩, m_put_up := PySem.W.mg_of X G a_put_up, k_put_up := k_put_up, F_put_up := ⟨_, fun_mk (st := s_put_up) l_put_up c_put_up k_put_up⟩, m_word_shown := PySem.W.mg_of X G a_word_shown, k_word_shown := k_word_shown, F_word_shown := ⟨_, fun_mk (st := s_word_shown) l_word_shown c_word_shown k_word_shown⟩, m_is_joined := PySem.W.mg_of X G a_is_joined, k_is_joined := k_is_joined, F_is_joined := ⟨_, fun_mk (st := s_is_joined) l_is_joined c_is_joined k_is_joined⟩, m_span_shown := PySem.W.mg_of X G a_span_shown, k_span_shown := k_span_shown, F_span_shown := ⟨_, fun_mk (st := s_span_shown) l_span_shown c_span_shown k_span_shown⟩, m_is_integer := PySem.W.mg_of X G a_is_integer, k_is_integer := k_is_integer, F_is_integer := ⟨_, fun_mk (st := s_is_integer) l_is_integer c_is_integer k_is_integer⟩, m_is_number := PySem.W.mg_of X G a_is_number, k_is_number := k_is_number, F_is_number := ⟨_, fun_mk (st := s_is_number) l_is_number c_is_number k_is_number⟩, m_is_positive := PySem.W.mg_of X G a_is_positive, k_is_positive := k_is_positive, F_is_positive := ⟨_, fun_mk (st := s_is_positive) l_is_positive c_is_positive k_is_positive⟩, m_is_sequence := PySem.W.mg_of X G a_is_sequence, k_is_sequence := k_is_sequence, F_is_sequence := ⟨_, fun_mk (st := s_is_sequence) l_is_sequence c_is_sequence k_is_sequence⟩, m__meeting_spans := PySem.W.mg_of X G a__meeting_spans, k__meeting_spans := k__meeting_spans, F__meeting_spans := ⟨_, fun_mk (st := s__meeting_spans) l__meeting_spans c__meeting_spans k__meeting_spans⟩, m__joined_spans := PySem.W.mg_of X G a__joined_spans, k__joined_spans := k__joined_spans, F__joined_spans := ⟨_, fun_mk (st := s__joined_spans) l__joined_spans c__joined_spans k__joined_spans⟩, m__blocks := PySem.W.mg_of X G a__blocks, k__blocks := k__blocks, F__blocks := ⟨_, fun_mk (st := s__blocks) l__blocks c__blocks k__blocks⟩, m_show := PySem.W.mg_of X G a_show, k_show := k_show, F_show := ⟨_, fun_mk (st := s_show) l_show c_show k_show⟩, m__is_meeting := PySem.W.mg_of X G a__is_meeting, k__is_meeting := k__is_meeting, F__is_meeting := ⟨_, fun_mk (st := s__is_meeting) l__is_meeting c__is_meeting k__is_meeting⟩, m__are_meetings := PySem.W.mg_of X G a__are_meetings, k__are_meetings := k__are_meetings, F__are_meetings := ⟨_, fun_mk (st := s__are_meetings) l__are_meetings c__are_meetings k__are_meetings⟩, m__are_hours := PySem.W.mg_of X G a__are_hours, k__are_hours := k__are_hours, F__are_hours := ⟨_, fun_mk (st := s__are_hours) l__are_hours c__are_hours k__are_hours⟩, m__wrong_argument := PySem.W.mg_of X G a__wrong_argument, k__wrong_argument := k__wrong_argument, F__wrong_argument := ⟨_, fun_mk (st := s__wrong_argument) l__wrong_argument c__wrong_argument k__wrong_argument⟩, m__law_seed := PySem.W.mg_of X G a__law_seed, k__law_seed := k__law_seed, F__law_seed := ⟨_, fun_mk (st := s__law_seed) l__law_seed c__law_seed k__law_seed⟩, m__law_choose := PySem.W.mg_of X G a__law_choose, k__law_choose := k__law_choose, F__law_choose := ⟨_, fun_mk (st := s__law_choose) l__law_choose c__law_choose k__law_choose⟩, m__law_one_of := PySem.W.mg_of X G a__law_one_of, k__law_one_of := k__law_one_of, F__law_one_of := ⟨_, fun_mk (st := s__law_one_of) l__law_one_of c__law_one_of k__law_one_of⟩, m__law_day_right := PySem.W.mg_of X G a__law_day_right, k__law_day_right := k__law_day_right, F__law_day_right := ⟨_, fun_mk (st := s__law_day_right) l__law_day_right c__law_day_right k__law_day_right⟩, m__law_lone_right := PySem.W.mg_of X G a__law_lone_right, k__law_lone_right := k__law_lone_right, F__law_lone_right := ⟨_, fun_mk (st := s__law_lone_right) l__law_lone_right c__law_lone_right k__law_lone_right⟩, m__law_last_right := PySem.W.mg_of X G a__law_last_right, k__law_last_right := k__law_last_right, F__law_last_right := ⟨_, fun_mk (st := s__law_last_right) l__law_last_right c__law_last_right k__law_last_right⟩, m_law := PySem.W.mg_of X G a_law, k_law := k_law, F_law := ⟨_, fun_mk (st := s_law) l_law c_law k_law⟩, w_zDay := fun _ => sqt_mk l_zDay lv_zDay (by decide), F_Day___init__ := ⟨_, fund_mk l_Day___init__ lt_Day___init__ lv_Day___init__ (List.cons_ne_nil _ _) c_Day___init__ k_Day___init__⟩, F_Rule___init__ := ⟨_, fund_mk l_Rule___init__ lt_Rule___init__ lv_Rule___init__ (List.cons_ne_nil _ _) c_Rule___init__ k_Rule___init__⟩, m_Day := PySem.W.mg_of X G a_Day, cl_Day := ⟨pg_Day, hd_Day, po_Day, sa_Day⟩, mk_Day := ⟨mk_Day, a_Day___init__, i_Day___init__, kc_Day⟩, na_Day_length := na_Day_length, na_Day_meetings := na_Day_meetings, o_Day := o_Day, ic_Day := ic_Day, m_Rule := PySem.W.mg_of X G a_Rule, cl_Rule := ⟨pg_Rule, hd_Rule, po_Rule, sa_Rule⟩, mk_Rule := ⟨mk_Rule, a_Rule___init__, i_Rule___init__, kc_Rule⟩, na_Rule_step := na_Rule_step, na_Rule_gap := na_Rule_gap, na_Rule_least := na_Rule_least, na_Rule_private := na_Rule_private, na_Rule_hours := na_Rule_hours, o_Rule := o_Rule, ic_Rule := ic_Rule, oc1 := oc1, oc2 := oc2, b_isinstance := PySem.W.mg_none_of X G b_isinstance, b_int := PySem.W.mg_none_of X G b_int, b_bool := PySem.W.mg_none_of X G b_bool, b_list := PySem.W.mg_none_of X G b_list, b_tuple := PySem.W.mg_none_of X G b_tuple, b_len := PySem.W.mg_none_of X G b_len, b_range := PySem.W.mg_none_of X G b_range, b_abs := PySem.W.mg_none_of X G b_abs, b_min := PySem.W.mg_none_of X G b_min, b_max := PySem.W.mg_none_of X G b_max, b_sorted := PySem.W.mg_none_of X G b_sorted, m_PRIVATE_WORDS := PySem.W.mg_of X G a_PRIVATE_WORDS, w_PRIVATE_WORDS := fun _ => sqt_mk l_PRIVATE_WORDS lv_PRIVATE_WORDS (by decide), m_WORDS := PySem.W.mg_of X G a_WORDS, w_WORDS := fun _ => sqt_mk l_WORDS lv_WORDS (by decide) }
  exact ⟨PySem.W.fnOf "law" "law" (defArgs s_law) (defBody s_law) (defScope s_law) .none kV_law do_law pm_law an_law cd_law ct_law, fun s v => .of_eq rfl, fun base _ _ => ok_law T (fun_mk l_law c_law k_law)⟩
theorem walk {l : PySem.W.OpenLaw} {q : Program} {loose : List Str} {XP : (Str → Option Value) → Heap → Prop} {YP : World → Heap → Prop} {d : DefRec} {K : Params → PySem.W.Frag} (hn : l.most = some 63) (hdf : d.params.defaults = [])
    (hY : ∀ (w : World) (h : Heap), YP w h → (K w.params).In h)
    (F : ∀ (w : World) (mg : Str → Option Value) (fa : Addr) (h : Heap), (K w.params).In h → h.Ns mainGlobals mg → mg d.name = some (.ref fa) →
      ∃ fd : FuncData, (∀ (s : Shared) (u : Value), BindsTo s fd ⟨[u], []⟩ [("_law_script", u)]) ∧ ∀ base : Heap, (K w.params).In base → base.Ns mainGlobals mg → FnOk l.prog w (K w.params) mg base CX0 14 fa fd ["_law_script"] (spLaw (K w.params))) :
    PySem.W.WalkO q loose XP YP l.row.toRowW d [] (fun f vs => PySem.call f vs) :=
  L2.walk_of (n := 63) (k := 14) (x := "_law_script") (CX := fun _ => CX0) (sp := fun w => spLaw (K w.params)) hn (by decide) hdf ⟨rfl, by decide, by decide⟩ hY F (fun _ _ a ns hl _ hS => ⟨a, ns, rfl, hS, hl, fun _ => rfl⟩) fun _ _ _ _ _ z => z
end DD
open PySem PySem.W PyProof.Rows
set_option maxRecDepth 100000 in
set_option maxHeartbeats 0 in
theorem PySem.Challenge.cw_dimdays_k16_showing_known_holds : PySem.Challenge.rw_dimdays_k16_showing_known.Holds := by
  w_on; o_law; k_head; (case hw => w_witness2)
  k_fill
  refine DD.walk (l := PySem.Challenge.rw_dimdays_k16_showing_known) rfl rfl (fun w h Y => PySem.W.kIn_of Y) ?F
  case F =>
    intro w mg fa h KX G hmg
    refine' DD.all_mk KX G hmg ?a_Rule ?a_Day ?a_put_down ?l_put_down ?c_put_down ?k_put_down ?a_put_up ?l_put_up ?c_put_up ?k_put_up ?a_word_shown ?l_word_shown ?c_word_shown ?k_word_shown ?a_is_joined ?l_is_joined ?c_is_joined ?k_is_joined ?a_span_shown ?l_span_shown ?c_span_shown ?k_span_shown ?a_is_integer ?l_is_integer ?c_is_integer ?k_is_integer ?a_is_number ?l_is_number ?c_is_number ?k_is_number ?a_is_positive ?l_is_positive ?c_is_positive ?k_is_positive ?a_is_sequence ?l_is_sequence ?c_is_sequence ?k_is_sequence ?a__meeting_spans ?l__meeting_spans ?c__meeting_spans ?k__meeting_spans ?a__joined_spans ?l__joined_spans ?c__joined_spans ?k__joined_spans ?a__blocks ?l__blocks ?c__blocks ?k__blocks ?a_show ?l_show ?c_show ?k_show ?a__is_meeting ?l__is_meeting ?c__is_meeting ?k__is_meeting ?a__are_meetings ?l__are_meetings ?c__are_meetings ?k__are_meetings ?a__are_hours ?l__are_hours ?c__are_hours ?k__are_hours ?a__wrong_argument ?l__wrong_argument ?c__wrong_argument ?k__wrong_argument ?a__law_seed ?l__law_seed ?c__law_seed ?k__law_seed ?a__law_choose ?l__law_choose ?c__law_choose ?k__law_choose ?a__law_one_of ?l__law_one_of ?c__law_one_of ?k__law_one_of ?a__law_day_right ?l__law_day_right ?c__law_day_right ?k__law_day_right ?a__law_lone_right ?l__law_lone_right ?c__law_lone_right ?k__law_lone_right ?a__law_last_right ?l__law_last_right ?c__law_last_right ?k__law_last_right ?a_law ?l_law ?c_law ?k_law ?a_Day___init__ ?i_Day___init__ ?l_Day___init__ ?lt_Day___init__ ?lv_Day___init__ ?l_zDay ?lv_zDay ?c_Day___init__ ?k_Day___init__ ?a_Rule___init__ ?i_Rule___init__ ?l_Rule___init__ ?lt_Rule___init__ ?lv_Rule___init__ ?c_Rule___init__ ?k_Rule___init__ ?pg_Day ?hd_Day ?po_Day ?sa_Day ?mk_Day ?kc_Day ?na_Day_length ?na_Day_meetings ?o_Day ?ic_Day ?pg_Rule ?hd_Rule ?po_Rule ?sa_Rule ?mk_Rule ?kc_Rule ?na_Rule_step ?na_Rule_gap ?na_Rule_least ?na_Rule_private ?na_Rule_hours ?o_Rule ?ic_Rule ?oc1 ?oc2 ?b_isinstance ?b_int ?b_bool ?b_list ?b_tuple ?b_len ?b_range ?b_abs ?b_min ?b_max ?b_sorted ?a_PRIVATE_WORDS ?l_PRIVATE_WORDS ?lv_PRIVATE_WORDS ?a_WORDS ?l_WORDS ?lv_WORDS
    (case a_Rule => k_is)
    (case a_Day => k_is)
    (case a_put_down => k_is)
    (case l_put_down => k_is)
    (case c_put_down => k_is)
    (case k_put_down => k_is)
    (case a_put_up => k_is)
    (case l_put_up => k_is)
    (case c_put_up => k_is)
    (case k_put_up => k_is)
    (case a_word_shown => k_is)
    (case l_word_shown => k_is)
    (case c_word_shown => k_is)
    (case k_word_shown => k_is)
    (case a_is_joined => k_is)
    (case l_is_joined => k_is)
    (case c_is_joined => k_is)
    (case k_is_joined => k_is)
    (case a_span_shown => k_is)
    (case l_span_shown => k_is)
    (case c_span_shown => k_is)
    (case k_span_shown => k_is)
    (case a_is_integer => k_is)
    (case l_is_integer => k_is)
    (case c_is_integer => k_is)
    (case k_is_integer => k_is)
    (case a_is_number => k_is)
    (case l_is_number => k_is)
    (case c_is_number => k_is)
    (case k_is_number => k_is)
    (case a_is_positive => k_is)
    (case l_is_positive => k_is)
    (case c_is_positive => k_is)
    (case k_is_positive => k_is)
    (case a_is_sequence => k_is)
    (case l_is_sequence => k_is)
    (case c_is_sequence => k_is)
    (case k_is_sequence => k_is)
    (case a__meeting_spans => k_is)
    (case l__meeting_spans => k_is)
    (case c__meeting_spans => k_is)
    (case k__meeting_spans => k_is)
    (case a__joined_spans => k_is)
    (case l__joined_spans => k_is)
    (case c__joined_spans => k_is)
    (case k__joined_spans => k_is)
    (case a__blocks => k_is)
    (case l__blocks => k_is)
    (case c__blocks => k_is)
    (case k__blocks => k_is)
    (case a_show => k_is)
    (case l_show => k_is)
    (case c_show => k_is)
    (case k_show => k_is)
    (case a__is_meeting => k_is)
    (case l__is_meeting => k_is)
    (case c__is_meeting => k_is)
    (case k__is_meeting => k_is)
    (case a__are_meetings => k_is)
    (case l__are_meetings => k_is)
    (case c__are_meetings => k_is)
    (case k__are_meetings => k_is)
    (case a__are_hours => k_is)
    (case l__are_hours => k_is)
    (case c__are_hours => k_is)
    (case k__are_hours => k_is)
    (case a__wrong_argument => k_is)
    (case l__wrong_argument => k_is)
    (case c__wrong_argument => k_is)
    (case k__wrong_argument => k_is)
    (case a__law_seed => k_is)
    (case l__law_seed => k_is)
    (case c__law_seed => k_is)
    (case k__law_seed => k_is)
    (case a__law_choose => k_is)
    (case l__law_choose => k_is)
    (case c__law_choose => k_is)
    (case k__law_choose => k_is)
    (case a__law_one_of => k_is)
    (case l__law_one_of => k_is)
    (case c__law_one_of => k_is)
    (case k__law_one_of => k_is)
    (case a__law_day_right => k_is)
    (case l__law_day_right => k_is)
    (case c__law_day_right => k_is)
    (case k__law_day_right => k_is)
    (case a__law_lone_right => k_is)
    (case l__law_lone_right => k_is)
    (case c__law_lone_right => k_is)
    (case k__law_lone_right => k_is)
    (case a__law_last_right => k_is)
    (case l__law_last_right => k_is)
    (case c__law_last_right => k_is)
    (case k__law_last_right => k_is)
    (case a_law => k_is)
    (case l_law => k_is)
    (case c_law => k_is)
    (case k_law => k_is)
    (case a_Day___init__ => k_is)
    (case i_Day___init__ => k_is)
    (case l_Day___init__ => k_is)
    (case lt_Day___init__ => k_is)
    (case lv_Day___init__ => exact rfl)
    (case l_zDay => k_is)
    (case lv_zDay => exact rfl)
    (case c_Day___init__ => k_is)
    (case k_Day___init__ => k_is)
    (case a_Rule___init__ => k_is)
    (case i_Rule___init__ => k_is)
    (case l_Rule___init__ => k_is)
    (case lt_Rule___init__ => k_is)
    (case lv_Rule___init__ => exact rfl)
    (case c_Rule___init__ => k_is)
    (case k_Rule___init__ => k_is)
    (case pg_Day => k_is)
    (case hd_Day => k_is)
    (case po_Day => k_is)
    (case sa_Day => k_is)
    (case mk_Day => k_is)
    (case kc_Day => k_is)
    (case na_Day_length => k_is)
    (case na_Day_meetings => k_is)
    (case o_Day => k_is)
    (case ic_Day => k_is)
    (case pg_Rule => k_is)
    (case hd_Rule => k_is)
    (case po_Rule => k_is)
    (case sa_Rule => k_is)
    (case mk_Rule => k_is)
    (case kc_Rule => k_is)
    (case na_Rule_step => k_is)
    (case na_Rule_gap => k_is)
    (case na_Rule_least => k_is)
    (case na_Rule_private => k_is)
    (case na_Rule_hours => k_is)
    (case o_Rule => k_is)
    (case ic_Rule => k_is)
    (case oc1 => k_is)
    (case oc2 => k_is)
    (case b_isinstance => k_is)
    (case b_int => k_is)
    (case b_bool => k_is)
    (case b_list => k_is)
    (case b_tuple => k_is)
    (case b_len => k_is)
    (case b_range => k_is)
    (case b_abs => k_is)
    (case b_min => k_is)
    (case b_max => k_is)
    (case b_sorted => k_is)
    (case a_PRIVATE_WORDS => k_is)
    (case l_PRIVATE_WORDS => k_is)
    (case lv_PRIVATE_WORDS => exact rfl)
    (case a_WORDS => k_is)
    (case l_WORDS => k_is)
    (case lv_WORDS => exact rfl)
