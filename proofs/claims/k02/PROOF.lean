import PyProof.Rows.All
import Wide.All
import OpenK.AllK
import Wide.FinOn
import HandS.ForMost
import HandS.Defaults
import HandS.Property
import HandS.OwnEq
import HandS.FStr
import HandS.IsInst
import HandS.TupAny
import HandS.Evl
import HandS.Star
import HandS.SlotsOwn
import KE.KCallOwn
import HandS.Conv
import HandS.ClsMeth
import HandS.CallLocal
import HandS.Text
import HandS.StrMore
import HandS.Style
import PyProof.ReprRoads
import HandS.Ends
import HandS.FStrTup
import PySem.Challenge.RW_dimdays_k02_days_made
set_option Elab.async false
set_option linter.all false
set_option maxRecDepth 100000
set_option maxHeartbeats 2000000
/-! rules that every law of this program wants -/
namespace DD
open PySem PySem.Spec PyProof.Rows L2

/-! ### calls by a positional promise -/
section
variable {X : Cx} {CX : CXT} {k : Nat} {f C p g : Addr} {sp : Sp} {E : XK} {x m : Str} {pp pos apos : Pos} {e o : Expr} {es : List Expr} {ta : TE} {t : TA}
def tCallR (sp : Sp) (E : XK) (t : TA) : TE := fun σ H Q => t σ H fun vs H1 => sp vs H1 Q E
theorem wp_fnR {pins : List (Addr × Obj)} {σ : L2.St} {H : Hp} {s : Shared} {Q : VK} {us : List Value} {vs : List V} (F : FnR X.prog X.w X.K X.mg X.base CX k f sp) (hr : Room k X.A) (hx : Passes CX X E) (I : Inv X pins σ H s) (r : Vals vs us) (h : sp vs H Q E) :
    wpAny (model X.prog X.w) X.A (call (.ref f) us) (EP X pins σ Q) X.xe s := wpAny_call (run_fnR F hr hx I r h)
theorem pe_callR (F : FnR X.prog X.w X.K X.mg X.base CX k f sp) (hr : Room k X.A) (hg : Gl X x) (hm : X.mg x = some (.ref f)) (hk : PySem.W.keepIn X.K (.ref f) = true) (hx : Passes CX X E)
    (ha : PA X (e :: es) t) (hdb : (x == ("__debug__" : Str)) = false := by decide) (he : starEach (e :: es) X.env = (false, eval e X.env) :: starEach es X.env := by rfl) (hpl : (backTo pos (starEach es X.env)).any (·.1) = false := by rfl) :
    PE X (.Call (.Name x pp) (e :: es) [] pos) (tCallR sp E t) := by
  refine ⟨fun pins s σ H Q I h => ?_⟩
  refine wpAny_Call_Name_kw (ld_glob I hg hm ?_ hdb)
  refine PySem.W.callWith_K (h₀ := X.base) I.ok.mod.kin hk (thn (ha.run pos pins s σ H _ I h) fun us s1 ⟨vs, H1, I1, r, q⟩ => ⟨I1.kIn, ?_⟩) he hpl
  exact wp_fnR F hr hx I1 r q
/-- o.m(..) of an instance of the class at C -/
def tMethR (C : Addr) (m : Str) (sp : Sp) (E : XK) (ta : TE) (t : TA) : TE := fun σ H Q => ta σ H fun x H1 => ∃ a dx fs, x = .ref a ∧ H1 a = some (.ins C dx fs) ∧ fs.lookup m = none ∧
  t σ H1 fun vs H2 => sp (x :: vs) H2 Q E
theorem pe_methR {pl : Sem Bool} (he : PE X o ta) (c : Cls X.K C) (hm : Meth X.K C m f) (F : FnR X.prog X.w X.K X.mg X.base CX k f sp) (hr : Room k X.A) (hx : Passes CX X E) (ha : PA X (e :: es) t)
    (hst : starEach (e :: es) X.env = (false, eval e X.env) :: starEach es X.env := by rfl) (hpl : (backTo pos (starEach es X.env)).any (·.1) = false := by rfl)
    (ht : eval (.Call (.Attribute o m apos) (e :: es) [] pos) X.env = (do
      let ov ← eval o X.env
      standAt apos.atName
      let (f, first) ← holding [ov] (getMethod ov m pl)
      callWith pos f first (backTo pos (starEach (e :: es) X.env)) (backToKw pos (keywordEach [] X.env))) := by rfl) :
    PE X (.Call (.Attribute o m apos) (e :: es) [] pos) (tMethR C m sp E ta t) := by
  refine ⟨fun pins s σ H Q I h => ?_⟩
  refine PySem.W.methodCall_KW (pl := pl) (thn (he.run pins s σ H _ I h) fun u s1 ⟨x, H1, I1, rx, a, dx, fs, ex, ea, l, q⟩ => ?_) ht
  subst ex
  obtain rfl : u = Value.ref a := rx
  refine getmeth_ok I1 ea c hm l ?_
  refine PySem.W.callWith_K (first := [.ref a]) (h₀ := X.base) I.ok.mod.kin hm.kp (thn (ha.run pos pins s1 σ H1 _ I1 q) fun us s2 ⟨vs, H2, I2, r, q2⟩ => ⟨I2.kIn, ?_⟩) hst hpl
  exact wp_fnR (us := .ref a :: us) (vs := .ref a :: vs) F hr hx I2 (.cons rfl r) q2
/-- e.f, a property -/
def tPropR (C : Addr) (sp : Sp) (E : XK) (ta : TE) : TE := fun σ H Q => ta σ H fun x H1 => ∃ a dx fs, x = .ref a ∧ H1 a = some (.ins C dx fs) ∧ sp [.ref a] H1 Q E
theorem pe_propR (he : PE X e ta) (c : Cls X.K C) (hp : PropOf X.K C m p g) (F : FnR X.prog X.w X.K X.mg X.base CX k g sp) (hr : Room (k + 1) X.A) (hx : Passes CX X.nox E)
    (hab : attributeBase e m X.env (eval e X.env) = eval e X.env := by rfl) : PE X (.Attribute e m pos) (tPropR C sp E ta) := by
  refine ⟨fun pins s σ H Q I h => ?_⟩
  refine attr_of hab (thn (he.run pins s σ H _ I h) fun u s1 ⟨x, H1, I1, rx, a, dx, fs, ex, ea, q⟩ => ?_)
  subst ex
  obtain rfl : u = Value.ref a := rx
  obtain ⟨mA, O, _, _, _, _⟩ := ins_get I1.hok ea
  obtain ⟨od, J, _⟩ := O.look
  obtain ⟨rest, hrec⟩ := hp.rec_
  have I2 := I1.tok (s1.toks + 1)
  have hc : (PySem.W.clsIn X.K C).isSome = true := by
    obtain ⟨cd, hc, _⟩ := PySem.W.any_some c.hd
    rw [hc]
    rfl
  refine PySem.W.get_bind I1.kIn J (PySem.W.plainGet_of (c.get m)).1 (PySem.W.findObj_data hc hp.at_ hp.get hp.tak) (PySem.W.plainGet_of (c.get m)).2 (wpAny_call (PySem.W.prop_get (s := { s1 with toks := s1.toks + 1 }) I1.kIn hrec ?_))
  refine codeAny_mono (F X.A.in1 X.stack { s1 with toks := s1.toks + 1 } H1 [.ref a] [.ref a] Q E hr.in1 I2.env0.in1 (.cons rfl .nil) q) fun r s' hq => ?_
  cases r with
  | error er => exact False.elim (hx pins σ H1 { s1 with toks := s1.toks + 1 } er s' (I2.wish _) hq)
  | ok fl =>
    cases fl with
    | ret u =>
      obtain ⟨v, H', I3, rv, q3⟩ := I2.after hq
      show wpAny _ _ (handedOut u) _ _ _
      rw [PySem.W.handedOut_of (handed_of rv)]
      exact wpAny_pure ⟨v, H', I3, rv, q3⟩
    | next => exact False.elim hq
    | brk => exact False.elim hq
    | cont => exact False.elim hq
/-- a statement that is never reached -/
theorem ps_dead {st : Stmt} : PS X st (fun _ _ _ => False) := ⟨fun _ _ _ _ _ _ h => h.elim⟩
theorem pss_dead {st : List Stmt} : PSs X st (fun _ _ _ => False) := ⟨fun _ _ _ _ _ _ h => h.elim⟩
end

/-! ### str(o), o == p, o != p of own classes -/
section
variable {X : Cx} {CX : CXT} {n : Nat} {f C : Addr} {sp : Sp} {E : XK}
theorem run_atR {pins : List (Addr × Obj)} {σ : L2.St} {H : Hp} {s : Shared} {A : Around} {Q : VK} {us : List Value} {ws : List V} (F : FnR X.prog X.w X.K X.mg X.base CX n f sp) (hr : Room n A) (e0 : Env0 X.prog X.w X.K X.mg X.base A X.stack s H) (hx : Passes CX X E) (I : Inv X pins σ H s) (r : Vals ws us) (h : sp ws H Q E) :
    wpAny (model X.prog X.w) A (call (.ref f) us) (EP X pins σ Q) X.xe s := wpAny_call (SlX.run_at F hr e0 hx I r h)
/-- str(o) by its own __str__ -/
def rStrO (C : Addr) (sp : Sp) (E : XK) : List V → Hp → VK → Prop := fun xs H Q => ∃ a dx fs, xs = [V.ref a] ∧ H a = some (.ins C dx fs) ∧ sp [.ref a] H (fun v H' => ∃ y, v = .str y ∧ Q v H') E
theorem call_strO (hs : PySem.W.findIn X.K (.ref C) "__str__" = some (some (.ref f))) (hf : PySem.W.isFn X.K (.ref f) = true) (F : FnR X.prog X.w X.K X.mg X.base CX n f sp) (hr : Room (n + 2) X.A) (hx : Passes CX X E) : CallR X (.type "str") (rStrO C sp E) := by
  intro pins s σ H xs us Q I r h
  obtain ⟨a, dx, fs, rfl, ea, q⟩ := h
  obtain ⟨u, rfl, ru⟩ := r.one
  cases (show u = Value.ref a from ru)
  obtain ⟨mA, O, _⟩ := ins_get I.hok ea
  obtain ⟨od, J, _⟩ := O.look
  have hr2 : Room n X.A.in1.in1 := (show Room (n + 1) X.A.in1 from Room.in1 hr).in1
  refine PySem.W.kso_call hr2.units0 I.kIn J hs hf (thn (run_atR (us := [.ref a]) (ws := [.ref a]) F hr2 I.env0.in1.in1 hx I (.cons rfl .nil) q) fun w s' z => ?_)
  obtain ⟨v, H', I', rv, y, ev, qv⟩ := z
  subst ev
  obtain ⟨t, rfl⟩ := rv
  exact ⟨.str y, H', I', ⟨t, rfl⟩, qv⟩
/-- x == y, both of the class at C -/
def rEqO (C : Addr) (sp : Sp) (E : XK) : R2 := fun x y H Q => ∃ a dx fs b dy gs, x = .ref a ∧ y = .ref b ∧ H a = some (.ins C dx fs) ∧ H b = some (.ins C dy gs) ∧ sp [.ref a, .ref b] H (fun v H' => ∃ c, v = .bl c ∧ Q v H') E
theorem op_eqO (hs : PySem.W.findIn X.K (.ref C) "__eq__" = some (some (.ref f))) (hf : PySem.W.isFn X.K (.ref f) = true) (F : FnR X.prog X.w X.K X.mg X.base CX n f sp) (hr : Room n X.A) (hx : Passes CX X E) : OpR X (compareOp .Eq) (rEqO C sp E) := by
  intro pins s σ H x y v u Q I rx ry h
  obtain ⟨a, dx, fs, b, dy, gs, rfl, rfl, ea, eb, q⟩ := h
  cases (show v = Value.ref a from rx)
  cases (show u = Value.ref b from ry)
  obtain ⟨mA, O, _⟩ := ins_get I.hok ea
  obtain ⟨od, J, _⟩ := O.look
  obtain ⟨mB, O', _⟩ := ins_get I.hok eb
  obtain ⟨od', J', _⟩ := O'.look
  obtain ⟨m, hF⟩ := I.fr
  show wpAny _ _ (richCompare .Eq _ _) _ _ _
  refine PySem.W.cmp_K (op := .Eq) (tb := .ref C) hr.units0 hF I.ok.mod.kin J J'.type (by simp [PySem.W.notFirst]) hs hf ?_
  refine thn (wpAny_call (run_fnR (us := [.ref a, .ref b]) (vs := [.ref a, .ref b]) F hr hx I (.cons rfl (.cons rfl .nil)) q)) fun w s' z => ?_
  obtain ⟨z', H', I', rz, c, ez, qz⟩ := z
  subst ez
  cases rz
  exact ⟨.bl c, H', I', rfl, qz⟩
theorem ifBound_B {M : Model} {A : Around} {E : Value → Shared → Prop} {s : Shared} {K : PySem.W.Frag} {x C : Addr} {ox : Obj} {od : Option Obj} {name : Str} {id : String} {args : List Value} {Q : Option Value → Shared → Prop} (Xk : K.In s.heap) (I : PySem.W.InstAt s.heap x ox C od)
    (hs : PySem.W.findIn K (.ref C) name = some (some (.builtin id))) (hb : ∀ self, bindSpecial (.builtin id) self = pure (.builtin id, [self]))
    (h : wpAny M A (call (.builtin id) (.ref x :: args)) (fun v => Q (some v)) E s) : wpAny M A (callSpecialIfBound? (.ref x) name args) Q E s := by
  simp only [callSpecialIfBound?, bindSpecialIfBound?]
  refine wpAny_holding (wpAny_bind (wpAny_bind (wpAny_bind (I.type.here ((PySem.W.looks_findIn Xk hs).here ?_)))))
  refine wpAny_bind (wpAny_askSetting (wpAny_ite ?_))
  have fin : wpAny M A (call (.builtin id) ([.ref x] ++ args) >>= fun v => pure (some v)) Q E s := wpAny_bind (wpAny_mono h (fun v s' h' => wpAny_pure h') fun _ _ h' => h')
  split
  · exact wpAny_bind ((PySem.W.Looks.of_pure (hb _)).here (wpAny_pure (by exact fin)))
  · exact wpAny_tryCatch (wpAny_bind ((PySem.W.Looks.of_pure (hb _)).here (wpAny_pure (by exact fin))))
/-- x != y by object.__ne__ over the own __eq__ -/
theorem objNe_K {prog : Program} {w : World} {A : Around} {E : Value → Shared → Prop} {s : Shared} {K : PySem.W.Frag} {x y C f : Addr} {ox : Obj} {od : Option Obj} {Q : Fin → Shared → Prop} (Xk : K.In s.heap) (I : PySem.W.InstAt s.heap x ox C od)
    (hs : PySem.W.findIn K (.ref C) "__eq__" = some (some (.ref f))) (hf : PySem.W.isFn K (.ref f) = true) (hu : A.units < cLine)
    (hcall : wpAny (model prog w) A (call (.ref f) [.ref x, .ref y]) (fun v s' => ∃ b, v = .bool b ∧ Q (.done (.ret (.bool (!b)))) s') E s) :
    wpAny (model prog w) A (Builtin.«object.__ne__» ⟨[.ref x, .ref y], []⟩) Q E s := by
  unfold Builtin.«object.__ne__»
  repeat (first
    | with_reducible refine wpAny_cRoomFor hu ?_
    | (refine wpAny_bind (m := callSpecialIfBound? (.ref x) (Str.ofString "__eq__") [.ref y])
        (PySem.W.ifBound_K Xk I hs hf (wpAny_mono hcall (fun r s' hr => by
          obtain ⟨b, rfl, hq⟩ := hr
          repeat (first | exact hq | exact wpAny_pure hq | exact wpAny_truthy_bool hq | (refine wpAny_bind (m := truthy (.bool _)) (wpAny_truthy_bool ?_)) | wp_step)) fun _ _ e => e)))
    | wp_step)
theorem ne_K {prog : Program} {w : World} {A : Around} {E : Value → Shared → Prop} {s : Shared} {K : PySem.W.Frag} {x y C f : Addr} {ox : Obj} {od : Option Obj} {Q : Value → Shared → Prop} (Xk : K.In s.heap) (I : PySem.W.InstAt s.heap x ox C od)
    (hb : PySem.W.Looks (model prog w) s.heap (typeOf (.ref y)) (.ref C))
    (hn : PySem.W.findIn K (.ref C) "__ne__" = some (some (.builtin "object.__ne__"))) (hm : PySem.W.mroIn K C (.type "object") = some true)
    (hs : PySem.W.findIn K (.ref C) "__eq__" = some (some (.ref f))) (hf : PySem.W.isFn K (.ref f) = true) (hu : A.units + 1 < cLine)
    (hcall : wpAny (model prog w) A.in1 (call (.ref f) [.ref x, .ref y]) (fun v s' => ∃ b, v = .bool b ∧ Q (.bool (!b)) s') E s) :
    wpAny (model prog w) A (richCompare .NotEq (.ref x) (.ref y)) Q E s := by
  unfold richCompare
  simp only [oneThing_ref]
  refine wpAny_holding (wpAny_bind (wpAny_cRoomFor (Nat.lt_of_succ_lt hu) ?_))
  rw [cmpInfo_NotEq]
  dsimp only
  refine wpAny_bind (I.type.here (wpAny_bind (hb.here ?_)))
  rw [show (Value.ref C != Value.ref C) = false from by simp]
  simp only [Bool.false_eq_true, if_false]
  refine wpAny_bind (wpAny_pure ?_)
  simp only [Bool.false_eq_true, if_false]
  simp only [tryCompare]
  refine wpAny_bind (wpAny_bind (ifBound_B Xk I hn (fun _ => rfl) (wpAny_call (codeAny_call_builtin (by decide +kernel) F.cmpEntry_ne (PySem.W.check_slot (i := "object.__ne__") (owner := "object") (n := "__ne__") F.cmpKind_ne F.cmpSplit_ne (I.type.andThen (PySem.W.looks_mroIn Xk hm)) (F.cmpArgs_ne _ _)
    (objNe_K (A := A.in1) Xk I hs hf (by exact hu) (wpAny_mono hcall (fun v s' hv => ?_) fun _ _ e => e)))))))
  obtain ⟨b, rfl, hq⟩ := hv
  first | exact ⟨b, rfl, wpAny_pure (wpAny_pure hq)⟩ | exact ⟨b, rfl, wpAny_pure hq⟩ | exact ⟨b, rfl, hq⟩
def rNeO (C : Addr) (sp : Sp) (E : XK) : R2 := fun x y H Q => ∃ a dx fs b dy gs, x = .ref a ∧ y = .ref b ∧ H a = some (.ins C dx fs) ∧ H b = some (.ins C dy gs) ∧ sp [.ref a, .ref b] H (fun v H' => ∃ c, v = .bl c ∧ Q (.bl (!c)) H') E
theorem op_neO (hn : PySem.W.findIn X.K (.ref C) "__ne__" = some (some (.builtin "object.__ne__"))) (hm : PySem.W.mroIn X.K C (.type "object") = some true) (hs : PySem.W.findIn X.K (.ref C) "__eq__" = some (some (.ref f))) (hf : PySem.W.isFn X.K (.ref f) = true) (F : FnR X.prog X.w X.K X.mg X.base CX n f sp) (hr : Room (n + 1) X.A) (hx : Passes CX X E) : OpR X (compareOp .NotEq) (rNeO C sp E) := by
  intro pins s σ H x y v u Q I rx ry h
  obtain ⟨a, dx, fs, b, dy, gs, rfl, rfl, ea, eb, q⟩ := h
  cases (show v = Value.ref a from rx)
  cases (show u = Value.ref b from ry)
  obtain ⟨mA, O, _⟩ := ins_get I.hok ea
  obtain ⟨od, J, _⟩ := O.look
  obtain ⟨mB, O', _⟩ := ins_get I.hok eb
  obtain ⟨od', J', _⟩ := O'.look
  show wpAny _ _ (richCompare .NotEq _ _) _ _ _
  refine ne_K I.kIn J J'.type hn hm hs hf (hu_of hr) (thn (run_atR (us := [.ref a, .ref b]) (ws := [.ref a, .ref b]) F hr.in1 I.env0.in1 hx I (.cons rfl (.cons rfl .nil)) q) fun w s' z => ?_)
  obtain ⟨z', H', I', rz, c, ez, qz⟩ := z
  subst ez
  cases rz
  exact ⟨c, rfl, .bl (!c), H', I', rfl, qz⟩
end
end DD

set_option Elab.async false
set_option linter.all false
set_option maxRecDepth 100000
set_option maxHeartbeats 2000000
namespace DD
open PySem PySem.Spec PyProof.Rows L2
section
variable {X : Cx} {CX : CXT} {n : Nat} {f C : Addr} {sp : Sp} {E : XK}
/-- len(o) by its own __len__ -/
def rLenO (C : Addr) (sp : Sp) (E : XK) : List V → Hp → VK → Prop := fun xs H Q => ∃ a dx fs, xs = [V.ref a] ∧ H a = some (.ins C dx fs) ∧ sp [.ref a] H (fun v H' => ∃ i : Int, v = .int i ∧ 0 ≤ i ∧ i < 2 ^ 63 ∧ Q v H') E
theorem call_lenO (hs : PySem.W.findIn X.K (.ref C) "__len__" = some (some (.ref f))) (hf : PySem.W.isFn X.K (.ref f) = true) (F : FnR X.prog X.w X.K X.mg X.base CX n f sp) (hr : Room (n + 1) X.A) (hx : Passes CX X E) : CallR X (.builtin "len") (rLenO C sp E) := by
  intro pins s σ H xs us Q I r h
  obtain ⟨a, dx, fs, rfl, ea, q⟩ := h
  obtain ⟨u, rfl, ru⟩ := r.one
  cases (show u = Value.ref a from ru)
  obtain ⟨mA, O, _⟩ := ins_get I.hok ea
  obtain ⟨od, J, _⟩ := O.look
  obtain ⟨m, hF⟩ := I.fr
  refine PySem.W.len_K hF I.ok.mod.kin J hs hf (thn (run_atR (us := [.ref a]) (ws := [.ref a]) F hr.in1 I.env0.in1 hx I (.cons rfl .nil) q) fun w s' z => ?_)
  obtain ⟨v, H', I', rv, i, ev, h0, h1, qv⟩ := z
  subst ev
  obtain ⟨t, rfl⟩ := rv
  exact ⟨⟨h0, h1⟩, .int i, H', I'.tok _, ⟨_, rfl⟩, qv⟩
/-- o[i] by its own __getitem__ -/
def rIxO (C : Addr) (sp : Sp) (E : XK) : R2 := fun x y H Q => ∃ a dx fs, x = .ref a ∧ H a = some (.ins C dx fs) ∧ sp [.ref a, y] H Q E
theorem pe_ixO {a b : Expr} {ta tb : TE} {pos : Pos} (hs : PySem.W.findIn X.K (.ref C) "__getitem__" = some (some (.ref f))) (hf : PySem.W.fnIn X.K f = true) (hfn : PySem.W.isFn X.K (.ref f) = true) (F : FnR X.prog X.w X.K X.mg X.base CX n f sp) (hr : Room (n + 1) X.A) (hx : Passes CX X E) (ha : PE X a ta) (hb : PE X b tb)
    (hsl : ∀ x i, subscripted b true (.ref x) i = runValue (.builtin "lifetime.subscript" ⟨[.ref x, i], []⟩) := by intro _ _; rfl) : PE X (.Subscript a b pos) (tOp (rIxO C sp E) ta tb) := by
  refine ⟨fun pins s σ H Q I h => ?_⟩
  refine Subscript_ (binT ha hb I h fun v u s2 x y H2 I2 rx ry q => ?_)
  obtain ⟨p, dx, fs, rfl, ea, q⟩ := q
  cases (show v = Value.ref p from rx)
  obtain ⟨mA, O, _⟩ := ins_get I2.hok ea
  obtain ⟨od, J, _⟩ := O.look
  obtain ⟨m, hF⟩ := I2.fr
  exact PySem.W.sub_K hF I2.ok.mod.kin J hs hf hfn (run_atR (us := [.ref p, u]) (ws := [.ref p, y]) F hr.in1 I2.env0.in1 hx I2 (.cons rfl (.cons ry .nil)) q) (hsl p u)
end
/-! ### rules whose reading names K itself -/
theorem inK {X : Cx} {K : PySem.W.Frag} (h : X.K = K := by rfl) : OpR X (compareOp .In) (rIn K false) := h ▸ op_in_seq
theorem eqDK {X : Cx} {K : PySem.W.Frag} (hu : X.A.units + 64 < cLine) (h : X.K = K := by rfl) : OpR X (compareOp .Eq) (rEqD K) := h ▸ op_eqD hu
theorem neDK {X : Cx} {K : PySem.W.Frag} (hu : X.A.units + 64 < cLine) (h : X.K = K := by rfl) : OpR X (compareOp .NotEq) (rNeD K) := h ▸ op_neD hu
/-! ### x, y = a, b -/
theorem sw2 {x y : Str} {a b : Expr} {px py pt pv : Pos} {kt kv} {env : Env} (hk : (env.blockKind != .function) = false) (lx : env.scope.names.lookup x = some .local) (ly : env.scope.names.lookup y = some .local)
    (hl : (py.line == px.line) = true := by rfl) (hxy : ((y == x) = false) := by decide +kernel) (h1 : ([a, b].any fun | .Starred .. => true | _ => false) = false := by rfl) (h2 : [a, b].all (foldedForSure 8) = false := by rfl) (h3 : [a, b].all (constantsAlone 8) = false := by rfl) :
    swappedStores [.Tuple [.Name x px, .Name y py] kt pt] (.Tuple [a, b] kv pv) env = pure (some [x, y]) := by
  have kx : (env.kindOf x == some .local) = true := by rw [show env.kindOf x = some .local from lx]; rfl
  have ky : (env.kindOf y == some .local) = true := by rw [show env.kindOf y = some .local from ly]; rfl
  unfold swappedStores
  simp only [pure_bind, List.head?_cons, Option.map_some, Option.getD_some, Expr.pos]
  have e : (px.line == px.line) = true := by simp
  simp only [List.filterMap_cons, List.filterMap_nil, Expr.pos, kx, ky, hl, e, Bool.and_self, if_true, h1, h2, h3, hk, List.length_cons, List.length_nil]
  have ed : ([x, y] : List Str).eraseDups = [x, y] := by
    simp [List.eraseDups_cons, hxy]
  rw [ed]
  refine (if_neg (by decide)).trans ((if_neg ?_).trans ((if_neg (by show ¬ ((2 != 2 || 2 != 2) = true); decide)).trans ((if_neg (by decide)).trans (if_neg (by decide)))))
  rw [Bool.not_eq_true]
  exact h1
/-! ### cls(..), the class in a local name -/
section
variable {X : Cx} {CX : CXT} {k i : Nat} {f C : Addr} {sp : Sp} {E : XK} {x : Str} {p pos : Pos} {e : Expr} {es : List Expr} {t : TA}
def tMakeL (i : Nat) (C : Addr) (sp : Sp) (E : XK) (t : TA) : TE := fun σ H Q => σ[i]? = some (some (.ref C)) ∧ StX.tMakeR C sp E t σ H Q
theorem pe_makeL (i : Nat) (M : Mk X.K C f) (F : FnR X.prog X.w X.K X.mg X.base CX k f sp) (hr : Room (k + 1) X.A) (hx : Passes CX X E) (ha : PA X (e :: es) t) (hN : X.N[i]? = some x := by rfl) (hv : Vis X.env.scope x := by first | exact Or.inl rfl | exact Or.inr (Or.inl rfl) | exact Or.inr (Or.inr rfl))
    (hdb : (x == ("__debug__" : Str)) = false := by decide) (hcd : (x == ("__classdict__" : Str)) = false := by decide)
    (he : starEach (e :: es) X.env = (false, eval e X.env) :: starEach es X.env := by rfl) (hpl : (backTo pos (starEach es X.env)).any (·.1) = false := by rfl) : PE X (.Call (.Name x p) (e :: es) [] pos) (tMakeL i C sp E t) := by
  refine ⟨fun pins s σ H Q I h => ?_⟩
  obtain ⟨hs, ht⟩ := h
  refine wpAny_Call_Name_kw (thn ((pe_var (pos := p) hN hv hdb hcd).run pins s σ H (fun v H1 => v = .ref C ∧ H1 = H) I ⟨.ref C, hs, rfl, rfl⟩) fun u s1 ⟨v, H1, I1, r1, q1⟩ => ?_)
  obtain ⟨rfl, rfl⟩ := q1
  cases r1
  refine PySem.W.callWith_K (h₀ := X.base) I.ok.mod.kin M.kp (thn (ha.run pos pins s1 σ _ _ I1 ht) fun us s2 ⟨vs, H2, I2, r, q⟩ => ⟨I2.kIn, ?_⟩) he hpl
  exact StX.run_makeR M F hr hx I2 r q
end
end DD

set_option Elab.async false
set_option linter.all false
set_option maxRecDepth 100000
set_option maxHeartbeats 2000000
/-! where the guards are known: repr of data; a def run there -/
namespace DD
open PySem PySem.Spec PyProof.Rows L2
section
variable {X : Cx}
/-- repr(x), x a list, tuple or dict of data -/
def rReprD (K : PySem.W.Frag) : List V → Hp → VK → Prop := fun xs H Q => ∃ a d, xs = [.ref a] ∧ Dp K H (.ref a) d ∧ d.showable = true ∧ d.hasDict = false ∧ d.depth ≤ 60 ∧ d.shown.length ≤ sizeLine ∧ Q (.str d.shown) H
theorem call_reprD (hg : X.A.guards = some []) (hu : X.A.units + 64 < cLine) : CallR X (.builtin "repr") (rReprD X.K) := by
  intro pins s σ H xs us Q I r h
  obtain ⟨a, d, rfl, hd, hs, hn, hp, hz, q⟩ := h
  obtain ⟨u, rfl, ru⟩ := r.one
  obtain ⟨as, rd⟩ := Dp.reads I d _ u hd ru
  obtain rfl : u = Value.ref a := ru
  exact repr_of_reads' rd hs (fun e => by rw [hn] at e; cases e) hg (by omega) (fun _ _ e => e) (fun h' u tk hk => ⟨.str d.shown, H, I.kept hk, ⟨u, rfl⟩, q⟩) hz
end
section
variable {P : Program} {w : World} {K : PySem.W.Frag} {mg : Str → Option Value} {base : Heap}
/-- a def's promise where the guards are known -/
def FnG (P : Program) (w : World) (K : PySem.W.Frag) (mg : Str → Option Value) (base : Heap) (k : Nat) (f : Addr) (fd : FuncData) (ps : List Str) (sp : Sp) : Prop :=
  ∀ (A : Around) (outer : List Env) (s : Shared) (H : Hp) (args : Args) (us : List Value) (vs : List V) (Q : VK) (E : XK), Room k A → A.guards = some [] → Env0 P w K mg base A outer s H → BindsTo s fd args (ps.zip us) → Vals vs us → sp vs H Q E →
    codeAny (model P w) A (.call (.ref f) args) (CR CX0 outer P w H s Q E) s
theorem fnG_of {name qual : Str} {params : Arguments} {body : List Stmt} {scope : Scope} {dV kV doc pm cdv ct oc : Value} {an od : Option Addr} {f : Addr} {k : Nat} {osl : Array (Option Value)} {N ps : List Str} {sp : Sp}
    (lk : K.lookup f = some ⟨oc, od, .func (PySem.W.fnOf name qual params body scope dV kV doc pm an cdv ct), osl⟩) (hcd : PySem.W.codeIn K cdv qual = true) (S : FnScope N ps scope) (len : ∀ vs H Q E, sp vs H Q E → vs.length = ps.length)
    (hbody : ∀ (A : Around) (outer : List Env) (s : Shared) (H : Hp) (vs : List V) (Q : VK) (E : XK), Room k (A.deeper (envOfC qual scope s.heap.objs.size f cdv)) → (A.deeper (envOfC qual scope s.heap.objs.size f cdv)).guards = some [] → sp vs H Q E →
      ∃ t, PSs (cxOf CX0 P w K mg base N qual scope f cdv A outer s H E).nox body t ∧ t { nx := fun _ H' => Q .non H', rt := Q } (start N vs) H) :
    FnG P w K mg base (k + 1) f (PySem.W.fnOf name qual params body scope dV kV doc pm an cdv ct) ps sp := by
  intro A outer s H args us vs Q E room hg e0 binds vals h
  have inS : ∀ {b : Addr} {o : Obj}, base.get? b = some o → s.heap.get? b = some o := fun e => (e0.bs _ _ e).1
  have kinS : K.In s.heap := e0.mod.kin.keeps fun _ _ => inS
  refine codeAny_call_function room.depth (kinS _ _ lk) rfl S.co S.gen rfl (PySem.W.codeRec_of kinS hcd) (binds _ _ _ _ (wpAny_newFunctionEnv_cells S.kind (fun y hy => ?_) fun env he s1 x => ?_))
  · have hp := S.par y.1 (List.of_mem_zip (show (y.1, y.2) ∈ ps.zip us from hy)).1
    exact hp.imp id fun c => ⟨c, PySem.W.cellsFrom_some _ _ _ (.inl c)⟩
  · cases he
    refine ⟨(e0.mod.nolimit.keeps fun _ _ => inS).keeps x.toInCall.keep, codeAny_func ?_⟩
    obtain ⟨t, run, start_⟩ := hbody A outer s H vs Q E (room.deeper _) (by exact hg) h
    have I : Inv (cxOf CX0 P w K mg base N qual scope f cdv A outer s H E) [] (start N vs) H s1 := inv_start S room.hd e0 (len _ _ _ _ h) vals x
    refine wpAny_mono (run.nox.run [] s1 (start N vs) H _ I start_) (fun fl s2 z => ?_) fun _ _ z => z
    cases fl with
    | ret u =>
      obtain ⟨v, σ', H', J, rv, qv⟩ := z
      exact ⟨v, H', J.os, J.bare, J.base, J.hok, rv, qv⟩
    | next =>
      obtain ⟨σ', H', J, qv⟩ := z
      exact ⟨.non, H', J.os, J.bare, J.base, J.hok, rfl, qv⟩
    | brk => exact z.choose_spec.choose_spec.2.elim
    | cont => exact z.choose_spec.choose_spec.2.elim
end
end DD

set_option Elab.async false
set_option linter.all false
set_option maxRecDepth 100000
set_option maxHeartbeats 2000000
/-! the law run where the caller's guards are known -/
namespace DD
open PySem PySem.Spec PyProof.Rows L2
def scriptO (vs : List Value) : Obj := { cls := .type "list", data := .seq vs.toArray }
/-- either nothing is tracked, or the script alone -/
def Script (K : PySem.W.Frag) (H : Hp) (a : Addr) (o : Obj) (xs : List V) : Prop := ∀ b, H b = none ∨ (b = a ∧ H b = some (.frz o (.lst xs)) ∧ K.lookup a = none)
section
variable {P : Program} {w : World} {K : PySem.W.Frag} {mg mb : Str → Option Value} {k : Nat} {fa a : Addr} {fd : FuncData} {x : Str} {sp : Sp} {s : Shared} {vs : List Value} {ns : List Int} {H : Hp}
theorem script_core (inK : K.In s.heap) (nsG : s.heap.Ns mainGlobals mg) (nsB : s.heap.Ns builtinsNs mb) (boot : ∀ x : Str, x ≠ "__name__" → mb x = bootBuiltins x) (lim : s.heap.NoLimit) (gens : s.gens = #[]) (at_ : s.heap.get? a = some (scriptO vs))
    (room : Room k callerA) (F : ∀ base : Heap, K.In base → base.Ns mainGlobals mg → FnG P w K mg base k fa fd [x] sp) (binds : ∀ (s : Shared) (u : Value), BindsTo s fd ⟨[u], []⟩ [(x, u)])
    (alone : Script K H a (scriptO vs) (ns.map V.int)) (hok : HOk P w H s.heap) (h : sp [.ref a] H (fun v _ => v = .bl true) fun _ _ _ => False) :
    codeAny (model P w) callerA (.call (.ref fa) ⟨[.ref a], []⟩) (fun r s' => r = .ok (.ret (.bool true)) ∧ OldK s.heap s'.heap ∧ s'.os = s.os ∧ AllBare s'.gens) s := by
  have keepNs : ∀ {b : Addr} {m : Str → Option Value}, s.heap.Ns b m → (hidT s.heap H).Ns b m := by
    rintro b m ⟨o, es, ep, e, dat, r⟩
    refine ⟨o, es, ep, hidT_get e ?_, dat, r⟩
    rcases alone b with z | ⟨rfl, -, -⟩
    · exact z
    · rw [at_] at e
      cases e
      cases (show Data.seq vs.toArray _ = Data.dict es ep from dat)
  have keepK : K.In (hidT s.heap H) := fun b o e => hidT_get (inK b o e) <| by
    rcases alone b with z | ⟨rfl, -, z⟩
    · exact z
    · rw [e] at z
      cases z
  have mod : Mod K mg (hidT s.heap H) := by
    obtain ⟨mc, l1, l2⟩ := lim
    exact ⟨keepK, keepNs nsG, ⟨mb, keepNs nsB, boot⟩, ⟨mc, keepNs l1, l2⟩⟩
  have env : Env0 P w K mg (hidT s.heap H) callerA [] s H :=
    { frames := rfl, mod := mod, bs := fun b o e => of_hidT e, bsz := Nat.le_of_eq (hidT_size _ _), funs := trivial, frf := fun b z => absurd (show b ∈ ([] : List Addr) from z) (by simp), hok := hok, bare := .of_eq gens }
  refine codeAny_mono (F _ keepK (keepNs nsG) callerA [] s H _ [.ref a] [.ref a] _ _ room rfl env (binds s (.ref a)) (.cons rfl .nil) h) fun r s' z => ?_
  match r, z with
  | .ok (.ret u), ⟨v, H', os, bare, un, hok', rv, ev⟩ =>
    have ev' : v = .bl true := ev
    subst ev'
    obtain rfl : u = Value.bool true := rv
    refine ⟨rfl, OldK.of_keep fun b o e => ?_, os, bare⟩
    rcases alone b with z | ⟨rfl, z, -⟩
    · exact un.keep b o e z (by intro y; exact absurd (show b ∈ ([] : List Addr) from y) (by simp)) (by simp)
    · have t := (hok' b _ (un.frzs b _ _ z)).1
      rw [at_] at e
      cases e
      exact t
theorem script_run (inK : K.In s.heap) (nsG : s.heap.Ns mainGlobals mg) (nsB : s.heap.Ns builtinsNs mb) (boot : ∀ x : Str, x ≠ "__name__" → mb x = bootBuiltins x) (lim : s.heap.NoLimit) (gens : s.gens = #[]) (at_ : s.heap.get? a = some (scriptO vs))
    (nums : IntsAre vs ns) (size : ns.length ≤ sizeLine) (room : Room k callerA) (F : ∀ base : Heap, K.In base → base.Ns mainGlobals mg → FnG P w K mg base k fa fd [x] sp) (binds : ∀ (s : Shared) (u : Value), BindsTo s fd ⟨[u], []⟩ [(x, u)])
    (h : ∀ H : Hp, Only H → SqL K H a (ns.map V.int) → sp [.ref a] H (fun v _ => v = .bl true) fun _ _ _ => False) :
    codeAny (model P w) callerA (.call (.ref fa) ⟨[.ref a], []⟩) (fun r s' => r = .ok (.ret (.bool true)) ∧ OldK s.heap s'.heap ∧ s'.os = s.os ∧ AllBare s'.gens) s := by
  have rv := vals_ints nums
  have len := nums.length
  cases e : K.lookup a with
  | some o =>
    have o' := inK a o e
    rw [at_] at o'
    cases o'
    have hs : SqL K (fun _ => none) a (ns.map V.int) := .inr ⟨_, vs.toArray, _, e, rfl, rfl, rfl, by rw [List.size_toArray, len]; exact size, by simpa using rv⟩
    exact script_core (ns := ns) (H := fun _ => none) inK nsG nsB boot lim gens at_ room F binds (fun b => .inl rfl) (fun b u z => nomatch z) (h _ (fun _ => .inl rfl) hs)
  | none =>
    have hs : SqL K (upd (fun _ => none) a (.frz (scriptO vs) (.lst (ns.map V.int)))) a (ns.map V.int) := .inl (.inr ⟨scriptO vs, upd_same⟩)
    have al : Script K (upd (fun _ => none) a (.frz (scriptO vs) (.lst (ns.map V.int)))) a (scriptO vs) (ns.map V.int) := fun b => by
      by_cases hb : b = a
      · exact .inr ⟨hb, by rw [hb]; exact upd_same, e⟩
      · exact .inl (by rw [upd_ne hb])
    refine script_core (H := upd (fun _ => none) a (.frz (scriptO vs) (.lst (ns.map V.int)))) inK nsG nsB boot lim gens at_ room F binds al (fun b u z => ?_) (h _ (fun b => (al b).imp id fun y => ⟨_, _, y.2.1⟩) hs)
    by_cases hb : b = a
    · subst hb
      rw [upd_same] at z
      cases z
      exact ⟨at_, by rw [List.length_map]; exact size, vs, _, rv, at_⟩
    · rw [upd_ne hb] at z
      cases z
end
theorem walk_ofG {l : PySem.W.OpenLaw} {n k : Nat} {q : Program} {loose : List Str} {XP : (Str → Option Value) → Heap → Prop} {YP : World → Heap → Prop} {d : DefRec} {K : Params → PySem.W.Frag} {sp : PySem.W.Frag → Sp} {x : Str}
    (hn : l.most = some n) (hn2 : n ≤ sizeLine) (hdf : d.params.defaults = []) (hr : Room k callerA)
    (hY : ∀ (w : World) (h : Heap), YP w h → (K w.params).In h)
    (F : ∀ (w : World) (mg : Str → Option Value) (fa : Addr) (h : Heap), (K w.params).In h → h.Ns mainGlobals mg → mg d.name = some (.ref fa) →
      ∃ fd : FuncData, (∀ (s : Shared) (u : Value), BindsTo s fd ⟨[u], []⟩ [(x, u)]) ∧ ∀ base : Heap, (K w.params).In base → base.Ns mainGlobals mg → FnG l.prog w (K w.params) mg base k fa fd [x] (sp (K w.params)))
    (hsp : ∀ (K : PySem.W.Frag) (H : Hp) (a : Addr) (ns : List Int), ns.length ≤ n → Only H → SqL K H a (ns.map V.int) → sp K [.ref a] H (fun v _ => v = .bl true) fun _ _ _ => False) :
    PySem.W.WalkO q loose XP YP l.row.toRowW d [] (fun f vs => PySem.call f vs) := by
  refine Att.attach_call hn hdf fun w s₀ s₁ mg mb fa o pm cd doc a vs ns G Y ho hd hcd hmg hobj hints hlen hg => ?_
  obtain ⟨fd, binds, hF⟩ := F w mg fa _ (hY w _ Y) G.T.g hmg
  exact script_run (hY w _ Y) G.T.g G.T.b G.T.builtins G.T.nolimit hg hobj hints (Nat.le_trans hlen hn2) hr hF binds fun H hO hS => hsp (K w.params) H a ns hlen hO hS
/-- the rule for a def, by its body, where the guards are known -/
theorem fun_okG {P : Program} {w : World} {K : PySem.W.Frag} {mg : Str → Option Value} {base : Heap} {x qual : Str} {st : Stmt} {f : Addr} {fd : FuncData} {N ps : List Str} {k : Nat} {sp : Sp} (F : Fun K x qual st f fd) (S : FnScope N ps (defScope st)) (len : ∀ vs H Q E, sp vs H Q E → vs.length = ps.length)
    (hbody : ∀ (cdv : Value) (A : Around) (outer : List Env) (s : Shared) (H : Hp) (vs : List V) (Q : VK) (E : XK), Room k (A.deeper (envOfC qual (defScope st) s.heap.objs.size f cdv)) → (A.deeper (envOfC qual (defScope st) s.heap.objs.size f cdv)).guards = some [] → sp vs H Q E →
      ∃ t, PSs (cxOf CX0 P w K mg base N qual (defScope st) f cdv A outer s H E).nox (defBody st) t ∧ t { nx := fun _ H' => Q .non H', rt := Q } (start N vs) H) : FnG P w K mg base (k + 1) f fd ps sp := by
  obtain ⟨oc, od, kV, doc, pm, an, cdv, ct, osl, rfl, lk, hcd⟩ := F.ex
  exact fnG_of lk hcd S len fun A outer s H vs Q E hr hg h => hbody cdv A outer s H vs Q E hr hg h
section
variable {X : Cx} {CX : CXT} {n : Nat} {f C : Addr} {sp : Sp} {E : XK}
/-- x == y, x of the class at C, y a text -/
def rEqOS (C : Addr) (sp : Sp) (E : XK) : R2 := fun x y H Q => ∃ a dx fs z, x = .ref a ∧ y = .str z ∧ H a = some (.ins C dx fs) ∧ sp [.ref a, .str z] H (fun v H' => ∃ c, v = .bl c ∧ Q (.bl c) H') E
theorem op_eqOS (hsub : PySem.W.subIn X.K (.type "str") (.ref C) = some false) (hs : PySem.W.findIn X.K (.ref C) "__eq__" = some (some (.ref f))) (hf : PySem.W.isFn X.K (.ref f) = true) (F : FnR X.prog X.w X.K X.mg X.base CX n f sp) (hr : Room n X.A) (hx : Passes CX X E) : OpR X (compareOp .Eq) (rEqOS C sp E) := by
  intro pins s σ H x y v u Q I rx ry h
  obtain ⟨a, dx, fs, z, rfl, rfl, ea, q⟩ := h
  cases (show v = Value.ref a from rx)
  obtain ⟨t, rfl⟩ := ry
  obtain ⟨mA, O, _⟩ := ins_get I.hok ea
  obtain ⟨od, J, _⟩ := O.look
  obtain ⟨m, hF⟩ := I.fr
  show wpAny _ _ (richCompare .Eq _ _) _ _ _
  refine PySem.W.cmp_K (op := .Eq) (tb := .type "str") hr.units0 hF I.ok.mod.kin J (PySem.W.Looks.of_pure rfl) (by simp [PySem.W.notFirst, hsub]) hs hf ?_
  refine thn (wpAny_call (run_fnR (us := [.ref a, .str z t]) (vs := [.ref a, .str z]) F hr hx I (.cons rfl (.cons ⟨t, rfl⟩ .nil)) q)) fun w s' z => ?_
  obtain ⟨z', H', I', rz, c, ez, qz⟩ := z
  subst ez
  cases rz
  exact ⟨.bl c, H', I', rfl, qz⟩
end
end DD

set_option Elab.async false
set_option linter.all false
set_option maxRecDepth 100000
set_option maxHeartbeats 2000000
namespace DD
open PySem PySem.Spec PyProof.Rows L2 ClX
def top (i : Nat) : Stmt := PySem.Challenge.pw_dimdays_k02_days_made.main.body.getD i (.Pass ⟨0, 0, 0, 0⟩)
abbrev s_is_integer : Stmt := top 7
theorem sc_is_integer : FnScope ["value"] ["value"] (defScope s_is_integer) := ⟨rfl, rfl, rfl, by decide +kernel, rfl, by decide +kernel, by decide +kernel⟩
abbrev s_is_number : Stmt := top 8
theorem sc_is_number : FnScope ["value"] ["value"] (defScope s_is_number) := ⟨rfl, rfl, rfl, by decide +kernel, rfl, by decide +kernel, by decide +kernel⟩
abbrev s_is_positive : Stmt := top 9
theorem sc_is_positive : FnScope ["value"] ["value"] (defScope s_is_positive) := ⟨rfl, rfl, rfl, by decide +kernel, rfl, by decide +kernel, by decide +kernel⟩
abbrev s_is_sequence : Stmt := top 10
theorem sc_is_sequence : FnScope ["value"] ["value"] (defScope s_is_sequence) := ⟨rfl, rfl, rfl, by decide +kernel, rfl, by decide +kernel, by decide +kernel⟩
abbrev s_is_numeral : Stmt := top 11
theorem sc_is_numeral : FnScope ["word"] ["word"] (defScope s_is_numeral) := ⟨rfl, rfl, rfl, by decide +kernel, rfl, by decide +kernel, by decide +kernel⟩
abbrev s_read_number : Stmt := top 12
theorem sc_read_number : FnScope ["word"] ["word"] (defScope s_read_number) := ⟨rfl, rfl, rfl, by decide +kernel, rfl, by decide +kernel, by decide +kernel⟩
abbrev s_read_span : Stmt := top 13
theorem sc_read_span : FnScope ["word", "parts"] ["word"] (defScope s_read_span) := ⟨rfl, rfl, rfl, by decide +kernel, rfl, by decide +kernel, by decide +kernel⟩
abbrev s__is_meeting : Stmt := top 15
theorem sc__is_meeting : FnScope ["value", "begin", "end", "is_private"] ["value"] (defScope s__is_meeting) := ⟨rfl, rfl, rfl, by decide +kernel, rfl, by decide +kernel, by decide +kernel⟩
abbrev s__are_meetings : Stmt := top 16
theorem sc__are_meetings : FnScope ["value", "length", "ahead", "meeting"] ["value", "length"] (defScope s__are_meetings) := ⟨rfl, rfl, rfl, by decide +kernel, rfl, by decide +kernel, by decide +kernel⟩
abbrev s__meeting_text : Stmt := top 17
theorem sc__meeting_text : FnScope ["meeting", "begin", "end", "is_private"] ["meeting"] (defScope s__meeting_text) := ⟨rfl, rfl, rfl, by decide +kernel, rfl, by decide +kernel, by decide +kernel⟩
abbrev s__meetings_text : Stmt := top 18
theorem sc__meetings_text : FnScope ["meetings", "meeting"] ["meetings"] (defScope s__meetings_text) := ⟨rfl, rfl, rfl, by decide +kernel, rfl, by decide +kernel, by decide +kernel⟩
abbrev s__read_meeting : Stmt := top 19
theorem sc__read_meeting : FnScope ["text", "span", "begin", "end"] ["text"] (defScope s__read_meeting) := ⟨rfl, rfl, rfl, by decide +kernel, rfl, by decide +kernel, by decide +kernel⟩
abbrev s__read_meetings : Stmt := top 20
theorem sc__read_meetings : FnScope ["text", "part"] ["text"] (defScope s__read_meetings) := ⟨rfl, rfl, rfl, by decide +kernel, rfl, by decide +kernel, by decide +kernel⟩
abbrev s__law_seed : Stmt := top 23
theorem sc__law_seed : FnScope ["_law_script", "_law_k", "_law_cell"] ["_law_script", "_law_k"] (defScope s__law_seed) := ⟨rfl, rfl, rfl, by decide +kernel, rfl, by decide +kernel, by decide +kernel⟩
abbrev s__law_choose : Stmt := top 24
theorem sc__law_choose : FnScope ["_law_box", "_law_many", "_law_raw", "_law_digit"] ["_law_box", "_law_many"] (defScope s__law_choose) := ⟨rfl, rfl, rfl, by decide +kernel, rfl, by decide +kernel, by decide +kernel⟩
abbrev s__law_one_of : Stmt := top 25
theorem sc__law_one_of : FnScope ["_law_box", "_law_some"] ["_law_box", "_law_some"] (defScope s__law_one_of) := ⟨rfl, rfl, rfl, by decide +kernel, rfl, by decide +kernel, by decide +kernel⟩
abbrev s__law_day : Stmt := top 26
theorem sc__law_day : FnScope ["_law_box", "_law_top", "_law_is_secret", "_law_turn", "_law_size", "_law_found", "_law_last", "_law_begin", "_law_end"] ["_law_box", "_law_top", "_law_is_secret"] (defScope s__law_day) := ⟨rfl, rfl, rfl, by decide +kernel, rfl, by decide +kernel, by decide +kernel⟩
abbrev s__law_day_text : Stmt := top 27
theorem sc__law_day_text : FnScope ["_law_day_here", "_law_texts", "_law_begin", "_law_end", "_law_secret"] ["_law_day_here"] (defScope s__law_day_text) := ⟨rfl, rfl, rfl, by decide +kernel, rfl, by decide +kernel, by decide +kernel⟩
abbrev s_law : Stmt := top 28
theorem sc_law : FnScope ["_law_script", "_law_k", "_law_turn", "_law_box", "_law_before", "_law_handed", "_law_size", "_law_meetings", "_law_day_here", "_law_ticks", "_law_begin", "_law_end", "_law_secret", "_law_at"] ["_law_script"] (defScope s_law) := ⟨rfl, rfl, rfl, by decide +kernel, rfl, by decide +kernel, by decide +kernel⟩
abbrev s_Day___init__ : Stmt := inClass (top 21) 0
theorem sc_Day___init__ : FnScope ["self", "length", "meetings"] ["self", "length", "meetings"] (defScope s_Day___init__) := ⟨rfl, rfl, rfl, by decide +kernel, rfl, by decide +kernel, by decide +kernel⟩
abbrev s_Day_read : Stmt := inClass (top 21) 1
theorem sc_Day_read : FnScope ["cls", "text", "head", "_", "tail"] ["cls", "text"] (defScope s_Day_read) := ⟨rfl, rfl, rfl, by decide +kernel, rfl, by decide +kernel, by decide +kernel⟩
abbrev s_Day_taken : Stmt := inClass (top 21) 2
theorem sc_Day_taken : FnScope ["self", "meeting", "tick"] ["self"] (defScope s_Day_taken) := ⟨rfl, rfl, rfl, by decide +kernel, rfl, by decide +kernel, by decide +kernel⟩
abbrev s_Day___len__ : Stmt := inClass (top 21) 5
theorem sc_Day___len__ : FnScope ["self"] ["self"] (defScope s_Day___len__) := ⟨rfl, rfl, rfl, by decide +kernel, rfl, by decide +kernel, by decide +kernel⟩
abbrev s_Day___getitem__ : Stmt := inClass (top 21) 6
theorem sc_Day___getitem__ : FnScope ["self", "at"] ["self", "at"] (defScope s_Day___getitem__) := ⟨rfl, rfl, rfl, by decide +kernel, rfl, by decide +kernel, by decide +kernel⟩
abbrev s_Day___eq__ : Stmt := inClass (top 21) 8
theorem sc_Day___eq__ : FnScope ["self", "other"] ["self", "other"] (defScope s_Day___eq__) := ⟨rfl, rfl, rfl, by decide +kernel, rfl, by decide +kernel, by decide +kernel⟩
abbrev s_Day___str__ : Stmt := inClass (top 21) 9
theorem sc_Day___str__ : FnScope ["self"] ["self"] (defScope s_Day___str__) := ⟨rfl, rfl, rfl, by decide +kernel, rfl, by decide +kernel, by decide +kernel⟩
structure Ad where
  f_is_integer : Addr
  f_is_number : Addr
  f_is_positive : Addr
  f_is_sequence : Addr
  f_is_numeral : Addr
  f_read_number : Addr
  f_read_span : Addr
  f__is_meeting : Addr
  f__are_meetings : Addr
  f__meeting_text : Addr
  f__meetings_text : Addr
  f__read_meeting : Addr
  f__read_meetings : Addr
  f__law_seed : Addr
  f__law_choose : Addr
  f__law_one_of : Addr
  f__law_day : Addr
  f__law_day_text : Addr
  f_law : Addr
  f_Day___init__ : Addr
  f_Day_read : Addr
  q_Day_read : Addr
  f_Day_taken : Addr
  q_Day_taken : Addr
  f_Day___len__ : Addr
  f_Day___getitem__ : Addr
  f_Day___eq__ : Addr
  f_Day___str__ : Addr
  C_Day : Addr
  z_Day : Addr
def dv_Day (d : Ad) : List V := [.ref d.z_Day]

structure Txt (K : PySem.W.Frag) (mg : Str → Option Value) (d : Ad) : Prop where
  m_is_integer : mg "is_integer" = some (.ref d.f_is_integer)
  k_is_integer : PySem.W.keepIn K (.ref d.f_is_integer) = true
  F_is_integer : ∃ fd, Fun K "is_integer" "is_integer" s_is_integer d.f_is_integer fd
  m_is_number : mg "is_number" = some (.ref d.f_is_number)
  k_is_number : PySem.W.keepIn K (.ref d.f_is_number) = true
  F_is_number : ∃ fd, Fun K "is_number" "is_number" s_is_number d.f_is_number fd
  m_is_positive : mg "is_positive" = some (.ref d.f_is_positive)
  k_is_positive : PySem.W.keepIn K (.ref d.f_is_positive) = true
  F_is_positive : ∃ fd, Fun K "is_positive" "is_positive" s_is_positive d.f_is_positive fd
  m_is_sequence : mg "is_sequence" = some (.ref d.f_is_sequence)
  k_is_sequence : PySem.W.keepIn K (.ref d.f_is_sequence) = true
  F_is_sequence : ∃ fd, Fun K "is_sequence" "is_sequence" s_is_sequence d.f_is_sequence fd
  m_is_numeral : mg "is_numeral" = some (.ref d.f_is_numeral)
  k_is_numeral : PySem.W.keepIn K (.ref d.f_is_numeral) = true
  F_is_numeral : ∃ fd, Fun K "is_numeral" "is_numeral" s_is_numeral d.f_is_numeral fd
  m_read_number : mg "read_number" = some (.ref d.f_read_number)
  k_read_number : PySem.W.keepIn K (.ref d.f_read_number) = true
  F_read_number : ∃ fd, Fun K "read_number" "read_number" s_read_number d.f_read_number fd
  m_read_span : mg "read_span" = some (.ref d.f_read_span)
  k_read_span : PySem.W.keepIn K (.ref d.f_read_span) = true
  F_read_span : ∃ fd, Fun K "read_span" "read_span" s_read_span d.f_read_span fd
  m__is_meeting : mg "_is_meeting" = some (.ref d.f__is_meeting)
  k__is_meeting : PySem.W.keepIn K (.ref d.f__is_meeting) = true
  F__is_meeting : ∃ fd, Fun K "_is_meeting" "_is_meeting" s__is_meeting d.f__is_meeting fd
  m__are_meetings : mg "_are_meetings" = some (.ref d.f__are_meetings)
  k__are_meetings : PySem.W.keepIn K (.ref d.f__are_meetings) = true
  F__are_meetings : ∃ fd, Fun K "_are_meetings" "_are_meetings" s__are_meetings d.f__are_meetings fd
  m__meeting_text : mg "_meeting_text" = some (.ref d.f__meeting_text)
  k__meeting_text : PySem.W.keepIn K (.ref d.f__meeting_text) = true
  F__meeting_text : ∃ fd, Fun K "_meeting_text" "_meeting_text" s__meeting_text d.f__meeting_text fd
  m__meetings_text : mg "_meetings_text" = some (.ref d.f__meetings_text)
  k__meetings_text : PySem.W.keepIn K (.ref d.f__meetings_text) = true
  F__meetings_text : ∃ fd, Fun K "_meetings_text" "_meetings_text" s__meetings_text d.f__meetings_text fd
  m__read_meeting : mg "_read_meeting" = some (.ref d.f__read_meeting)
  k__read_meeting : PySem.W.keepIn K (.ref d.f__read_meeting) = true
  F__read_meeting : ∃ fd, Fun K "_read_meeting" "_read_meeting" s__read_meeting d.f__read_meeting fd
  m__read_meetings : mg "_read_meetings" = some (.ref d.f__read_meetings)
  k__read_meetings : PySem.W.keepIn K (.ref d.f__read_meetings) = true
  F__read_meetings : ∃ fd, Fun K "_read_meetings" "_read_meetings" s__read_meetings d.f__read_meetings fd
  m__law_seed : mg "_law_seed" = some (.ref d.f__law_seed)
  k__law_seed : PySem.W.keepIn K (.ref d.f__law_seed) = true
  F__law_seed : ∃ fd, Fun K "_law_seed" "_law_seed" s__law_seed d.f__law_seed fd
  m__law_choose : mg "_law_choose" = some (.ref d.f__law_choose)
  k__law_choose : PySem.W.keepIn K (.ref d.f__law_choose) = true
  F__law_choose : ∃ fd, Fun K "_law_choose" "_law_choose" s__law_choose d.f__law_choose fd
  m__law_one_of : mg "_law_one_of" = some (.ref d.f__law_one_of)
  k__law_one_of : PySem.W.keepIn K (.ref d.f__law_one_of) = true
  F__law_one_of : ∃ fd, Fun K "_law_one_of" "_law_one_of" s__law_one_of d.f__law_one_of fd
  m__law_day : mg "_law_day" = some (.ref d.f__law_day)
  k__law_day : PySem.W.keepIn K (.ref d.f__law_day) = true
  F__law_day : ∃ fd, Fun K "_law_day" "_law_day" s__law_day d.f__law_day fd
  m__law_day_text : mg "_law_day_text" = some (.ref d.f__law_day_text)
  k__law_day_text : PySem.W.keepIn K (.ref d.f__law_day_text) = true
  F__law_day_text : ∃ fd, Fun K "_law_day_text" "_law_day_text" s__law_day_text d.f__law_day_text fd
  m_law : mg "law" = some (.ref d.f_law)
  k_law : PySem.W.keepIn K (.ref d.f_law) = true
  F_law : ∃ fd, Fun K "law" "law" s_law d.f_law fd
  F_Day___init__ : ∃ fd, FunD K "__init__" "Day.__init__" (defArgs s_Day___init__) (defBody s_Day___init__) (defScope s_Day___init__) (dv_Day d) [] d.f_Day___init__ fd
  F_Day_read : ∃ fd, Fun K "read" "Day.read" s_Day_read d.f_Day_read fd
  cm_Day_read : ClX.CMet K d.C_Day (.type "type") "read" d.q_Day_read d.f_Day_read
  cr_Day : ClX.CRead K d.C_Day (.type "type")
  F_Day_taken : ∃ fd, Fun K "taken" "Day.taken" s_Day_taken d.f_Day_taken fd
  p_Day_taken : PropOf K d.C_Day "taken" d.q_Day_taken d.f_Day_taken
  F_Day___len__ : ∃ fd, Fun K "__len__" "Day.__len__" s_Day___len__ d.f_Day___len__ fd
  l_Day : PySem.W.findIn K (.ref d.C_Day) "__len__" = some (some (.ref d.f_Day___len__))
  lf_Day : PySem.W.isFn K (.ref d.f_Day___len__) = true
  F_Day___getitem__ : ∃ fd, Fun K "__getitem__" "Day.__getitem__" s_Day___getitem__ d.f_Day___getitem__ fd
  g_Day : PySem.W.findIn K (.ref d.C_Day) "__getitem__" = some (some (.ref d.f_Day___getitem__))
  gf_Day : PySem.W.isFn K (.ref d.f_Day___getitem__) = true
  gn_Day : PySem.W.fnIn K d.f_Day___getitem__ = true
  F_Day___eq__ : ∃ fd, Fun K "__eq__" "Day.__eq__" s_Day___eq__ d.f_Day___eq__ fd
  e_Day : PySem.W.findIn K (.ref d.C_Day) "__eq__" = some (some (.ref d.f_Day___eq__))
  ef_Day : PySem.W.isFn K (.ref d.f_Day___eq__) = true
  F_Day___str__ : ∃ fd, Fun K "__str__" "Day.__str__" s_Day___str__ d.f_Day___str__ fd
  s_Day : PySem.W.findIn K (.ref d.C_Day) "__str__" = some (some (.ref d.f_Day___str__))
  sf_Day : PySem.W.isFn K (.ref d.f_Day___str__) = true
  m_Day : mg "Day" = some (.ref d.C_Day)
  cl_Day : Cls K d.C_Day
  mk_Day : Mk K d.C_Day d.f_Day___init__
  na_Day_length : NoAttr K d.C_Day "length"
  na_Day_meetings : NoAttr K d.C_Day "meetings"
  n_Day : PySem.W.findIn K (.ref d.C_Day) "__ne__" = some (some (.builtin "object.__ne__"))
  ks_Day : PySem.W.kitOne K (.type "str") (.ref d.C_Day) = some false
  su_Day : PySem.W.subIn K (.type "str") (.ref d.C_Day) = some false
  o_Day : PySem.W.mroIn K d.C_Day (.type "object") = some true
  ic_Day : PySem.W.findIn K (.ref d.C_Day) "__class__" = some (some (.builtin "object.__class__"))
  oc1 : PySem.W.specialIn K (.builtin "object.__class__") "__get__" = some (some (.builtin "getset_descriptor.__get__"))
  oc2 : PySem.W.takesIn K (.builtin "object.__class__") = some true
  w_zDay : ∀ H, SqT K H d.z_Day []
  b_isinstance : mg "isinstance" = none
  b_int : mg "int" = none
  b_bool : mg "bool" = none
  b_list : mg "list" = none
  b_tuple : mg "tuple" = none
  b_len : mg "len" = none
  b_range : mg "range" = none
  b_abs : mg "abs" = none
  b_min : mg "min" = none
  b_max : mg "max" = none
  b_str : mg "str" = none
  b_repr : mg "repr" = none

/-! ### small words -/
section
variable {P : Program} {w : World} {K : PySem.W.Frag} {mg : Str → Option Value} {base : Heap}
theorem vals_abs : ∀ {us : List Value} {vs : List V}, us.mapM absV = some vs → Vals vs us
  | [], vs, h => by
    simp at h
    subst h
    exact .nil
  | u :: us, vs, h => by
    rw [List.mapM_cons] at h
    cases e : absV u with
    | none => rw [e] at h; simp at h
    | some v =>
      cases e2 : us.mapM absV with
      | none => rw [e, e2] at h; simp at h
      | some ws =>
        rw [e, e2] at h
        simp at h
        subst h
        refine .cons ?_ (vals_abs e2)
        cases u <;> simp [absV] at e <;> subst e <;> first | rfl | exact ⟨_, rfl⟩
theorem sqt_mk {H : Hp} {c : Addr} {td : Option Addr} {it : Array Value} {n : Nat} {ts : Array (Option Value)} {vs : List V} (l : K.lookup c = some ⟨.type "tuple", td, .seq it n, ts⟩) (lv : it.toList.mapM absV = some vs) (hz : vs.length ≤ sizeLine) : SqT K H c vs := by
  have r := vals_abs lv
  refine .inr ⟨_, it, n, l, rfl, rfl, ?_, r⟩
  rw [← Array.length_toList, ← r.length]
  exact hz
theorem fund_mk {x qual : Str} {st : Stmt} {f T : Addr} {oc tc : Value} {od an td : Option Addr} {osl ts : Array (Option Value)} {it : Array Value} {tn : Nat} {kV doc pm cdv ct : Value} {dvs : List V}
    (l : K.lookup f = some ⟨oc, od, .func (PySem.W.fnOf x qual (defArgs st) (defBody st) (defScope st) (.ref T) kV doc pm an cdv ct), osl⟩) (lt : K.lookup T = some ⟨tc, td, .seq it tn, ts⟩) (lv : it.toList.mapM absV = some dvs) (hn : dvs ≠ [])
    (c : PySem.W.codeIn K cdv qual = true) (k : PySem.W.keepIn K (.ref f) = true) : FunD K x qual (defArgs st) (defBody st) (defScope st) dvs [] f (PySem.W.fnOf x qual (defArgs st) (defBody st) (defScope st) (.ref T) kV doc pm an cdv ct) :=
  ⟨⟨oc, od, .ref T, kV, doc, pm, an, cdv, ct, osl, rfl, l, c, .inr ⟨hn, T, _, it.toList, tn, rfl, lt, by simp, vals_abs lv⟩, .inl rfl⟩, k⟩
/-- a def without defaults, by its body: a positional promise -/
theorem mkR {x qual : Str} {st : Stmt} {f : Addr} {N ps : List Str} {k : Nat} {sp : Sp} (F : ∃ fd, Fun K x qual st f fd) (S : FnScope N ps (defScope st)) (len : ∀ vs H Q E, sp vs H Q E → vs.length = ps.length)
    (hb : ∀ (kV doc pm : Value) (an : Option Addr) (cdv ct : Value) (us : List Value), us.length = ps.length → bindArgs (PySem.W.fnOf x qual (defArgs st) (defBody st) (defScope st) .none kV doc pm an cdv ct) ⟨us, []⟩ = pure (ps.zip us))
    (hbody : ∀ (cdv : Value) (A : Around) (outer : List Env) (s : Shared) (H : Hp) (vs : List V) (Q : VK) (E : XK), Room k (A.deeper (envOfC qual (defScope st) s.heap.objs.size f cdv)) → sp vs H Q E →
      ∃ t, PSs (cxOf CX0 P w K mg base N qual (defScope st) f cdv A outer s H E).nox (defBody st) t ∧ t { nx := fun _ H' => Q .non H', rt := Q } (start N vs) H) : FnR P w K mg base CX0 (k + 1) f sp := by
  obtain ⟨fd, F⟩ := F
  have G : FnOk P w K mg base CX0 (k + 1) f fd ps sp := F.ok S len hbody
  refine (G.raw (F.binds hb) .nil).imp fun vs H Q E h => ?_
  rw [List.append_nil]
  exact h
/-- a def with defaults, all arguments written but the last ones: j is where the defaults that fill up begin -/
theorem mkRD {x qual : Str} {st : Stmt} {f : Addr} {N ps : List Str} {k : Nat} {sp sp' : Sp} {dvs : List V} (n j : Nat) (F : ∃ fd, FunD K x qual (defArgs st) (defBody st) (defScope st) dvs [] f fd) (hd : dvs ≠ []) (hn : n + (dvs.length - j) = ps.length) (S : FnScope N ps (defScope st)) (len : ∀ vs H Q E, sp vs H Q E → vs.length = ps.length)
    (hb : ∀ (T : Addr) (kV doc pm : Value) (an : Option Addr) (cdv ct : Value) (us its : List Value), us.length = n → its.length = dvs.length →
      ∃ k, bindArgs (PySem.W.fnOf x qual (defArgs st) (defBody st) (defScope st) (.ref T) kV doc pm an cdv ct) ⟨us, []⟩ = seqItems? (.ref T) >>= k ∧ k (some its.toArray) = pure (ps.zip (us ++ its.drop j)))
    (hs : ∀ vs H Q E, sp' vs H Q E → sp (vs ++ dvs.drop j) H Q E)
    (hbody : ∀ (cdv : Value) (A : Around) (outer : List Env) (s : Shared) (H : Hp) (vs : List V) (Q : VK) (E : XK), Room k (A.deeper (envOfC qual (defScope st) s.heap.objs.size f cdv)) → sp vs H Q E →
      ∃ t, PSs (cxOf CX0 P w K mg base N qual (defScope st) f cdv A outer s H E) (defBody st) t ∧ t { nx := fun _ H' => Q .non H', rt := Q } (start N vs) H) : FnR P w K mg base CX0 (k + 1) f sp' := by
  obtain ⟨fd, F⟩ := F
  have G : FnOk P w K mg base CX0 (k + 1) f fd ps sp := F.ok S len hbody
  obtain ⟨ds, hv, b⟩ := F.binds1 n j hd hn hb
  exact (G.raw b hv).imp hs
end
/-- the place of a name among written ones -/
theorem look_at {fs : List (Str × V)} {ks : List Str} {f g : Str} {i : Nat} {v : V} (hk : fs.map (·.1) = ks) (hi : ks.findIdx? (· == f) = some i) (hv : fs[i]? = some (g, v)) : fs.lookup f = some v := by
  induction fs generalizing ks i with
  | nil => simp at hv
  | cons p fs ih =>
    obtain ⟨k, x⟩ := p
    subst hk
    rw [List.map_cons, List.findIdx?_cons] at hi
    by_cases e : (k == f) = true
    · rw [if_pos e] at hi
      cases hi
      have e2 : (f == k) = true := by rw [beq_iff_eq] at e ⊢; exact e.symm
      simp at hv
      simp [List.lookup, e2, hv.2]
    · rw [if_neg e] at hi
      have e2 : (f == k) = false := by
        rw [beq_eq_false_iff_ne]; rintro rfl; exact e (by simp)
      obtain ⟨j, hj, rfl⟩ := Option.map_eq_some_iff.mp hi
      simp only [List.lookup, e2]
      exact ih rfl hj (by simpa using hv)
theorem look_no {fs : List (Str × V)} {ks : List Str} {f : Str} (hk : fs.map (·.1) = ks) (hi : ks.contains f = false) : fs.lookup f = none := by
  induction fs generalizing ks with
  | nil => rfl
  | cons p fs ih =>
    obtain ⟨k, x⟩ := p
    subst hk
    rw [List.map_cons, List.contains_cons, Bool.or_eq_false_iff] at hi
    simp only [List.lookup, hi.1]
    exact ih rfl hi.2
theorem putF_new {f : Str} {v : V} : ∀ {fs : List (Str × V)} {ks : List Str}, fs.map (·.1) = ks → ks.contains f = false → putF f v fs = fs ++ [(f, v)]
  | [], _, _, _ => rfl
  | (k, x) :: fs, ks, hk, hc => by
    subst hk
    rw [List.map_cons, List.contains_cons, Bool.or_eq_false_iff] at hc
    have ne : ¬ k = f := fun e => by rw [e] at hc; simp at hc
    rw [show putF f v ((k, x) :: fs) = (if k = f then (k, v) :: fs else (k, x) :: putF f v fs) from rfl, if_neg ne, putF_new rfl hc.2]
    rfl
theorem Same.new {H : Hp} {p : Addr} {o : HO} (h : H p = none) : Same H (upd H p o) := fun a u e => by
  rw [upd_ne (ne_of_none e h)]
  exact e
theorem Same.new' {H H1 : Hp} {p : Addr} {o : HO} (s : Same H H1) (h : H1 p = none) : Same H (upd H1 p o) := s.trans (Same.new h)
theorem Same.tup {K : PySem.W.Frag} {H H' : Hp} {a : Addr} {xs : List V} (e : Same H H') (h : SqT K H a xs) : SqT K H' a xs := by
  rcases h with (h | ⟨o, h⟩) | h
  · exact .inl (.inl (e _ _ h))
  · exact .inl (.inr ⟨o, e _ _ h⟩)
  · exact .inr h
theorem sz {n : Nat} (h : n ≤ 100000) : n ≤ sizeLine := Nat.le_trans h (by decide)
theorem rd_fld {K : PySem.W.Frag} {i : Nat} {σ : L2.St} {H : Hp} {f : Str} {Q : VK} {a C dx : Addr} {fs : List (Str × V)} {v : V} (hs : σ[i]? = some (some (.ref a))) (ho : H a = some (.ins C dx fs)) (c : Cls K C) (n : NoAttr K C f) (l : fs.lookup f = some v) (q : Q v H) : tFld K (tVar i) f σ H Q :=
  ⟨_, hs, a, C, dx, fs, v, rfl, ho, c, n, l, q⟩

/-! ### rules whose reading names K itself -/
theorem ixT_K {X : Cx} {K : PySem.W.Frag} (h : X.K = K := by rfl) : IxR X (rIxT K) := h ▸ ix_tup
theorem ixL_K {X : Cx} {K : PySem.W.Frag} (h : X.K = K := by rfl) : IxR X (rIxL K) := h ▸ ix_list
theorem pe_fldK {X : Cx} {K : PySem.W.Frag} {e : Expr} {f : Str} {pos : Pos} {ta : TE} (he : PE X e ta) (hb : attributeBase e f X.env (eval e X.env) = eval e X.env) (h : X.K = K := by rfl) : PE X (.Attribute e f pos) (tFld K ta f) := h ▸ pe_fld he hb
theorem pg_tupK {X : Cx} {K : PySem.W.Frag} {es : List Expr} {k : Nat} {t : TGs} {n : Nat} {pos : Pos} (hc : X.calm = true) (h : PGs X es t)
    (hn : (assignEach es X.env).length = n := by rfl) (hst : (assignEach es X.env).findIdx? (·.1) = none := by rfl) (hK : X.K = K := by rfl) : PG X (.Tuple es k pos) (gTup K n t) := hK ▸ pg_tup hc h hn hst
/-! ### what kind of value -/
def TyI (K : PySem.W.Frag) (H : Hp) (x : V) (b : Bool) : Prop := ∃ t b1 b2, TyX K H x t ∧ PySem.W.kitOne K t (.type "int") = some b1 ∧ PySem.W.kitOne K t (.type "bool") = some b2 ∧ b = (b1 && !b2)
theorem tyI_int {K : PySem.W.Frag} {H : Hp} {i : Int} : TyI K H (.int i) true := ⟨_, true, false, .base (.int i), kit_ty (by decide +kernel), kit_ty (by decide +kernel), rfl⟩
theorem isi_own {K : PySem.W.Frag} {C : Addr} : PySem.W.kitOne K (.ref C) (.ref C) = some true := by simp [PySem.W.kitOne]
section
variable {P : Program} {w : World} {K : PySem.W.Frag} {mg : Str → Option Value} {base : Heap} {d : Ad}
def sp_is_integer (K : PySem.W.Frag) : Sp := fun vs H Q _ => ∃ x b, vs = [x] ∧ TyI K H x b ∧ Q (.bl b) H
theorem ok_is_integer (T : Txt K mg d) : FnR P w K mg base CX0 1 d.f_is_integer (sp_is_integer K) := by
  refine mkR T.F_is_integer sc_is_integer (fun vs H Q E h => ?_) (fun _ _ _ _ _ _ us hl => match us, hl with | [_], _ => rfl) (fun cdv A outer s H vs Q E hr h => ?_)
  · obtain ⟨x, b, rfl, _⟩ := h
    rfl
  · obtain ⟨x, b, rfl, ⟨t, b1, b2, ty, k1, k2, e⟩, q⟩ := h
    refine ⟨_, (pss_one (ps_ret (pe_and (pe_callB call_isi (by rfl) T.b_isinstance (by decide +kernel) (pa_cons (pv 0) (pa_cons (pe_bltn (v := .ty "int") rfl T.b_int (by decide +kernel) rfl) pa_nil))) (pe_one (pe_not (pe_callB call_isi (by rfl) T.b_isinstance (by decide +kernel) (pa_cons (pv 0) (pa_cons (pe_bltn (v := .ty "bool") rfl T.b_bool (by decide +kernel) rfl) pa_nil)))))))), ?_⟩
    refine ⟨x, rfl, x, .ty "int", t, .type "int", b1, rfl, .ty _, ty, k1, b1, rfl, ?_⟩
    subst e
    cases b1 with
    | false => exact iteF q
    | true =>
      refine iteT ?_
      exact ⟨x, rfl, x, .ty "bool", t, .type "bool", b2, rfl, .ty _, ty, k2, b2, rfl, q⟩
def sp_is_number (K : PySem.W.Frag) : Sp := fun vs H Q _ => (∃ i, vs = [.int i] ∧ Q (.bl (decide (0 ≤ i))) H) ∨ ∃ x, vs = [x] ∧ TyI K H x false ∧ Q (.bl false) H
theorem ok_is_number (T : Txt K mg d) : FnR P w K mg base CX0 2 d.f_is_number (sp_is_number K) := by
  refine mkR T.F_is_number sc_is_number (fun vs H Q E h => ?_) (fun _ _ _ _ _ _ us hl => match us, hl with | [_], _ => rfl) (fun cdv A outer s H vs Q E hr h => ?_)
  · rcases h with ⟨_, rfl, _⟩ | ⟨_, rfl, _⟩ <;> rfl
  · refine ⟨_, (pss_one (ps_ret (pe_and (pe_callR (ok_is_integer T) (hr.mono (by decide)) rfl T.m_is_integer T.k_is_integer pass0 (pa_cons (pv 0) pa_nil)) (pe_one (pe_cmpR op_ge (pv 0) pe_int (nomark _)))))), ?_⟩
    rcases h with ⟨i, rfl, q⟩ | ⟨x, rfl, ty, q⟩
    · refine ⟨_, rfl, _, true, rfl, tyI_int, true, rfl, iteT ?_⟩
      exact ⟨_, rfl, i, 0, rfl, rfl, q⟩
    · exact ⟨_, rfl, _, false, rfl, ty, false, rfl, iteF q⟩
def sp_is_positive (K : PySem.W.Frag) : Sp := fun vs H Q _ => (∃ i, vs = [.int i] ∧ Q (.bl (decide (1 ≤ i))) H) ∨ ∃ x, vs = [x] ∧ TyI K H x false ∧ Q (.bl false) H
theorem ok_is_positive (T : Txt K mg d) : FnR P w K mg base CX0 2 d.f_is_positive (sp_is_positive K) := by
  refine mkR T.F_is_positive sc_is_positive (fun vs H Q E h => ?_) (fun _ _ _ _ _ _ us hl => match us, hl with | [_], _ => rfl) (fun cdv A outer s H vs Q E hr h => ?_)
  · rcases h with ⟨_, rfl, _⟩ | ⟨_, rfl, _⟩ <;> rfl
  · refine ⟨_, (pss_one (ps_ret (pe_and (pe_callR (ok_is_integer T) (hr.mono (by decide)) rfl T.m_is_integer T.k_is_integer pass0 (pa_cons (pv 0) pa_nil)) (pe_one (pe_cmpR op_ge (pv 0) pe_int (nomark _)))))), ?_⟩
    rcases h with ⟨i, rfl, q⟩ | ⟨x, rfl, ty, q⟩
    · refine ⟨_, rfl, _, true, rfl, tyI_int, true, rfl, iteT ?_⟩
      exact ⟨_, rfl, i, 1, rfl, rfl, q⟩
    · exact ⟨_, rfl, _, false, rfl, ty, false, rfl, iteF q⟩
end
end DD

set_option Elab.async false
set_option linter.all false
set_option maxRecDepth 100000
set_option maxHeartbeats 2000000
namespace DD
open PySem PySem.Spec PyProof.Rows L2 StX
/-! ### [e for x in tuple for y in range(..)] -/
section
variable {K : PySem.W.Frag} {σ : L2.St} {vs vs1 : List Nat} {g g1 : TG} {tt tt1 : TT} {te : TE} {wi1 : TI}
theorem lc2_tup {a : Addr} {xs : List V} {H1 : Hp} {D : Addr} {Qd : Hp → Prop} (Pv : Nat → Hp → Prop) (h0 : Pv 0 (upd H1 D (.lst []))) (hl : ∀ i H, i ≤ xs.length → Pv i H → SqT K H a xs)
    (hs : ∀ i x H, xs[i]? = some x → Pv i H → g x (wipe σ vs) H fun σ2 H2 => wipe σ2 vs = wipe σ vs ∧ tt σ2 H2 fun b H3 =>
      if b = true then wi1 σ2 H3 fun J1 H4 => ∃ W1 : Nat → Nat → Hp → Prop, (∃ m, W1 0 m H4) ∧ ∀ j k H, W1 j k H →
        (J1.stop j H ∧ Pv (i + 1) H) ∨ (J1.go j H ∧ ∃ Nx1 : Hp → Prop, (∀ H', Nx1 H' → ∃ k', k' < k ∧ W1 (j + 1) k' H') ∧ ∀ x H', J1.yld j H x H' → g1 x (wipe σ2 vs1) H' fun σ3 H5 => wipe σ3 vs1 = wipe σ2 vs1 ∧ tt1 σ3 H5 fun b H6 =>
          if b = true then te σ3 H6 fun y H7 => ∃ acc, H7 D = some (.lst acc) ∧ acc.length < sizeLine ∧ Nx1 (upd H7 D (.lst (acc ++ [y]))) else Nx1 H6)
      else Pv (i + 1) H3) (hd : ∀ H, Pv xs.length H → Qd H) :
    ∃ W : Nat → Nat → Hp → Prop, (∃ m, W 0 m (upd H1 D (.lst []))) ∧ ∀ i m H, W i m H →
      ((Itt K a).stop i H ∧ Qd H) ∨ ((Itt K a).go i H ∧ ∃ Nx : Hp → Prop, (∀ H', Nx H' → ∃ m', m' < m ∧ W (i + 1) m' H') ∧ ∀ x H', (Itt K a).yld i H x H' → g x (wipe σ vs) H' fun σ2 H2 => wipe σ2 vs = wipe σ vs ∧ tt σ2 H2 fun b H3 =>
        if b = true then wi1 σ2 H3 fun J1 H4 => ∃ W1 : Nat → Nat → Hp → Prop, (∃ m, W1 0 m H4) ∧ ∀ j k H, W1 j k H →
          (J1.stop j H ∧ Nx H) ∨ (J1.go j H ∧ ∃ Nx1 : Hp → Prop, (∀ H', Nx1 H' → ∃ k', k' < k ∧ W1 (j + 1) k' H') ∧ ∀ x H', J1.yld j H x H' → g1 x (wipe σ2 vs1) H' fun σ3 H5 => wipe σ3 vs1 = wipe σ2 vs1 ∧ tt1 σ3 H5 fun b H6 =>
            if b = true then te σ3 H6 fun y H7 => ∃ acc, H7 D = some (.lst acc) ∧ acc.length < sizeLine ∧ Nx1 (upd H7 D (.lst (acc ++ [y]))) else Nx1 H6)
        else Nx H3) := by
  refine ⟨fun i m H => m = xs.length - i ∧ i ≤ xs.length ∧ Pv i H, ⟨xs.length, by simp, Nat.zero_le _, h0⟩, ?_⟩
  rintro i m H ⟨rfl, hi, p⟩
  have q := hl i H hi p
  by_cases hlt : i < xs.length
  · refine .inr ⟨⟨xs, xs[i], q, by simp [hlt]⟩, Pv (i + 1), fun H' p' => ⟨xs.length - (i + 1), by omega, rfl, hlt, p'⟩, fun x H' y => ?_⟩
    obtain ⟨e, y⟩ := y
    subst e
    exact hs i x _ (y xs q) p
  · have e : i = xs.length := by omega
    subst e
    exact .inl ⟨⟨xs, q, Nat.le_refl _⟩, hd H p⟩
theorem in_range {lo : Int} {n : Nat} {H4 : Hp} {D : Addr} {Qd : Hp → Prop} (Pv : Nat → Hp → Prop) (h0 : Pv 0 H4)
    (hs : ∀ j H, j < n → Pv j H → g1 (.int (lo + j)) (wipe σ vs1) H fun σ3 H5 => wipe σ3 vs1 = wipe σ vs1 ∧ tt1 σ3 H5 fun b H6 =>
      if b = true then te σ3 H6 fun y H7 => ∃ acc, H7 D = some (.lst acc) ∧ acc.length < sizeLine ∧ Pv (j + 1) (upd H7 D (.lst (acc ++ [y]))) else Pv (j + 1) H6) (hd : ∀ H, Pv n H → Qd H) :
    ∃ W1 : Nat → Nat → Hp → Prop, (∃ m, W1 0 m H4) ∧ ∀ j k H, W1 j k H →
      ((Itr lo n).stop j H ∧ Qd H) ∨ ((Itr lo n).go j H ∧ ∃ Nx1 : Hp → Prop, (∀ H', Nx1 H' → ∃ k', k' < k ∧ W1 (j + 1) k' H') ∧ ∀ x H', (Itr lo n).yld j H x H' → g1 x (wipe σ vs1) H' fun σ3 H5 => wipe σ3 vs1 = wipe σ vs1 ∧ tt1 σ3 H5 fun b H6 =>
        if b = true then te σ3 H6 fun y H7 => ∃ acc, H7 D = some (.lst acc) ∧ acc.length < sizeLine ∧ Nx1 (upd H7 D (.lst (acc ++ [y]))) else Nx1 H6) := by
  refine ⟨fun j k H => k = n - j ∧ j ≤ n ∧ Pv j H, ⟨n, by simp, Nat.zero_le _, h0⟩, ?_⟩
  rintro j k H ⟨rfl, hj, p⟩
  by_cases hlt : j < n
  · refine .inr ⟨hlt, Pv (j + 1), fun H' p' => ⟨n - (j + 1), by omega, rfl, hlt, p'⟩, fun x H' y => ?_⟩
    obtain ⟨e, y⟩ := y
    subst e y
    exact hs j _ hlt p
  · have e : j = n := by omega
    subst e
    exact .inl ⟨Nat.le_refl _, hd H p⟩
end
/-! ### meetings -/
abbrev Mt := Int × Int × Bool
def mtV (m : Mt) : List V := [.int m.1, .int m.2.1, .bl m.2.2]
def IsMt (H : Hp) (v : V) (m : Mt) : Prop := ∃ a, v = .ref a ∧ H a = some (.tup (mtV m))
def IsMts (H : Hp) (vs : List V) (ms : List Mt) : Prop := vs.length = ms.length ∧ ∀ (i : Nat) v m, vs[i]? = some v → ms[i]? = some m → IsMt H v m
theorem IsMt.mono {H H' : Hp} {v : V} {m : Mt} (e : Same H H') (x : IsMt H v m) : IsMt H' v m := by
  obtain ⟨a, e1, e2⟩ := x
  exact ⟨a, e1, e _ _ e2⟩
theorem IsMts.mono {H H' : Hp} {vs : List V} {ms : List Mt} (e : Same H H') (x : IsMts H vs ms) : IsMts H' vs ms := ⟨x.1, fun i v m h1 h2 => (x.2 i v m h1 h2).mono e⟩
theorem IsMts.nil {H : Hp} : IsMts H [] [] := ⟨rfl, fun i v m h => by simp at h⟩
theorem IsMts.cons {H : Hp} {v : V} {m : Mt} {vs : List V} {ms : List Mt} (x : IsMt H v m) (xs : IsMts H vs ms) : IsMts H (v :: vs) (m :: ms) := by
  refine ⟨by simp [xs.1], fun i v' m' h1 h2 => ?_⟩
  cases i with
  | zero =>
    simp at h1 h2
    subst h1 h2
    exact x
  | succ i =>
    simp at h1 h2
    exact xs.2 i v' m' h1 h2
theorem IsMts.get {H : Hp} {vs : List V} {ms : List Mt} (x : IsMts H vs ms) {i : Nat} {v : V} (h : vs[i]? = some v) : ∃ m, ms[i]? = some m ∧ IsMt H v m := by
  have hi : i < ms.length := by rw [← x.1]; exact (List.getElem?_eq_some_iff.mp h).1
  exact ⟨ms[i], List.getElem?_eq_getElem hi, x.2 i v _ h (List.getElem?_eq_getElem hi)⟩
theorem IsMts.take {H : Hp} {vs : List V} {ms : List Mt} (x : IsMts H vs ms) (n : Nat) : IsMts H (vs.take n) (ms.take n) := by
  refine ⟨by simp [x.1], fun i v m h1 h2 => ?_⟩
  rw [List.getElem?_take] at h1 h2
  split at h1
  · rename_i hi
    rw [if_pos hi] at h2
    exact x.2 i v m h1 h2
  · cases h1
theorem IsMts.drop {H : Hp} {vs : List V} {ms : List Mt} (x : IsMts H vs ms) (n : Nat) : IsMts H (vs.drop n) (ms.drop n) := by
  refine ⟨by simp [x.1], fun i v m h1 h2 => ?_⟩
  rw [List.getElem?_drop] at h1 h2
  exact x.2 _ v m h1 h2
theorem IsMts.append {H : Hp} {vs ws : List V} {ms ns : List Mt} (x : IsMts H vs ms) (y : IsMts H ws ns) : IsMts H (vs ++ ws) (ms ++ ns) := by
  refine ⟨by simp [x.1, y.1], fun i v m h1 h2 => ?_⟩
  by_cases hi : i < vs.length
  · rw [List.getElem?_append_left hi] at h1
    rw [List.getElem?_append_left (by rw [← x.1]; exact hi)] at h2
    exact x.2 i v m h1 h2
  · rw [List.getElem?_append_right (by omega)] at h1
    rw [List.getElem?_append_right (by rw [← x.1]; omega), ← x.1] at h2
    exact y.2 _ v m h1 h2
def mtOk (m : Mt) : Bool := decide (0 ≤ m.1) && decide (0 ≤ m.2.1) && decide (m.1 < m.2.1)
/-- meetings from ahead on that a day of n ticks can have -/
def good (n : Int) : Int → List Mt → Bool
  | _, [] => true
  | ahead, m :: ms => mtOk m && !decide (m.1 < ahead) && !decide (n < m.2.1) && good n m.2.1 ms
theorem good_len {n : Int} : ∀ {a : Int} {ms : List Mt}, good n a ms = true → a ≤ n → (ms.length : Int) ≤ n - a
  | a, [], _, h => by simp; omega
  | a, m :: ms, h, ha => by
    simp only [good, mtOk, Bool.and_eq_true, Bool.not_eq_true', decide_eq_true_eq, decide_eq_false_iff_not] at h
    have ih := good_len (n := n) (a := m.2.1) (ms := ms) h.2 (by omega)
    simp only [List.length_cons, Int.natCast_add, Int.natCast_one]
    omega
section
variable {P : Program} {w : World} {K : PySem.W.Frag} {mg : Str → Option Value} {base : Heap} {d : Ad}
def sp_is_meeting : Sp := fun vs H Q _ => ∃ v m, vs = [v] ∧ IsMt H v m ∧ Q (.bl (mtOk m)) H
theorem ok__is_meeting (T : Txt K mg d) : FnR P w K mg base CX0 3 d.f__is_meeting sp_is_meeting := by
  refine mkR T.F__is_meeting sc__is_meeting (fun vs H Q E h => ?_) (fun _ _ _ _ _ _ us hl => match us, hl with | [_], _ => rfl) (fun cdv A outer s H vs Q E hr h => ?_)
  · obtain ⟨_, _, rfl, _⟩ := h
    rfl
  · obtain ⟨v, ⟨b, e, p⟩, rfl, ⟨a, rfl, ha⟩, q⟩ := h
    refine ⟨_, (pss_cons (ps_if (PW.pt (pw_or (pt_not (pt_val (pe_callB call_isi (by rfl) T.b_isinstance (by decide +kernel) (pa_cons (pv 0) (pa_cons (pe_bltn (v := .ty "tuple") rfl T.b_tuple (by decide +kernel) rfl) pa_nil))))) (pw_or1 (pt_cmpR op_ne (pe_callB call_len_seq (by rfl) T.b_len PySem.boot_len (pa_cons (pv 0) pa_nil)) pe_int (nomark _))))) (pss_one (ps_ret pe_bl)) pss_nil) (pss_cons (ps_asg (pv 0) (pg_tup rfl (pgs_cons (pg_name (i := 1) sc__is_meeting.nd rfl (by first | exact Or.inl rfl | exact Or.inr rfl)) (pgs_cons (pg_name (i := 2) sc__is_meeting.nd rfl (by first | exact Or.inl rfl | exact Or.inr rfl)) (pgs_cons (pg_name (i := 3) sc__is_meeting.nd rfl (by first | exact Or.inl rfl | exact Or.inr rfl)) pgs_nil))))) (pss_one (ps_ret (pe_and (pe_callR (ok_is_number T) (hr.mono (by decide)) rfl T.m_is_number T.k_is_number pass0 (pa_cons (pv 1) pa_nil)) (pe_and (pe_callR (ok_is_number T) (hr.mono (by decide)) rfl T.m_is_number T.k_is_number pass0 (pa_cons (pv 2) pa_nil)) (pe_and (pe_callB call_isi (by rfl) T.b_isinstance (by decide +kernel) (pa_cons (pv 3) (pa_cons (pe_bltn (v := .ty "bool") rfl T.b_bool (by decide +kernel) rfl) pa_nil))) (pe_one (pe_cmpR op_lt (pv 1) (pv 2) (nomark _)))))))))), ?_⟩
    refine ⟨_, rfl, _, .ty "tuple", _, _, true, rfl, .ty _, .base (.tup ha), kit_ty (by decide +kernel), true, rfl, ?_⟩
    refine ⟨_, rfl, a, _, rfl, .inr (.inl (.inl ha)), rfl, false, rfl, ?_⟩
    refine ⟨_, rfl, a, _, rfl, .inl (.inl ha), rfl, _, _, rfl, _, _, rfl, _, _, rfl, rfl, ?_⟩
    have e0 : mtOk (b, e, p) = (decide (0 ≤ b) && decide (0 ≤ e) && decide (b < e)) := rfl
    rw [e0] at q
    refine ⟨_, rfl, .inl ⟨b, rfl, ?_⟩⟩
    refine ⟨_, rfl, ?_⟩
    by_cases hb : 0 ≤ b
    · rw [decide_eq_true hb] at q ⊢
      refine iteT ⟨_, rfl, .inl ⟨e, rfl, ?_⟩⟩
      refine ⟨_, rfl, ?_⟩
      by_cases he : 0 ≤ e
      · rw [decide_eq_true he] at q ⊢
        refine iteT ⟨_, rfl, _, .ty "bool", _, _, true, rfl, .ty _, .base (.bl p), kit_ty (by decide +kernel), ?_⟩
        refine ⟨_, rfl, iteT ?_⟩
        exact ⟨_, rfl, _, rfl, b, e, rfl, rfl, q⟩
      · rw [decide_eq_false he] at q ⊢
        exact iteF q
    · rw [decide_eq_false hb] at q ⊢
      exact iteF q
def sp_is_sequence (K : PySem.W.Frag) : Sp := fun vs H Q _ => ∃ x t b, vs = [x] ∧ (∀ H', Same H H' → TyX K H' x t) ∧ PySem.W.kitAny K t [.type "list", .type "tuple"] = some b ∧ ∀ H', Same H H' → Q (.bl b) H'
theorem ok_is_sequence (T : Txt K mg d) : FnR P w K mg base CX0 1 d.f_is_sequence (sp_is_sequence K) := by
  refine mkR T.F_is_sequence sc_is_sequence (fun vs H Q E h => ?_) (fun _ _ _ _ _ _ us hl => match us, hl with | [_], _ => rfl) (fun cdv A outer s H vs Q E hr h => ?_)
  · obtain ⟨_, _, _, rfl, _⟩ := h
    rfl
  · obtain ⟨x, t, b, rfl, ty, k, q⟩ := h
    refine ⟨_, (pss_one (ps_ret (pe_callB call_isiT (by rfl) T.b_isinstance (by decide +kernel) (pa_cons (pv 0) (pa_cons (pe_tup (pa_cons (pe_bltn (v := .ty "list") rfl T.b_list (by decide +kernel) rfl) (pa_cons (pe_bltn (v := .ty "tuple") rfl T.b_tuple (by decide +kernel) rfl) pa_nil))) pa_nil))))), ?_⟩
    refine ⟨_, rfl, (by show 2 ≤ sizeLine; decide), fun p np => ?_⟩
    have s1 : Same H (upd H p (.tup [.ty "list", .ty "tuple"])) := Same.new np
    exact ⟨x, p, [.ty "list", .ty "tuple"], t, _, b, rfl, upd_same, .cons (.ty _) (.cons (.ty _) .nil), ty _ s1, k, q _ s1⟩
theorem any_list : PySem.W.kitAny K (.type "list") [.type "list", .type "tuple"] = some true := kitAny_cons (b := true) (kit_ty (by decide +kernel)) (fun h => nomatch h) fun _ => rfl
theorem any_tuple : PySem.W.kitAny K (.type "tuple") [.type "list", .type "tuple"] = some true := kitAny_cons (b := false) (kit_ty (by decide +kernel)) (fun _ => kitAny_cons (b := true) (kit_ty (by decide +kernel)) (fun h => nomatch h) fun _ => rfl) fun h => nomatch h
/-- a list or tuple of meetings -/
def MtsV (K : PySem.W.Frag) (H : Hp) (v : V) (ms : List Mt) : Prop := ∃ a vs, v = .ref a ∧ (SqL K H a vs ∨ SqT K H a vs) ∧ IsMts H vs ms
theorem MtsV.mono {H H' : Hp} {v : V} {ms : List Mt} (e : Same H H') (x : MtsV K H v ms) : MtsV K H' v ms := by
  obtain ⟨a, vs, e1, e2, e3⟩ := x
  exact ⟨a, vs, e1, e2.imp e.seq (Same.tup e), e3.mono e⟩
theorem ty_sql {H : Hp} {a : Addr} {vs : List V} (h : SqL K H a vs) : TyX K H (.ref a) (.type "list") := by
  rcases h with (h | ⟨o, h⟩) | ⟨o, _, _, h, c, _⟩
  · exact .base (.lst h)
  · exact .base (.frz h)
  · exact .kList h c
theorem ty_sqt {H : Hp} {a : Addr} {vs : List V} (h : SqT K H a vs) : TyX K H (.ref a) (.type "tuple") := by
  rcases h with (h | ⟨o, h⟩) | ⟨o, _, _, h, c, _⟩
  · exact .base (.tup h)
  · exact .fTuple h
  · exact .kTuple h c
def sp_are_meetings (K : PySem.W.Frag) : Sp := fun vs H Q _ => ∃ (v : V) (n : Int) (ms : List Mt), vs = [v, .int n] ∧ MtsV K H v ms ∧ ∀ H', Same H H' → Q (.bl (good n 0 ms)) H'
/-- the end of the meeting ahead of the i-th -/
def aheadOf (ms : List Mt) (i : Nat) : Int := match i with
  | 0 => 0
  | i + 1 => match ms[i]? with | some m => m.2.1 | none => 0
theorem ok__are_meetings (T : Txt K mg d) : FnR P w K mg base CX0 4 d.f__are_meetings (sp_are_meetings K) := by
  refine mkR T.F__are_meetings sc__are_meetings (fun vs H Q E h => ?_) (fun _ _ _ _ _ _ us hl => match us, hl with | [_, _], _ => rfl) (fun cdv A outer s H vs Q E hr h => ?_)
  · obtain ⟨_, _, _, rfl, _⟩ := h
    rfl
  · obtain ⟨v, n, ms, rfl, ⟨a, vs, rfl, hv, hm⟩, q⟩ := h
    rcases hv with hv | hv
    · refine ⟨_, (pss_cons (ps_if (pt_not (pt_val (pe_callR (ok_is_sequence T) (hr.mono (by decide)) rfl T.m_is_sequence T.k_is_sequence pass0 (pa_cons (pv 0) pa_nil)))) (pss_one (ps_ret pe_bl)) pss_nil) (pss_cons (ps_set (i := 2) sc__are_meetings.nd rfl (by first | exact Or.inl rfl | exact Or.inr rfl) pe_int) (pss_cons (ps_for PassesOwn.never rfl (pi_list (pv 0)) (pg_name (i := 3) sc__are_meetings.nd rfl (by first | exact Or.inl rfl | exact Or.inr rfl)) (pss_cons (ps_if (PW.pt (pw_or (pt_not (pt_val (pe_callR (ok__is_meeting T) (hr.mono (by decide)) rfl T.m__is_meeting T.k__is_meeting pass0 (pa_cons (pv 3) pa_nil)))) (pw_or (pt_cmpR op_lt (pe_ix ix_tup (pv 3) pe_int (fun _ _ => rfl)) (pv 2) (nomark _)) (pw_or1 (pt_cmpR op_gt (pe_ix ix_tup (pv 3) pe_int (fun _ _ => rfl)) (pv 1) (nomark _)))))) (pss_one (ps_ret pe_bl)) pss_nil) (pss_one (ps_set (i := 2) sc__are_meetings.nd rfl (by first | exact Or.inl rfl | exact Or.inr rfl) (pe_ix ix_tup (pv 3) pe_int (fun _ _ => rfl)))))) (pss_one (ps_ret pe_bl))))), ?_⟩
      refine ⟨_, rfl, _, _, true, rfl, fun H' e => ty_sql (e.seq hv), any_list, fun H1 s1 => ?_⟩
      refine ⟨_, rfl, iteF ?_⟩
      have Pv0 : Same H H1 ∧ good n (aheadOf ms 0) (ms.drop 0) = good n 0 ms := ⟨s1, rfl⟩
      refine ⟨_, rfl, a, rfl, ⟨vs, s1.seq hv⟩, for_list (K := K) (a := a) (xs := vs) (fun i σ H2 => ∃ x, σ = [some (.ref a), some (.int n), some (.int (aheadOf ms i)), x] ∧ Same H H2 ∧ good n (aheadOf ms i) (ms.drop i) = good n 0 ms)
        ⟨none, rfl, Pv0⟩ (fun i σ H2 _ ⟨_, _, s2, _⟩ => s2.seq hv) ?_ ?_⟩
      · rintro i x σ H2 hx ⟨x0, rfl, s2, g⟩
        obtain ⟨m, hm1, hm2⟩ := hm.get hx
        have hil : i < ms.length := (List.getElem?_eq_some_iff.mp hm1).1
        have hd : ms.drop i = m :: ms.drop (i + 1) := by
          rw [List.drop_eq_getElem_cons hil]
          rw [List.getElem?_eq_getElem hil] at hm1
          rw [Option.some.inj hm1]
        rw [hd] at g
        have hah : aheadOf ms (i + 1) = m.2.1 := by simp [aheadOf, hm1]
        have m2 := hm2.mono s2
        obtain ⟨b, rfl, hb⟩ := id m2
        refine ⟨_, rfl, _, m, rfl, m2, ?_⟩
        refine ⟨_, rfl, ?_⟩
        have eg : good n (aheadOf ms i) (m :: ms.drop (i + 1)) = (mtOk m && !decide (m.1 < aheadOf ms i) && !decide (n < m.2.1) && good n m.2.1 (ms.drop (i + 1))) := rfl
        rw [eg] at g
        cases ho : mtOk m with
        | false =>
          refine iteT (iteT ?_)
          rw [ho] at g
          have q2 := q H2 s2
          rw [← g] at q2
          exact q2
        | true =>
          refine iteF ?_
          rw [ho] at g
          refine ⟨_, rfl, b, _, _, _, rfl, rfl, .inl (.inl hb), atI_nat (j := 0) rfl, _, rfl, _, _, rfl, rfl, _, rfl, ?_⟩
          by_cases c1 : m.1 < aheadOf ms i
          · rw [decide_eq_true c1] at g ⊢
            refine iteT (iteT ?_)
            have q2 := q H2 s2
            rw [← g] at q2
            exact q2
          · rw [decide_eq_false c1] at g ⊢
            refine iteF ?_
            refine ⟨_, rfl, b, _, _, _, rfl, rfl, .inl (.inl hb), atI_nat (j := 1) rfl, _, rfl, _, _, rfl, rfl, _, rfl, ?_⟩
            by_cases c2 : n < m.2.1
            · rw [decide_eq_true c2] at g ⊢
              refine iteT ?_
              have q2 := q H2 s2
              rw [← g] at q2
              exact q2
            · rw [decide_eq_false c2] at g ⊢
              refine iteF ?_
              refine ⟨_, rfl, b, _, _, _, rfl, rfl, .inl (.inl hb), atI_nat (j := 1) rfl, ?_⟩
              refine ⟨some (.ref b), ?_, s2, ?_⟩
              · rw [hah]
                rfl
              · rw [hah]
                exact g
      · rintro σ H2 ⟨x, rfl, s2, g⟩
        have q2 := q H2 s2
        rw [hm.1, List.drop_length] at g
        rw [← g] at q2
        exact q2
    · refine ⟨_, (pss_cons (ps_if (pt_not (pt_val (pe_callR (ok_is_sequence T) (hr.mono (by decide)) rfl T.m_is_sequence T.k_is_sequence pass0 (pa_cons (pv 0) pa_nil)))) (pss_one (ps_ret pe_bl)) pss_nil) (pss_cons (ps_set (i := 2) sc__are_meetings.nd rfl (by first | exact Or.inl rfl | exact Or.inr rfl) pe_int) (pss_cons (ps_for PassesOwn.never rfl (pi_tup (pv 0)) (pg_name (i := 3) sc__are_meetings.nd rfl (by first | exact Or.inl rfl | exact Or.inr rfl)) (pss_cons (ps_if (PW.pt (pw_or (pt_not (pt_val (pe_callR (ok__is_meeting T) (hr.mono (by decide)) rfl T.m__is_meeting T.k__is_meeting pass0 (pa_cons (pv 3) pa_nil)))) (pw_or (pt_cmpR op_lt (pe_ix ix_tup (pv 3) pe_int (fun _ _ => rfl)) (pv 2) (nomark _)) (pw_or1 (pt_cmpR op_gt (pe_ix ix_tup (pv 3) pe_int (fun _ _ => rfl)) (pv 1) (nomark _)))))) (pss_one (ps_ret pe_bl)) pss_nil) (pss_one (ps_set (i := 2) sc__are_meetings.nd rfl (by first | exact Or.inl rfl | exact Or.inr rfl) (pe_ix ix_tup (pv 3) pe_int (fun _ _ => rfl)))))) (pss_one (ps_ret pe_bl))))), ?_⟩
      refine ⟨_, rfl, _, _, true, rfl, fun H' e => ty_sqt (Same.tup e hv), any_tuple, fun H1 s1 => ?_⟩
      refine ⟨_, rfl, iteF ?_⟩
      have Pv0 : Same H H1 ∧ good n (aheadOf ms 0) (ms.drop 0) = good n 0 ms := ⟨s1, rfl⟩
      refine ⟨_, rfl, a, rfl, ⟨vs, Same.tup s1 hv⟩, for_tup (K := K) (a := a) (xs := vs) (fun i σ H2 => ∃ x, σ = [some (.ref a), some (.int n), some (.int (aheadOf ms i)), x] ∧ Same H H2 ∧ good n (aheadOf ms i) (ms.drop i) = good n 0 ms)
        ⟨none, rfl, Pv0⟩ (fun i σ H2 _ ⟨_, _, s2, _⟩ => Same.tup s2 hv) ?_ ?_⟩
      · rintro i x σ H2 hx ⟨x0, rfl, s2, g⟩
        obtain ⟨m, hm1, hm2⟩ := hm.get hx
        have hil : i < ms.length := (List.getElem?_eq_some_iff.mp hm1).1
        have hd : ms.drop i = m :: ms.drop (i + 1) := by
          rw [List.drop_eq_getElem_cons hil]
          rw [List.getElem?_eq_getElem hil] at hm1
          rw [Option.some.inj hm1]
        rw [hd] at g
        have hah : aheadOf ms (i + 1) = m.2.1 := by simp [aheadOf, hm1]
        have m2 := hm2.mono s2
        obtain ⟨b, rfl, hb⟩ := id m2
        refine ⟨_, rfl, _, m, rfl, m2, ?_⟩
        refine ⟨_, rfl, ?_⟩
        have eg : good n (aheadOf ms i) (m :: ms.drop (i + 1)) = (mtOk m && !decide (m.1 < aheadOf ms i) && !decide (n < m.2.1) && good n m.2.1 (ms.drop (i + 1))) := rfl
        rw [eg] at g
        cases ho : mtOk m with
        | false =>
          refine iteT (iteT ?_)
          rw [ho] at g
          have q2 := q H2 s2
          rw [← g] at q2
          exact q2
        | true =>
          refine iteF ?_
          rw [ho] at g
          refine ⟨_, rfl, b, _, _, _, rfl, rfl, .inl (.inl hb), atI_nat (j := 0) rfl, _, rfl, _, _, rfl, rfl, _, rfl, ?_⟩
          by_cases c1 : m.1 < aheadOf ms i
          · rw [decide_eq_true c1] at g ⊢
            refine iteT (iteT ?_)
            have q2 := q H2 s2
            rw [← g] at q2
            exact q2
          · rw [decide_eq_false c1] at g ⊢
            refine iteF ?_
            refine ⟨_, rfl, b, _, _, _, rfl, rfl, .inl (.inl hb), atI_nat (j := 1) rfl, _, rfl, _, _, rfl, rfl, _, rfl, ?_⟩
            by_cases c2 : n < m.2.1
            · rw [decide_eq_true c2] at g ⊢
              refine iteT ?_
              have q2 := q H2 s2
              rw [← g] at q2
              exact q2
            · rw [decide_eq_false c2] at g ⊢
              refine iteF ?_
              refine ⟨_, rfl, b, _, _, _, rfl, rfl, .inl (.inl hb), atI_nat (j := 1) rfl, ?_⟩
              refine ⟨some (.ref b), ?_, s2, ?_⟩
              · rw [hah]
                rfl
              · rw [hah]
                exact g
      · rintro σ H2 ⟨x, rfl, s2, g⟩
        have q2 := q H2 s2
        rw [hm.1, List.drop_length] at g
        rw [← g] at q2
        exact q2
end
end DD

set_option Elab.async false
set_option linter.all false
set_option maxRecDepth 100000
set_option maxHeartbeats 2000000
namespace DD
open PySem PySem.Spec PyProof.Rows L2 StX
section
variable {P : Program} {w : World} {K : PySem.W.Frag} {mg : Str → Option Value} {base : Heap} {d : Ad}
/-! ### days -/
def flD (n : Int) (t : V) : List (Str × V) := [("length", .int n), ("meetings", t)]
theorem fd2 {a b : V} : putF "meetings" b ([("length", a)] : List (Str × V)) = ([("length", a), ("meetings", b)] : List (Str × V)) := putF_new (ks := ["length"]) rfl (by decide +kernel)
theorem lkD_length {n : Int} {t : V} : (flD n t).lookup ("length" : Str) = some (V.int n) := look_at rfl (by decide +kernel : (["length", "meetings"] : List Str).findIdx? (· == ("length" : Str)) = some 0) rfl
theorem lkD_meetings {n : Int} {t : V} : (flD n t).lookup ("meetings" : Str) = some t := look_at rfl (by decide +kernel : (["length", "meetings"] : List Str).findIdx? (· == ("meetings" : Str)) = some 1) rfl
def IsDay (d : Ad) (K : PySem.W.Frag) (H : Hp) (v : V) (n : Int) (ms : List Mt) : Prop := ∃ a dx t vs, v = .ref a ∧ H a = some (.ins d.C_Day dx (flD n (.ref t))) ∧ SqT K H t vs ∧ IsMts H vs ms
theorem IsDay.mono {H H' : Hp} {v : V} {n : Int} {ms : List Mt} (e : Same H H') (x : IsDay d K H v n ms) : IsDay d K H' v n ms := by
  obtain ⟨a, dx, t, vs, e1, e2, e3, e4⟩ := x
  exact ⟨a, dx, t, vs, e1, e _ _ e2, Same.tup e e3, e4.mono e⟩
/-- a day's length and meetings that are right -/
structure DayOk (n : Int) (ms : List Mt) : Prop where
  lo : 1 ≤ n
  hi : n ≤ 1000
  g : good n 0 ms = true
def sp_Day_init (d : Ad) (K : PySem.W.Frag) : Sp := fun vs H Q _ => ∃ (x dx : Addr) (n : Int) (v : V) (ms : List Mt), vs = [.ref x, .int n, v] ∧ H x = some (.ins d.C_Day dx []) ∧ MtsV K H v ms ∧ DayOk n ms ∧
  ∀ H' t ws, (∀ b u, H b = some u → b ≠ x → H' b = some u) → H' x = some (.ins d.C_Day dx (flD n (.ref t))) → SqT K H' t ws → IsMts H' ws ms → Q .non H'
/-- a sequence is not the instance that changes -/
theorem off_l {H1 H2 : Hp} {x a C dx : Addr} {fs : List (Str × V)} {ws : List V} (h : SqL K H1 a ws) (hx : H1 x = some (.ins C dx fs)) (k : ∀ b u, H1 b = some u → b ≠ x → H2 b = some u) : SqL K H2 a ws := by
  rcases h with (h | ⟨o, h⟩) | h
  · exact .inl (.inl (k _ _ h (ne_of h hx (by intro z; cases z))))
  · exact .inl (.inr ⟨o, k _ _ h (ne_of h hx (by intro z; cases z))⟩)
  · exact .inr h
theorem off_t {H1 H2 : Hp} {x a C dx : Addr} {fs : List (Str × V)} {ws : List V} (h : SqT K H1 a ws) (hx : H1 x = some (.ins C dx fs)) (k : ∀ b u, H1 b = some u → b ≠ x → H2 b = some u) : SqT K H2 a ws := by
  rcases h with (h | ⟨o, h⟩) | h
  · exact .inl (.inl (k _ _ h (ne_of h hx (by intro z; cases z))))
  · exact .inl (.inr ⟨o, k _ _ h (ne_of h hx (by intro z; cases z))⟩)
  · exact .inr h
theorem body_Day_init (T : Txt K mg d) (cdv : Value) (A : Around) (outer : List Env) (s : Shared) (H : Hp) (vs : List V) (Q : VK) (E : XK) (hr : Room 4 (A.deeper (envOfC "Day.__init__" (defScope s_Day___init__) s.heap.objs.size d.f_Day___init__ cdv))) (h : sp_Day_init d K vs H Q E) :
    ∃ t, PSs (cxOf CX0 P w K mg base ["self", "length", "meetings"] "Day.__init__" (defScope s_Day___init__) d.f_Day___init__ cdv A outer s H E).nox (defBody s_Day___init__) t ∧ t { nx := fun _ H' => Q .non H', rt := Q } (start ["self", "length", "meetings"] vs) H := by
  obtain ⟨x, dx, n, v, ms, rfl, hx, hv, O, q⟩ := h
  refine ⟨_, (pss_cons (ps_if (pt_not (pt_val (pe_callR (ok_is_positive T) (hr.mono (by decide)) rfl T.m_is_positive T.k_is_positive pass0 (pa_cons (pv 1) pa_nil)))) (pss_one ps_dead) pss_nil) (pss_cons (ps_if (pt_not (pt_val (pe_callR (ok__are_meetings T) (hr.mono (by decide)) rfl T.m__are_meetings T.k__are_meetings pass0 (pa_cons (pv 2) (pa_cons (pv 1) pa_nil))))) (pss_one ps_dead) pss_nil) (pss_cons (ps_fld (pv 0) (pv 1) rfl) (pss_one (ps_fld (pv 0) (pe_callTy call_tuple_of rfl T.b_tuple (by decide +kernel) (pa_cons (pv 2) pa_nil)) rfl))))), ?_⟩
  refine ⟨_, rfl, .inl ⟨n, rfl, ?_⟩⟩
  refine ⟨_, rfl, ?_⟩
  rw [decide_eq_true O.lo]
  refine iteF ⟨_, rfl, _, rfl, v, n, ms, rfl, hv, fun H1 s1 => ?_⟩
  refine ⟨_, rfl, ?_⟩
  rw [O.g]
  refine iteF ?_
  refine ⟨_, rfl, _, rfl, x, _, dx, _, rfl, s1 _ _ hx, T.cl_Day, T.na_Day_length, (by show 0 < 1000; decide), ?_⟩
  obtain ⟨a, ws, rfl, hw, hm⟩ := hv.mono s1
  have hx1 := s1 _ _ hx
  have mts : ∀ {H2 : Hp}, (∀ b u, H1 b = some u → b ≠ x → H2 b = some u) → IsMts H2 ws ms := fun {H2} k => by
    refine ⟨hm.1, fun i v m h1 h2 => ?_⟩
    obtain ⟨p, e1, e2⟩ := hm.2 i v m h1 h2
    exact ⟨p, e1, k p _ e2 (ne_of e2 hx1 (by intro z; cases z))⟩
  rcases hw with hw | hw
  · refine ⟨_, rfl, a, ws, rfl, .inl ⟨off_l hw hx1 fun b u e hb => by rw [upd_ne hb]; exact e, fun l nl => ?_⟩⟩
    have hlx : x ≠ l := ne_of_none (H := upd H1 x (.ins d.C_Day dx (putF "length" (V.int n) []))) upd_same nl
    have k2 : ∀ b u, H1 b = some u → b ≠ x → b ≠ l := fun b u e hb => ne_of_none (H := upd H1 x (.ins d.C_Day dx (putF "length" (V.int n) []))) (by rw [upd_ne hb]; exact e) nl
    refine ⟨_, rfl, x, _, dx, _, rfl, (by rw [upd_ne hlx]; exact upd_same), T.cl_Day, T.na_Day_meetings, (by show 1 < 1000; decide), ?_⟩
    rw [show putF "length" (V.int n) [] = ([("length", V.int n)] : List (Str × V)) from rfl, fd2]
    have kp : ∀ (o : HO) (b : Addr) (u : HO), H1 b = some u → b ≠ x → upd (upd (upd H1 x (.ins d.C_Day dx (putF "length" (V.int n) []))) l (.tup ws)) x o b = some u := fun o b u e hb => by
      rw [upd_ne hb, upd_ne (k2 b u e hb), upd_ne hb]
      exact e
    refine q _ l ws (fun b u e hb => kp _ b u (s1 _ _ e) hb) upd_same (.inl (.inl ?_)) (mts (kp _))
    rw [upd_ne (Ne.symm hlx)]
    exact upd_same
  · refine ⟨_, rfl, a, ws, rfl, .inr ⟨off_t hw hx1 fun b u e hb => by rw [upd_ne hb]; exact e, ?_⟩⟩
    refine ⟨_, rfl, x, _, dx, _, rfl, upd_same, T.cl_Day, T.na_Day_meetings, (by show 1 < 1000; decide), ?_⟩
    rw [show putF "length" (V.int n) [] = ([("length", V.int n)] : List (Str × V)) from rfl, fd2]
    have kp : ∀ (o1 o : HO) (b : Addr) (u : HO), H1 b = some u → b ≠ x → upd (upd H1 x o1) x o b = some u := fun o1 o b u e hb => by
      rw [upd_ne hb, upd_ne hb]
      exact e
    exact q _ a ws (fun b u e hb => kp _ _ b u (s1 _ _ e) hb) upd_same (off_t hw hx1 (kp _ _)) (mts (kp _ _))
theorem ok_Day_init2 (T : Txt K mg d) : FnR P w K mg base CX0 5 d.f_Day___init__ (sp_Day_init d K) :=
  mkRD 3 1 T.F_Day___init__ (by simp [dv_Day]) rfl sc_Day___init__ (fun vs H Q E h => by obtain ⟨_, _, _, _, _, rfl, _⟩ := h; rfl)
    (fun _ _ _ _ _ _ _ us its h1 h2 => match us, its, h1, h2 with | [_, _, _], [_], _, _ => ⟨_, rfl, rfl⟩)
    (fun vs H Q E h => by rw [show (dv_Day d).drop 1 = [] from rfl, List.append_nil]; exact h)
    (fun cdv A outer s H vs Q E hr h => let ⟨t, h1, h2⟩ := body_Day_init T cdv A outer s H vs Q E hr h; ⟨t, h1.nox, h2⟩)
theorem made_day {H1 : Hp} {n : Int} {v : V} {ms : List Mt} {Q : VK} {E : XK} (hv : MtsV K H1 v ms) (O : DayOk n ms) (q : ∀ v H', Same H1 H' → IsDay d K H' v n ms → Q v H') :
    ∀ x dx, H1 x = none → H1 dx = none → dx ≠ x → sp_Day_init d K [.ref x, .int n, v] (upd (upd H1 dx (.own x)) x (.ins d.C_Day dx [])) (fun v H2 => v = .non ∧ Q (.ref x) H2) E := by
  intro x dx nx ndx ne
  have s0 : Same H1 (upd (upd H1 dx (.own x)) x (.ins d.C_Day dx [])) := Same.new' (Same.new ndx) (by rw [upd_ne (Ne.symm ne)]; exact nx)
  refine ⟨x, dx, n, v, ms, rfl, upd_same, hv.mono s0, O, fun H' t ws k1 k2 k3 k4 => ⟨rfl, ?_⟩⟩
  have s1 : Same H1 H' := fun b u e => k1 b u (s0 b u e) (ne_of_none e nx)
  exact q _ H' s1 ⟨x, dx, t, ws, rfl, k2, k3, k4⟩
/-! ### ticks -/
def rangeL (lo : Int) (n : Nat) : List Int := (List.range n).map fun (j : Nat) => lo + (j : Int)
theorem rangeL_len {lo : Int} {n : Nat} : (rangeL lo n).length = n := by simp [rangeL]
theorem rangeL_succ {lo : Int} {n : Nat} : rangeL lo (n + 1) = rangeL lo n ++ [lo + (n : Int)] := by simp [rangeL, List.range_succ]
def ticks : List Mt → List Int
  | [] => []
  | m :: ms => rangeL m.1 (m.2.1 - m.1).toNat ++ ticks ms
theorem ticks_append : ∀ a b : List Mt, ticks (a ++ b) = ticks a ++ ticks b
  | [], b => rfl
  | m :: a, b => by simp [ticks, ticks_append a b]
theorem good_ticks {n : Int} : ∀ {a : Int} {ms : List Mt}, good n a ms = true → a ≤ n → ((ticks ms).length : Int) ≤ n - a
  | a, [], _, h => by simp [ticks]; omega
  | a, m :: ms, h, ha => by
    simp only [good, mtOk, Bool.and_eq_true, Bool.not_eq_true', decide_eq_true_eq, decide_eq_false_iff_not] at h
    have ih := good_ticks (n := n) (a := m.2.1) (ms := ms) h.2 (by omega)
    simp only [ticks, List.length_append, rangeL_len, Int.natCast_add]
    omega
theorem good_at {n : Int} : ∀ {a : Int} {ms : List Mt} {i : Nat} {m : Mt}, good n a ms = true → ms[i]? = some m → 0 ≤ m.1 ∧ m.1 < m.2.1 ∧ m.2.1 ≤ n
  | a, [], i, m, _, h => by simp at h
  | a, k :: ms, 0, m, h, e => by
    simp at e
    subst e
    simp only [good, mtOk, Bool.and_eq_true, Bool.not_eq_true', decide_eq_true_eq, decide_eq_false_iff_not] at h
    omega
  | a, k :: ms, i + 1, m, h, e => by
    simp only [good, mtOk, Bool.and_eq_true, Bool.not_eq_true', decide_eq_true_eq, decide_eq_false_iff_not] at h
    exact good_at (a := k.2.1) (ms := ms) (i := i) h.2 (by simpa using e)
theorem take_snoc {α : Type} {xs : List α} {i : Nat} {x : α} (h : xs[i]? = some x) : xs.take (i + 1) = xs.take i ++ [x] := by
  obtain ⟨hi, e⟩ := List.getElem?_eq_some_iff.mp h
  rw [List.take_add_one, h]
  rfl
theorem ticks_take_len {n : Int} {ms : List Mt} {i : Nat} (h : good n 0 ms = true) (hn : 0 ≤ n) : ((ticks (ms.take i)).length : Int) ≤ n := by
  have e : ticks ms = ticks (ms.take i) ++ ticks (ms.drop i) := by rw [← ticks_append, List.take_append_drop]
  have l := good_ticks h hn
  rw [e, List.length_append] at l
  omega
theorem mts_len {n : Int} {ms : List Mt} (O : DayOk n ms) : ms.length ≤ 1000 := by
  have h := good_len O.g (by have := O.lo; omega)
  have := O.hi
  omega
def sp_Day_taken (d : Ad) (K : PySem.W.Frag) : Sp := fun vs H Q _ => ∃ (v : V) (n : Int) (ms : List Mt), vs = [v] ∧ IsDay d K H v n ms ∧ DayOk n ms ∧ ∀ a H', Same H H' → H' a = some (.tup ((ticks ms).map V.int)) → Q (.ref a) H'
theorem ok_Day_taken (T : Txt K mg d) : FnR P w K mg base CX0 1 d.f_Day_taken (sp_Day_taken d K) := by
  refine mkR T.F_Day_taken sc_Day_taken (fun vs H Q E h => ?_) (fun _ _ _ _ _ _ us hl => match us, hl with | [_], _ => rfl) (fun cdv A outer s H vs Q E hr h => ?_)
  · obtain ⟨_, _, _, rfl, _⟩ := h
    rfl
  · obtain ⟨v, n, ms, rfl, ⟨a, dx, t, vs, rfl, ha, ht, hm⟩, O, q⟩ := h
    have Olo := O.lo
    have Ohi := O.hi
    refine ⟨_, (pss_one (ps_ret (pe_callTy call_tuple_of rfl T.b_tuple (by decide +kernel) (pa_cons (pe_lc2 (own := [("meeting", 1), ("tick", 2)]) (vs1 := [2]) rfl sc_Day_taken.nd (pi_tup (pe_fld (pv 0) rfl)) (blkOk_by (N := ["self", "meeting", "tick"]) (sc := defScope s_Day_taken) (by decide +kernel)) (by decide) (fun _ _ _ _ _ => (pg_name (i := 1) sc_Day_taken.nd rfl (by first | exact Or.inl rfl | exact Or.inr rfl))) (fun _ _ _ _ _ => pts_nil) (fun _ _ _ _ _ => (pi_range2 rfl T.b_range (pa_cons (pe_ix (ixT_K (K := K)) (pv 1) pe_int (fun _ _ => rfl)) (pa_cons (pe_ix (ixT_K (K := K)) (pv 1) pe_int (fun _ _ => rfl)) pa_nil)))) (fun _ _ _ _ _ => (pg_name (i := 2) sc_Day_taken.nd rfl (by first | exact Or.inl rfl | exact Or.inr rfl))) (fun _ _ _ _ _ => pts_nil) (fun _ _ _ _ _ => (pv 2))) pa_nil)))), ?_⟩
    refine ⟨_, rfl, a, _, dx, _, _, rfl, ha, T.cl_Day, T.na_Day_meetings, lkD_meetings, t, rfl, ⟨vs, ht⟩, fun D nD => ?_⟩
    have sD : Same H (upd H D (.lst [])) := Same.new nD
    refine lc2_tup (K := K) (a := t) (xs := vs) (fun i H2 => Same H H2 ∧ H2 D = some (.lst ((ticks (ms.take i)).map V.int))) ⟨sD, upd_same⟩ (fun i H2 _ h2 => Same.tup h2.1 ht) ?_ ?_
    · rintro i x H2 hx ⟨s2, h2⟩
      obtain ⟨m, hm1, hm2⟩ := hm.get hx
      obtain ⟨b, rfl, hb⟩ := hm2.mono s2
      obtain ⟨g1, g2, g3⟩ := good_at O.g hm1
      have e1 : ms.take (i + 1) = ms.take i ++ [m] := take_snoc hm1
      have l1 := ticks_take_len (i := i + 1) O.g (by omega)
      rw [e1, ticks_append, List.length_append] at l1
      have l2 : (ticks [m]).length = (m.2.1 - m.1).toNat := by simp [ticks, rangeL_len]
      refine ⟨rfl, ?_⟩
      refine ⟨_, rfl, b, _, _, _, rfl, rfl, .inl (.inl hb), atI_nat (j := 0) rfl, _, rfl, b, _, _, _, rfl, rfl, .inl (.inl hb), atI_nat (j := 1) rfl, m.1, m.2.1, rfl, ⟨by omega, by omega, by omega, by omega⟩, ?_⟩
      refine in_range (fun j H3 => Same H H3 ∧ H3 D = some (.lst ((ticks (ms.take i) ++ rangeL m.1 j).map V.int))) ⟨s2, by rw [h2]; simp [rangeL]⟩ ?_ ?_
      · rintro j H3 hj ⟨s3, h3⟩
        refine ⟨rfl, ?_⟩
        refine ⟨_, rfl, _, h3, ?_, ?_, ?_⟩
        · rw [List.length_map, List.length_append, rangeL_len]
          exact Nat.lt_of_lt_of_le (by omega : _ < 100000) (by decide)
        · intro c o e
          rw [upd_ne (ne_of_none e nD)]
          exact s3 c o e
        · rw [upd_same, rangeL_succ, ← List.append_assoc, List.map_append (l₁ := ticks (ms.take i) ++ rangeL m.1 j)]
          rfl
      · rintro H3 ⟨s3, h3⟩
        refine ⟨s3, ?_⟩
        rw [h3, e1, ticks_append]
        simp [ticks]
    · rintro H2 ⟨s2, h2⟩
      rw [hm.1, List.take_length] at h2
      refine ⟨D, _, rfl, .inl ⟨.inl (.inl h2), fun l nl => ?_⟩⟩
      exact q l _ (Same.new' s2 nl) upd_same
end
end DD

set_option Elab.async false
set_option linter.all false
set_option maxRecDepth 100000
set_option maxHeartbeats 2000000
namespace DD
open PySem PySem.Spec PyProof.Rows L2 StX
section
variable {P : Program} {w : World} {K : PySem.W.Frag} {mg : Str → Option Value} {base : Heap} {d : Ad}
/-! ### the law's own draws -/
def sp_seed (K : PySem.W.Frag) : Sp := fun vs H Q _ => ∃ (a : Addr) (ns : List Int) (k : Nat), vs = [.ref a, .int k] ∧ SqL K H a (ns.map V.int) ∧ ∀ b x y H', H b = none → Same H H' → H' b = some (.lst [.int x, .int y]) → Q (.ref b) H'
theorem ok__law_seed (T : Txt K mg d) : FnR P w K mg base CX0 1 d.f__law_seed (sp_seed K) := by
  refine mkR T.F__law_seed sc__law_seed (fun vs H Q E h => ?_) (fun _ _ _ _ _ _ us hl => match us, hl with | [_, _], _ => rfl) (fun cdv A outer s H vs Q E hr h => ?_)
  · obtain ⟨_, _, _, rfl, _⟩ := h
    rfl
  · obtain ⟨a, ns, k, rfl, hS, q⟩ := h
    refine ⟨_, (pss_cons (ps_set (i := 2) sc__law_seed.nd rfl (by first | exact Or.inl rfl | exact Or.inr rfl) (pe_op op_add (pe_op op_mul pe_int (pv 1)) pe_int)) (pss_cons (ps_if (pt_cmpR op_lt (pv 1) (pe_callB call_len_seq (by rfl) T.b_len PySem.boot_len (pa_cons (pv 0) pa_nil)) (nomark _)) (pss_one (ps_set (i := 2) sc__law_seed.nd rfl (by first | exact Or.inl rfl | exact Or.inr rfl) (pe_callB call_abs (by rfl) T.b_abs (by decide +kernel) (pa_cons (pe_ix ix_list (pv 0) (pv 1) (fun _ _ => rfl)) pa_nil)))) (pss_one (ps_if (pt_cmpR op_gt (pe_callB call_len_seq (by rfl) T.b_len PySem.boot_len (pa_cons (pv 0) pa_nil)) pe_int (nomark _)) (pss_one (ps_set (i := 2) sc__law_seed.nd rfl (by first | exact Or.inl rfl | exact Or.inr rfl) (pe_op op_add (pv 2) (pe_op op_mul (pe_op op_mod (pe_callTy call_int1 rfl T.b_int (by decide +kernel) (pa_cons (pe_callB call_abs (by rfl) T.b_abs (by decide +kernel) (pa_cons (pe_ix ix_list (pv 0) (pe_op op_mod (pe_callTy call_int1 rfl T.b_int (by decide +kernel) (pa_cons (pv 1) pa_nil)) (pe_callB call_len_seq (by rfl) T.b_len PySem.boot_len (pa_cons (pv 0) pa_nil))) (fun _ _ => rfl)) pa_nil)) pa_nil)) pe_int) pe_int)))) pss_nil))) (pss_one (ps_ret (pe_lst (pa_cons (pe_ifExp (pt_cmpR op_ge (pv 2) (pe_op op_pow pe_int pe_int) (nomark _)) (pv 2) pe_int) (pa_cons (pe_op op_add (pe_op op_mod (pe_callTy call_int1 rfl T.b_int (by decide +kernel) (pa_cons (pe_op op_add (pe_op op_mul (pe_op op_mod (pe_callTy call_int1 rfl T.b_int (by decide +kernel) (pa_cons (pv 2) pa_nil)) pe_int) pe_int) (pe_op op_mul pe_int (pv 1))) pa_nil)) pe_int) pe_int) pa_nil))))))), ?_⟩
    refine ⟨_, rfl, _, _, rfl, rfl, .inl ⟨by decide, by decide⟩, _, _, rfl, rfl, ?_⟩
    refine ⟨_, rfl, _, rfl, a, _, rfl, .inl hS, _, _, rfl, rfl, _, rfl, ?_⟩
    refine ite2 (fun h1 => ?_) (fun h1 => ?_)
    · have hk : k < ns.length := by
        have := of_decide_eq_true h1
        rw [List.length_map] at this
        omega
      refine ⟨_, rfl, _, rfl, a, _, _, _, rfl, rfl, hS, atI_nat (j := k) (by rw [List.getElem?_map, List.getElem?_eq_getElem hk]; rfl), _, rfl, ?_⟩
      refine ⟨_, rfl, _, _, rfl, rfl, ⟨by decide, by decide, by decide⟩, _, _, rfl, rfl, _, rfl, ?_⟩
      refine ite2 (fun _ => ?_) (fun _ => ?_)
      · refine ⟨_, rfl, _, rfl, .inl ⟨_, rfl, _, _, rfl, rfl, (by show (0 : Int) < 2147483629; decide), _, _, rfl, rfl, .inr ⟨by decide, by decide⟩, _, rfl, _, _, rfl, rfl, .inl ⟨by decide, by decide⟩, _, _, rfl, rfl, .inl ⟨_, rfl, _, _, rfl, rfl, (by show (0 : Int) < 2147483629; decide), _, _, rfl, rfl, (by show 2 ≤ sizeLine; decide), fun p np => ?_⟩⟩⟩
        exact q p _ _ _ np (Same.new np) upd_same
      · refine ⟨_, rfl, .inl ⟨_, rfl, _, _, rfl, rfl, (by show (0 : Int) < 2147483629; decide), _, _, rfl, rfl, .inr ⟨by decide, by decide⟩, _, rfl, _, _, rfl, rfl, .inl ⟨by decide, by decide⟩, _, _, rfl, rfl, .inl ⟨_, rfl, _, _, rfl, rfl, (by show (0 : Int) < 2147483629; decide), _, _, rfl, rfl, (by show 2 ≤ sizeLine; decide), fun p np => ?_⟩⟩⟩
        exact q p _ _ _ np (Same.new np) upd_same
    · refine ⟨_, rfl, a, _, rfl, .inl hS, _, _, rfl, rfl, _, rfl, ?_⟩
      refine ite2 (fun h2 => ?_) (fun h2 => ?_)
      · have hn : 0 < ns.length := by
          have := of_decide_eq_true h2
          rw [List.length_map] at this
          omega
        have e : ((k : Int) % ((ns.map V.int).length : Int)) = ((k % ns.length : Nat) : Int) := by rw [List.length_map, Int.natCast_emod]
        have hk : k % ns.length < ns.length := Nat.mod_lt _ hn
        refine ⟨_, rfl, _, rfl, _, rfl, .inl ⟨_, rfl, _, rfl, a, _, rfl, .inl hS, _, _, rfl, rfl, (by rw [List.length_map]; omega), ?_⟩⟩
        have hat : atI (ns.map V.int) ((k : Int) % ((ns.map V.int).length : Int)) = some (V.int (ns[k % ns.length])) := by
          rw [e]
          exact atI_nat (j := k % ns.length) (by rw [List.getElem?_map, List.getElem?_eq_getElem hk]; rfl)
        refine ⟨a, _, _, _, rfl, rfl, hS, hat, _, rfl, .inl ⟨_, rfl, _, _, rfl, rfl, (by show (0 : Int) < 2147483629; decide), _, _, rfl, rfl, .inr ⟨by decide, by decide⟩, _, _, rfl, rfl, ?_⟩⟩
        refine ⟨_, rfl, _, _, rfl, rfl, ⟨by decide, by decide, by decide⟩, _, _, rfl, rfl, _, rfl, ?_⟩
        refine ite2 (fun _ => ?_) (fun _ => ?_)
        · refine ⟨_, rfl, _, rfl, .inl ⟨_, rfl, _, _, rfl, rfl, (by show (0 : Int) < 2147483629; decide), _, _, rfl, rfl, .inr ⟨by decide, by decide⟩, _, rfl, _, _, rfl, rfl, .inl ⟨by decide, by decide⟩, _, _, rfl, rfl, .inl ⟨_, rfl, _, _, rfl, rfl, (by show (0 : Int) < 2147483629; decide), _, _, rfl, rfl, (by show 2 ≤ sizeLine; decide), fun p np => ?_⟩⟩⟩
          exact q p _ _ _ np (Same.new np) upd_same
        · refine ⟨_, rfl, .inl ⟨_, rfl, _, _, rfl, rfl, (by show (0 : Int) < 2147483629; decide), _, _, rfl, rfl, .inr ⟨by decide, by decide⟩, _, rfl, _, _, rfl, rfl, .inl ⟨by decide, by decide⟩, _, _, rfl, rfl, .inl ⟨_, rfl, _, _, rfl, rfl, (by show (0 : Int) < 2147483629; decide), _, _, rfl, rfl, (by show 2 ≤ sizeLine; decide), fun p np => ?_⟩⟩⟩
          exact q p _ _ _ np (Same.new np) upd_same
      · refine ⟨_, rfl, _, _, rfl, rfl, ⟨by decide, by decide, by decide⟩, _, _, rfl, rfl, _, rfl, ?_⟩
        refine ite2 (fun _ => ?_) (fun _ => ?_)
        · refine ⟨_, rfl, _, rfl, .inl ⟨_, rfl, _, _, rfl, rfl, (by show (0 : Int) < 2147483629; decide), _, _, rfl, rfl, .inr ⟨by decide, by decide⟩, _, rfl, _, _, rfl, rfl, .inl ⟨by decide, by decide⟩, _, _, rfl, rfl, .inl ⟨_, rfl, _, _, rfl, rfl, (by show (0 : Int) < 2147483629; decide), _, _, rfl, rfl, (by show 2 ≤ sizeLine; decide), fun p np => ?_⟩⟩⟩
          exact q p _ _ _ np (Same.new np) upd_same
        · refine ⟨_, rfl, .inl ⟨_, rfl, _, _, rfl, rfl, (by show (0 : Int) < 2147483629; decide), _, _, rfl, rfl, .inr ⟨by decide, by decide⟩, _, rfl, _, _, rfl, rfl, .inl ⟨by decide, by decide⟩, _, _, rfl, rfl, .inl ⟨_, rfl, _, _, rfl, rfl, (by show (0 : Int) < 2147483629; decide), _, _, rfl, rfl, (by show 2 ≤ sizeLine; decide), fun p np => ?_⟩⟩⟩
          exact q p _ _ _ np (Same.new np) upd_same
/-- a draw from a box -/
def sp_choose : Sp := fun vs H Q _ => ∃ (b : Addr) (x y m : Int), vs = [.ref b, .int m] ∧ H b = some (.lst [.int x, .int y]) ∧ 0 < m ∧ m < 1073741824 ∧ ∀ r x' y', 0 ≤ r → r < m → Q (.int r) (upd H b (.lst [.int x', .int y']))
theorem ok__law_choose (T : Txt K mg d) : FnR P w K mg base CX0 1 d.f__law_choose sp_choose := by
  refine mkR T.F__law_choose sc__law_choose (fun vs H Q E h => ?_) (fun _ _ _ _ _ _ us hl => match us, hl with | [_, _], _ => rfl) (fun cdv A outer s H vs Q E hr h => ?_)
  · obtain ⟨_, _, _, _, rfl, _⟩ := h
    rfl
  · obtain ⟨b, x, y, m, rfl, hb, hm, hm2, q⟩ := h
    refine ⟨_, (pss_cons (ps_if (pt_cmpR op_gt (pe_ix ix_list (pv 0) pe_int (fun _ _ => rfl)) pe_int (nomark _)) (pss_cons (ps_set (i := 3) sc__law_choose.nd rfl (by first | exact Or.inl rfl | exact Or.inr rfl) (pe_op op_mod (pe_callTy call_int1 rfl T.b_int (by decide +kernel) (pa_cons (pe_ix ix_list (pv 0) pe_int (fun _ _ => rfl)) pa_nil)) (pv 1))) (pss_cons (ps_asg (pe_op op_fdiv (pe_ix ix_list (pv 0) pe_int (fun _ _ => rfl)) (pv 1)) (pg_sub (pv 0) pe_int set_list)) (pss_one (ps_ret (pv 3))))) pss_nil) (pss_cons (ps_set (i := 2) sc__law_choose.nd rfl (by first | exact Or.inl rfl | exact Or.inr rfl) (pe_op op_mod (pe_callTy call_int1 rfl T.b_int (by decide +kernel) (pa_cons (pe_op op_add (pe_op op_mul (pe_ix ix_list (pv 0) pe_int (fun _ _ => rfl)) pe_int) pe_int) pa_nil)) pe_int)) (pss_cons (ps_asg (pe_op op_add (pe_op op_mod (pe_callTy call_int1 rfl T.b_int (by decide +kernel) (pa_cons (pe_op op_add (pe_op op_mul (pv 2) pe_int) pe_int) pa_nil)) pe_int) pe_int) (pg_sub (pv 0) pe_int set_list)) (pss_one (ps_ret (pe_op op_mod (pe_callTy call_int1 rfl T.b_int (by decide +kernel) (pa_cons (pe_op op_fdiv (pe_op op_add (pe_op op_mul (pv 2) pe_int) (pe_ix ix_list (pv 0) pe_int (fun _ _ => rfl))) pe_int) pa_nil)) (pv 1))))))), ?_⟩
    refine ⟨_, rfl, b, _, _, _, rfl, rfl, .inl (.inl hb), atI_nat (j := 0) rfl, _, _, rfl, rfl, _, rfl, ?_⟩
    refine ite2 (fun _ => ?_) (fun _ => ?_)
    · refine ⟨_, rfl, b, _, _, _, rfl, rfl, .inl (.inl hb), atI_nat (j := 0) rfl, .inl ⟨_, rfl, _, rfl, _, _, rfl, rfl, hm, ?_⟩⟩
      refine ⟨_, rfl, b, _, _, _, rfl, rfl, .inl (.inl hb), atI_nat (j := 0) rfl, _, rfl, _, _, rfl, rfl, ⟨hm, hm2⟩, ?_⟩
      refine ⟨_, rfl, b, _, _, 0, rfl, rfl, hb, rfl, ?_⟩
      refine ⟨_, rfl, ?_⟩
      exact q _ _ _ (Int.emod_nonneg _ (by omega)) (Int.emod_lt_of_pos _ hm)
    · refine ⟨_, rfl, b, _, _, _, rfl, rfl, .inl (.inl hb), atI_nat (j := 1) rfl, _, _, rfl, rfl, .inr ⟨by decide, by decide⟩, _, _, rfl, rfl, .inl ⟨_, rfl, _, _, rfl, rfl, (by show (0 : Int) < 2147483563; decide), ?_⟩⟩
      refine ⟨_, rfl, _, _, rfl, rfl, .inr ⟨by decide, by decide⟩, _, _, rfl, rfl, .inl ⟨_, rfl, _, _, rfl, rfl, (by show (0 : Int) < 2147483629; decide), _, _, rfl, rfl, ?_⟩⟩
      refine ⟨_, rfl, b, _, _, 1, rfl, rfl, hb, rfl, ?_⟩
      refine ⟨_, rfl, _, _, rfl, rfl, .inr ⟨by decide, by decide⟩, _, rfl, b, _, _, _, rfl, rfl, .inl (.inl upd_same), atI_nat (j := 1) rfl, _, _, rfl, rfl, _, _, rfl, rfl, ⟨by decide, by decide⟩, .inl ⟨_, rfl, _, rfl, _, _, rfl, rfl, hm, ?_⟩⟩
      exact q _ _ _ (Int.emod_nonneg _ (by omega)) (Int.emod_lt_of_pos _ hm)
end
end DD

set_option Elab.async false
set_option linter.all false
set_option maxRecDepth 100000
set_option maxHeartbeats 2000000
namespace DD
open PySem PySem.Spec PyProof.Rows L2 StX
/-! ### texts -/
abbrev intT (i : Int) : Str := Str.ofString (toString i)
theorem len_app {x y : Str} {n m : Nat} (hx : x.length ≤ n) (hy : y.length ≤ m) : (x ++ y).length ≤ n + m := by
  rw [Str.length_append]
  omega
theorem len_int {i : Int} (h0 : 0 ≤ i) (h : i ≤ 1000) : (intT i).length ≤ 5 := by
  have e := int_text_length_le10 (a := i) (k := 4) (by decide) (by omega)
  show (Str.ofString (toString i)).length ≤ 5
  rw [PySem.ofString_length]
  omega
theorem log_int {i : Int} (h0 : 0 ≤ i) (h : i ≤ 1000) : i.natAbs.log2 < 1920 := by
  have := Nat.log2_le_self i.natAbs
  omega
def mtText (m : Mt) : Str := if m.2.2 = true then Str.empty ++ intT m.1 ++ ("-" : Str) ++ intT m.2.1 ++ (" private" : Str) else Str.empty ++ intT m.1 ++ ("-" : Str) ++ intT m.2.1
def mtsText (ms : List Mt) : Str := if ms.length = 0 then "-" else Txt.join (", " : Str) (ms.map mtText)
def dayText (n : Int) (ms : List Mt) : Str := Str.empty ++ intT n ++ (": " : Str) ++ mtsText ms
def MtIn (m : Mt) : Prop := 0 ≤ m.1 ∧ m.1 ≤ 1000 ∧ 0 ≤ m.2.1 ∧ m.2.1 ≤ 1000
theorem le0 : Str.empty.length ≤ 0 := by decide
theorem le1 : ("-" : Str).length ≤ 1 := by decide +kernel
theorem le8 : (" private" : Str).length ≤ 8 := by decide +kernel
theorem le2 : (": " : Str).length ≤ 2 := by decide +kernel
theorem le2c : (", " : Str).length ≤ 2 := by decide +kernel
theorem mtText_len {m : Mt} (h : MtIn m) : (mtText m).length ≤ 19 := by
  obtain ⟨a, b, c, e⟩ := h
  have h3 := len_app (len_app (len_app le0 (len_int a b)) le1) (len_int c e)
  unfold mtText
  split
  · exact len_app h3 le8
  · omega
theorem sum_le {α : Type} {f : α → Nat} {k : Nat} : ∀ {xs : List α}, (∀ x ∈ xs, f x ≤ k) → (xs.map f).sum ≤ xs.length * k
  | [], _ => by simp
  | x :: xs, h => by
    have h1 := h x (List.mem_cons_self ..)
    have h2 := sum_le (xs := xs) fun y hy => h y (List.mem_cons_of_mem _ hy)
    simp only [List.map_cons, List.sum_cons, List.length_cons, Nat.add_mul]
    omega
theorem good_in {n : Int} {ms : List Mt} (O : DayOk n ms) : ∀ m ∈ ms, MtIn m := fun m hm => by
  obtain ⟨i, hi, e⟩ := List.mem_iff_getElem.mp hm
  obtain ⟨a, b, c⟩ := good_at O.g (i := i) (m := m) (by rw [List.getElem?_eq_getElem hi, e])
  have := O.hi
  exact ⟨a, by omega, by omega, by omega⟩
section
variable {P : Program} {w : World} {K : PySem.W.Frag} {mg : Str → Option Value} {base : Heap} {d : Ad}
def sp_meeting_text : Sp := fun vs H Q _ => ∃ v m, vs = [v] ∧ IsMt H v m ∧ MtIn m ∧ Q (.str (mtText m)) H
theorem ok__meeting_text (T : Txt K mg d) : FnR P w K mg base CX0 1 d.f__meeting_text sp_meeting_text := by
  refine mkR T.F__meeting_text sc__meeting_text (fun vs H Q E h => ?_) (fun _ _ _ _ _ _ us hl => match us, hl with | [_], _ => rfl) (fun cdv A outer s H vs Q E hr h => ?_)
  · obtain ⟨_, _, rfl, _⟩ := h
    rfl
  · obtain ⟨v, ⟨b, e, p⟩, rfl, ⟨a, rfl, ha⟩, ⟨i1, i2, i3, i4⟩, q⟩ := h
    refine ⟨_, (pss_cons (ps_asg (pv 0) (pg_tup rfl (pgs_cons (pg_name (i := 1) sc__meeting_text.nd rfl (by first | exact Or.inl rfl | exact Or.inr rfl)) (pgs_cons (pg_name (i := 2) sc__meeting_text.nd rfl (by first | exact Or.inl rfl | exact Or.inr rfl)) (pgs_cons (pg_name (i := 3) sc__meeting_text.nd rfl (by first | exact Or.inl rfl | exact Or.inr rfl)) pgs_nil))))) (pss_cons (ps_if (pt_val (pv 3)) (pss_one (ps_ret (pe_joined (PJ.cons (pe_fmt (pv 1)) (PJ.cons pe_str (PJ.cons (pe_fmt (pv 2)) (PJ.cons pe_str PJ.nil))))))) pss_nil) (pss_one (ps_ret (pe_joined (PJ.cons (pe_fmt (pv 1)) (PJ.cons pe_str (PJ.cons (pe_fmt (pv 2)) PJ.nil)))))))), ?_⟩
    refine ⟨_, rfl, a, _, rfl, .inl (.inl ha), rfl, _, _, rfl, _, _, rfl, _, _, rfl, rfl, ?_⟩
    refine ⟨_, rfl, _, rfl, ?_⟩
    have l1 := len_app le0 (len_int i1 i2)
    have l2 := len_app l1 le1
    have l3 := len_app l2 (len_int i3 i4)
    have l4 := len_app l3 le8
    have e0 : mtText (b, e, p) = if p = true then Str.empty ++ intT b ++ ("-" : Str) ++ intT e ++ (" private" : Str) else Str.empty ++ intT b ++ ("-" : Str) ++ intT e := rfl
    rw [e0] at q
    cases p with
    | true =>
      refine iteT ?_
      refine ⟨_, rfl, .inr ⟨b, rfl, log_int i1 i2, _, rfl, sz (Nat.le_trans l1 (by decide)), _, rfl, sz (Nat.le_trans l2 (by decide)), _, rfl, .inr ⟨e, rfl, log_int i3 i4, _, rfl, sz (Nat.le_trans l3 (by decide)), _, rfl, sz (Nat.le_trans l4 (by decide)), ?_⟩⟩⟩
      exact q
    | false =>
      refine iteF ?_
      refine ⟨_, rfl, .inr ⟨b, rfl, log_int i1 i2, _, rfl, sz (Nat.le_trans l1 (by decide)), _, rfl, sz (Nat.le_trans l2 (by decide)), _, rfl, .inr ⟨e, rfl, log_int i3 i4, _, rfl, sz (Nat.le_trans l3 (by decide)), ?_⟩⟩⟩
      exact q
def sp_meetings_text (K : PySem.W.Frag) : Sp := fun vs H Q _ => ∃ (a : Addr) (ws : List V) (ms : List Mt), vs = [.ref a] ∧ SqT K H a ws ∧ IsMts H ws ms ∧ (∀ m ∈ ms, MtIn m) ∧ ms.length ≤ 1000 ∧ ∀ H', Same H H' → Q (.str (mtsText ms)) H'
theorem ok__meetings_text (T : Txt K mg d) : FnR P w K mg base CX0 2 d.f__meetings_text (sp_meetings_text K) := by
  refine mkR T.F__meetings_text sc__meetings_text (fun vs H Q E h => ?_) (fun _ _ _ _ _ _ us hl => match us, hl with | [_], _ => rfl) (fun cdv A outer s H vs Q E hr h => ?_)
  · obtain ⟨_, _, _, rfl, _⟩ := h
    rfl
  · obtain ⟨a, ws, ms, rfl, hT, hm, hin, hl, q⟩ := h
    have h1 := hm.1
    refine ⟨_, (pss_cons (ps_if (pt_cmpR op_eq (pe_callB call_len_seq (by rfl) T.b_len PySem.boot_len (pa_cons (pv 0) pa_nil)) pe_int (nomark _)) (pss_one (ps_ret pe_str)) pss_nil) (pss_one (ps_ret (pe_bm PySem.F.plainAttrs_str PySem.F.slot_str_join PySem.F.type_str_join mt_join pe_str (pa_cons (pe_lc (own := [("meeting", 1)]) rfl sc__meetings_text.nd (pi_tup (pv 0)) (blkOk_by (N := ["meetings", "meeting"]) (sc := defScope s__meetings_text) (by decide +kernel)) (fun _ _ _ _ _ => (pg_name (i := 1) sc__meetings_text.nd rfl (by first | exact Or.inl rfl | exact Or.inr rfl))) (fun _ _ _ _ _ => pts_nil) (fun _ _ _ _ _ => (pe_callR (ok__meeting_text T) (hr.mono (by decide)) rfl T.m__meeting_text T.k__meeting_text pass0 (pa_cons (pv 1) pa_nil)))) pa_nil))))), ?_⟩
    refine ⟨_, rfl, a, ws, rfl, .inr hT, rfl, _, rfl, ?_⟩
    by_cases hz : ms.length = 0
    · rw [decide_eq_true (show V.int (ws.length : Int) = V.int 0 by rw [h1, hz]; rfl)]
      refine iteT ?_
      have q2 := q H (Same.refl H)
      unfold mtsText at q2
      rw [if_pos hz] at q2
      exact q2
    · rw [decide_eq_false (fun e : V.int (ws.length : Int) = V.int 0 => hz (by have := V.int.inj e; omega))]
      refine iteF ?_
      refine ⟨rfl, _, rfl, a, rfl, ⟨ws, hT⟩, fun D nD => ?_⟩
      have sD : Same H (upd H D (.lst [])) := Same.new nD
      refine lc_tup (K := K) (a := a) (xs := ws) (fun i H2 => Same H H2 ∧ H2 D = some (.lst (((ms.take i).map mtText).map V.str))) ⟨sD, upd_same⟩ (fun i H2 _ h2 => Same.tup h2.1 hT) ?_ ?_
      · rintro i x H2 hx ⟨s2, h2⟩
        obtain ⟨m, hm1, hm2⟩ := hm.get hx
        have e1 : ms.take (i + 1) = ms.take i ++ [m] := take_snoc hm1
        have mi : m ∈ ms := List.mem_of_getElem? hm1
        refine ⟨rfl, ?_⟩
        refine ⟨_, rfl, x, m, rfl, hm2.mono s2, hin m mi, ?_⟩
        refine ⟨_, h2, ?_, ?_, ?_⟩
        · rw [List.length_map, List.length_map, List.length_take]
          exact small1000 (by omega)
        · intro c o e
          rw [upd_ne (ne_of_none e nD)]
          exact s2 c o e
        · rw [upd_same, e1, List.map_append, List.map_append]
          rfl
      · rintro H2 ⟨s2, h2⟩
        rw [h1, List.take_length] at h2
        refine ⟨_, D, ms.map mtText, rfl, rfl, .inl (.inl (.inl h2)), ?_, ?_⟩
        · have e1 := sum_le (f := fun m => (mtText m).length) (k := 19) (xs := ms) fun m hm => mtText_len (hin m hm)
          have e2 := le2c
          rw [List.map_map, List.length_map]
          have e3 : ms.length * (", " : Str).length ≤ ms.length * 2 := Nat.mul_le_mul_left _ e2
          show (ms.map fun m => (mtText m).length).sum + _ ≤ _
          omega
        · have q2 := q H2 s2
          unfold mtsText at q2
          rw [if_neg hz] at q2
          exact q2
theorem join_len {s : Str} {xs : List Str} : (Txt.join s xs).length ≤ (xs.map (·.length)).sum + xs.length * s.length := by
  rw [show Txt.join s xs = Str.join s xs from StrLaws.glued_eq_join s xs]
  exact StrLaws.join_length_le s xs
theorem mtsText_len {ms : List Mt} (hin : ∀ m ∈ ms, MtIn m) (hl : ms.length ≤ 1000) : (mtsText ms).length ≤ 21000 := by
  unfold mtsText
  split
  · exact Nat.le_trans le1 (by decide)
  · have e1 := sum_le (f := fun m => (mtText m).length) (k := 19) (xs := ms) fun m hm => mtText_len (hin m hm)
    have e2 := join_len (s := (", " : Str)) (xs := ms.map mtText)
    rw [List.map_map, List.length_map] at e2
    have e3 : ms.length * (", " : Str).length ≤ ms.length * 2 := Nat.mul_le_mul_left _ le2c
    have e4 : (ms.map ((fun x => x.length) ∘ mtText)).sum = (ms.map fun m => (mtText m).length).sum := rfl
    omega
def sp_Day_str (d : Ad) (K : PySem.W.Frag) : Sp := fun vs H Q _ => ∃ (v : V) (n : Int) (ms : List Mt), vs = [v] ∧ IsDay d K H v n ms ∧ DayOk n ms ∧ ∀ H', Same H H' → Q (.str (dayText n ms)) H'
theorem ok_Day___str__ (T : Txt K mg d) : FnR P w K mg base CX0 3 d.f_Day___str__ (sp_Day_str d K) := by
  refine mkR T.F_Day___str__ sc_Day___str__ (fun vs H Q E h => ?_) (fun _ _ _ _ _ _ us hl => match us, hl with | [_], _ => rfl) (fun cdv A outer s H vs Q E hr h => ?_)
  · obtain ⟨_, _, _, rfl, _⟩ := h
    rfl
  · obtain ⟨v, n, ms, rfl, ⟨a, dx, t, vs, rfl, ha, ht, hm⟩, O, q⟩ := h
    have i1 : 0 ≤ n := by have := O.lo; omega
    have l1 := len_app le0 (len_int i1 O.hi)
    have l2 := len_app l1 le2
    have l3 := len_app l2 (mtsText_len (good_in O) (mts_len O))
    refine ⟨_, (pss_one (ps_ret (pe_joined (PJ.cons (pe_fmt (pe_fld (pv 0) rfl)) (PJ.cons pe_str (PJ.cons (pe_fmt (pe_callR (ok__meetings_text T) (hr.mono (by decide)) rfl T.m__meetings_text T.k__meetings_text pass0 (pa_cons (pe_fld (pv 0) rfl) pa_nil))) PJ.nil)))))), ?_⟩
    refine ⟨_, rfl, a, _, dx, _, _, rfl, ha, T.cl_Day, T.na_Day_length, lkD_length, .inr ⟨n, rfl, log_int i1 O.hi, _, rfl, sz (Nat.le_trans l1 (by decide)), _, rfl, sz (Nat.le_trans l2 (by decide)), ?_⟩⟩
    refine ⟨_, rfl, a, _, dx, _, _, rfl, ha, T.cl_Day, T.na_Day_meetings, lkD_meetings, t, vs, ms, rfl, ht, hm, good_in O, mts_len O, fun H' s1 => ?_⟩
    exact .inl ⟨_, rfl, sz (Nat.le_trans (mtsText_len (good_in O) (mts_len O)) (by decide)), _, rfl, sz (Nat.le_trans l3 (by decide)), q H' s1⟩
end
end DD

set_option Elab.async false
set_option linter.all false
set_option maxRecDepth 100000
set_option maxHeartbeats 2000000
namespace DD
open PySem PySem.Spec PyProof.Rows L2 StX
/-! ### what a draw leaves as it was -/
def SameX (b : Addr) (H H' : Hp) : Prop := ∀ c o, H c = some o → c ≠ b → H' c = some o
def Imm (H H' : Hp) : Prop := ∀ c o, H c = some o → (∀ xs, o ≠ .lst xs) → H' c = some o
theorem SameX.refl {b : Addr} {H : Hp} : SameX b H H := fun _ _ h _ => h
theorem SameX.of {b : Addr} {H H' : Hp} (e : Same H H') : SameX b H H' := fun c o h _ => e c o h
theorem SameX.trans {b : Addr} {H H1 H2 : Hp} (e : SameX b H H1) (f : SameX b H1 H2) : SameX b H H2 := fun c o h n => f c o (e c o h n) n
theorem SameX.upd {b : Addr} {H : Hp} {o : HO} : SameX b H (upd H b o) := fun c u h n => by rw [upd_ne n]; exact h
theorem Imm.of {H H' : Hp} (e : Same H H') : Imm H H' := fun c o h _ => e c o h
theorem Imm.refl {H : Hp} : Imm H H := fun _ _ h _ => h
theorem Imm.trans {H H1 H2 : Hp} (e : Imm H H1) (f : Imm H1 H2) : Imm H H2 := fun c o h n => f c o (e c o h n) n
theorem SameX.imm {b : Addr} {H H' : Hp} {xs : List V} (e : SameX b H H') (hb : H b = some (.lst xs)) : Imm H H' := fun c o h n => e c o h fun z => by
  subst z
  rw [hb] at h
  exact n xs (Option.some.inj h).symm
/-- a list is written -/
theorem Imm.upd {l : Addr} {H : Hp} {xs : List V} {o : HO} (hl : H l = some (.lst xs)) : Imm H (L2.upd H l o) := SameX.imm SameX.upd hl
theorem Imm.tup {K : PySem.W.Frag} {H H' : Hp} {a : Addr} {xs : List V} (e : Imm H H') (h : SqT K H a xs) : SqT K H' a xs := by
  rcases h with (h | ⟨o, h⟩) | h
  · exact .inl (.inl (e _ _ h fun _ z => nomatch z))
  · exact .inl (.inr ⟨o, e _ _ h fun _ z => nomatch z⟩)
  · exact .inr h
theorem IsMt.imm {H H' : Hp} {v : V} {m : Mt} (e : Imm H H') (x : IsMt H v m) : IsMt H' v m := by
  obtain ⟨a, e1, e2⟩ := x
  exact ⟨a, e1, e _ _ e2 fun _ z => nomatch z⟩
theorem IsMts.imm {H H' : Hp} {vs : List V} {ms : List Mt} (e : Imm H H') (x : IsMts H vs ms) : IsMts H' vs ms := ⟨x.1, fun i v m h1 h2 => (x.2 i v m h1 h2).imm e⟩
theorem IsDay.imm {d : Ad} {K : PySem.W.Frag} {H H' : Hp} {v : V} {n : Int} {ms : List Mt} (e : Imm H H') (x : IsDay d K H v n ms) : IsDay d K H' v n ms := by
  obtain ⟨a, dx, t, vs, e1, e2, e3, e4⟩ := x
  exact ⟨a, dx, t, vs, e1, e _ _ e2 (fun _ z => nomatch z), e.tup e3, e4.imm e⟩
def IsBox (H : Hp) (b : Addr) : Prop := ∃ x y : Int, H b = some (.lst [.int x, .int y])
theorem IsBox.same {H H' : Hp} {b : Addr} (e : Same H H') (h : IsBox H b) : IsBox H' b := by
  obtain ⟨x, y, h⟩ := h
  exact ⟨x, y, e _ _ h⟩
theorem IsBox.new {H : Hp} {b : Addr} {x y : Int} : IsBox (upd H b (.lst [.int x, .int y])) b := ⟨x, y, upd_same⟩
theorem IsBox.imm {H H' : Hp} {b : Addr} (h : IsBox H b) (e : SameX b H H') : Imm H H' := by
  obtain ⟨x, y, h⟩ := h
  exact e.imm h
/-- a list of meetings is no box -/
theorem mts_ne {H : Hp} {b l : Addr} {ws : List V} {ms : List Mt} (hb : IsBox H b) (hl : H l = some (.lst ws)) (hm : IsMts H ws ms) : l ≠ b := by
  rintro rfl
  obtain ⟨x, y, hb⟩ := hb
  rw [hl] at hb
  have e := HO.lst.inj (Option.some.inj hb)
  subst e
  obtain ⟨m, _, a, e1, _⟩ := hm.get (i := 0) rfl
  cases e1
section
variable {P : Program} {w : World} {K : PySem.W.Frag} {mg : Str → Option Value} {base : Heap} {d : Ad}
/-- one of a list -/
def sp_one_of : Sp := fun vs H Q _ => ∃ (b l : Addr) (xs : List V), vs = [.ref b, .ref l] ∧ IsBox H b ∧ H l = some (.lst xs) ∧ l ≠ b ∧ xs ≠ [] ∧ xs.length ≤ 1000 ∧ ∀ (i : Nat) v H', xs[i]? = some v → SameX b H H' → IsBox H' b → Q v H'
theorem ok__law_one_of (T : Txt K mg d) : FnR P w K mg base CX0 2 d.f__law_one_of sp_one_of := by
  refine mkR T.F__law_one_of sc__law_one_of (fun vs H Q E h => ?_) (fun _ _ _ _ _ _ us hl => match us, hl with | [_, _], _ => rfl) (fun cdv A outer s H vs Q E hr h => ?_)
  · obtain ⟨_, _, _, rfl, _⟩ := h
    rfl
  · obtain ⟨b, l, xs, rfl, ⟨x, y, hb⟩, hl, ne, h0, hz, q⟩ := h
    have h1 : 0 < xs.length := List.length_pos_iff.mpr h0
    refine ⟨_, (pss_one (ps_ret (pe_ix ix_list (pv 1) (pe_callR (ok__law_choose T) (hr.mono (by decide)) rfl T.m__law_choose T.k__law_choose pass0 (pa_cons (pv 0) (pa_cons (pe_callB call_len_seq (by rfl) T.b_len PySem.boot_len (pa_cons (pv 1) pa_nil)) pa_nil))) (fun _ _ => rfl)))), ?_⟩
    refine ⟨_, rfl, _, rfl, _, rfl, l, xs, rfl, .inl (.inl (.inl hl)), b, x, y, _, rfl, hb, by omega, by omega, fun r x' y' r0 r1 => ?_⟩
    obtain ⟨j, rfl⟩ : ∃ j : Nat, r = (j : Int) := ⟨r.toNat, by omega⟩
    have hr1 : j < xs.length := by omega
    exact ⟨l, xs, _, xs[j], rfl, rfl, .inl (.inl (by rw [upd_ne ne]; exact hl)), atI_nat (List.getElem?_eq_getElem hr1), q j _ _ (List.getElem?_eq_getElem hr1) SameX.upd IsBox.new⟩
theorem ints_get {ns : List Int} {j : Nat} {v : V} (h : (ns.map V.int)[j]? = some v) : ∃ z ∈ ns, v = .int z := by
  rw [List.getElem?_map] at h
  obtain ⟨z, h1, h2⟩ := Option.map_eq_some_iff.mp h
  exact ⟨z, List.mem_of_getElem? h1, h2.symm⟩
/-! ### a drawn day -/
def lastE : Int → List Mt → Int
  | a, [] => a
  | _, m :: ms => lastE m.2.1 ms
theorem good_snoc {n : Int} {m : Mt} : ∀ {a : Int} {ms : List Mt}, good n a ms = true → mtOk m = true → lastE a ms ≤ m.1 → m.2.1 ≤ n → good n a (ms ++ [m]) = true
  | a, [], _, h1, h2, h3 => by
    simp only [lastE] at h2
    simp only [List.nil_append, good, h1, Bool.true_and, Bool.and_true, Bool.and_eq_true, Bool.not_eq_true', decide_eq_false_iff_not]
    omega
  | a, k :: ms, h, h1, h2, h3 => by
    simp only [good, Bool.and_eq_true] at h
    have ih := good_snoc (ms := ms) h.2 h1 h2 h3
    show (mtOk k && !decide (k.1 < a) && !decide (n < k.2.1) && good n k.2.1 (ms ++ [m])) = true
    rw [ih, Bool.and_eq_true, Bool.and_eq_true, Bool.and_eq_true]
    exact ⟨h.1, rfl⟩
theorem lastE_snoc {m : Mt} : ∀ {a : Int} {ms : List Mt}, lastE a (ms ++ [m]) = m.2.1
  | _, [] => rfl
  | _, _ :: ms => lastE_snoc (ms := ms)
def sp_law_day : Sp := fun vs H Q _ => ∃ (b : Addr) (top : Int) (sec : Bool), vs = [.ref b, .int top, .bl sec] ∧ IsBox H b ∧ 0 < top ∧ top ≤ 1000 ∧ ∀ (t l : Addr) (n : Int) (ws : List V) (ms : List Mt) (H' : Hp), SameX b H H' → IsBox H' b → H' t = some (.tup [.int n, .ref l]) → H' l = some (.lst ws) → H l = none → IsMts H' ws ms → DayOk n ms → n ≤ top → Q (.ref t) H'
theorem ok__law_day (T : Txt K mg d) : FnR P w K mg base CX0 3 d.f__law_day sp_law_day := by
  refine mkR T.F__law_day sc__law_day (fun vs H Q E h => ?_) (fun _ _ _ _ _ _ us hl => match us, hl with | [_, _, _], _ => rfl) (fun cdv A outer s H vs Q E hr h => ?_)
  · obtain ⟨_, _, _, rfl, _⟩ := h
    rfl
  · obtain ⟨b, top, sec, rfl, hb, h0, h1, q⟩ := h
    refine ⟨_, (pss_cons (ps_par3 (i := 4) (j := 5) (l := 6) rfl sc__law_day.nd rfl rfl rfl (by decide) (by decide) (by decide) rfl rfl rfl (pa_cons (pe_op op_add pe_int (pe_callR (ok__law_choose T) (hr.mono (by decide)) rfl T.m__law_choose T.k__law_choose pass0 (pa_cons (pv 0) (pa_cons (pv 1) pa_nil)))) (pa_cons (pe_lst pa_nil) (pa_cons pe_int pa_nil))) (by rfl)) (pss_cons (ps_for PassesOwn.never rfl (pi_range1 rfl T.b_range (pa_cons pe_int pa_nil)) (pg_name (i := 3) sc__law_day.nd rfl (by first | exact Or.inl rfl | exact Or.inr rfl)) (pss_cons (ps_set (i := 7) sc__law_day.nd rfl (by first | exact Or.inl rfl | exact Or.inr rfl) (pe_op op_add (pv 6) (pe_callR (ok__law_one_of T) (hr.mono (by decide)) rfl T.m__law_one_of T.k__law_one_of pass0 (pa_cons (pv 0) (pa_cons (pe_lst (pa_cons pe_int (pa_cons pe_int (pa_cons pe_int (pa_cons pe_int (pa_cons pe_int (pa_cons pe_int (pa_cons pe_int pa_nil)))))))) pa_nil))))) (pss_cons (ps_set (i := 8) sc__law_day.nd rfl (by first | exact Or.inl rfl | exact Or.inr rfl) (pe_op op_add (pv 7) (pe_callR (ok__law_one_of T) (hr.mono (by decide)) rfl T.m__law_one_of T.k__law_one_of pass0 (pa_cons (pv 0) (pa_cons (pe_lst (pa_cons pe_int (pa_cons pe_int (pa_cons pe_int (pa_cons pe_int (pa_cons pe_int (pa_cons pe_int pa_nil))))))) pa_nil))))) (pss_one (ps_if (pt_cmpR op_le (pv 8) (pv 4) (nomark _)) (pss_cons (ps_expr (pe_bm PySem.F.plainAttrs_list PySem.F.slot_list_append PySem.F.type_list_append mt_append (pv 5) (pa_cons (pe_tup (pa_cons (pv 7) (pa_cons (pv 8) (pa_cons (pe_and (pv 2) (pe_one (pe_cmpR op_eq (pe_callR (ok__law_choose T) (hr.mono (by decide)) rfl T.m__law_choose T.k__law_choose pass0 (pa_cons (pv 0) (pa_cons pe_int pa_nil))) pe_int (nomark _)))) pa_nil)))) pa_nil))) (pss_one (ps_set (i := 6) sc__law_day.nd rfl (by first | exact Or.inl rfl | exact Or.inr rfl) (pv 8)))) pss_nil))))) (pss_one (ps_ret (pe_tup (pa_cons (pv 4) (pa_cons (pv 5) pa_nil))))))), ?_⟩
    obtain ⟨x, y, hb0⟩ := id hb
    refine ⟨_, rfl, _, rfl, b, x, y, top, rfl, hb0, h0, by omega, fun r x' y' r0 r1 => ⟨_, _, rfl, rfl, ?_⟩⟩
    refine ⟨(by show 0 ≤ sizeLine; decide), fun l nl => ?_⟩
    have nlH : H l = none := by
      rw [upd_ne (ne_of_none (H := upd H b (.lst [.int x', .int y'])) upd_same nl).symm] at nl
      exact nl
    have bx1 : IsBox (upd (upd H b (.lst [.int x', .int y'])) l (.lst [])) b := IsBox.same (Same.new nl) IsBox.new
    have e1 : SameX b H (upd (upd H b (.lst [.int x', .int y'])) l (.lst [])) := SameX.upd.trans (.of (Same.new nl))
    have hn : 1 + r ≤ top := by omega
    generalize hH1 : upd (upd H b (HO.lst [V.int x', V.int y'])) l (HO.lst []) = H1 at bx1 e1
    have hl1 : H1 l = some (.lst []) := by rw [← hH1]; exact upd_same
    refine ⟨_, _, _, rfl, 8, rfl, by decide, by decide, ?_⟩
    refine for_range (n := 8) (fun i σ H2 => ∃ s3 s7 s8 last ws ms, σ = [some (.ref b), some (.int top), some (.bl sec), s3, some (.int (1 + r)), some (.ref l), some (.int last), s7, s8] ∧ SameX b H H2 ∧ IsBox H2 b ∧ H2 l = some (.lst ws) ∧ IsMts H2 ws ms ∧ good (1 + r) 0 ms = true ∧ last = lastE 0 ms ∧ 0 ≤ last ∧ last ≤ 1 + r ∧ ws.length ≤ i)
      ⟨_, _, _, 0, [], [], rfl, e1, bx1, hl1, .nil, rfl, rfl, by decide, by omega, Nat.le_refl _⟩ ?_ ?_
    · rintro i σ H2 hi ⟨s3, s7, s8, last, ws, ms, rfl, e2, bx2, hl2, hm2, hg, hlast, l0, l1, hwl⟩
      -- _law_begin
      refine ⟨_, rfl, _, rfl, (by show 7 ≤ sizeLine; decide), fun p np => ?_⟩
      have sp2 := Same.new (o := .lst (([0, 0, 1, 1, 2, 3, 5] : List Int).map V.int)) np
      have bxp := bx2.same sp2
      have pb : p ≠ b := by
        obtain ⟨x2, y2, hb2⟩ := bx2
        exact (ne_of_none hb2 np).symm
      refine ⟨b, p, _, rfl, bxp, upd_same, pb, List.cons_ne_nil _ _, (by show 7 ≤ 1000; decide), fun j v H3 hv e3 bx3 => ?_⟩
      obtain ⟨z, hz, rfl⟩ := ints_get (ns := [0, 0, 1, 1, 2, 3, 5]) hv
      have z0 : 0 ≤ z := by simp at hz; omega
      refine ⟨_, _, rfl, rfl, ?_⟩
      -- _law_end
      refine ⟨_, rfl, _, rfl, (by show 6 ≤ sizeLine; decide), fun p4 np4 => ?_⟩
      have sp4 := Same.new (o := .lst (([1, 1, 2, 3, 4, 9] : List Int).map V.int)) np4
      have bxp4 := bx3.same sp4
      have pb4 : p4 ≠ b := by
        obtain ⟨x2, y2, hb2⟩ := bx3
        exact (ne_of_none hb2 np4).symm
      refine ⟨b, p4, _, rfl, bxp4, upd_same, pb4, List.cons_ne_nil _ _, (by show 6 ≤ 1000; decide), fun j4 v4 H5 hv4 e5 bx5 => ?_⟩
      obtain ⟨z4, hz4, rfl⟩ := ints_get (ns := [1, 1, 2, 3, 4, 9]) hv4
      have z40 : 1 ≤ z4 := by simp at hz4; omega
      refine ⟨_, _, rfl, rfl, ?_⟩
      have e25 : SameX b H2 H5 := (SameX.of sp2).trans (e3.trans ((SameX.of sp4).trans e5))
      have lb : l ≠ b := mts_ne bx2 hl2 hm2
      have hl5 : H5 l = some (.lst ws) := e25 _ _ hl2 lb
      have hm5 : IsMts H5 ws ms := hm2.imm (bx2.imm e25)
      have e05 := e2.trans e25
      -- if _law_end <= _law_size
      refine ⟨_, rfl, _, rfl, _, _, rfl, rfl, _, rfl, ?_⟩
      refine ite2 (fun hc => ?_) (fun _ => ?_)
      · have hc := of_decide_eq_true hc
        refine ⟨_, rfl, .inl ⟨rfl, ws, .inl (.inl hl5)⟩, _, rfl, _, rfl, _, rfl, sec, rfl, ?_⟩
        have fin : ∀ (f : Bool) (H6 : Hp), SameX b H5 H6 → IsBox H6 b → ∀ p6, H6 p6 = none →
            ∃ s3' s7' s8' last' ws' ms', ([some (V.ref b), some (V.int top), some (V.bl sec), some (V.int (0 + i)), some (V.int (1 + r)), some (V.ref l), some (V.int (last + z + z4)), some (V.int (last + z)), some (V.int (last + z + z4))] : L2.St) = [some (.ref b), some (.int top), some (.bl sec), s3', some (.int (1 + r)), some (.ref l), some (.int last'), s7', s8'] ∧
              SameX b H (upd (upd H6 p6 (.tup [.int (last + z), .int (last + z + z4), .bl f])) l (.lst (ws ++ [.ref p6]))) ∧ IsBox (upd (upd H6 p6 (.tup [.int (last + z), .int (last + z + z4), .bl f])) l (.lst (ws ++ [.ref p6]))) b ∧ (upd (upd H6 p6 (.tup [.int (last + z), .int (last + z + z4), .bl f])) l (.lst (ws ++ [.ref p6]))) l = some (.lst ws') ∧
              IsMts (upd (upd H6 p6 (.tup [.int (last + z), .int (last + z + z4), .bl f])) l (.lst (ws ++ [.ref p6]))) ws' ms' ∧ good (1 + r) 0 ms' = true ∧ last' = lastE 0 ms' ∧ 0 ≤ last' ∧ last' ≤ 1 + r ∧ ws'.length ≤ i + 1 := by
          intro f H6 e6 bx6 p6 np6
          have s6 := Same.new (o := .tup [.int (last + z), .int (last + z + z4), .bl f]) np6
          have hl6 : H6 l = some (.lst ws) := e6 _ _ hl5 lb
          have hl7 := s6 _ _ hl6
          have im : Imm H5 (upd (upd H6 p6 (.tup [.int (last + z), .int (last + z + z4), .bl f])) l (.lst (ws ++ [.ref p6]))) := (bx5.imm e6).trans ((Imm.of s6).trans (Imm.upd hl7))
          refine ⟨_, _, _, _, ws ++ [.ref p6], ms ++ [(last + z, last + z + z4, f)], rfl, ?_, ?_, upd_same, (hm5.imm im).append (.cons ⟨p6, rfl, ?_⟩ .nil), good_snoc hg ?_ ?_ hc, ?_, by omega, hc, by rw [List.length_append]; show _ + 1 ≤ _; omega⟩
          · intro c o h n
            have h6 := s6 _ _ (e6 _ _ (e05 _ _ h n) n)
            rw [upd_ne (ne_of_none h nlH)]
            exact h6
          · obtain ⟨x6, y6, h6⟩ := bx6
            exact ⟨x6, y6, by rw [upd_ne lb.symm]; exact s6 _ _ h6⟩
          · rw [upd_ne (ne_of (H := upd H6 p6 (.tup [.int (last + z), .int (last + z + z4), .bl f])) upd_same hl7 (by intro z; cases z))]
            exact upd_same
          · simp only [mtOk, Bool.and_eq_true, decide_eq_true_eq]
            omega
          · rw [← hlast]
            show last ≤ last + z
            omega
          · rw [lastE_snoc]
        cases sec with
        | false =>
          refine iteF ?_
          refine ⟨(by show 3 ≤ sizeLine; decide), fun p6 np6 => ?_⟩
          have s6 := Same.new (o := .tup [.int (last + z), .int (last + z + z4), .bl false]) np6
          refine ⟨l, ws, _, rfl, rfl, s6 _ _ hl5, small1000 (by omega), ?_⟩
          exact ⟨_, rfl, fin false H5 SameX.refl bx5 p6 np6⟩
        | true =>
          refine iteT ?_
          obtain ⟨x5, y5, hb5⟩ := id bx5
          refine ⟨_, rfl, b, x5, y5, 3, rfl, hb5, by decide, by decide, fun r6 x6 y6 r60 r61 => ⟨rfl, ?_⟩⟩
          refine ⟨(by show 3 ≤ sizeLine; decide), fun p6 np6 => ?_⟩
          have s6 := Same.new (o := .tup [.int (last + z), .int (last + z + z4), .bl (decide (V.int r6 = V.int 0))]) np6
          refine ⟨l, ws, _, rfl, rfl, s6 _ _ (by rw [upd_ne lb]; exact hl5), small1000 (by omega), ?_⟩
          exact ⟨_, rfl, fin (decide (V.int r6 = V.int 0)) _ SameX.upd IsBox.new p6 np6⟩
      · exact ⟨_, _, _, last, ws, ms, rfl, e05, bx5, hl5, hm5, hg, hlast, l0, l1, by omega⟩
    · rintro σ H2 ⟨s3, s7, s8, last, ws, ms, rfl, e2, bx2, hl2, hm2, hg, hlast, l0, l1, hwl⟩
      refine ⟨_, rfl, _, rfl, (by show 2 ≤ sizeLine; decide), fun p np => ?_⟩
      have s2 := Same.new (o := .tup [.int (1 + r), .ref l]) np
      exact q p l (1 + r) ws ms _ (e2.trans (.of s2)) (bx2.same s2) upd_same (s2 _ _ hl2) nlH (hm2.mono s2) ⟨by omega, by omega, hg⟩ hn
/-! ### meetings as data -/
def mtD (m : Mt) : PyData := .tuple [.int m.1, .int m.2.1, .bool m.2.2]
theorem dp_mts {H : Hp} : ∀ {vs : List V} {ms : List Mt}, IsMts H vs ms → DpAll K H vs (ms.map mtD)
  | [], [], _ => .nil
  | [], m :: ms, h => absurd h.1 (by simp)
  | v :: vs, [], h => absurd h.1 (by simp)
  | v :: vs, m :: ms, h => by
    obtain ⟨a, rfl, ha⟩ := h.2 0 v m rfl rfl
    refine .cons (.tup (.inl (.inl ha)) (.cons (.int _) (.cons (.int _) (.cons (.bl _) .nil)))) (dp_mts ⟨by simpa using h.1, fun i v' m' h1 h2 => h.2 (i + 1) v' m' h1 h2⟩)
theorem lay_mts : ∀ {ms : List Mt}, PyData.canLayAll0 (ms.map mtD) = true
  | [] => rfl
  | m :: ms => by
    show (PyData.canLay0 (mtD m) && PyData.canLayAll0 (ms.map mtD)) = true
    rw [lay_mts (ms := ms)]
    rfl
theorem depth_mts : ∀ {ms : List Mt}, PyData.depthAll (ms.map mtD) ≤ 1
  | [] => Nat.zero_le _
  | m :: ms => by
    show max (PyData.depth (mtD m)) (PyData.depthAll (ms.map mtD)) ≤ 1
    have h := depth_mts (ms := ms)
    have e : PyData.depth (mtD m) = 1 := rfl
    omega
theorem shaped_mtsT {ms : List Mt} : SeqAt.shaped (.tuple (ms.map mtD)) = true := by
  unfold SeqAt.shaped
  rw [Bool.and_eq_true_iff]
  refine ⟨lay_mts, decide_eq_true ?_⟩
  show PyData.depthAll (ms.map mtD) + 1 ≤ 64
  have h := depth_mts (ms := ms)
  omega
theorem shaped_mtsL {ms : List Mt} : SeqAt.shaped (.list (ms.map mtD)) = true := by
  unfold SeqAt.shaped
  rw [Bool.and_eq_true_iff]
  refine ⟨lay_mts, decide_eq_true ?_⟩
  show PyData.depthAll (ms.map mtD) + 1 ≤ 64
  have h := depth_mts (ms := ms)
  omega
theorem shaped_mt {m : Mt} : SeqAt.shaped (mtD m) = true := rfl
theorem eqv_mt {m m' : Mt} : PyData.eqv (mtD m) (mtD m') = decide (m = m') := by
  obtain ⟨a, b, c⟩ := m
  obtain ⟨a', b', c'⟩ := m'
  show ((a == a') && ((b == b') && ((c == c') && true))) = _
  rw [Bool.eq_iff_iff]
  simp
theorem eqvAll_mts : ∀ {ms ms' : List Mt}, PyData.eqvAll (ms.map mtD) (ms'.map mtD) = decide (ms = ms')
  | [], [] => rfl
  | [], _ :: _ => rfl
  | _ :: _, [] => rfl
  | m :: ms, m' :: ms' => by
    show (PyData.eqv (mtD m) (mtD m') && PyData.eqvAll (ms.map mtD) (ms'.map mtD)) = _
    rw [eqv_mt, eqvAll_mts, Bool.eq_iff_iff]
    simp
theorem eqv_mtsT {ms ms' : List Mt} : PyData.eqv (.tuple (ms.map mtD)) (.tuple (ms'.map mtD)) = decide (ms = ms') := eqvAll_mts
theorem eqv_mtsL {ms ms' : List Mt} : PyData.eqv (.list (ms.map mtD)) (.list (ms'.map mtD)) = decide (ms = ms') := eqvAll_mts
/-! ### len(day), day[at], day == other -/
def sp_Day_len (d : Ad) (K : PySem.W.Frag) : Sp := fun vs H Q _ => ∃ (v : V) (n : Int) (ms : List Mt), vs = [v] ∧ IsDay d K H v n ms ∧ Q (.int (ms.length : Int)) H
theorem ok_Day___len__ (T : Txt K mg d) : FnR P w K mg base CX0 1 d.f_Day___len__ (sp_Day_len d K) := by
  refine mkR T.F_Day___len__ sc_Day___len__ (fun vs H Q E h => ?_) (fun _ _ _ _ _ _ us hl => match us, hl with | [_], _ => rfl) (fun cdv A outer s H vs Q E hr h => ?_)
  · obtain ⟨_, _, _, rfl, _⟩ := h
    rfl
  · obtain ⟨v, n, ms, rfl, ⟨a, dx, t, vs, rfl, ha, ht, hm⟩, q⟩ := h
    refine ⟨_, (pss_one (ps_ret (pe_callB call_len_seq (by rfl) T.b_len PySem.boot_len (pa_cons (pe_fld (pv 0) rfl) pa_nil)))), ?_⟩
    refine ⟨_, rfl, a, _, dx, _, _, rfl, ha, T.cl_Day, T.na_Day_meetings, lkD_meetings, t, vs, rfl, .inr ht, ?_⟩
    rw [hm.1]
    exact q
def sp_Day_item (d : Ad) (K : PySem.W.Frag) : Sp := fun vs H Q _ => ∃ (v : V) (n : Int) (ms : List Mt) (i : Nat), vs = [v, .int i] ∧ IsDay d K H v n ms ∧ i < ms.length ∧ ∀ u m, ms[i]? = some m → IsMt H u m → Q u H
theorem ok_Day___getitem__ (T : Txt K mg d) : FnR P w K mg base CX0 1 d.f_Day___getitem__ (sp_Day_item d K) := by
  refine mkR T.F_Day___getitem__ sc_Day___getitem__ (fun vs H Q E h => ?_) (fun _ _ _ _ _ _ us hl => match us, hl with | [_, _], _ => rfl) (fun cdv A outer s H vs Q E hr h => ?_)
  · obtain ⟨_, _, _, _, rfl, _⟩ := h
    rfl
  · obtain ⟨v, n, ms, i, rfl, ⟨a, dx, t, vs, rfl, ha, ht, hm⟩, hi, q⟩ := h
    have h1 := hm.1
    refine ⟨_, (pss_cons (ps_if (PW.pt (pw_or (pt_cmpR op_lt (pv 1) pe_int (nomark _)) (pw_or1 (pt_cmpR op_ge (pv 1) (pe_callB call_len_seq (by rfl) T.b_len PySem.boot_len (pa_cons (pe_fld (pv 0) rfl) pa_nil)) (nomark _))))) (pss_one ps_dead) pss_nil) (pss_one (ps_ret (pe_ix ix_tup (pe_fld (pv 0) rfl) (pv 1) (fun _ _ => rfl))))), ?_⟩
    refine ⟨_, rfl, _, _, rfl, rfl, _, rfl, ?_⟩
    rw [decide_eq_false (by omega)]
    refine iteF ⟨_, rfl, _, rfl, a, _, dx, _, _, rfl, ha, T.cl_Day, T.na_Day_meetings, lkD_meetings, t, vs, rfl, .inr ht, _, _, rfl, rfl, _, rfl, ?_⟩
    rw [decide_eq_false (by omega)]
    refine iteF ?_
    have hv : i < vs.length := by omega
    refine ⟨_, rfl, a, _, dx, _, _, rfl, ha, T.cl_Day, T.na_Day_meetings, lkD_meetings, _, rfl, t, vs, _, vs[i], rfl, rfl, ht, atI_nat (List.getElem?_eq_getElem hv), ?_⟩
    obtain ⟨m, hm1, hm2⟩ := hm.get (List.getElem?_eq_getElem hv)
    exact q _ m hm1 hm2
def sp_Day_eq (d : Ad) (K : PySem.W.Frag) : Sp := fun vs H Q _ => ∃ (v v' : V) (n n' : Int) (ms ms' : List Mt), vs = [v, v'] ∧ IsDay d K H v n ms ∧ IsDay d K H v' n' ms' ∧ Q (.bl (decide (n = n') && decide (ms = ms'))) H
theorem ty_day (T : Txt K mg d) {H : Hp} {a dx : Addr} {fs : List (Str × V)} (ha : H a = some (.ins d.C_Day dx fs)) : TyX K H (.ref a) (.ref d.C_Day) := .base (.ins ha T.cl_Day T.ic_Day T.oc1 T.oc2 T.o_Day)
theorem ok_Day___eq__ (T : Txt K mg d) : FnR P w K mg base CX0 1 d.f_Day___eq__ (sp_Day_eq d K) := by
  refine mkR T.F_Day___eq__ sc_Day___eq__ (fun vs H Q E h => ?_) (fun _ _ _ _ _ _ us hl => match us, hl with | [_, _], _ => rfl) (fun cdv A outer s H vs Q E hr h => ?_)
  · obtain ⟨_, _, _, _, _, _, rfl, _⟩ := h
    rfl
  · obtain ⟨v, v', n, n', ms, ms', rfl, ⟨a, dx, t, vs, rfl, ha, ht, hm⟩, ⟨a', dx', t', vs', rfl, ha', ht', hm'⟩, q⟩ := h
    have hu := hr.units
    refine ⟨_, (pss_one (ps_ret (pe_and (pe_callB call_isi (by rfl) T.b_isinstance (by decide +kernel) (pa_cons (pv 1) (pa_cons (pe_glob (v := .ref d.C_Day) rfl T.m_Day rfl) pa_nil))) (pe_and (pe_cmpR op_eq (pe_fld (pv 0) rfl) (pe_fld (pv 1) rfl) (nomark _)) (pe_one (pe_cmpR (op_eqD hu) (pe_fld (pv 0) rfl) (pe_fld (pv 1) rfl) (nomark _))))))), ?_⟩
    refine ⟨_, rfl, _, .ref d.C_Day, _, _, true, rfl, .own _, ty_day T ha', isi_own, true, rfl, iteT ?_⟩
    refine ⟨_, rfl, _, _, _, _, _, rfl, ha, T.cl_Day, T.na_Day_length, lkD_length, ?_⟩
    refine ⟨_, rfl, _, _, _, _, _, rfl, ha', T.cl_Day, T.na_Day_length, lkD_length, rfl, _, rfl, ?_⟩
    by_cases e : n = n'
    · subst e
      rw [decide_eq_true (show V.int n = V.int n from rfl)]
      refine iteT ?_
      refine ⟨_, rfl, _, _, _, _, _, rfl, ha, T.cl_Day, T.na_Day_meetings, lkD_meetings, ?_⟩
      refine ⟨_, rfl, _, _, _, _, _, rfl, ha', T.cl_Day, T.na_Day_meetings, lkD_meetings, ?_⟩
      refine ⟨_, _, .tup ht (dp_mts hm), .tup ht' (dp_mts hm'), shaped_mtsT, shaped_mtsT, ?_⟩
      rw [eqv_mtsT]
      simp only [decide_true, Bool.true_and] at q
      exact q
    · rw [decide_eq_false (fun z => e (V.int.inj z))]
      simp only [decide_eq_false e, Bool.false_and] at q
      exact iteF q
end
end DD

set_option Elab.async false
set_option linter.all false
set_option maxRecDepth 100000
set_option maxHeartbeats 2000000
namespace DD
open PySem PySem.Spec PyProof.Rows L2 StX
/-! ### texts that are read -/
theorem num_ok : ∀ n : Fin 100, (Txt.isascii (intT (n.val : Int)) && Txt.isdecimal (intT (n.val : Int)) && !decide ((intT (n.val : Int)).length > 2) &&
    (decide ((intT (n.val : Int)).length = 1) || match (intT (n.val : Int)).cps.toList with | c :: _ => !decide (c = 48) | [] => false)) = true := by decide +kernel
theorem num_facts {n : Nat} (h : n ≤ 99) : Txt.isascii (intT (n : Int)) = true ∧ Txt.isdecimal (intT (n : Int)) = true ∧ (intT (n : Int)).length ≤ 2 ∧ ((intT (n : Int)).length = 1 ∨ ∃ c l, (intT (n : Int)).cps.toList = c :: l ∧ c ≠ 48) := by
  have z := num_ok ⟨n, by omega⟩
  simp only [Bool.and_eq_true, Bool.not_eq_true', decide_eq_false_iff_not, Bool.or_eq_true, decide_eq_true_eq] at z
  obtain ⟨⟨⟨z1, z2⟩, z3⟩, z4⟩ := z
  refine ⟨z1, z2, by omega, z4.imp id fun z4 => ?_⟩
  revert z4
  generalize (intT (n : Int)).cps.toList = L
  intro z4
  cases L with
  | nil => exact absurd z4 (by simp)
  | cons c l => exact ⟨c, l, rfl, by simpa using z4⟩
theorem nat_of {i : Int} (h0 : 0 ≤ i) (h1 : i ≤ 99) : ∃ n : Nat, i = (n : Int) ∧ n ≤ 99 := ⟨i.toNat, by omega, by omega⟩
theorem tl_int {i : Int} (h : 0 ≤ i) : TL.tl (intT i) = TL.numL i.toNat := by
  have e : i = ((i.toNat : Nat) : Int) := by omega
  conv => lhs; rw [e]
  exact TL.tl_num _
/-- the two numbers of a meeting -/
def spanT (b e : Int) : Str := Str.empty ++ intT b ++ ("-" : Str) ++ intT e
theorem tl_span {b e : Int} (hb : 0 ≤ b) (he : 0 ≤ e) : TL.tl (spanT b e) = TL.numL b.toNat ++ [45] ++ TL.numL e.toNat := by
  unfold spanT
  rw [TL.tl_append, TL.tl_append, TL.tl_append, tl_int hb, tl_int he]
  rfl
theorem span_free {b e : Int} {s : Nat} (hb : 0 ≤ b) (he : 0 ≤ e) (h : s < 45 ∨ 57 < s) : s ∉ TL.tl (spanT b e) := by
  rw [tl_span hb he]
  intro hm
  simp only [List.mem_append, List.mem_singleton] at hm
  rcases hm with (hm | hm) | hm
  · exact TL.numL_free (by omega) hm
  · omega
  · exact TL.numL_free (by omega) hm
theorem split_span {b e : Int} (hb : 0 ≤ b) (he : 0 ≤ e) : Txt.split (spanT b e) ("-" : Str) = [intT b, intT e] := by
  have h := TL.split_join (y := ("-" : Str)) (s := 45) (S := []) (by decide +kernel) (by decide +kernel) (parts := [intT b, intT e]) (by simp) (by
    intro p hp
    simp only [List.mem_cons, List.not_mem_nil, or_false] at hp
    rcases hp with rfl | rfl
    · rw [tl_int hb]; exact TL.numL_free (by omega)
    · rw [tl_int he]; exact TL.numL_free (by omega))
  rw [TL.join_eq] at h
  rw [← h]
  congr 1
  show Str.empty ++ intT b ++ ("-" : Str) ++ intT e = intT b ++ ("-" : Str) ++ intT e
  rw [Str.empty_append]
theorem mtText_span {m : Mt} : mtText m = if m.2.2 = true then spanT m.1 m.2.1 ++ (" private" : Str) else spanT m.1 m.2.1 := rfl
open PySem.Builtin PySem.Builtin.Str in
theorem rs_yes {x y : Str} (hy : 0 < y.length) : Txt.removesuffix (x ++ y) y = x := by
  unfold Txt.removesuffix
  have e : (x ++ y).length - y.length = x.length := by rw [Str.length_append]; omega
  have h1 : y.length ≤ (x ++ y).length := by rw [Str.length_append]; omega
  have h2 : subAt (x ++ y) y x.length = true := by
    rw [StrLaws.subAt_eq]
    rw [show (x ++ y).cps.toList = x.cps.toList ++ y.cps.toList from TL.tl_append x y]
    rw [List.drop_left' (TL.len_tl x).symm, List.take_of_length_le (by rw [TL.len_tl y]; exact Nat.le_refl _)]
    exact beq_self_eq_true _
  rw [e, h2, decide_eq_true h1]
  show Txt.affix (x ++ y) (some (0, x.length)) = x
  unfold Txt.affix
  have h3 : (x.length - 0 == (x ++ y).length) = false := by
    rw [Str.length_append]
    simp
    omega
  show (if (x.length - 0 == (x ++ y).length) = true then x ++ y else strSub (x ++ y) 0 x.length) = x
  rw [h3]
  show strSub (x ++ y) 0 x.length = x
  suffices h : TL.tl (strSub (x ++ y) 0 x.length) = TL.tl x from (List.cons.inj (TL.map_tl_inj (l := [strSub (x ++ y) 0 x.length]) (m := [x]) (congrArg (fun z => [z]) h))).1
  rw [show TL.tl (strSub (x ++ y) 0 x.length) = _ from StrLaws.strSub_toList _ _ _, show (x ++ y).cps.toList = x.cps.toList ++ y.cps.toList from TL.tl_append x y]
  rw [List.drop_zero, Nat.sub_zero, List.take_left' (TL.len_tl x).symm]
open PySem.Builtin PySem.Builtin.Str in
theorem rs_no {x y : Str} {c : Nat} (hc : c ∈ TL.tl y) (hx : c ∉ TL.tl x) : Txt.removesuffix x y = x := by
  unfold Txt.removesuffix
  have h2 : subAt x y (x.length - y.length) = false := by
    rw [StrLaws.subAt_eq]
    refine beq_eq_false_iff_ne.mpr fun e => hx ?_
    have : c ∈ (x.cps.toList.drop (x.length - y.length)).take y.length := by rw [e]; exact hc
    exact List.mem_of_mem_drop (List.mem_of_mem_take this)
  rw [h2, Bool.and_false]
  rfl
theorem mt_free {m : Mt} (h : MtIn m) : 44 ∉ TL.tl (mtText m) := by
  obtain ⟨a, b, c, e⟩ := h
  rw [mtText_span]
  have h1 := span_free (b := m.1) (e := m.2.1) (s := 44) a c (by omega)
  split
  · rw [TL.tl_append]
    intro hm
    rcases List.mem_append.mp hm with hm | hm
    · exact h1 hm
    · exact absurd hm (by decide +kernel)
  · exact h1
theorem split_mts {ms : List Mt} (h : ∀ m ∈ ms, MtIn m) (hn : ms ≠ []) : Txt.split (mtsText ms) (", " : Str) = ms.map mtText := by
  unfold mtsText
  rw [if_neg (fun e => hn (List.length_eq_zero_iff.mp e))]
  refine TL.split_join (y := (", " : Str)) (s := 44) (S := [32]) (by decide +kernel) (by decide +kernel) (by simpa using hn) fun p hp => ?_
  obtain ⟨m, hm, rfl⟩ := List.mem_map.mp hp
  exact mt_free (h m hm)
theorem mts_dash {ms : List Mt} (h : ∀ m ∈ ms, MtIn m) (hn : ms ≠ []) : mtsText ms ≠ ("-" : Str) := by
  intro e
  have z := split_mts h hn
  rw [e, show Txt.split ("-" : Str) (", " : Str) = [("-" : Str)] from by decide +kernel] at z
  cases ms with
  | nil => exact hn rfl
  | cons m ms =>
    have z1 := (List.cons.inj z).1
    obtain ⟨a, b, c, e⟩ := h m (List.mem_cons_self ..)
    have z2 := congrArg (fun x : Str => (TL.tl x).length) z1
    have l1 : 0 < (TL.numL m.1.toNat).length := List.length_pos_iff.mpr (TL.numL_ne _)
    have l2 : 0 < (TL.numL m.2.1.toNat).length := List.length_pos_iff.mpr (TL.numL_ne _)
    have e0 : (TL.tl ("-" : Str)).length = 1 := by decide +kernel
    simp only [e0] at z2
    rw [mtText_span] at z2
    split at z2
    · rw [TL.tl_append, tl_span a c, List.length_append, List.length_append, List.length_append] at z2
      simp at z2
      omega
    · rw [tl_span a c, List.length_append, List.length_append] at z2
      simp at z2
      omega
theorem part_day {n : Int} {ms : List Mt} (h : 0 ≤ n) : Txt.partition (dayText n ms) (": " : Str) = (intT n, (": " : Str), mtsText ms) := by
  unfold dayText
  rw [Str.empty_append]
  exact TL.partition_app (y := (": " : Str)) (s := 58) (S := [32]) (by decide +kernel) (by rw [tl_int h]; exact TL.numL_free (by omega))
section
variable {P : Program} {w : World} {K : PySem.W.Frag} {mg : Str → Option Value} {base : Heap} {d : Ad}
def sp_is_numeral : Sp := fun vs H Q _ => ∃ i : Int, vs = [.str (intT i)] ∧ 0 ≤ i ∧ i ≤ 99 ∧ Q (.bl true) H
theorem ok_is_numeral (T : Txt K mg d) : FnR P w K mg base CX0 1 d.f_is_numeral sp_is_numeral := by
  refine mkR T.F_is_numeral sc_is_numeral (fun vs H Q E h => ?_) (fun _ _ _ _ _ _ us hl => match us, hl with | [_], _ => rfl) (fun cdv A outer s H vs Q E hr h => ?_)
  · obtain ⟨_, rfl, _⟩ := h
    rfl
  · obtain ⟨i, rfl, h0, h1, q⟩ := h
    obtain ⟨n, rfl, hn⟩ := nat_of h0 h1
    obtain ⟨f1, f2, f3, f4⟩ := num_facts hn
    refine ⟨_, (pss_cons (ps_if (PW.pt (pw_or (pt_not (pt_val (pe_m0 PySem.F.slot_str_isascii PySem.F.type_str_isascii mt_isascii (pv 0)))) (pw_or (pt_not (pt_val (pe_m0 PySem.F.slot_str_isdecimal PySem.F.type_str_isdecimal mt_isdecimal (pv 0)))) (pw_or1 (pt_cmpR op_gt (pe_callB call_len_str (by rfl) T.b_len PySem.boot_len (pa_cons (pv 0) pa_nil)) pe_int (nomark _)))))) (pss_one (ps_ret pe_bl)) pss_nil) (pss_one (ps_ret (pe_or (pe_cmpR op_eq (pe_callB call_len_str (by rfl) T.b_len PySem.boot_len (pa_cons (pv 0) pa_nil)) pe_int (nomark _)) (pe_one (pe_cmpR op_ne (pe_ix ix_str (pv 0) pe_int (fun _ _ => rfl)) pe_str (nomark _))))))), ?_⟩
    refine ⟨_, rfl, ⟨_, rfl⟩, _, rfl, rfl, trivial, ?_⟩
    rw [f1]
    refine ⟨_, rfl, iteF ?_⟩
    refine ⟨_, rfl, ⟨_, rfl⟩, _, rfl, rfl, trivial, ?_⟩
    rw [f2]
    refine ⟨_, rfl, iteF ?_⟩
    refine ⟨_, rfl, _, rfl, sz (by omega), _, _, rfl, rfl, _, rfl, ?_⟩
    rw [decide_eq_false (by omega)]
    refine iteF ?_
    refine ⟨_, rfl, _, rfl, sz (by omega), rfl, _, rfl, ?_⟩
    by_cases h1 : (intT (n : Int)).length = 1
    · rw [decide_eq_true (congrArg V.int (by omega))]
      refine iteT ?_
      exact q
    · rw [decide_eq_false (fun e => h1 (by have := V.int.inj e; omega))]
      refine iteF ?_
      obtain ⟨c, l, e, hc⟩ := f4.resolve_left h1
      refine ⟨_, rfl, _, _, c, rfl, rfl, sz (by omega), atI_nat (j := 0) (by rw [e]; rfl), rfl, ?_⟩
      have : decide (V.str ⟨#[c]⟩ = V.str "0") = false := decide_eq_false fun e => hc (by
        have := congrArg (fun v => match v with | V.str s => s.cps.toList | _ => []) e
        exact List.head_eq_of_cons_eq (show [c] = [48] from this))
      rw [this]
      exact q
def sp_read_number : Sp := fun vs H Q _ => ∃ i : Int, vs = [.str (intT i)] ∧ 0 ≤ i ∧ i ≤ 99 ∧ Q (.int i) H
theorem ok_read_number (T : Txt K mg d) : FnR P w K mg base CX0 2 d.f_read_number sp_read_number := by
  refine mkR T.F_read_number sc_read_number (fun vs H Q E h => ?_) (fun _ _ _ _ _ _ us hl => match us, hl with | [_], _ => rfl) (fun cdv A outer s H vs Q E hr h => ?_)
  · obtain ⟨_, rfl, _⟩ := h
    rfl
  · obtain ⟨i, rfl, h0, h1, q⟩ := h
    refine ⟨_, (pss_cons (ps_if (pt_not (pt_val (pe_callR (ok_is_numeral T) (hr.mono (by decide)) rfl T.m_is_numeral T.k_is_numeral pass0 (pa_cons (pv 0) pa_nil)))) (pss_one ps_dead) pss_nil) (pss_one (ps_ret (pe_callTy call_int_str rfl T.b_int (by decide +kernel) (pa_cons (pv 0) pa_nil))))), ?_⟩
    refine ⟨_, rfl, i, rfl, h0, h1, ?_⟩
    refine ⟨_, rfl, iteF ?_⟩
    obtain ⟨n, rfl, hn⟩ := nat_of h0 h1
    exact ⟨_, rfl, _, _, rfl, TL.int_num (Nat.le_trans (TL.numL_len (k := 2) (by decide) (by omega)) (by decide)), Nat.le_trans (len_int h0 (by omega)) (by decide), q⟩
def sp_read_span : Sp := fun vs H Q _ => ∃ b e : Int, vs = [.str (spanT b e)] ∧ 0 ≤ b ∧ b ≤ 99 ∧ 0 ≤ e ∧ e ≤ 99 ∧ ∀ p H', Same H H' → H' p = some (.tup [.int b, .int e]) → Q (.ref p) H'
theorem ok_read_span (T : Txt K mg d) : FnR P w K mg base CX0 3 d.f_read_span sp_read_span := by
  refine mkR T.F_read_span sc_read_span (fun vs H Q E h => ?_) (fun _ _ _ _ _ _ us hl => match us, hl with | [_], _ => rfl) (fun cdv A outer s H vs Q E hr h => ?_)
  · obtain ⟨_, _, rfl, _⟩ := h
    rfl
  · obtain ⟨b, e, rfl, b0, b1, e0, e1, q⟩ := h
    refine ⟨_, (pss_cons (ps_set (i := 1) sc_read_span.nd rfl (by first | exact Or.inl rfl | exact Or.inr rfl) (pe_split (pv 0) pe_str)) (pss_cons (ps_if (pt_cmpR op_ne (pe_callB call_len_seq (by rfl) T.b_len PySem.boot_len (pa_cons (pv 1) pa_nil)) pe_int (nomark _)) (pss_one ps_dead) pss_nil) (pss_one (ps_ret (pe_tup (pa_cons (pe_callR (ok_read_number T) (hr.mono (by decide)) rfl T.m_read_number T.k_read_number pass0 (pa_cons (pe_ix ix_list (pv 1) pe_int (fun _ _ => rfl)) pa_nil)) (pa_cons (pe_callR (ok_read_number T) (hr.mono (by decide)) rfl T.m_read_number T.k_read_number pass0 (pa_cons (pe_ix ix_list (pv 1) pe_int (fun _ _ => rfl)) pa_nil)) pa_nil))))))), ?_⟩
    have ls : (spanT b e).length ≤ 11 := len_app (len_app (len_app le0 (len_int b0 (by omega))) le1) (len_int e0 (by omega))
    refine ⟨_, rfl, ⟨_, rfl⟩, _, _, rfl, rfl, rfl, Nat.le_trans (Nat.add_le_add_right ls 2) (by decide), fun p np => ?_⟩
    rw [split_span b0 e0]
    have sp := Same.new (o := .lst ([intT b, intT e].map V.str)) np
    have hp : upd H p (.lst ([intT b, intT e].map V.str)) p = some (.lst [V.str (intT b), V.str (intT e)]) := upd_same
    generalize upd H p (.lst ([intT b, intT e].map V.str)) = H1 at sp hp
    refine ⟨_, rfl, p, _, rfl, .inl (.inl (.inl hp)), rfl, _, rfl, ?_⟩
    refine iteNS rfl ?_
    refine ⟨_, rfl, p, _, _, _, rfl, rfl, .inl (.inl hp), atI_nat (j := 0) rfl, b, rfl, b0, b1, ?_⟩
    refine ⟨_, rfl, p, _, _, _, rfl, rfl, .inl (.inl hp), atI_nat (j := 1) rfl, e, rfl, e0, e1, ?_⟩
    exact ⟨(by show 2 ≤ sizeLine; decide), fun p2 np2 => q p2 _ (sp.trans (Same.new np2)) upd_same⟩
/-- a meeting of a day that has a text -/
def MtSm (m : Mt) : Prop := 0 ≤ m.1 ∧ m.1 ≤ 99 ∧ 0 ≤ m.2.1 ∧ m.2.1 ≤ 99
theorem MtSm.in {m : Mt} (h : MtSm m) : MtIn m := by
  obtain ⟨a, b, c, e⟩ := h
  exact ⟨a, by omega, c, by omega⟩
def sp_read_meeting : Sp := fun vs H Q _ => ∃ m : Mt, vs = [.str (mtText m)] ∧ MtSm m ∧ ∀ v H', Same H H' → IsMt H' v m → Q v H'
theorem ok__read_meeting (T : Txt K mg d) : FnR P w K mg base CX0 4 d.f__read_meeting sp_read_meeting := by
  refine mkR T.F__read_meeting sc__read_meeting (fun vs H Q E h => ?_) (fun _ _ _ _ _ _ us hl => match us, hl with | [_], _ => rfl) (fun cdv A outer s H vs Q E hr h => ?_)
  · obtain ⟨_, rfl, _⟩ := h
    rfl
  · obtain ⟨m, rfl, hm, q⟩ := h
    have hl := mtText_len hm.in
    obtain ⟨b0, b1, e0, e1⟩ := id hm
    refine ⟨_, (pss_cons (ps_set (i := 1) sc__read_meeting.nd rfl (by first | exact Or.inl rfl | exact Or.inr rfl) (pe_m1 PySem.F.slot_str_removesuffix PySem.F.type_str_removesuffix mt_removesuffix (pv 0) pe_str)) (pss_cons (ps_asg (pe_callR (ok_read_span T) (hr.mono (by decide)) rfl T.m_read_span T.k_read_span pass0 (pa_cons (pv 1) pa_nil)) (pg_tup rfl (pgs_cons (pg_name (i := 2) sc__read_meeting.nd rfl (by first | exact Or.inl rfl | exact Or.inr rfl)) (pgs_cons (pg_name (i := 3) sc__read_meeting.nd rfl (by first | exact Or.inl rfl | exact Or.inr rfl)) pgs_nil)))) (pss_one (ps_ret (pe_tup (pa_cons (pv 2) (pa_cons (pv 3) (pa_cons (pe_cmpR op_ne (pv 1) (pv 0) (nomark _)) pa_nil)))))))), ?_⟩
    refine ⟨_, rfl, ⟨_, rfl⟩, _, _, rfl, rfl, Nat.le_trans hl (by decide), ?_⟩
    have er : Txt.removesuffix (mtText m) (" private" : Str) = spanT m.1 m.2.1 := by
      rw [mtText_span]
      split
      · exact rs_yes (by decide +kernel)
      · exact rs_no (c := 32) (by decide +kernel) (span_free b0 e0 (by omega))
    rw [er]
    refine ⟨_, rfl, m.1, m.2.1, rfl, b0, b1, e0, e1, fun p H1 s1 hp => ?_⟩
    refine ⟨p, _, rfl, .inl (.inl hp), rfl, _, _, rfl, _, _, rfl, rfl, ?_⟩
    refine ⟨_, rfl, _, rfl, _, rfl, _, rfl, rfl, ?_⟩
    refine ⟨(by show 3 ≤ sizeLine; decide), fun p2 np2 => q _ _ (s1.trans (Same.new np2)) ⟨p2, rfl, ?_⟩⟩
    rw [upd_same]
    have ed : (!decide (V.str (spanT m.1 m.2.1) = V.str (mtText m))) = m.2.2 := by
      rw [mtText_span]
      cases h : m.2.2
      · simp
      · rw [if_pos rfl, decide_eq_false, Bool.not_false]
        intro e
        have := congrArg (fun x : Str => x.length) (V.str.inj e)
        have l8 : (" private" : Str).length = 8 := by decide +kernel
        simp only [Str.length_append, l8] at this
        omega
    rw [ed]
    rfl
def sp_read_meetings (K : PySem.W.Frag) : Sp := fun vs H Q _ => ∃ ms : List Mt, vs = [.str (mtsText ms)] ∧ (∀ m ∈ ms, MtSm m) ∧ ms.length ≤ 1000 ∧ ∀ v H', Same H H' → MtsV K H' v ms → Q v H'
theorem ok__read_meetings (T : Txt K mg d) : FnR P w K mg base CX0 5 d.f__read_meetings (sp_read_meetings K) := by
  refine mkR T.F__read_meetings sc__read_meetings (fun vs H Q E h => ?_) (fun _ _ _ _ _ _ us hl => match us, hl with | [_], _ => rfl) (fun cdv A outer s H vs Q E hr h => ?_)
  · obtain ⟨_, rfl, _⟩ := h
    rfl
  · obtain ⟨ms, rfl, hm, hz, q⟩ := h
    have hin : ∀ m ∈ ms, MtIn m := fun m h => (hm m h).in
    refine ⟨_, (pss_cons (ps_if (pt_cmpR op_eq (pv 0) pe_str (nomark _)) (pss_one (ps_ret (pe_lst pa_nil))) pss_nil) (pss_one (ps_ret (pe_lc (own := [("part", 1)]) rfl sc__read_meetings.nd (pi_list (pe_split (pv 0) pe_str)) (blkOk_by (N := ["text", "part"]) (sc := defScope s__read_meetings) (by decide +kernel)) (fun _ _ _ _ _ => (pg_name (i := 1) sc__read_meetings.nd rfl (by first | exact Or.inl rfl | exact Or.inr rfl))) (fun _ _ _ _ _ => pts_nil) (fun _ _ _ _ _ => (pe_callR (ok__read_meeting T) (hr.mono (by decide)) rfl T.m__read_meeting T.k__read_meeting pass0 (pa_cons (pv 1) pa_nil))))))), ?_⟩
    refine ⟨_, rfl, rfl, _, rfl, ?_⟩
    by_cases hn : ms = []
    · subst hn
      rw [decide_eq_true (show V.str (mtsText []) = V.str ("-" : Str) from rfl)]
      refine iteT ?_
      refine ⟨(by show 0 ≤ sizeLine; decide), fun p np => ?_⟩
      exact q _ _ (Same.new np) ⟨p, [], rfl, .inl (.inl (.inl upd_same)), .nil⟩
    · rw [decide_eq_false (fun e => mts_dash hin hn (V.str.inj e))]
      refine iteF ?_
      refine ⟨_, rfl, ⟨_, rfl⟩, _, _, rfl, rfl, rfl, Nat.le_trans (Nat.add_le_add_right (mtsText_len hin hz) 2) (by decide), fun p np => ?_⟩
      rw [split_mts hin hn]
      have sp := Same.new (o := .lst ((ms.map mtText).map V.str)) np
      have hp : upd H p (.lst ((ms.map mtText).map V.str)) p = some (.lst ((ms.map mtText).map V.str)) := upd_same
      generalize upd H p (.lst ((ms.map mtText).map V.str)) = H1 at sp hp
      refine ⟨p, rfl, ⟨_, .inl (.inl hp)⟩, fun D nD => ?_⟩
      have sD : Same H1 (upd H1 D (.lst [])) := Same.new nD
      refine lc_list (K := K) (a := p) (xs := (ms.map mtText).map V.str) (fun i H2 => Same H1 H2 ∧ ∃ acc, H2 D = some (.lst acc) ∧ IsMts H2 acc (ms.take i)) ⟨sD, [], upd_same, .nil⟩ (fun i H2 _ h2 => h2.1.seq (.inl (.inl hp))) ?_ ?_
      · rintro i x H2 hx ⟨s2, acc, h2, ha⟩
        rw [List.map_map, List.getElem?_map] at hx
        obtain ⟨m, hm1, rfl⟩ := Option.map_eq_some_iff.mp hx
        have e1 : ms.take (i + 1) = ms.take i ++ [m] := take_snoc hm1
        have hil := (List.getElem?_eq_some_iff.mp hm1).1
        refine ⟨rfl, ?_⟩
        refine ⟨_, rfl, m, rfl, hm m (List.mem_of_getElem? hm1), fun v H3 s3 hv => ?_⟩
        have la := ha.1
        rw [List.length_take] at la
        have h3 := s3 _ _ h2
        refine ⟨acc, h3, small1000 (by omega), ?_, _, upd_same, ?_⟩
        · intro c o e
          rw [upd_ne (ne_of_none e nD)]
          exact s3 _ _ (s2 c o e)
        · rw [e1]
          have im : Imm H3 (upd H3 D (.lst (acc ++ [v]))) := Imm.upd h3
          exact ((ha.mono s3).imm im).append (.cons (hv.imm im) .nil)
      · rintro H2 ⟨s2, acc, h2, ha⟩
        rw [List.length_map, List.length_map, List.take_length] at ha
        exact q _ _ (sp.trans s2) ⟨D, acc, rfl, .inl (.inl (.inl h2)), ha⟩
theorem made_day' {H1 : Hp} {n : Int} {v : V} {ms : List Mt} {W : VK} {E : XK} {x dx : Addr} (hv : MtsV K H1 v ms) (O : DayOk n ms) (nx : H1 x = none) (ndx : H1 dx = none) (ne : dx ≠ x) (q : ∀ H', Same H1 H' → IsDay d K H' (.ref x) n ms → W .non H') :
    sp_Day_init d K [.ref x, .int n, v] (upd (upd H1 dx (.own x)) x (.ins d.C_Day dx [])) W E := by
  have s0 : Same H1 (upd (upd H1 dx (.own x)) x (.ins d.C_Day dx [])) := Same.new' (Same.new ndx) (by rw [upd_ne (Ne.symm ne)]; exact nx)
  refine ⟨x, dx, n, v, ms, rfl, upd_same, hv.mono s0, O, fun H' t ws k1 k2 k3 k4 => ?_⟩
  have s1 : Same H1 H' := fun b u e => k1 b u (s0 b u e) (ne_of_none e nx)
  exact q H' s1 ⟨x, dx, t, ws, rfl, k2, k3, k4⟩
def sp_Day_read (d : Ad) (K : PySem.W.Frag) : Sp := fun vs H Q _ => ∃ (n : Int) (ms : List Mt), vs = [.ref d.C_Day, .str (dayText n ms)] ∧ DayOk n ms ∧ n ≤ 99 ∧ ∀ v H', Same H H' → IsDay d K H' v n ms → Q v H'
theorem ok_Day_read (T : Txt K mg d) : FnR P w K mg base CX0 7 d.f_Day_read (sp_Day_read d K) := by
  refine mkR T.F_Day_read sc_Day_read (fun vs H Q E h => ?_) (fun _ _ _ _ _ _ us hl => match us, hl with | [_, _], _ => rfl) (fun cdv A outer s H vs Q E hr h => ?_)
  · obtain ⟨_, _, rfl, _⟩ := h
    rfl
  · obtain ⟨n, ms, rfl, O, h99, q⟩ := h
    have O0 := O.lo
    have hin : ∀ m ∈ ms, MtSm m := fun m hm => by
      obtain ⟨a, b, c, e⟩ := good_in O m hm
      obtain ⟨i, hi⟩ := List.getElem?_of_mem hm
      have := good_at O.g hi
      exact ⟨a, by omega, c, by omega⟩
    have hl := mts_len O
    have ht := mtsText_len (fun m h => (hin m h).in) hl
    refine ⟨_, (pss_cons (ps_if (pt_not (pt_val (pe_callB call_isi (by rfl) T.b_isinstance (by decide +kernel) (pa_cons (pv 1) (pa_cons (pe_bltn (v := .ty "str") rfl T.b_str (by decide +kernel) rfl) pa_nil))))) (pss_one ps_dead) pss_nil) (pss_cons (ps_asg (pe_m1 PySem.F.slot_str_partition PySem.F.type_str_partition mt_partition (pv 1) pe_str) (pg_tup rfl (pgs_cons (pg_name (i := 2) sc_Day_read.nd rfl (by first | exact Or.inl rfl | exact Or.inr rfl)) (pgs_cons (pg_name (i := 3) sc_Day_read.nd rfl (by first | exact Or.inl rfl | exact Or.inr rfl)) (pgs_cons (pg_name (i := 4) sc_Day_read.nd rfl (by first | exact Or.inl rfl | exact Or.inr rfl)) pgs_nil))))) (pss_one (ps_ret (pe_makeL 0 T.mk_Day (ok_Day_init2 T) (hr.mono (by decide)) pass0 (pa_cons (pe_callR (ok_read_number T) (hr.mono (by decide)) rfl T.m_read_number T.k_read_number pass0 (pa_cons (pv 2) pa_nil)) (pa_cons (pe_callR (ok__read_meetings T) (hr.mono (by decide)) rfl T.m__read_meetings T.k__read_meetings pass0 (pa_cons (pv 4) pa_nil)) pa_nil))))))), ?_⟩
    refine ⟨_, rfl, _, .ty "str", _, _, true, rfl, .ty _, .base (.str _), kit_ty (by decide +kernel), true, rfl, ?_⟩
    refine iteF ?_
    have ld : (dayText n ms).length ≤ 21010 := Nat.le_trans (len_app (len_app (len_app le0 (len_int (by omega) (by omega))) le2) ht) (by decide)
    refine ⟨_, rfl, ⟨_, rfl⟩, _, _, rfl, rfl, rfl, Nat.le_trans ld (by decide), fun p np => ?_⟩
    rw [part_day (by omega)]
    have sp := Same.new (o := .tup [.str (intT n), .str (": " : Str), .str (mtsText ms)]) np
    refine ⟨p, _, rfl, .inl (.inl upd_same), rfl, _, _, rfl, _, _, rfl, _, _, rfl, rfl, ?_⟩
    refine ⟨rfl, _, rfl, n, rfl, by omega, h99, _, rfl, ms, rfl, hin, hl, fun v H1 s1 hv => ?_⟩
    exact fun x dx nx ndx ne => made_day' hv O nx ndx ne fun H' e D => ⟨rfl, q _ _ (sp.trans (s1.trans e)) D⟩
end
end DD

set_option Elab.async false
set_option linter.all false
set_option maxRecDepth 100000
set_option maxHeartbeats 2000000
namespace DD
open PySem PySem.Spec PyProof.Rows L2 StX
section
variable {P : Program} {w : World} {K : PySem.W.Frag} {mg : Str → Option Value} {base : Heap} {d : Ad}
/-- a day and a text -/
def sp_Day_eqS (d : Ad) (K : PySem.W.Frag) : Sp := fun vs H Q _ => ∃ (v : V) (n : Int) (ms : List Mt) (z : Str), vs = [v, .str z] ∧ IsDay d K H v n ms ∧ Q (.bl false) H
theorem ok_Day___eq___S (T : Txt K mg d) : FnR P w K mg base CX0 1 d.f_Day___eq__ (sp_Day_eqS d K) := by
  refine mkR T.F_Day___eq__ sc_Day___eq__ (fun vs H Q E h => ?_) (fun _ _ _ _ _ _ us hl => match us, hl with | [_, _], _ => rfl) (fun cdv A outer s H vs Q E hr h => ?_)
  · obtain ⟨_, _, _, _, rfl, _⟩ := h
    rfl
  · obtain ⟨v, n, ms, z, rfl, I, q⟩ := h
    have hu := hr.units
    refine ⟨_, (pss_one (ps_ret (pe_and (pe_callB call_isi (by rfl) T.b_isinstance (by decide +kernel) (pa_cons (pv 1) (pa_cons (pe_glob (v := .ref d.C_Day) rfl T.m_Day rfl) pa_nil))) (pe_and (pe_cmpR op_eq (pe_fld (pv 0) rfl) (pe_fld (pv 1) rfl) (nomark _)) (pe_one (pe_cmpR (op_eqD hu) (pe_fld (pv 0) rfl) (pe_fld (pv 1) rfl) (nomark _))))))), ?_⟩
    refine ⟨_, rfl, _, .ref d.C_Day, .type "str", _, false, rfl, .own _, .base (.str _), ?_, false, rfl, iteF ?_⟩
    · exact T.ks_Day
    · exact q
/-! ### lists of texts -/
def strsL (l : List Str) : PyData := .list (l.map PyData.str)
theorem dpS : ∀ {H : Hp} {l : List Str}, DpAll K H (l.map V.str) (l.map PyData.str)
  | _, [] => .nil
  | _, i :: l => .cons (.str i) dpS
theorem ok_str {x : Str} (h : ∀ c ∈ TL.tl x, c < 0x110000) : PyData.strOk x = true := by
  unfold PyData.strOk
  rw [← Array.all_toList]
  exact List.all_eq_true.mpr fun c hc => decide_eq_true (h c hc)
theorem ok_mt {m : Mt} (h : MtIn m) : PyData.strOk (mtText m) = true := by
  obtain ⟨a, b, c, e⟩ := h
  have hs : ∀ z ∈ TL.tl (spanT m.1 m.2.1), z < 0x110000 := by
    intro z hz
    by_cases h2 : 57 < z
    · exact absurd hz (span_free a c (by omega))
    · omega
  refine ok_str fun z hz => ?_
  rw [mtText_span] at hz
  split at hz
  · rw [TL.tl_append] at hz
    rcases List.mem_append.mp hz with hz | hz
    · exact hs z hz
    · revert hz
      generalize hy : TL.tl (" private" : Str) = L
      intro hz
      have : L.all (fun c => decide (c < 0x110000)) = true := by rw [← hy]; decide +kernel
      exact of_decide_eq_true (List.all_eq_true.mp this z hz)
  · exact hs z hz
theorem lay_strs : ∀ {l : List Str}, (∀ x ∈ l, PyData.strOk x = true) → PyData.canLayAll0 (l.map PyData.str) = true
  | [], _ => rfl
  | i :: l, h => by
    show (PyData.strOk i && PyData.canLayAll0 (l.map PyData.str)) = true
    rw [lay_strs (l := l) fun x hx => h x (List.mem_cons_of_mem _ hx), h i (List.mem_cons_self ..)]
    rfl
theorem depth_strs : ∀ {l : List Str}, PyData.depthAll (l.map PyData.str) = 0
  | [] => rfl
  | i :: l => by
    show max (PyData.depth (.str i)) (PyData.depthAll (l.map PyData.str)) = 0
    rw [depth_strs (l := l)]
    rfl
theorem shaped_strs {l : List Str} (h : ∀ x ∈ l, PyData.strOk x = true) : SeqAt.shaped (strsL l) = true := by
  unfold SeqAt.shaped
  rw [Bool.and_eq_true_iff]
  refine ⟨lay_strs h, decide_eq_true ?_⟩
  show PyData.depthAll (l.map PyData.str) + 1 ≤ 64
  rw [depth_strs]
  decide
theorem eqv_strs {l : List Str} : PyData.eqv (strsL l) (strsL []) = decide (l = []) := by
  cases l with
  | nil => rfl
  | cons x l => rfl
/-! ### a day's text by the law -/
theorem lenA {x y : Str} {n m : Nat} (hx : x.length ≤ n) (hy : y.length ≤ m) (h : n + m ≤ 100000) : x.length + y.length ≤ sizeLine := sz (by omega)
def sp_law_day_text (K : PySem.W.Frag) : Sp := fun vs H Q _ => ∃ (t l : Addr) (n : Int) (ws : List V) (ms : List Mt), vs = [.ref t] ∧ H t = some (.tup [.int n, .ref l]) ∧ H l = some (.lst ws) ∧ IsMts H ws ms ∧ DayOk n ms ∧ ∀ H', Same H H' → Q (.str (dayText n ms)) H'
theorem ok__law_day_text (T : Txt K mg d) : FnR P w K mg base CX0 1 d.f__law_day_text (sp_law_day_text K) := by
  refine mkR T.F__law_day_text sc__law_day_text (fun vs H Q E h => ?_) (fun _ _ _ _ _ _ us hl => match us, hl with | [_], _ => rfl) (fun cdv A outer s H vs Q E hr h => ?_)
  · obtain ⟨_, _, _, _, _, rfl, _⟩ := h
    rfl
  · obtain ⟨t, l, n, ws, ms, rfl, ht, hl, hm, O, q⟩ := h
    have hu := hr.units
    have hin := good_in O
    refine ⟨_, (pss_cons (ps_setLc (i := 1) (own := [("_law_begin", 2), ("_law_end", 3), ("_law_secret", 4)]) rfl sc__law_day_text.nd rfl rfl (by rfl) (pi_list (pe_ix ix_tup (pv 0) pe_int (fun _ _ => rfl))) (blkOk_by (N := ["_law_day_here", "_law_texts", "_law_begin", "_law_end", "_law_secret"]) (sc := defScope s__law_day_text) (by decide +kernel)) (fun _ _ _ _ _ => (pg_tupK (K := K) (n := 3) rfl (pgs_cons (pg_name (i := 2) sc__law_day_text.nd rfl (by first | exact Or.inl rfl | exact Or.inr rfl)) (pgs_cons (pg_name (i := 3) sc__law_day_text.nd rfl (by first | exact Or.inl rfl | exact Or.inr rfl)) (pgs_cons (pg_name (i := 4) sc__law_day_text.nd rfl (by first | exact Or.inl rfl | exact Or.inr rfl)) pgs_nil))))) (fun _ _ _ _ _ => pts_nil) (fun _ _ _ _ _ => (pe_op op_add_str (pe_op op_add_str (pe_op op_add_str (pe_callTy call_str_int rfl T.b_str (by decide +kernel) (pa_cons (pv 2) pa_nil)) pe_str) (pe_callTy call_str_int rfl T.b_str (by decide +kernel) (pa_cons (pv 3) pa_nil))) (pe_ifExp (pt_val (pv 4)) pe_str pe_str)))) (pss_one (ps_ret (pe_op op_add_str (pe_op op_add_str (pe_callTy call_str_int rfl T.b_str (by decide +kernel) (pa_cons (pe_ix ix_tup (pv 0) pe_int (fun _ _ => rfl)) pa_nil)) pe_str) (pe_ifExp (pt_cmpR (op_neD hu) (pv 1) (pe_lst pa_nil) (nomark _)) (pe_bm PySem.F.plainAttrs_str PySem.F.slot_str_join PySem.F.type_str_join mt_join pe_str (pa_cons (pv 1) pa_nil)) pe_str))))), ?_⟩
    refine ⟨_, rfl, t, _, _, _, rfl, rfl, .inl (.inl ht), atI_nat (j := 1) rfl, l, rfl, ⟨ws, .inl (.inl hl)⟩, fun D nD => ?_⟩
    have sD : Same H (upd H D (.lst [])) := Same.new nD
    refine lc_list (K := K) (a := l) (xs := ws) (fun i H2 => Same H H2 ∧ H2 D = some (.lst (((ms.take i).map mtText).map V.str))) ⟨sD, upd_same⟩ (fun i H2 _ h2 => h2.1.seq (.inl (.inl hl))) ?_ ?_
    · rintro i x H2 hx ⟨s2, h2⟩
      obtain ⟨m, hm1, hm2⟩ := hm.get hx
      obtain ⟨b, rfl, hb⟩ := hm2.mono s2
      have e1 : ms.take (i + 1) = ms.take i ++ [m] := take_snoc hm1
      obtain ⟨a0, a1, b0, b1⟩ := hin m (List.mem_of_getElem? hm1)
      have il := (List.getElem?_eq_some_iff.mp hm1).1
      have ol := mts_len O
      have l1 := len_int a0 a1
      have l2 := len_app l1 le1
      have l3 := len_int b0 b1
      have l4 := len_app l2 l3
      refine ⟨b, _, rfl, .inl (.inl hb), rfl, _, _, rfl, _, _, rfl, _, _, rfl, rfl, rfl, ?_⟩
      refine ⟨_, rfl, _, rfl, log_int a0 a1, _, _, rfl, rfl, lenA l1 le1 (by decide), _, rfl, _, rfl, log_int b0 b1, _, _, rfl, rfl, lenA l2 l3 (by decide), ?_⟩
      have fin : ∀ y : Str, y = mtText m → ∃ acc, H2 D = some (.lst acc) ∧ acc.length < sizeLine ∧ (Same H (upd H2 D (.lst (acc ++ [V.str y]))) ∧ upd H2 D (.lst (acc ++ [V.str y])) D = some (.lst (((ms.take (i + 1)).map mtText).map V.str))) := by
        rintro y rfl
        refine ⟨_, h2, ?_, ?_, ?_⟩
        · rw [List.length_map, List.length_map, List.length_take]
          exact small1000 (by omega)
        · intro c o e
          rw [upd_ne (ne_of_none e nD)]
          exact s2 c o e
        · rw [upd_same, e1, List.map_append, List.map_append]
          rfl
      have em : mtText m = if m.2.2 = true then intT m.1 ++ ("-" : Str) ++ intT m.2.1 ++ (" private" : Str) else intT m.1 ++ ("-" : Str) ++ intT m.2.1 := by
        unfold mtText
        simp only [Str.empty_append]
      refine ⟨_, rfl, _, rfl, ?_⟩
      cases hp : m.2.2 with
      | true =>
        refine iteT ?_
        refine ⟨_, _, rfl, rfl, lenA l4 le8 (by decide), ?_⟩
        exact fin _ (by rw [em, if_pos hp])
      | false =>
        refine iteF ?_
        refine ⟨_, _, rfl, rfl, lenA (m := 0) l4 (by decide) (by decide), ?_⟩
        refine fin _ ?_
        rw [em, if_neg (by rw [hp]; decide)]
        exact Str.append_empty _
    · rintro H2 ⟨s2, h2⟩
      rw [hm.1, List.take_length] at h2
      have On := O.lo
      have Oh := O.hi
      have hl2 := mts_len O
      have ln := len_int (i := n) (by omega) (by omega)
      have lt := mtsText_len hin hl2
      refine ⟨_, rfl, t, _, _, _, rfl, rfl, .inl (.inl (s2 _ _ ht)), atI_nat (j := 0) rfl, _, rfl, log_int (by omega) (by omega), _, _, rfl, rfl, lenA ln le2 (by decide), ?_⟩
      refine ⟨_, rfl, (by show 0 ≤ sizeLine; decide), fun p np => ?_⟩
      have sp := Same.new (o := .lst []) np
      have h3 := sp _ _ h2
      refine ⟨strsL (ms.map mtText), strsL [], .lst (.inl (.inl h3)) dpS, .lst (.inl (.inl upd_same)) .nil, shaped_strs (fun x hx => by obtain ⟨m, hm, rfl⟩ := List.mem_map.mp hx; exact ok_mt (hin m hm)), shaped_strs (fun x hx => absurd hx (by simp)), _, rfl, ?_⟩
      rw [eqv_strs]
      have en : (intT n ++ (": " : Str)) ++ mtsText ms = dayText n ms := by
        unfold dayText
        rw [Str.empty_append]
      by_cases hz : ms = []
      · rw [decide_eq_true (show ms.map mtText = [] by rw [hz]; rfl)]
        refine iteF ?_
        refine ⟨_, _, rfl, rfl, lenA (len_app ln le2) le1 (by decide), ?_⟩
        have q2 := q _ (s2.trans sp)
        rw [← en, hz] at q2
        exact q2
      · rw [decide_eq_false (show ¬ ms.map mtText = [] from fun e => hz (List.map_eq_nil_iff.mp e))]
        refine iteT ?_
        have ej : mtsText ms = Txt.join (", " : Str) (ms.map mtText) := by
          unfold mtsText
          rw [if_neg (fun e => hz (List.length_eq_zero_iff.mp e))]
        refine ⟨rfl, _, rfl, _, D, ms.map mtText, rfl, rfl, .inl (.inl (.inl h3)), ?_, ?_⟩
        · have e1 := sum_le (f := fun m => (mtText m).length) (k := 19) (xs := ms) fun m hm => mtText_len (hin m hm)
          have e2 := le2c
          rw [List.map_map, List.length_map]
          have e3 : ms.length * (", " : Str).length ≤ ms.length * 2 := Nat.mul_le_mul_left _ e2
          show (ms.map fun m => (mtText m).length).sum + _ ≤ _
          omega
        · rw [← ej]
          refine ⟨_, _, rfl, rfl, lenA (len_app ln le2) lt (by decide), ?_⟩
          rw [en]
          exact q _ (s2.trans sp)
end
end DD

set_option Elab.async false
set_option linter.all false
set_option maxRecDepth 100000
set_option maxHeartbeats 4000000
namespace DD
open PySem PySem.Spec PyProof.Rows L2 StX
section
variable {P : Program} {w : World} {K : PySem.W.Frag} {mg : Str → Option Value} {base : Heap} {d : Ad}
theorem Same.mut {H H' : Hp} {p : Addr} {o : HO} (e : Same H H') (h : H p = none) : Same H (upd H' p o) := fun a u ha => by
  rw [upd_ne (ne_of_none ha h)]
  exact e a u ha
theorem SameX.same {b : Addr} {H H' : Hp} (e : SameX b H H') (h : H b = none) : Same H H' := fun c o hc => e c o hc (ne_of_none hc h)
theorem same_thenX {b : Addr} {H0 H H' : Hp} (s : Same H0 H) (e : SameX b H H') (h : H0 b = none) : Same H0 H' := fun c o hc => e c o (s c o hc) (ne_of_none hc h)
/-- a day without meetings -/
def sp_Day_init0 (d : Ad) (K : PySem.W.Frag) : Sp := fun vs H Q E => ∃ (x : V) (n : V), vs = [x, n] ∧ sp_Day_init d K [x, n, .ref d.z_Day] H Q E
theorem ok_Day_init1 (T : Txt K mg d) : FnR P w K mg base CX0 5 d.f_Day___init__ (sp_Day_init0 d K) :=
  mkRD 2 0 T.F_Day___init__ (by simp [dv_Day]) rfl sc_Day___init__ (fun vs H Q E h => by obtain ⟨_, _, _, _, _, rfl, _⟩ := h; rfl)
    (fun _ _ _ _ _ _ _ us its h1 h2 => match us, its, h1, h2 with | [_, _], [_], _, _ => ⟨_, rfl, rfl⟩)
    (fun vs H Q E h => by obtain ⟨x, n, rfl, h⟩ := h; exact h)
    (fun cdv A outer s H vs Q E hr h => let ⟨t, h1, h2⟩ := body_Day_init T cdv A outer s H vs Q E hr h; ⟨t, h1.nox, h2⟩)
theorem made_day0 (T : Txt K mg d) {H1 : Hp} {n : Int} {W : VK} {E : XK} {x dx : Addr} (h0 : 0 < n) (h1 : n ≤ 1000) (nx : H1 x = none) (ndx : H1 dx = none) (ne : dx ≠ x) (q : ∀ H', Same H1 H' → IsDay d K H' (.ref x) n [] → W .non H') :
    sp_Day_init0 d K [.ref x, .int n] (upd (upd H1 dx (.own x)) x (.ins d.C_Day dx [])) W E :=
  ⟨_, _, rfl, made_day' ⟨d.z_Day, [], rfl, .inr (T.w_zDay _), .nil⟩ ⟨h0, h1, rfl⟩ nx ndx ne q⟩
theorem iteNB {c : Bool} {A B : Prop} (hc : c = true) (h : B) : if (!c) = true then A else B := by
  rw [hc]
  exact iteF h
theorem iteFB {c : Bool} {A B : Prop} (hc : c = false) (h : B) : if c = true then A else B := by
  rw [hc]
  exact iteF h
/-! ### tuples and lists of ints -/
def intsD (l : List Int) : PyData := .tuple (l.map PyData.int)
def intsL (l : List Int) : PyData := .list (l.map PyData.int)
theorem dpA : ∀ {H : Hp} {l : List Int}, DpAll K H (l.map V.int) (l.map PyData.int)
  | _, [] => .nil
  | _, i :: l => .cons (.int i) dpA
theorem dp_ints {H : Hp} {r : Addr} {l : List Int} (h : SqT K H r (l.map V.int)) : Dp K H (.ref r) (intsD l) := .tup h dpA
theorem dp_intsL {H : Hp} {r : Addr} {l : List Int} (h : SqL K H r (l.map V.int)) : Dp K H (.ref r) (intsL l) := .lst h dpA
theorem lay_ints : ∀ {l : List Int}, PyData.canLayAll0 (l.map PyData.int) = true
  | [] => rfl
  | i :: l => by
    show (PyData.canLay0 (.int i) && PyData.canLayAll0 (l.map PyData.int)) = true
    rw [lay_ints (l := l)]
    rfl
theorem depth_ints : ∀ {l : List Int}, PyData.depthAll (l.map PyData.int) = 0
  | [] => rfl
  | i :: l => by
    show max (PyData.depth (.int i)) (PyData.depthAll (l.map PyData.int)) = 0
    rw [depth_ints (l := l)]
    rfl
theorem shaped_ints {l : List Int} : SeqAt.shaped (intsD l) = true := by
  unfold SeqAt.shaped
  rw [Bool.and_eq_true_iff]
  refine ⟨lay_ints, decide_eq_true ?_⟩
  show PyData.depthAll (l.map PyData.int) + 1 ≤ 64
  rw [depth_ints]
  decide
theorem shaped_intsL {l : List Int} : SeqAt.shaped (intsL l) = true := by
  unfold SeqAt.shaped
  rw [Bool.and_eq_true_iff]
  refine ⟨lay_ints, decide_eq_true ?_⟩
  show PyData.depthAll (l.map PyData.int) + 1 ≤ 64
  rw [depth_ints]
  decide
theorem eqvAll_ints {l : List Int} : PyData.eqvAll (l.map PyData.int) (l.map PyData.int) = true := by
  induction l with
  | nil => rfl
  | cons i l ih =>
    show (PyData.eqv (.int i) (.int i) && PyData.eqvAll (l.map PyData.int) (l.map PyData.int)) = true
    rw [ih]
    show ((i == i) && true) = true
    simp
theorem eqv_same {l : List Int} : PyData.eqv (intsD l) (intsD l) = true := eqvAll_ints
theorem eqv_sameL {l : List Int} : PyData.eqv (intsL l) (intsL l) = true := eqvAll_ints
theorem lkD_no {m : Str} {n : Int} {t : V} (h : (["length", "meetings"] : List Str).contains m = false) : (flD n t).lookup m = none := look_no rfl h
theorem flat_ints : ∀ {l : List Int}, (l.map V.int).all flatV = true
  | [] => rfl
  | i :: l => by
    show (flatV (.int i) && (l.map V.int).all flatV) = true
    rw [flat_ints (l := l)]
    rfl
theorem inV_ints {z : Int} : ∀ {l : List Int}, z ∉ l → inV (.int z) (l.map V.int) = false
  | [], _ => rfl
  | i :: l, h => by
    have h1 := List.ne_of_not_mem_cons h
    have h2 := List.not_mem_of_not_mem_cons h
    show (eqV (.int i) (.int z) || inV (.int z) (l.map V.int)) = false
    rw [inV_ints h2, Bool.or_false]
    show (i == z) = false
    simp
    exact fun e => h1 e.symm
def spLaw (K : PySem.W.Frag) : Sp := fun vs H Q _ => ∃ (a : Addr) (ns : List Int), vs = [.ref a] ∧ SqL K H a (ns.map V.int) ∧ ns.length ≤ 63 ∧ ∀ H', Q (.bl true) H'
/-! ### what repr tells of ints -/
theorem ticks_in {n x : Int} : ∀ {a : Int} {ms : List Mt}, good n a ms = true → 0 ≤ a → x ∈ ticks ms → 0 ≤ x ∧ x ≤ n
  | a, [], _, _, h => by simp [ticks] at h
  | a, m :: ms, g, h0, h => by
    simp only [good, mtOk, Bool.and_eq_true, Bool.not_eq_true', decide_eq_true_eq, decide_eq_false_iff_not] at g
    rcases List.mem_append.mp (show x ∈ rangeL m.1 (m.2.1 - m.1).toNat ++ ticks ms from h) with h | h
    · simp only [rangeL, List.mem_map, List.mem_range] at h
      obtain ⟨j, hj, rfl⟩ := h
      omega
    · exact ticks_in (a := m.2.1) g.2 (by omega) h
theorem show_all : ∀ {l : List Int}, (∀ i ∈ l, 0 ≤ i ∧ i ≤ 1000) → PyData.showableAll (l.map PyData.int) = true ∧ PyData.hasDictAll (l.map PyData.int) = false ∧ piled (PyData.shownAll (l.map PyData.int)) ≤ l.length * 7
  | [], _ => ⟨rfl, rfl, Nat.zero_le _⟩
  | i :: l, h => by
    obtain ⟨h1, h2, h3⟩ := show_all (l := l) fun x hx => h x (List.mem_cons_of_mem _ hx)
    obtain ⟨i0, i1⟩ := h i (List.mem_cons_self ..)
    refine ⟨?_, ?_, ?_⟩
    · show (decide (i.natAbs.log2 < 1920) && PyData.showableAll (l.map PyData.int)) = true
      rw [h1, decide_eq_true (log_int i0 i1)]
      rfl
    · show (false || PyData.hasDictAll (l.map PyData.int)) = false
      rw [h2]
      rfl
    · show piled (intT i :: PyData.shownAll (l.map PyData.int)) ≤ _
      rw [piled_cons]
      have := len_int i0 i1
      simp only [List.length_cons]
      omega
theorem show_ticks {n : Int} {ms : List Mt} (O : DayOk n ms) : (intsD (ticks ms)).showable = true ∧ (intsD (ticks ms)).hasDict = false ∧ (intsD (ticks ms)).depth ≤ 60 ∧ (intsD (ticks ms)).shown.length ≤ sizeLine := by
  have Ol := O.lo
  have Oh := O.hi
  obtain ⟨h1, h2, h3⟩ := show_all (l := ticks ms) fun i hi => by
    have := ticks_in O.g (by omega) hi
    omega
  refine ⟨h1, h2, ?_, ?_⟩
  · show PyData.depthAll ((ticks ms).map PyData.int) + 1 ≤ 60
    rw [depth_ints]
    decide
  · have z := fmt_text (PyData.shownAll ((ticks ms).map PyData.int))
    have l := good_ticks O.g (by omega)
    show (tupleText (PyData.shownAll ((ticks ms).map PyData.int))).length ≤ sizeLine
    exact sz (by omega)
/-! ### texts tell days apart -/
theorem int_inj {a b : Int} (ha : 0 ≤ a) (hb : 0 ≤ b) (h : intT a = intT b) : a = b := by
  have e := congrArg TL.tl h
  rw [tl_int ha, tl_int hb] at e
  have := TL.numL_inj e
  omega
theorem span_inj {a b c e : Int} (ha : 0 ≤ a) (hb : 0 ≤ b) (hc : 0 ≤ c) (he : 0 ≤ e) (h : spanT a b = spanT c e) : a = c ∧ b = e := by
  have z := split_span ha hb
  rw [h, split_span hc he] at z
  have z2 := List.cons.inj z
  exact ⟨int_inj ha hc z2.1.symm, int_inj hb he (List.cons.inj z2.2).1.symm⟩
theorem private_mem : 32 ∈ TL.tl (" private" : Str) := by decide +kernel
theorem mtText_inj {m m' : Mt} (h : MtIn m) (h' : MtIn m') (e : mtText m = mtText m') : m = m' := by
  obtain ⟨a, b, p⟩ := m
  obtain ⟨a', b', p'⟩ := m'
  obtain ⟨h1, _, h2, _⟩ := h
  obtain ⟨h3, _, h4, _⟩ := h'
  have f1 : 32 ∉ TL.tl (spanT a b) := span_free h1 h2 (by omega)
  have f2 : 32 ∉ TL.tl (spanT a' b') := span_free h3 h4 (by omega)
  rw [mtText_span, mtText_span] at e
  cases p <;> cases p'
  · obtain ⟨rfl, rfl⟩ := span_inj h1 h2 h3 h4 e
    rfl
  · have e2 : spanT a b = spanT a' b' ++ (" private" : Str) := e
    rw [e2, TL.tl_append] at f1
    exact absurd (List.mem_append_right _ private_mem) f1
  · have e2 : spanT a b ++ (" private" : Str) = spanT a' b' := e
    rw [← e2, TL.tl_append] at f2
    exact absurd (List.mem_append_right _ private_mem) f2
  · have e2 : spanT a b ++ (" private" : Str) = spanT a' b' ++ (" private" : Str) := e
    have e3 := congrArg (fun x => Txt.removesuffix x (" private" : Str)) e2
    simp only [rs_yes (show 0 < (" private" : Str).length by decide +kernel)] at e3
    obtain ⟨rfl, rfl⟩ := span_inj h1 h2 h3 h4 e3
    rfl
theorem map_mt_inj : ∀ {ms ms' : List Mt}, (∀ m ∈ ms, MtIn m) → (∀ m ∈ ms', MtIn m) → ms.map mtText = ms'.map mtText → ms = ms'
  | [], [], _, _, _ => rfl
  | [], m' :: ms', _, _, e => by simp at e
  | m :: ms, [], _, _, e => by simp at e
  | m :: ms, m' :: ms', h, h', e => by
    have e2 := List.cons.inj (show mtText m :: ms.map mtText = mtText m' :: ms'.map mtText from e)
    rw [mtText_inj (h m (List.mem_cons_self ..)) (h' m' (List.mem_cons_self ..)) e2.1, map_mt_inj (fun x hx => h x (List.mem_cons_of_mem _ hx)) (fun x hx => h' x (List.mem_cons_of_mem _ hx)) e2.2]
theorem mts_inj {ms ms' : List Mt} (h : ∀ m ∈ ms, MtIn m) (h' : ∀ m ∈ ms', MtIn m) (e : mtsText ms = mtsText ms') : ms = ms' := by
  by_cases h1 : ms = []
  · by_cases h2 : ms' = []
    · rw [h1, h2]
    · subst h1
      exact absurd e.symm (mts_dash h' h2)
  · by_cases h2 : ms' = []
    · subst h2
      exact absurd e (mts_dash h h1)
    · refine map_mt_inj h h' ?_
      rw [← split_mts h h1, ← split_mts h' h2, e]
theorem day_inj {n n' : Int} {ms ms' : List Mt} (O : DayOk n ms) (O' : DayOk n' ms') (e : dayText n ms = dayText n' ms') : n = n' ∧ ms = ms' := by
  have := O.lo
  have := O'.lo
  have z := part_day (n := n) (ms := ms) (by omega)
  rw [e, part_day (by omega)] at z
  have z2 := Prod.mk.inj z
  exact ⟨(int_inj (by omega) (by omega) z2.1).symm, (mts_inj (good_in O') (good_in O) (Prod.mk.inj z2.2).2).symm⟩
theorem day_eq {n n' : Int} {ms ms' : List Mt} (O : DayOk n ms) (O' : DayOk n' ms') : (decide (n = n') && decide (ms = ms')) = decide (V.str (dayText n ms) = V.str (dayText n' ms')) := by
  rw [Bool.eq_iff_iff, Bool.and_eq_true, decide_eq_true_eq, decide_eq_true_eq, decide_eq_true_eq]
  constructor
  · rintro ⟨rfl, rfl⟩
    rfl
  · intro e
    exact day_inj O O' (V.str.inj e)
theorem shaped_pair {n : Int} {ms : List Mt} : SeqAt.shaped (.tuple [.int n, .tuple (ms.map mtD)]) = true := by
  unfold SeqAt.shaped
  rw [Bool.and_eq_true_iff]
  refine ⟨?_, decide_eq_true ?_⟩
  · show (true && (PyData.canLayAll0 (ms.map mtD) && true)) = true
    rw [lay_mts]
    rfl
  · show max 0 (max (PyData.depthAll (ms.map mtD) + 1) 0) + 1 ≤ 64
    have h := depth_mts (ms := ms)
    omega
theorem eqv_pair {n : Int} {ms : List Mt} : PyData.eqv (.tuple [.int n, .tuple (ms.map mtD)]) (.tuple [.int n, .tuple (ms.map mtD)]) = true := by
  show ((n == n) && (PyData.eqvAll (ms.map mtD) (ms.map mtD) && true)) = true
  rw [eqvAll_mts]
  simp
theorem rgV_eq {a b : Int} : rgV a b = (rangeL a (b - a).toNat).map V.int := by
  unfold rgV rangeL
  rw [List.map_map]
  rfl
theorem ok_law {f : Addr} {fd : FuncData} (T : Txt K mg d) (F : Fun K "law" "law" s_law f fd) : FnG P w K mg base 14 f fd ["_law_script"] (spLaw K) := by
  refine fun_okG F sc_law (fun vs H Q E h => ?_) (fun cdv A outer s H vs Q E hr hg h => ?_)
  · obtain ⟨_, _, rfl, _⟩ := h
    rfl
  · obtain ⟨a, ns, rfl, hS, hl, q⟩ := h
    have hu := hr.units
    refine ⟨_, (pss_cons (ps_for PassesOwn.never rfl (pi_range1 rfl T.b_range (pa_cons (pe_callB (call_max2 rfl) (by rfl) T.b_max (by decide +kernel) (pa_cons pe_int (pa_cons (pe_callB (call_min2 rfl) (by rfl) T.b_min (by decide +kernel) (pa_cons pe_int (pa_cons (pe_callB call_len_seq (by rfl) T.b_len PySem.boot_len (pa_cons (pv 0) pa_nil)) pa_nil))) pa_nil))) pa_nil)) (pg_name (i := 1) sc_law.nd rfl (by first | exact Or.inl rfl | exact Or.inr rfl)) (pss_cons (ps_par (i := 3) (j := 4) rfl sc_law.nd rfl rfl (by decide) rfl rfl (pa_cons (pe_callR (ok__law_seed T) (hr.mono (by decide)) rfl T.m__law_seed T.k__law_seed pass0 (pa_cons (pv 0) (pa_cons (pv 1) pa_nil))) (pa_cons pe_non pa_nil)) (by first | rfl | exact sw2 (by rfl) (by rfl) (by rfl))) (pss_one (ps_for PassesOwn.never rfl (pi_range1 rfl T.b_range (pa_cons pe_int pa_nil)) (pg_name (i := 2) sc_law.nd rfl (by first | exact Or.inl rfl | exact Or.inr rfl)) (pss_cons (ps_asg (pe_callR (ok__law_day T) (hr.mono (by decide)) rfl T.m__law_day T.k__law_day pass0 (pa_cons (pv 3) (pa_cons pe_int (pa_cons pe_bl pa_nil)))) (pg_tup rfl (pgs_cons (pg_name (i := 6) sc_law.nd rfl (by first | exact Or.inl rfl | exact Or.inr rfl)) (pgs_cons (pg_name (i := 7) sc_law.nd rfl (by first | exact Or.inl rfl | exact Or.inr rfl)) pgs_nil)))) (pss_cons (ps_set (i := 5) sc_law.nd rfl (by first | exact Or.inl rfl | exact Or.inr rfl) (pe_callTy call_list_of rfl T.b_list (by decide +kernel) (pa_cons (pv 7) pa_nil))) (pss_cons (ps_asg (pe_tup (pa_cons (pe_makeR T.mk_Day (ok_Day_init2 T) (hr.mono (by decide)) rfl T.m_Day pass0 (pa_cons (pv 6) (pa_cons (pv 5) pa_nil))) (pa_cons (pe_lst pa_nil) pa_nil))) (pg_tup rfl (pgs_cons (pg_name (i := 8) sc_law.nd rfl (by first | exact Or.inl rfl | exact Or.inr rfl)) (pgs_cons (pg_name (i := 9) sc_law.nd rfl (by first | exact Or.inl rfl | exact Or.inr rfl)) pgs_nil)))) (pss_cons (ps_for PassesOwn.never rfl (pi_list (pv 7)) (pg_tup rfl (pgs_cons (pg_name (i := 10) sc_law.nd rfl (by first | exact Or.inl rfl | exact Or.inr rfl)) (pgs_cons (pg_name (i := 11) sc_law.nd rfl (by first | exact Or.inl rfl | exact Or.inr rfl)) (pgs_cons (pg_name (i := 12) sc_law.nd rfl (by first | exact Or.inl rfl | exact Or.inr rfl)) pgs_nil)))) (pss_one (ps_expr (pe_bm PySem.F.plainAttrs_list PySem.F.slot_list_extend PySem.F.type_list_extend mt_extend (pv 9) (pa_cons (pe_listRg rfl rfl T.b_list (prg_2 rfl T.b_range (pv 10) (pv 11))) pa_nil))))) (pss_cons (ps_if (PW.pt (pw_or (pt_cmpR (op_neD hu) (pv 5) (pv 7) (nomark _)) (pw_or1 (pt_cmpR (op_neD hu) (pe_tup (pa_cons (pe_fld (pv 8) rfl) (pa_cons (pe_fld (pv 8) rfl) pa_nil))) (pe_tup (pa_cons (pv 6) (pa_cons (pe_callTy call_tuple_of rfl T.b_tuple (by decide +kernel) (pa_cons (pv 7) pa_nil)) pa_nil))) (nomark _))))) (pss_one (ps_ret pe_bl)) pss_nil) (pss_cons (ps_if (PW.pt (pw_or (pt_cmpR op_ne (pe_callB (call_reprD hg hu) (by rfl) T.b_repr (by decide +kernel) (pa_cons (pe_propR (pv 8) T.cl_Day T.p_Day_taken (ok_Day_taken T) (hr.mono (by decide)) pass0) pa_nil)) (pe_callB (call_reprD hg hu) (by rfl) T.b_repr (by decide +kernel) (pa_cons (pe_callTy call_tuple_of rfl T.b_tuple (by decide +kernel) (pa_cons (pv 9) pa_nil)) pa_nil)) (nomark _)) (pw_or1 (pt_cmpR op_ne (pe_callB (call_lenO T.l_Day T.lf_Day (ok_Day___len__ T) (hr.mono (by decide)) pass0) (by rfl) T.b_len PySem.boot_len (pa_cons (pv 8) pa_nil)) (pe_callB call_len_seq (by rfl) T.b_len PySem.boot_len (pa_cons (pv 7) pa_nil)) (nomark _))))) (pss_one (ps_ret pe_bl)) pss_nil) (pss_cons (ps_if (pt_cmpR op_ne (pe_callTy (call_strO T.s_Day T.sf_Day (ok_Day___str__ T) (hr.mono (by decide)) pass0) rfl T.b_str (by decide +kernel) (pa_cons (pv 8) pa_nil)) (pe_callR (ok__law_day_text T) (hr.mono (by decide)) rfl T.m__law_day_text T.k__law_day_text pass0 (pa_cons (pe_tup (pa_cons (pv 6) (pa_cons (pv 7) pa_nil))) pa_nil)) (nomark _)) (pss_one (ps_ret pe_bl)) pss_nil) (pss_cons (ps_if (PW.pt (pw_or (pt_cmpR (op_neD hu) (pe_lc (own := [("_law_at", 13)]) rfl sc_law.nd (pi_range1 rfl T.b_range (pa_cons (pe_callB (call_lenO T.l_Day T.lf_Day (ok_Day___len__ T) (hr.mono (by decide)) pass0) (by rfl) T.b_len PySem.boot_len (pa_cons (pv 8) pa_nil)) pa_nil)) (blkOk_by (N := ["_law_script", "_law_k", "_law_turn", "_law_box", "_law_before", "_law_handed", "_law_size", "_law_meetings", "_law_day_here", "_law_ticks", "_law_begin", "_law_end", "_law_secret", "_law_at"]) (sc := defScope s_law) (by decide +kernel)) (fun _ _ _ _ _ => (pg_name (i := 13) sc_law.nd rfl (by first | exact Or.inl rfl | exact Or.inr rfl))) (fun _ _ _ _ _ => pts_nil) (fun _ _ _ _ _ => (pe_ixO T.g_Day T.gn_Day T.gf_Day (ok_Day___getitem__ T) (hr.mono (by decide)) pass0 (pv 8) (pv 13)))) (pv 7) (nomark _)) (pw_or (pt_cmpR (op_neO T.n_Day T.o_Day T.e_Day T.ef_Day (ok_Day___eq__ T) (hr.mono (by decide)) pass0) (pv 8) (pe_makeR T.mk_Day (ok_Day_init2 T) (hr.mono (by decide)) rfl T.m_Day pass0 (pa_cons (pv 6) (pa_cons (pe_callTy call_tuple_of rfl T.b_tuple (by decide +kernel) (pa_cons (pv 7) pa_nil)) pa_nil))) (nomark _)) (pw_or1 (pt_cmpR (op_eqOS T.su_Day T.e_Day T.ef_Day (ok_Day___eq___S T) (hr.mono (by decide)) pass0) (pv 8) (pe_callTy (call_strO T.s_Day T.sf_Day (ok_Day___str__ T) (hr.mono (by decide)) pass0) rfl T.b_str (by decide +kernel) (pa_cons (pv 8) pa_nil)) (nomark _)))))) (pss_one (ps_ret pe_bl)) pss_nil) (pss_cons (ps_expr (pe_bm PySem.F.plainAttrs_list PySem.F.slot_list_append PySem.F.type_list_append mt_append (pv 5) (pa_cons (pe_tup (pa_cons pe_int (pa_cons pe_int (pa_cons pe_bl pa_nil)))) pa_nil))) (pss_cons (ps_if (PW.pt (pw_or (pt_cmpR (op_neD hu) (pe_fld (pv 8) rfl) (pe_callTy call_tuple_of rfl T.b_tuple (by decide +kernel) (pa_cons (pv 7) pa_nil)) (nomark _)) (pw_or1 (pt_cmpR (op_neO T.n_Day T.o_Day T.e_Day T.ef_Day (ok_Day___eq__ T) (hr.mono (by decide)) pass0) (ClX.pe_cmeth (pe_glob (v := .ref d.C_Day) rfl T.m_Day rfl) T.cr_Day T.cm_Day_read (ok_Day_read T) (hr.mono (by decide)) pass0 (pa_cons (pe_callTy (call_strO T.s_Day T.sf_Day (ok_Day___str__ T) (hr.mono (by decide)) pass0) rfl T.b_str (by decide +kernel) (pa_cons (pv 8) pa_nil)) pa_nil)) (pv 8) (nomark _))))) (pss_one (ps_ret pe_bl)) pss_nil) (pss_cons (ps_if (PW.pt (pw_and (pt_cmp (pc_notN (pv 4))) (pw_and1 (pt_cmpR op_ne (pe_cmpR (op_eqO T.e_Day T.ef_Day (ok_Day___eq__ T) (hr.mono (by decide)) pass0) (pv 4) (pv 8) (nomark _)) (pe_cmpR op_eq (pe_callTy (call_strO T.s_Day T.sf_Day (ok_Day___str__ T) (hr.mono (by decide)) pass0) rfl T.b_str (by decide +kernel) (pa_cons (pv 4) pa_nil)) (pe_callTy (call_strO T.s_Day T.sf_Day (ok_Day___str__ T) (hr.mono (by decide)) pass0) rfl T.b_str (by decide +kernel) (pa_cons (pv 8) pa_nil)) (nomark _)) (nomark _))))) (pss_one (ps_ret pe_bl)) pss_nil) (pss_one (ps_set (i := 4) sc_law.nd rfl (by first | exact Or.inl rfl | exact Or.inr rfl) (pv 8)))))))))))))))))) (pss_cons (ps_if (pt_cmpR (op_eqO T.e_Day T.ef_Day (ok_Day___eq__ T) (hr.mono (by decide)) pass0) (pe_makeR T.mk_Day (ok_Day_init2 T) (hr.mono (by decide)) rfl T.m_Day pass0 (pa_cons pe_int (pa_cons (pe_lst (pa_cons (pe_tup (pa_cons pe_int (pa_cons pe_int (pa_cons pe_bl pa_nil)))) pa_nil)) pa_nil))) (pe_makeR T.mk_Day (ok_Day_init2 T) (hr.mono (by decide)) rfl T.m_Day pass0 (pa_cons pe_int (pa_cons (pe_lst (pa_cons (pe_tup (pa_cons pe_int (pa_cons pe_int (pa_cons pe_bl pa_nil)))) pa_nil)) pa_nil))) (nomark _)) (pss_one (ps_ret pe_bl)) pss_nil) (pss_one (ps_ret (pe_and (pe_cmpR (op_eqD hu) (pe_fld (pe_makeR T.mk_Day (ok_Day_init1 T) (hr.mono (by decide)) rfl T.m_Day pass0 (pa_cons pe_int pa_nil)) rfl) (pe_tup pa_nil) (nomark _)) (pe_and (pe_cmpR op_eq (pe_callTy (call_strO T.s_Day T.sf_Day (ok_Day___str__ T) (hr.mono (by decide)) pass0) rfl T.b_str (by decide +kernel) (pa_cons (pe_makeR T.mk_Day (ok_Day_init1 T) (hr.mono (by decide)) rfl T.m_Day pass0 (pa_cons pe_int pa_nil)) pa_nil)) pe_str (nomark _)) (pe_one (pe_cmpR (op_neO T.n_Day T.o_Day T.e_Day T.ef_Day (ok_Day___eq__ T) (hr.mono (by decide)) pass0) (pe_makeR T.mk_Day (ok_Day_init1 T) (hr.mono (by decide)) rfl T.m_Day pass0 (pa_cons pe_int pa_nil)) (pe_makeR T.mk_Day (ok_Day_init1 T) (hr.mono (by decide)) rfl T.m_Day pass0 (pa_cons pe_int pa_nil)) (nomark _))))))))), ?_⟩
    refine ⟨_, rfl, a, _, rfl, .inl hS, _, _, rfl, _, _, rfl, _, rfl, ?_, ?_, ?_⟩
    · rw [List.length_map]
      split <;> split <;> omega
    · rw [List.length_map]
      split <;> split <;> omega
    refine for_range (fun i σ H2 => ∃ s1 s2 s3 s4 s5 s6 s7 s8 s9 s10 s11 s12 s13, σ = [some (.ref a), s1, s2, s3, s4, s5, s6, s7, s8, s9, s10, s11, s12, s13] ∧ Same H H2) ⟨_, _, _, _, _, _, _, _, _, _, _, _, _, rfl, Same.refl H⟩ ?_ ?_
    · rintro i σ H2 hi ⟨s1, s2, s3, s4, s5, s6, s7, s8, s9, s10, s11, s12, s13, rfl, e2⟩
      refine ⟨_, rfl, _, rfl, a, ns, i, by rw [Int.zero_add], e2.seq hS, fun b x y H3 nb e3 hb => ⟨_, _, rfl, ?_⟩⟩
      have nbH : H b = none := e2.free nb
      have f3 : Same H H3 := e2.trans e3
      refine ⟨6, rfl, by decide, by decide, ?_⟩
      refine for_range (fun j σ H4 => ∃ s2 s5 s6 s7 s8 s9 s10 s11 s12 s13 bv, σ = [some (.ref a), some (.int (0 + i)), s2, some (.ref b), some bv, s5, s6, s7, s8, s9, s10, s11, s12, s13] ∧ Same H H4 ∧ IsBox H4 b ∧ (bv = .non ∨ ∃ n ms, IsDay d K H4 bv n ms ∧ DayOk n ms))
        ⟨_, _, _, _, _, _, _, _, _, _, _, rfl, f3, ⟨x, y, hb⟩, .inl rfl⟩ ?_ ?_
      · rintro j σ H4 hj ⟨s2, s5, s6, s7, s8, s9, s10, s11, s12, s13, bv, rfl, f4, bx4, hbv⟩
        -- size, meetings = _law_day(box, 48, True)
        refine ⟨_, rfl, b, 48, true, rfl, bx4, by decide, by decide, fun t l n ws ms H5 e5 bx5 ht5 hl5 nl5 hm5 O h48 => ?_⟩
        have f5 : Same H H5 := same_thenX f4 e5 nbH
        refine ⟨t, _, rfl, .inl (.inl ht5), rfl, _, _, rfl, _, _, rfl, rfl, ?_⟩
        have O0 := O.lo
        have ol := mts_len O
        have hbv5 : bv = .non ∨ ∃ n ms, IsDay d K H5 bv n ms ∧ DayOk n ms := hbv.imp id fun ⟨n, ms, D, o⟩ => ⟨n, ms, D.imm (bx4.imm e5), o⟩
        -- handed = list(meetings)
        refine ⟨_, rfl, l, ws, rfl, .inl (.inl (.inl hl5)), fun o no => ?_⟩
        have noH5 := no
        have so := Same.new (o := .lst ws) no
        have ho : upd H5 o (.lst ws) o = some (.lst ws) := upd_same
        have ol_ : o ≠ l := (ne_of_none hl5 no).symm
        -- day, ticks = Day(size, handed), []
        refine ⟨_, rfl, _, rfl, fun x6 dx6 nx6 ndx6 ne6 => made_day' (K := K) (ms := ms) ⟨o, ws, rfl, .inl (.inl (.inl ho)), hm5.mono so⟩ O nx6 ndx6 ne6 fun H6 e6 D6 => ⟨rfl, ?_⟩⟩
        refine ⟨(by show 0 ≤ sizeLine; decide), fun p7 np7 => ?_⟩
        have e7 := Same.new (o := .lst []) np7
        refine ⟨(by show 2 ≤ sizeLine; decide), fun p8 np8 => ?_⟩
        have e8 := Same.new (o := .tup [.ref x6, .ref p7]) np8
        refine ⟨p8, _, rfl, .inl (.inl upd_same), rfl, _, _, rfl, _, _, rfl, rfl, ?_⟩
        have e58 := so.trans (e6.trans (e7.trans e8))
        have D8 := D6.mono (e7.trans e8)
        have hp7 : upd (upd H6 p7 (.lst [])) p8 (.tup [.ref x6, .ref p7]) p7 = some (.lst []) := e8 _ _ upd_same
        have ho8 := (e6.trans (e7.trans e8)) _ _ ho
        have np7' : H5 p7 = none := (so.trans e6).free np7
        have p7o : p7 ≠ o := (ne_of_none (e6 _ _ ho) np7).symm
        generalize upd (upd H6 p7 (.lst [])) p8 (.tup [.ref x6, .ref p7]) = H8 at e58 D8 hp7 ho8
        clear e7 e8 np8 np7 e6 D6 nx6 ndx6 ne6 so ho
        have hl8 := e58 _ _ hl5
        have hm8 := hm5.mono e58
        have p7l : p7 ≠ l := fun e => by rw [e, hl5] at np7'; cases np7'
        -- for begin, end, secret in meetings: ticks.extend(..)
        refine ⟨_, rfl, l, rfl, ⟨ws, .inl (.inl hl8)⟩, ?_⟩
        refine for_list (K := K) (a := l) (xs := ws) (fun u σ H9 => ∃ s10 s11 s12, σ = [some (.ref a), some (.int (0 + i)), some (.int (0 + j)), some (.ref b), some bv, some (.ref o), some (.int n), some (.ref l), some (.ref x6), some (.ref p7), s10, s11, s12, s13] ∧ SameX p7 H8 H9 ∧ H9 p7 = some (.lst ((ticks (ms.take u)).map V.int)))
          ⟨_, _, _, rfl, SameX.refl, hp7⟩ (fun u σ H9 _ ⟨_, _, _, _, s9, _⟩ => .inl (.inl (s9 _ _ hl8 p7l.symm))) ?_ ?_
        · rintro u xv σ H9 hx ⟨s10, s11, s12, rfl, s9, h9⟩
          obtain ⟨m, hm1, hm2⟩ := hm8.get hx
          have im : Imm H8 H9 := SameX.imm s9 hp7
          obtain ⟨bm, rfl, hbm⟩ := hm2.imm im
          obtain ⟨g1, g2, g3⟩ := good_at O.g hm1
          refine ⟨bm, _, rfl, .inl (.inl hbm), rfl, _, _, rfl, _, _, rfl, _, _, rfl, rfl, ?_⟩
          have lt := ticks_take_len (i := u) O.g (by omega)
          refine ⟨_, rfl, .inl ⟨rfl, _, .inl (.inl h9)⟩, _, rfl, _, rfl, _, _, rfl, rfl, RgOk.of_le g1 (by omega) (by omega) (by omega), fun q10 nq10 => ?_⟩
          have e10 := Same.new (o := .lst (rgV m.1 m.2.1)) nq10
          refine ⟨p7, q10, _, _, rfl, rfl, e10 _ _ h9, upd_same, (by rw [List.length_map, rgV_length]; exact sz (by omega)), ?_⟩
          refine ⟨_, _, _, rfl, ?_, ?_⟩
          · intro c oo hc hn
            rw [upd_ne hn]
            exact e10 _ _ (s9 _ _ hc hn)
          · rw [upd_same, take_snoc hm1, ticks_append, List.map_append]
            rw [rgV_eq, show ticks [m] = rangeL m.1 (m.2.1 - m.1).toNat from by simp [ticks]]
        · rintro σ H9 ⟨s10, s11, s12, rfl, s9, h9⟩
          rw [hm8.1, List.take_length] at h9
          have im : Imm H8 H9 := SameX.imm s9 hp7
          have D9 := D8.imm im
          have ho9 := s9 _ _ ho8 p7o.symm
          have hl9 := s9 _ _ hl8 p7l.symm
          have hm9 := hm8.imm im
          have f8 : Same H H8 := f5.trans e58
          have bx8 := bx5.same e58
          have p7b : p7 ≠ b := by
            obtain ⟨xb, yb, hb5⟩ := bx5
            intro e
            rw [e, hb5] at np7'
            cases np7'
          have bx9 : IsBox H9 b := by
            obtain ⟨xb, yb, hb8⟩ := bx8
            exact ⟨xb, yb, s9 _ _ hb8 p7b.symm⟩
          have f9 : Same H H9 := fun c oo hc => s9 _ _ (f8 _ _ hc) (ne_of_none (f5 _ _ hc) np7')
          have hbv9 : bv = .non ∨ ∃ n ms, IsDay d K H9 bv n ms ∧ DayOk n ms := hbv5.imp id fun ⟨n, ms, D, o⟩ => ⟨n, ms, (D.mono e58).imm im, o⟩
          have noH : H o = none := f5.free noH5
          clear im D8 ho8 hl8 hm8 f8 bx8 bx5 hbv5 hbv s9 hp7 e58 hl5 hm5 ht5 nl5 f5 no noH5 np7' bx4 f4
          obtain ⟨a6, dx6, t6, w6, ea6, hd6, ht6, hm6⟩ := id D9
          cases ea6
          -- handed != meetings or (length, meetings) != (size, tuple(meetings))
          refine ⟨_, rfl, _, rfl, _, _, .lst (.inl (.inl ho9)) (dp_mts hm9), .lst (.inl (.inl hl9)) (dp_mts hm9), shaped_mtsL, shaped_mtsL, _, rfl, ?_⟩
          rw [eqv_mtsL]
          refine iteNB (by simp) ?_
          refine ⟨_, rfl, x6, _, dx6, _, _, rfl, hd6, T.cl_Day, T.na_Day_length, lkD_length, ?_⟩
          refine ⟨_, rfl, x6, _, dx6, _, _, rfl, hd6, T.cl_Day, T.na_Day_meetings, lkD_meetings, ?_⟩
          refine ⟨(by show 2 ≤ sizeLine; decide), fun p10 np10 => ?_⟩
          have e10 := Same.new (o := .tup [.int n, .ref t6]) np10
          refine ⟨_, rfl, _, rfl, l, ws, rfl, .inl ⟨.inl (.inl (e10 _ _ hl9)), fun p11 np11 => ?_⟩⟩
          have e11 := Same.new (o := .tup ws) np11
          refine ⟨(by show 2 ≤ sizeLine; decide), fun p12 np12 => ?_⟩
          have e12 := Same.new (o := .tup [.int n, .ref p11]) np12
          have e912 := e10.trans (e11.trans e12)
          refine ⟨.tuple [.int n, .tuple (ms.map mtD)], .tuple [.int n, .tuple (ms.map mtD)], .tup (.inl (.inl ((e11.trans e12) _ _ upd_same))) (.cons (.int _) (.cons (.tup (Same.tup e912 ht6) (dp_mts (hm6.mono e912))) .nil)), .tup (.inl (.inl upd_same)) (.cons (.int _) (.cons (.tup (.inl (.inl (e12 _ _ upd_same))) (dp_mts (hm9.mono e912))) .nil)), shaped_pair, shaped_pair, _, rfl, ?_⟩
          rw [eqv_pair]
          refine iteF ?_
          have D12 := D9.mono e912
          have ho12 := e912 _ _ ho9
          have hl12 := e912 _ _ hl9
          have hm12 := hm9.mono e912
          have h12 := e912 _ _ h9
          have f12 := f9.trans e912
          have bx12 := bx9.same e912
          have hd12 := e912 _ _ hd6
          have hbv12 : bv = .non ∨ ∃ n' ms', IsDay d K (upd (upd (upd H9 p10 (.tup [.int n, .ref t6])) p11 (.tup ws)) p12 (.tup [.int n, .ref p11])) bv n' ms' ∧ DayOk n' ms' := hbv9.imp id fun ⟨n, ms, D, o⟩ => ⟨n, ms, D.mono e912, o⟩
          generalize upd (upd (upd H9 p10 (.tup [.int n, .ref t6])) p11 (.tup ws)) p12 (.tup [.int n, .ref p11]) = H12 at D12 ho12 hl12 hm12 h12 f12 bx12 hd12 hbv12
          clear e10 e11 e12 e912 np10 np11 np12 D9 ho9 hl9 hm9 h9 f9 bx9 hd6 ht6 hm6 hbv9
          obtain ⟨w1, w2, w3, w4⟩ := show_ticks O
          -- repr(taken) != repr(tuple(ticks)) or len(day) != len(meetings)
          refine ⟨_, rfl, x6, dx6, _, rfl, hd12, _, n, ms, rfl, D12, O, fun r13 H13 e13 h13 => ⟨r13, intsD (ticks ms), rfl, dp_ints (.inl (.inl h13)), w1, w2, w3, w4, ?_⟩⟩
          refine ⟨_, rfl, p7, _, rfl, .inl ⟨.inl (.inl (e13 _ _ h12)), fun p14 np14 => ⟨p14, intsD (ticks ms), rfl, dp_ints (.inl (.inl upd_same)), w1, w2, w3, w4, rfl, _, rfl, ?_⟩⟩⟩
          refine iteNS rfl ?_
          have e14 := e13.trans (Same.new (o := .tup ((ticks ms).map V.int)) np14)
          generalize upd H13 p14 (.tup ((ticks ms).map V.int)) = H14 at e14
          clear e13 h13 np14
          refine ⟨_, rfl, x6, dx6, _, rfl, e14 _ _ hd12, _, n, ms, rfl, D12.mono e14, _, rfl, by omega, by omega, ?_⟩
          refine ⟨_, rfl, l, _, rfl, .inl (.inl (.inl (e14 _ _ hl12))), rfl, _, rfl, ?_⟩
          refine iteNS (congrArg V.int (by rw [hm12.1])) ?_
          -- str(day) != _law_day_text((size, meetings))
          refine ⟨_, rfl, x6, dx6, _, rfl, e14 _ _ hd12, _, n, ms, rfl, D12.mono e14, O, fun H15 e15 => ⟨_, rfl, ?_⟩⟩
          have e1215 := e14.trans e15
          refine ⟨_, rfl, _, rfl, (by show 2 ≤ sizeLine; decide), fun p16 np16 => ?_⟩
          have e16 := e1215.trans (Same.new (o := .tup [.int n, .ref l]) np16)
          refine ⟨p16, l, n, ws, ms, rfl, upd_same, e16 _ _ hl12, hm12.mono e16, O, fun H17 e17 => ⟨rfl, _, rfl, ?_⟩⟩
          refine iteNS rfl ?_
          have e1217 := e16.trans e17
          clear e14 e15 e1215 e16 e17 np16
          -- [day[at] for at in range(len(day))] != meetings
          refine ⟨_, rfl, x6, dx6, _, rfl, e1217 _ _ hd12, _, n, ms, rfl, D12.mono e1217, _, rfl, by omega, by omega, _, rfl, by omega, by omega, fun D18 nD18 => ?_⟩
          have s18 := Same.new (o := .lst []) nD18
          refine lc_range (n := ms.length) (fun c H19 => Same H17 H19 ∧ ∃ acc, H19 D18 = some (.lst acc) ∧ IsMts H19 acc (ms.take c)) ⟨s18, [], upd_same, .nil⟩ ?_ ?_
          · rintro c H19 hc ⟨s19, acc, h19, ha⟩
            refine ⟨rfl, ?_⟩
            refine ⟨_, rfl, _, rfl, x6, dx6, _, rfl, s19 _ _ (e1217 _ _ hd12), _, n, ms, c, by rw [Int.zero_add], (D12.mono e1217).mono s19, hc, fun uv mc hmc imc => ?_⟩
            have la := ha.1
            rw [List.length_take] at la
            refine ⟨acc, h19, small1000 (by omega), ?_, _, upd_same, ?_⟩
            · intro c0 o0 h0
              rw [upd_ne (ne_of_none h0 nD18)]
              exact s19 _ _ h0
            · rw [take_snoc hmc]
              have im : Imm H19 (upd H19 D18 (.lst (acc ++ [uv]))) := Imm.upd h19
              exact (ha.imm im).append (.cons (imc.imm im) .nil)
          · rintro H19 ⟨s19, acc, h19, ha⟩
            rw [List.take_length] at ha
            have e1219 := e1217.trans s19
            refine ⟨_, rfl, _, _, .lst (.inl (.inl h19)) (dp_mts ha), .lst (.inl (.inl (e1219 _ _ hl12))) (dp_mts (hm12.mono e1219)), shaped_mtsL, shaped_mtsL, _, rfl, ?_⟩
            rw [eqv_mtsL]
            refine iteNB (by simp) ?_
            -- day != Day(size, tuple(meetings))
            refine ⟨_, rfl, _, rfl, _, rfl, l, ws, rfl, .inl ⟨.inl (.inl (e1219 _ _ hl12)), fun p20 np20 => ?_⟩⟩
            have e20 := e1219.trans (Same.new (o := .tup ws) np20)
            refine fun xz dxz nxz ndxz nez => made_day' (K := K) (ms := ms) ⟨p20, ws, rfl, .inr (.inl (.inl upd_same)), hm12.mono e20⟩ O nxz ndxz nez fun H21 e21 Dz => ⟨rfl, ?_⟩
            have e1221 := e20.trans e21
            obtain ⟨az, dxz', tz, wz, eaz, hdz, htz, hmz⟩ := id Dz
            cases eaz
            refine ⟨x6, dx6, _, xz, _, _, rfl, rfl, e1221 _ _ hd12, hdz, _, _, n, n, ms, ms, rfl, D12.mono e1221, Dz, _, rfl, ?_⟩
            refine ⟨_, rfl, iteNB (by simp) ?_⟩
            -- day == str(day)
            refine ⟨_, rfl, _, rfl, x6, dx6, _, rfl, e1221 _ _ hd12, _, n, ms, rfl, D12.mono e1221, O, fun H22 e22 => ⟨_, rfl, ?_⟩⟩
            have e1222 := e1221.trans e22
            refine ⟨x6, dx6, _, _, rfl, rfl, e1222 _ _ hd12, _, n, ms, _, rfl, D12.mono e1222, _, rfl, ?_⟩
            refine ⟨_, rfl, iteFB rfl ?_⟩
            have ho22 := e1222 _ _ ho12
            have hl22 := e1222 _ _ hl12
            have hm22 := hm12.mono e1222
            have f22 := f12.trans e1222
            have bx22 := bx12.same e1222
            have D22 := D12.mono e1222
            have hbv22 : bv = .non ∨ ∃ n' ms', IsDay d K H22 bv n' ms' ∧ DayOk n' ms' := hbv12.imp id fun ⟨n, ms, D, o⟩ => ⟨n, ms, D.mono e1222, o⟩
            clear e22 e1222 e1221 e21 e20 Dz hdz htz hmz nxz ndxz nez np20 e1219 s19 h19 ha s18 nD18 e1217 ho12 hl12 hm12 f12 bx12 D12 hbv12 hd12 h12 w1 w2 w3 w4
            -- handed.append((0, 1, False))
            refine ⟨_, rfl, .inl ⟨rfl, ws, .inl (.inl ho22)⟩, (by show 3 ≤ sizeLine; decide), fun p23 np23 => ?_⟩
            have e23 := Same.new (o := .tup [.int 0, .int 1, .bl false]) np23
            have hwl : ws.length = ms.length := hm22.1
            refine ⟨o, ws, _, rfl, rfl, e23 _ _ ho22, small1000 (by omega), ?_⟩
            have ob : o ≠ b := mts_ne bx22 ho22 hm22
            have im23 : Imm H22 (upd (upd H22 p23 (.tup [.int 0, .int 1, .bl false])) o (.lst (ws ++ [.ref p23]))) := (Imm.of e23).trans (Imm.upd (e23 _ _ ho22))
            have hl23 : upd (upd H22 p23 (.tup [.int 0, .int 1, .bl false])) o (.lst (ws ++ [.ref p23])) l = some (.lst ws) := by
              rw [upd_ne ol_.symm]
              exact e23 _ _ hl22
            have bx23 : IsBox (upd (upd H22 p23 (.tup [.int 0, .int 1, .bl false])) o (.lst (ws ++ [.ref p23]))) b := by
              obtain ⟨xb, yb, hb22⟩ := bx22
              exact ⟨xb, yb, by rw [upd_ne ob.symm]; exact e23 _ _ hb22⟩
            have f23 : Same H (upd (upd H22 p23 (.tup [.int 0, .int 1, .bl false])) o (.lst (ws ++ [.ref p23]))) := fun c oo hc => by
              rw [upd_ne (ne_of_none hc noH)]
              exact e23 _ _ (f22 _ _ hc)
            generalize upd (upd H22 p23 (.tup [.int 0, .int 1, .bl false])) o (.lst (ws ++ [.ref p23])) = H23 at im23 hl23 bx23 f23
            have D23 := D22.imm im23
            have hm23 := hm22.imm im23
            have hbv23 : bv = .non ∨ ∃ n' ms', IsDay d K H23 bv n' ms' ∧ DayOk n' ms' := hbv22.imp id fun ⟨n, ms, D, o⟩ => ⟨n, ms, D.imm im23, o⟩
            clear im23 e23 np23 ho22 hl22 hm22 f22 bx22 D22 hbv22
            obtain ⟨a6, dx6', t6', w6', ea6, hd23, ht23, hmt23⟩ := id D23
            cases ea6
            -- day.meetings != tuple(meetings) or Day.read(str(day)) != day
            refine ⟨_, rfl, x6, _, _, _, _, rfl, hd23, T.cl_Day, T.na_Day_meetings, lkD_meetings, ?_⟩
            refine ⟨_, rfl, l, ws, rfl, .inl ⟨.inl (.inl hl23), fun p24 np24 => ?_⟩⟩
            have e24 := Same.new (o := .tup ws) np24
            refine ⟨_, _, .tup (Same.tup e24 ht23) (dp_mts (hmt23.mono e24)), .tup (.inl (.inl upd_same)) (dp_mts (hm23.mono e24)), shaped_mtsT, shaped_mtsT, _, rfl, ?_⟩
            rw [eqv_mtsT]
            refine iteNB (by simp) ?_
            refine ⟨rfl, _, rfl, x6, _, _, rfl, e24 _ _ hd23, _, n, ms, rfl, D23.mono e24, O, fun H25 e25 => ⟨_, rfl, ?_⟩⟩
            have e2425 := e24.trans e25
            refine ⟨n, ms, rfl, O, by omega, fun vr H26 e26 Dr => ?_⟩
            have e2426 := e2425.trans e26
            obtain ⟨ar, dxr, tr, wr, ear, hdr, htr, hmr⟩ := id Dr
            subst ear
            refine ⟨_, rfl, ar, dxr, _, x6, _, _, rfl, rfl, hdr, e2426 _ _ hd23, _, _, n, n, ms, ms, rfl, Dr, D23.mono e2426, _, rfl, ?_⟩
            refine ⟨_, rfl, iteNB (by simp) ?_⟩
            have hl26 := e2426 _ _ hl23
            have f26 := f23.trans e2426
            have bx26 := bx23.same e2426
            have D26 := D23.mono e2426
            have hd26 := e2426 _ _ hd23
            have hbv26 : bv = .non ∨ ∃ n' ms', IsDay d K H26 bv n' ms' ∧ DayOk n' ms' := hbv23.imp id fun ⟨n, ms, D, o⟩ => ⟨n, ms, D.mono e2426, o⟩
            clear e2426 e2425 e24 e25 e26 hl23 f23 bx23 D23 hbv23 hdr htr hmr Dr hm23 hmt23 ht23 hd23
            rcases hbv26 with rfl | ⟨n', ms', Db, Ob⟩
            · refine ⟨_, rfl, _, rfl, ?_⟩
              refine iteF ?_
              exact ⟨_, rfl, _, _, _, _, _, _, _, _, _, _, _, rfl, f26, bx26, .inr ⟨n, ms, D26, O⟩⟩
            · obtain ⟨ab, dxb, tb, wb, rfl, hdb, htb, hmb⟩ := id Db
              refine ⟨_, rfl, _, rfl, ?_⟩
              refine iteT ?_
              refine ⟨_, rfl, _, rfl, ab, dxb, _, x6, _, _, rfl, rfl, hdb, hd26, _, _, n', n, ms', ms, rfl, Db, D26, _, rfl, ?_⟩
              refine ⟨_, rfl, ab, dxb, _, rfl, hdb, _, n', ms', rfl, Db, Ob, fun H27 e27 => ⟨_, rfl, ?_⟩⟩
              refine ⟨_, rfl, x6, _, _, rfl, e27 _ _ hd26, _, n, ms, rfl, D26.mono e27, O, fun H28 e28 => ⟨_, rfl, rfl, rfl, _, rfl, ?_⟩⟩
              refine iteNS (congrArg V.bl (day_eq Ob O)) ?_
              have e2628 := e27.trans e28
              exact ⟨_, rfl, _, _, _, _, _, _, _, _, _, _, _, rfl, f26.trans e2628, bx26.same e2628, .inr ⟨n, ms, D26.mono e2628, O⟩⟩
      · rintro σ H4 ⟨s2, s5, s6, s7, s8, s9, s10, s11, s12, s13, bv, rfl, f4, bx4, hbv⟩
        exact ⟨_, _, _, _, _, _, _, _, _, _, _, _, _, rfl, f4⟩
    · rintro σ H2 ⟨s1, s2, s3, s4, s5, s6, s7, s8, s9, s10, s11, s12, s13, rfl, e2⟩
      -- Day(1, [(0, 1, True)]) == Day(1, [(0, 1, False)])
      have O1 : ∀ f : Bool, DayOk 1 [((0, 1, f) : Mt)] := fun f => ⟨by decide, by decide, rfl⟩
      refine ⟨(by show 3 ≤ sizeLine; decide), fun p1 np1 => ?_⟩
      have e1 := Same.new (o := .tup [.int 0, .int 1, .bl true]) np1
      refine ⟨(by show 1 ≤ sizeLine; decide), fun p2 np2 => ?_⟩
      have e3 := Same.new (o := .lst [.ref p1]) np2
      refine fun xa dxa nxa ndxa nea => made_day' (K := K) (ms := [(0, 1, true)]) ⟨p2, _, rfl, .inl (.inl (.inl upd_same)), .cons ⟨p1, rfl, e3 _ _ upd_same⟩ .nil⟩ (O1 true) nxa ndxa nea fun H4 e4 Da => ⟨rfl, ?_⟩
      refine ⟨(by show 3 ≤ sizeLine; decide), fun p5 np5 => ?_⟩
      have e5 := Same.new (o := .tup [.int 0, .int 1, .bl false]) np5
      refine ⟨(by show 1 ≤ sizeLine; decide), fun p6 np6 => ?_⟩
      have e6 := Same.new (o := .lst [.ref p5]) np6
      refine fun xb dxb nxb ndxb neb => made_day' (K := K) (ms := [(0, 1, false)]) ⟨p6, _, rfl, .inl (.inl (.inl upd_same)), .cons ⟨p5, rfl, e6 _ _ upd_same⟩ .nil⟩ (O1 false) nxb ndxb neb fun H7 e7 Db => ⟨rfl, ?_⟩
      have Da7 := Da.mono (e5.trans (e6.trans e7))
      obtain ⟨aa, dxa', ta, wa, eaa, hda, hta, hma⟩ := id Da7
      cases eaa
      obtain ⟨ab, dxb', tb, wb, eab, hdb, htb, hmb⟩ := id Db
      cases eab
      refine ⟨xa, _, _, xb, _, _, rfl, rfl, hda, hdb, _, _, 1, 1, _, _, rfl, Da7, Db, _, rfl, ?_⟩
      refine ⟨_, rfl, iteFB (by decide) ?_⟩
      -- the last line
      refine fun xc dxc nxc ndxc nec => made_day0 T (by decide) (by decide) nxc ndxc nec fun H8 e8 Dc => ⟨rfl, ?_⟩
      obtain ⟨ac, dxc', tc, wc, eac, hdc, htc, hmc⟩ := id Dc
      cases eac
      refine ⟨xc, _, _, _, _, rfl, hdc, T.cl_Day, T.na_Day_meetings, lkD_meetings, (by show 0 ≤ sizeLine; decide), fun p9 np9 => ?_⟩
      have e9 := Same.new (o := .tup []) np9
      refine ⟨.tuple (([] : List Mt).map mtD), .tuple (([] : List Mt).map mtD), .tup (Same.tup e9 htc) (dp_mts (hmc.mono e9)), .tup (.inl (.inl upd_same)) .nil, shaped_mtsT, shaped_mtsT, _, rfl, ?_⟩
      rw [eqv_mtsT]
      refine iteT ?_
      refine fun xd dxd nxd ndxd ned => made_day0 T (by decide) (by decide) nxd ndxd ned fun H10 e10 Dd => ⟨rfl, ?_⟩
      obtain ⟨ad, dxd', td, wd, ead, hdd, htd, hmd⟩ := id Dd
      cases ead
      refine ⟨xd, _, _, rfl, hdd, _, 3, [], rfl, Dd, ⟨by decide, by decide, rfl⟩, fun H11 e11 => ⟨_, rfl, rfl, _, rfl, ?_⟩⟩
      rw [show dayText 3 [] = ("3: -" : Str) from by decide +kernel, decide_eq_true rfl]
      refine iteT ?_
      refine fun xe dxe nxe ndxe nee => made_day0 T (by decide) (by decide) nxe ndxe nee fun H12 e12 De => ⟨rfl, ?_⟩
      refine fun xf dxf nxf ndxf nef => made_day0 T (by decide) (by decide) nxf ndxf nef fun H13 e13 Df => ⟨rfl, ?_⟩
      obtain ⟨ae, dxe', te, we, eae, hde, hte, hme⟩ := id De
      cases eae
      obtain ⟨af, dxf', tf, wf, eaf, hdf, htf, hmf⟩ := id Df
      cases eaf
      refine ⟨xe, _, _, xf, _, _, rfl, rfl, e13 _ _ hde, hdf, _, _, 3, 4, _, _, rfl, De.mono e13, Df, _, rfl, ?_⟩
      exact q _
end
end DD

set_option Elab.async false
set_option linter.all false
set_option maxRecDepth 100000
set_option maxHeartbeats 4000000
namespace DD
open PySem PySem.Spec PyProof.Rows L2 StX
theorem kit_str {K : PySem.W.Frag} {C : Addr} (h1 : PySem.W.isClsIn K C = true) (h2 : PySem.W.typeIn K (.ref C) = some (.type "type")) (h3 : PySem.W.subIn K (.type "str") (.ref C) = some false) : PySem.W.kitOne K (.type "str") (.ref C) = some false := by
  have h4 : (PySem.W.clsIn K C).isSome = true := h1
  simp [PySem.W.kitOne, PySem.W.kitCls, h4, h2, h3]
theorem all_mk {l : PySem.W.OpenLaw} {w : World} {K : PySem.W.Frag} {h : Heap} {mg : Str → Option Value} {fa : Addr} (X : K.In h) (G : h.Ns mainGlobals mg) (hfa : mg "law" = some (.ref fa))
    {f_is_integer f_is_number f_is_positive f_is_sequence f_is_numeral f_read_number f_read_span f__is_meeting f__are_meetings f__meeting_text f__meetings_text f__read_meeting f__read_meetings f__law_seed f__law_choose f__law_one_of f__law_day f__law_day_text f_law f_Day___init__ f_Day_read q_Day_read f_Day_taken q_Day_taken f_Day___len__ f_Day___getitem__ f_Day___eq__ f_Day___str__ C_Day : Addr}
     (a_Day : PySem.W.nsIn K mainGlobals "Day" = some (some (.ref C_Day)))
    {oc_is_integer kV_is_integer do_is_integer pm_is_integer cd_is_integer ct_is_integer : Value} {od_is_integer an_is_integer : Option Addr} {sl_is_integer : Array (Option Value)} (a_is_integer : PySem.W.nsIn K mainGlobals "is_integer" = some (some (.ref f_is_integer)))
     (l_is_integer : K.lookup f_is_integer = some ⟨oc_is_integer, od_is_integer, .func (PySem.W.fnOf "is_integer" "is_integer" (defArgs s_is_integer) (defBody s_is_integer) (defScope s_is_integer) .none kV_is_integer do_is_integer pm_is_integer an_is_integer cd_is_integer ct_is_integer), sl_is_integer⟩)
     (c_is_integer : PySem.W.codeIn K cd_is_integer "is_integer" = true)
     (k_is_integer : PySem.W.keepIn K (.ref f_is_integer) = true)
    {oc_is_number kV_is_number do_is_number pm_is_number cd_is_number ct_is_number : Value} {od_is_number an_is_number : Option Addr} {sl_is_number : Array (Option Value)} (a_is_number : PySem.W.nsIn K mainGlobals "is_number" = some (some (.ref f_is_number)))
     (l_is_number : K.lookup f_is_number = some ⟨oc_is_number, od_is_number, .func (PySem.W.fnOf "is_number" "is_number" (defArgs s_is_number) (defBody s_is_number) (defScope s_is_number) .none kV_is_number do_is_number pm_is_number an_is_number cd_is_number ct_is_number), sl_is_number⟩)
     (c_is_number : PySem.W.codeIn K cd_is_number "is_number" = true)
     (k_is_number : PySem.W.keepIn K (.ref f_is_number) = true)
    {oc_is_positive kV_is_positive do_is_positive pm_is_positive cd_is_positive ct_is_positive : Value} {od_is_positive an_is_positive : Option Addr} {sl_is_positive : Array (Option Value)} (a_is_positive : PySem.W.nsIn K mainGlobals "is_positive" = some (some (.ref f_is_positive)))
     (l_is_positive : K.lookup f_is_positive = some ⟨oc_is_positive, od_is_positive, .func (PySem.W.fnOf "is_positive" "is_positive" (defArgs s_is_positive) (defBody s_is_positive) (defScope s_is_positive) .none kV_is_positive do_is_positive pm_is_positive an_is_positive cd_is_positive ct_is_positive), sl_is_positive⟩)
     (c_is_positive : PySem.W.codeIn K cd_is_positive "is_positive" = true)
     (k_is_positive : PySem.W.keepIn K (.ref f_is_positive) = true)
    {oc_is_sequence kV_is_sequence do_is_sequence pm_is_sequence cd_is_sequence ct_is_sequence : Value} {od_is_sequence an_is_sequence : Option Addr} {sl_is_sequence : Array (Option Value)} (a_is_sequence : PySem.W.nsIn K mainGlobals "is_sequence" = some (some (.ref f_is_sequence)))
     (l_is_sequence : K.lookup f_is_sequence = some ⟨oc_is_sequence, od_is_sequence, .func (PySem.W.fnOf "is_sequence" "is_sequence" (defArgs s_is_sequence) (defBody s_is_sequence) (defScope s_is_sequence) .none kV_is_sequence do_is_sequence pm_is_sequence an_is_sequence cd_is_sequence ct_is_sequence), sl_is_sequence⟩)
     (c_is_sequence : PySem.W.codeIn K cd_is_sequence "is_sequence" = true)
     (k_is_sequence : PySem.W.keepIn K (.ref f_is_sequence) = true)
    {oc_is_numeral kV_is_numeral do_is_numeral pm_is_numeral cd_is_numeral ct_is_numeral : Value} {od_is_numeral an_is_numeral : Option Addr} {sl_is_numeral : Array (Option Value)} (a_is_numeral : PySem.W.nsIn K mainGlobals "is_numeral" = some (some (.ref f_is_numeral)))
     (l_is_numeral : K.lookup f_is_numeral = some ⟨oc_is_numeral, od_is_numeral, .func (PySem.W.fnOf "is_numeral" "is_numeral" (defArgs s_is_numeral) (defBody s_is_numeral) (defScope s_is_numeral) .none kV_is_numeral do_is_numeral pm_is_numeral an_is_numeral cd_is_numeral ct_is_numeral), sl_is_numeral⟩)
     (c_is_numeral : PySem.W.codeIn K cd_is_numeral "is_numeral" = true)
     (k_is_numeral : PySem.W.keepIn K (.ref f_is_numeral) = true)
    {oc_read_number kV_read_number do_read_number pm_read_number cd_read_number ct_read_number : Value} {od_read_number an_read_number : Option Addr} {sl_read_number : Array (Option Value)} (a_read_number : PySem.W.nsIn K mainGlobals "read_number" = some (some (.ref f_read_number)))
     (l_read_number : K.lookup f_read_number = some ⟨oc_read_number, od_read_number, .func (PySem.W.fnOf "read_number" "read_number" (defArgs s_read_number) (defBody s_read_number) (defScope s_read_number) .none kV_read_number do_read_number pm_read_number an_read_number cd_read_number ct_read_number), sl_read_number⟩)
     (c_read_number : PySem.W.codeIn K cd_read_number "read_number" = true)
     (k_read_number : PySem.W.keepIn K (.ref f_read_number) = true)
    {oc_read_span kV_read_span do_read_span pm_read_span cd_read_span ct_read_span : Value} {od_read_span an_read_span : Option Addr} {sl_read_span : Array (Option Value)} (a_read_span : PySem.W.nsIn K mainGlobals "read_span" = some (some (.ref f_read_span)))
     (l_read_span : K.lookup f_read_span = some ⟨oc_read_span, od_read_span, .func (PySem.W.fnOf "read_span" "read_span" (defArgs s_read_span) (defBody s_read_span) (defScope s_read_span) .none kV_read_span do_read_span pm_read_span an_read_span cd_read_span ct_read_span), sl_read_span⟩)
     (c_read_span : PySem.W.codeIn K cd_read_span "read_span" = true)
     (k_read_span : PySem.W.keepIn K (.ref f_read_span) = true)
    {oc__is_meeting kV__is_meeting do__is_meeting pm__is_meeting cd__is_meeting ct__is_meeting : Value} {od__is_meeting an__is_meeting : Option Addr} {sl__is_meeting : Array (Option Value)} (a__is_meeting : PySem.W.nsIn K mainGlobals "_is_meeting" = some (some (.ref f__is_meeting)))
     (l__is_meeting : K.lookup f__is_meeting = some ⟨oc__is_meeting, od__is_meeting, .func (PySem.W.fnOf "_is_meeting" "_is_meeting" (defArgs s__is_meeting) (defBody s__is_meeting) (defScope s__is_meeting) .none kV__is_meeting do__is_meeting pm__is_meeting an__is_meeting cd__is_meeting ct__is_meeting), sl__is_meeting⟩)
     (c__is_meeting : PySem.W.codeIn K cd__is_meeting "_is_meeting" = true)
     (k__is_meeting : PySem.W.keepIn K (.ref f__is_meeting) = true)
    {oc__are_meetings kV__are_meetings do__are_meetings pm__are_meetings cd__are_meetings ct__are_meetings : Value} {od__are_meetings an__are_meetings : Option Addr} {sl__are_meetings : Array (Option Value)} (a__are_meetings : PySem.W.nsIn K mainGlobals "_are_meetings" = some (some (.ref f__are_meetings)))
     (l__are_meetings : K.lookup f__are_meetings = some ⟨oc__are_meetings, od__are_meetings, .func (PySem.W.fnOf "_are_meetings" "_are_meetings" (defArgs s__are_meetings) (defBody s__are_meetings) (defScope s__are_meetings) .none kV__are_meetings do__are_meetings pm__are_meetings an__are_meetings cd__are_meetings ct__are_meetings), sl__are_meetings⟩)
     (c__are_meetings : PySem.W.codeIn K cd__are_meetings "_are_meetings" = true)
     (k__are_meetings : PySem.W.keepIn K (.ref f__are_meetings) = true)
    {oc__meeting_text kV__meeting_text do__meeting_text pm__meeting_text cd__meeting_text ct__meeting_text : Value} {od__meeting_text an__meeting_text : Option Addr} {sl__meeting_text : Array (Option Value)} (a__meeting_text : PySem.W.nsIn K mainGlobals "_meeting_text" = some (some (.ref f__meeting_text)))
     (l__meeting_text : K.lookup f__meeting_text = some ⟨oc__meeting_text, od__meeting_text, .func (PySem.W.fnOf "_meeting_text" "_meeting_text" (defArgs s__meeting_text) (defBody s__meeting_text) (defScope s__meeting_text) .none kV__meeting_text do__meeting_text pm__meeting_text an__meeting_text cd__meeting_text ct__meeting_text), sl__meeting_text⟩)
     (c__meeting_text : PySem.W.codeIn K cd__meeting_text "_meeting_text" = true)
     (k__meeting_text : PySem.W.keepIn K (.ref f__meeting_text) = true)
    {oc__meetings_text kV__meetings_text do__meetings_text pm__meetings_text cd__meetings_text ct__meetings_text : Value} {od__meetings_text an__meetings_text : Option Addr} {sl__meetings_text : Array (Option Value)} (a__meetings_text : PySem.W.nsIn K mainGlobals "_meetings_text" = some (some (.ref f__meetings_text)))
     (l__meetings_text : K.lookup f__meetings_text = some ⟨oc__meetings_text, od__meetings_text, .func (PySem.W.fnOf "_meetings_text" "_meetings_text" (defArgs s__meetings_text) (defBody s__meetings_text) (defScope s__meetings_text) .none kV__meetings_text do__meetings_text pm__meetings_text an__meetings_text cd__meetings_text ct__meetings_text), sl__meetings_text⟩)
     (c__meetings_text : PySem.W.codeIn K cd__meetings_text "_meetings_text" = true)
     (k__meetings_text : PySem.W.keepIn K (.ref f__meetings_text) = true)
    {oc__read_meeting kV__read_meeting do__read_meeting pm__read_meeting cd__read_meeting ct__read_meeting : Value} {od__read_meeting an__read_meeting : Option Addr} {sl__read_meeting : Array (Option Value)} (a__read_meeting : PySem.W.nsIn K mainGlobals "_read_meeting" = some (some (.ref f__read_meeting)))
     (l__read_meeting : K.lookup f__read_meeting = some ⟨oc__read_meeting, od__read_meeting, .func (PySem.W.fnOf "_read_meeting" "_read_meeting" (defArgs s__read_meeting) (defBody s__read_meeting) (defScope s__read_meeting) .none kV__read_meeting do__read_meeting pm__read_meeting an__read_meeting cd__read_meeting ct__read_meeting), sl__read_meeting⟩)
     (c__read_meeting : PySem.W.codeIn K cd__read_meeting "_read_meeting" = true)
     (k__read_meeting : PySem.W.keepIn K (.ref f__read_meeting) = true)
    {oc__read_meetings kV__read_meetings do__read_meetings pm__read_meetings cd__read_meetings ct__read_meetings : Value} {od__read_meetings an__read_meetings : Option Addr} {sl__read_meetings : Array (Option Value)} (a__read_meetings : PySem.W.nsIn K mainGlobals "_read_meetings" = some (some (.ref f__read_meetings)))
     (l__read_meetings : K.lookup f__read_meetings = some ⟨oc__read_meetings, od__read_meetings, .func (PySem.W.fnOf "_read_meetings" "_read_meetings" (defArgs s__read_meetings) (defBody s__read_meetings) (defScope s__read_meetings) .none kV__read_meetings do__read_meetings pm__read_meetings an__read_meetings cd__read_meetings ct__read_meetings), sl__read_meetings⟩)
     (c__read_meetings : PySem.W.codeIn K cd__read_meetings "_read_meetings" = true)
     (k__read_meetings : PySem.W.keepIn K (.ref f__read_meetings) = true)
    {oc__law_seed kV__law_seed do__law_seed pm__law_seed cd__law_seed ct__law_seed : Value} {od__law_seed an__law_seed : Option Addr} {sl__law_seed : Array (Option Value)} (a__law_seed : PySem.W.nsIn K mainGlobals "_law_seed" = some (some (.ref f__law_seed)))
     (l__law_seed : K.lookup f__law_seed = some ⟨oc__law_seed, od__law_seed, .func (PySem.W.fnOf "_law_seed" "_law_seed" (defArgs s__law_seed) (defBody s__law_seed) (defScope s__law_seed) .none kV__law_seed do__law_seed pm__law_seed an__law_seed cd__law_seed ct__law_seed), sl__law_seed⟩)
     (c__law_seed : PySem.W.codeIn K cd__law_seed "_law_seed" = true)
     (k__law_seed : PySem.W.keepIn K (.ref f__law_seed) = true)
    {oc__law_choose kV__law_choose do__law_choose pm__law_choose cd__law_choose ct__law_choose : Value} {od__law_choose an__law_choose : Option Addr} {sl__law_choose : Array (Option Value)} (a__law_choose : PySem.W.nsIn K mainGlobals "_law_choose" = some (some (.ref f__law_choose)))
     (l__law_choose : K.lookup f__law_choose = some ⟨oc__law_choose, od__law_choose, .func (PySem.W.fnOf "_law_choose" "_law_choose" (defArgs s__law_choose) (defBody s__law_choose) (defScope s__law_choose) .none kV__law_choose do__law_choose pm__law_choose an__law_choose cd__law_choose ct__law_choose), sl__law_choose⟩)
     (c__law_choose : PySem.W.codeIn K cd__law_choose "_law_choose" = true)
     (k__law_choose : PySem.W.keepIn K (.ref f__law_choose) = true)
    {oc__law_one_of kV__law_one_of do__law_one_of pm__law_one_of cd__law_one_of ct__law_one_of : Value} {od__law_one_of an__law_one_of : Option Addr} {sl__law_one_of : Array (Option Value)} (a__law_one_of : PySem.W.nsIn K mainGlobals "_law_one_of" = some (some (.ref f__law_one_of)))
     (l__law_one_of : K.lookup f__law_one_of = some ⟨oc__law_one_of, od__law_one_of, .func (PySem.W.fnOf "_law_one_of" "_law_one_of" (defArgs s__law_one_of) (defBody s__law_one_of) (defScope s__law_one_of) .none kV__law_one_of do__law_one_of pm__law_one_of an__law_one_of cd__law_one_of ct__law_one_of), sl__law_one_of⟩)
     (c__law_one_of : PySem.W.codeIn K cd__law_one_of "_law_one_of" = true)
     (k__law_one_of : PySem.W.keepIn K (.ref f__law_one_of) = true)
    {oc__law_day kV__law_day do__law_day pm__law_day cd__law_day ct__law_day : Value} {od__law_day an__law_day : Option Addr} {sl__law_day : Array (Option Value)} (a__law_day : PySem.W.nsIn K mainGlobals "_law_day" = some (some (.ref f__law_day)))
     (l__law_day : K.lookup f__law_day = some ⟨oc__law_day, od__law_day, .func (PySem.W.fnOf "_law_day" "_law_day" (defArgs s__law_day) (defBody s__law_day) (defScope s__law_day) .none kV__law_day do__law_day pm__law_day an__law_day cd__law_day ct__law_day), sl__law_day⟩)
     (c__law_day : PySem.W.codeIn K cd__law_day "_law_day" = true)
     (k__law_day : PySem.W.keepIn K (.ref f__law_day) = true)
    {oc__law_day_text kV__law_day_text do__law_day_text pm__law_day_text cd__law_day_text ct__law_day_text : Value} {od__law_day_text an__law_day_text : Option Addr} {sl__law_day_text : Array (Option Value)} (a__law_day_text : PySem.W.nsIn K mainGlobals "_law_day_text" = some (some (.ref f__law_day_text)))
     (l__law_day_text : K.lookup f__law_day_text = some ⟨oc__law_day_text, od__law_day_text, .func (PySem.W.fnOf "_law_day_text" "_law_day_text" (defArgs s__law_day_text) (defBody s__law_day_text) (defScope s__law_day_text) .none kV__law_day_text do__law_day_text pm__law_day_text an__law_day_text cd__law_day_text ct__law_day_text), sl__law_day_text⟩)
     (c__law_day_text : PySem.W.codeIn K cd__law_day_text "_law_day_text" = true)
     (k__law_day_text : PySem.W.keepIn K (.ref f__law_day_text) = true)
    {oc_law kV_law do_law pm_law cd_law ct_law : Value} {od_law an_law : Option Addr} {sl_law : Array (Option Value)} (a_law : PySem.W.nsIn K mainGlobals "law" = some (some (.ref f_law)))
     (l_law : K.lookup f_law = some ⟨oc_law, od_law, .func (PySem.W.fnOf "law" "law" (defArgs s_law) (defBody s_law) (defScope s_law) .none kV_law do_law pm_law an_law cd_law ct_law), sl_law⟩)
     (c_law : PySem.W.codeIn K cd_law "law" = true)
     (k_law : PySem.W.keepIn K (.ref f_law) = true)
    {oc_Day___init__ kV_Day___init__ do_Day___init__ pm_Day___init__ cd_Day___init__ ct_Day___init__ : Value} {od_Day___init__ an_Day___init__ : Option Addr} {sl_Day___init__ : Array (Option Value)} (a_Day___init__ : PySem.W.findIn K (.ref C_Day) "__init__" = some (some (.ref f_Day___init__)))
     (i_Day___init__ : PySem.W.isFn K (.ref f_Day___init__) = true)
    {T_Day___init__ : Addr} (l_Day___init__ : K.lookup f_Day___init__ = some ⟨oc_Day___init__, od_Day___init__, .func (PySem.W.fnOf "__init__" "Day.__init__" (defArgs s_Day___init__) (defBody s_Day___init__) (defScope s_Day___init__) (.ref T_Day___init__) kV_Day___init__ do_Day___init__ pm_Day___init__ an_Day___init__ cd_Day___init__ ct_Day___init__), sl_Day___init__⟩)
    {tc_Day___init__ : Value} {td_Day___init__ : Option Addr} {it_Day___init__ : Array Value} {tn_Day___init__ : Nat} {ts_Day___init__ : Array (Option Value)} (lt_Day___init__ : K.lookup T_Day___init__ = some ⟨tc_Day___init__, td_Day___init__, .seq it_Day___init__ tn_Day___init__, ts_Day___init__⟩)
    {z_Day : Addr} (lv_Day___init__ : it_Day___init__.toList.mapM absV = some [V.ref z_Day])
    {td_zDay : Option Addr} {it_zDay : Array Value} {tn_zDay : Nat} {ts_zDay : Array (Option Value)} (l_zDay : K.lookup z_Day = some ⟨.type "tuple", td_zDay, .seq it_zDay tn_zDay, ts_zDay⟩)
     (lv_zDay : it_zDay.toList.mapM absV = some [])
     (c_Day___init__ : PySem.W.codeIn K cd_Day___init__ "Day.__init__" = true)
     (k_Day___init__ : PySem.W.keepIn K (.ref f_Day___init__) = true)
    {oc_Day_read kV_Day_read do_Day_read pm_Day_read cd_Day_read ct_Day_read : Value} {od_Day_read an_Day_read : Option Addr} {sl_Day_read : Array (Option Value)} (a_Day_read : PySem.W.findCls K (.ref C_Day) (.type "type") "read" = some (.get (.builtin "classmethod.__get__") (.ref q_Day_read) .none (.ref C_Day)))
    {rest_Day_read : List Value} (pr_Day_read : PySem.W.recIn K q_Day_read "classmethod" = some (.ref f_Day_read :: rest_Day_read))
     (fi_Day_read : PySem.W.fnIn K f_Day_read = true)
     (rd_Day : PySem.W.readsIn K C_Day (.type "type") = true)
     (ga_Day : PySem.W.specialIn K (.ref C_Day) "__getattribute__" = some (some (.builtin "type.__getattribute__")))
     (l_Day_read : K.lookup f_Day_read = some ⟨oc_Day_read, od_Day_read, .func (PySem.W.fnOf "read" "Day.read" (defArgs s_Day_read) (defBody s_Day_read) (defScope s_Day_read) .none kV_Day_read do_Day_read pm_Day_read an_Day_read cd_Day_read ct_Day_read), sl_Day_read⟩)
     (c_Day_read : PySem.W.codeIn K cd_Day_read "Day.read" = true)
     (k_Day_read : PySem.W.keepIn K (.ref f_Day_read) = true)
    {oc_Day_taken kV_Day_taken do_Day_taken pm_Day_taken cd_Day_taken ct_Day_taken : Value} {od_Day_taken an_Day_taken : Option Addr} {sl_Day_taken : Array (Option Value)} (a_Day_taken : PySem.W.findIn K (.ref C_Day) "taken" = some (some (.ref q_Day_taken)))
     (pg_Day_taken : PySem.W.specialIn K (.ref q_Day_taken) "__get__" = some (some (.builtin "property.__get__")))
     (pt_Day_taken : PySem.W.takesIn K (.ref q_Day_taken) = some true)
    {rest_Day_taken : List Value} (pr_Day_taken : PySem.W.recIn K q_Day_taken "property" = some (.ref f_Day_taken :: rest_Day_taken))
     (l_Day_taken : K.lookup f_Day_taken = some ⟨oc_Day_taken, od_Day_taken, .func (PySem.W.fnOf "taken" "Day.taken" (defArgs s_Day_taken) (defBody s_Day_taken) (defScope s_Day_taken) .none kV_Day_taken do_Day_taken pm_Day_taken an_Day_taken cd_Day_taken ct_Day_taken), sl_Day_taken⟩)
     (c_Day_taken : PySem.W.codeIn K cd_Day_taken "Day.taken" = true)
     (k_Day_taken : PySem.W.keepIn K (.ref f_Day_taken) = true)
    {oc_Day___len__ kV_Day___len__ do_Day___len__ pm_Day___len__ cd_Day___len__ ct_Day___len__ : Value} {od_Day___len__ an_Day___len__ : Option Addr} {sl_Day___len__ : Array (Option Value)} (a_Day___len__ : PySem.W.findIn K (.ref C_Day) "__len__" = some (some (.ref f_Day___len__)))
     (i_Day___len__ : PySem.W.isFn K (.ref f_Day___len__) = true)
     (l_Day___len__ : K.lookup f_Day___len__ = some ⟨oc_Day___len__, od_Day___len__, .func (PySem.W.fnOf "__len__" "Day.__len__" (defArgs s_Day___len__) (defBody s_Day___len__) (defScope s_Day___len__) .none kV_Day___len__ do_Day___len__ pm_Day___len__ an_Day___len__ cd_Day___len__ ct_Day___len__), sl_Day___len__⟩)
     (c_Day___len__ : PySem.W.codeIn K cd_Day___len__ "Day.__len__" = true)
     (k_Day___len__ : PySem.W.keepIn K (.ref f_Day___len__) = true)
    {oc_Day___getitem__ kV_Day___getitem__ do_Day___getitem__ pm_Day___getitem__ cd_Day___getitem__ ct_Day___getitem__ : Value} {od_Day___getitem__ an_Day___getitem__ : Option Addr} {sl_Day___getitem__ : Array (Option Value)} (a_Day___getitem__ : PySem.W.findIn K (.ref C_Day) "__getitem__" = some (some (.ref f_Day___getitem__)))
     (i_Day___getitem__ : PySem.W.isFn K (.ref f_Day___getitem__) = true)
     (gn_Day___getitem__ : PySem.W.fnIn K f_Day___getitem__ = true)
     (l_Day___getitem__ : K.lookup f_Day___getitem__ = some ⟨oc_Day___getitem__, od_Day___getitem__, .func (PySem.W.fnOf "__getitem__" "Day.__getitem__" (defArgs s_Day___getitem__) (defBody s_Day___getitem__) (defScope s_Day___getitem__) .none kV_Day___getitem__ do_Day___getitem__ pm_Day___getitem__ an_Day___getitem__ cd_Day___getitem__ ct_Day___getitem__), sl_Day___getitem__⟩)
     (c_Day___getitem__ : PySem.W.codeIn K cd_Day___getitem__ "Day.__getitem__" = true)
     (k_Day___getitem__ : PySem.W.keepIn K (.ref f_Day___getitem__) = true)
    {oc_Day___eq__ kV_Day___eq__ do_Day___eq__ pm_Day___eq__ cd_Day___eq__ ct_Day___eq__ : Value} {od_Day___eq__ an_Day___eq__ : Option Addr} {sl_Day___eq__ : Array (Option Value)} (a_Day___eq__ : PySem.W.findIn K (.ref C_Day) "__eq__" = some (some (.ref f_Day___eq__)))
     (i_Day___eq__ : PySem.W.isFn K (.ref f_Day___eq__) = true)
     (l_Day___eq__ : K.lookup f_Day___eq__ = some ⟨oc_Day___eq__, od_Day___eq__, .func (PySem.W.fnOf "__eq__" "Day.__eq__" (defArgs s_Day___eq__) (defBody s_Day___eq__) (defScope s_Day___eq__) .none kV_Day___eq__ do_Day___eq__ pm_Day___eq__ an_Day___eq__ cd_Day___eq__ ct_Day___eq__), sl_Day___eq__⟩)
     (c_Day___eq__ : PySem.W.codeIn K cd_Day___eq__ "Day.__eq__" = true)
     (k_Day___eq__ : PySem.W.keepIn K (.ref f_Day___eq__) = true)
    {oc_Day___str__ kV_Day___str__ do_Day___str__ pm_Day___str__ cd_Day___str__ ct_Day___str__ : Value} {od_Day___str__ an_Day___str__ : Option Addr} {sl_Day___str__ : Array (Option Value)} (a_Day___str__ : PySem.W.findIn K (.ref C_Day) "__str__" = some (some (.ref f_Day___str__)))
     (i_Day___str__ : PySem.W.isFn K (.ref f_Day___str__) = true)
     (l_Day___str__ : K.lookup f_Day___str__ = some ⟨oc_Day___str__, od_Day___str__, .func (PySem.W.fnOf "__str__" "Day.__str__" (defArgs s_Day___str__) (defBody s_Day___str__) (defScope s_Day___str__) .none kV_Day___str__ do_Day___str__ pm_Day___str__ an_Day___str__ cd_Day___str__ ct_Day___str__), sl_Day___str__⟩)
     (c_Day___str__ : PySem.W.codeIn K cd_Day___str__ "Day.__str__" = true)
     (k_Day___str__ : PySem.W.keepIn K (.ref f_Day___str__) = true)
     (pg_Day : PySem.W.plainGet K C_Day Str.empty = true)
     (hd_Day : PySem.W.hasDictIn K C_Day = true)
     (po_Day : PySem.W.plainOver K C_Day = true)
     (sa_Day : PySem.W.findIn K (.ref C_Day) "__setattr__" = some (some (.builtin "object.__setattr__")))
     (mk_Day : PySem.W.makesIn K C_Day = true)
     (kc_Day : PySem.W.keepIn K (.ref C_Day) = true)
     (na_Day_length : PySem.W.findIn K (.ref C_Day) "length" = some none)
     (na_Day_meetings : PySem.W.findIn K (.ref C_Day) "meetings" = some none)
     (n_Day : PySem.W.findIn K (.ref C_Day) "__ne__" = some (some (.builtin "object.__ne__")))
     (isc_Day : PySem.W.isClsIn K C_Day = true)
     (tyc_Day : PySem.W.typeIn K (.ref C_Day) = some (.type "type"))
     (su_Day : PySem.W.subIn K (.type "str") (.ref C_Day) = some false)
     (o_Day : PySem.W.mroIn K C_Day (.type "object") = some true)
     (ic_Day : PySem.W.findIn K (.ref C_Day) "__class__" = some (some (.builtin "object.__class__")))
     (oc1 : PySem.W.specialIn K (.builtin "object.__class__") "__get__" = some (some (.builtin "getset_descriptor.__get__")))
     (oc2 : PySem.W.takesIn K (.builtin "object.__class__") = some true)
     (b_isinstance : PySem.W.nsIn K mainGlobals "isinstance" = some none)
     (b_int : PySem.W.nsIn K mainGlobals "int" = some none)
     (b_bool : PySem.W.nsIn K mainGlobals "bool" = some none)
     (b_list : PySem.W.nsIn K mainGlobals "list" = some none)
     (b_tuple : PySem.W.nsIn K mainGlobals "tuple" = some none)
     (b_len : PySem.W.nsIn K mainGlobals "len" = some none)
     (b_range : PySem.W.nsIn K mainGlobals "range" = some none)
     (b_abs : PySem.W.nsIn K mainGlobals "abs" = some none)
     (b_min : PySem.W.nsIn K mainGlobals "min" = some none)
     (b_max : PySem.W.nsIn K mainGlobals "max" = some none)
     (b_str : PySem.W.nsIn K mainGlobals "str" = some none)
     (b_repr : PySem.W.nsIn K mainGlobals "repr" = some none)
    : ∃ fd : FuncData, (∀ (s : Shared) (v : Value), BindsTo s fd ⟨[v], []⟩ [("_law_script", v)]) ∧ ∀ base : Heap, K.In base → base.Ns mainGlobals mg → FnG l.prog w K mg base 14 fa fd ["_law_script"] (spLaw K) := by
  have e := hfa.symm.trans (PySem.W.mg_of X G a_law)
  cases e
  have T : Txt K mg { f_is_integer := f_is_integer, f_is_number := f_is_number, f_is_positive := f_is_positive, f_is_sequence := f_is_sequence, f_is_numeral := f_is_numeral, f_read_number := f_read_number, f_read_span := f_read_span, f__is_meeting := f__is_meeting, f__are_meetings := f__are_meetings, f__meeting_text := f__meeting_text, f__meetings_text := f__meetings_text, f__read_meeting := f__read_meeting, f__read_meetings := f__read_meetings, f__law_seed := f__law_seed, f__law_choose := f__law_choose, f__law_one_of := f__law_one_of, f__law_day := f__law_day, f__law_day_text := f__law_day_text, f_law := fa, f_Day___init__ := f_Day___init__, z_Day := z_Day, f_Day_read := f_Day_read, q_Day_read := q_Day_read, f_Day_taken := f_Day_taken, q_Day_taken := q_Day_taken, f_Day___len__ := f_Day___len__, f_Day___getitem__ := f_Day___getitem__, f_Day___eq__ := f_Day___eq__, f_Day___str__ := f_Day___str__, C_Day := C_Day } := { m_is_integer := PySem.W.mg_of X G a_is_integer, k_is_integer := k_is_integer, F_is_integer := ⟨_, fun_mk (st := s_is_integer) l_is_integer c_is_integer k_is_integer⟩, m_is_number := PySem.W.mg_of X G a_is_number, k_is_number := k_is_number, F_is_number := ⟨_, fun_mk (st := s_is_number) l_is_number c_is_number k_is_number⟩, m_is_positive := PySem.W.mg_of X G a_is_positive, k_is_positive := k_is_positive, F_is_positive := ⟨_, fun_mk (st := s_is_positive) l_is_positive c_is_positive k_is_positive⟩, m_is_sequence := PySem.W.mg_of X G a_is_sequence, k_is_sequence := k_is_sequence, F_is_sequence := ⟨_, fun_mk (st := s_is_sequence) l_is_sequence c_is_sequence k_is_sequence⟩, m_is_numeral := PySem.W.mg_of X G a_is_numeral, k_is_numeral := k_is_numeral, F_is_numeral := ⟨_, fun_mk (st := s_is_numeral) l_is_numeral c_is_numeral k_is_numeral⟩, m_read_number := PySem.W.mg_of X G a_read_number, k_read_number := k_read_number, F_read_number := ⟨_, fun_mk (st := s_read_number) l_read_number c_read_number k_read_number⟩, m_read_span := PySem.W.mg_of X G a_read_span, k_read_span := k_read_span, F_read_span := ⟨_, fun_mk (st := s_read_span) l_read_span c_read_span k_read_span⟩, m__is_meeting := PySem.W.mg_of X G a__is_meeting, k__is_meeting := k__is_meeting, F__is_meeting := ⟨_, fun_mk (st := s__is_meeting) l__is_meeting c__is_meeting k__is_meeting⟩, m__are_meetings := PySem.W.mg_of X G a__are_meetings, k__are_meetings := k__are_meetings, F__are_meetings := ⟨_, fun_mk (st := s__are_meetings) l__are_meetings c__are_meetings k__are_meetings⟩, m__meeting_text := PySem.W.mg_of X G a__meeting_text, k__meeting_text := k__meeting_text, F__meeting_text := ⟨_, fun_mk (st := s__meeting_text) l__meeting_text c__meeting_text k__meeting_text⟩, m__meetings_text := PySem.W.mg_of X G a__meetings_text, k__meetings_text := k__meetings_text, F__meetings_text := ⟨_, fun_mk (st := s__meetings_text) l__meetings_text c__meetings_text k__meetings_text⟩, m__read_meeting := PySem.W.mg_of X G a__read_meeting, k__read_meeting := k__read_meeting, F__read_meeting := ⟨_, fun_mk (st := s__read_meeting) l__read_meeting c__read_meeting k__read_meeting⟩, m__read_meetings := PySem.W.mg_of X G a__read_meetings, k__read_meetings := k__read_meetings, F__read_meetings := ⟨_, fun_mk (st := s__read_meetings) l__read_meetings c__read_meetings k__read_meetings⟩, m__law_seed := PySem.W.mg_of X G a__law_seed, k__law_seed := k__law_seed, F__law_seed := ⟨_, fun_mk (st := s__law_seed) l__law_seed c__law_seed k__law_seed⟩, m__law_choose := PySem.W.mg_of X G a__law_choose, k__law_choose := k__law_choose, F__law_choose := ⟨_, fun_mk (st := s__law_choose) l__law_choose c__law_choose k__law_choose⟩, m__law_one_of := PySem.W.mg_of X G a__law_one_of, k__law_one_of := k__law_one_of, F__law_one_of := ⟨_, fun_mk (st := s__law_one_of) l__law_one_of c__law_one_of k__law_one_of⟩, m__law_day := PySem.W.mg_of X G a__law_day, k__law_day := k__law_day, F__law_day := ⟨_, fun_mk (st := s__law_day) l__law_day c__law_day k__law_day⟩, m__law_day_text := PySem.W.mg_of X G a__law_day_text, k__law_day_text := k__law_day_text, F__law_day_text := ⟨_, fun_mk (st := s__law_day_text) l__law_day_text c__law_day_text k__law_day_text⟩, m_law := PySem.W.mg_of X G a_law, k_law := k_law, F_law := ⟨_, fun_mk (st := s_law) l_law c_law k_law⟩, w_zDay := fun _ => sqt_mk l_zDay lv_zDay (by decide), F_Day___init__ := ⟨_, fund_mk l_Day___init__ lt_Day___init__ lv_Day___init__ (List.cons_ne_nil _ _) c_Day___init__ k_Day___init__⟩, cm_Day_read := ⟨a_Day_read, ⟨_, pr_Day_read⟩, fi_Day_read⟩, cr_Day := ⟨rd_Day, ga_Day⟩, F_Day_read := ⟨_, fun_mk (st := s_Day_read) l_Day_read c_Day_read k_Day_read⟩, F_Day_taken := ⟨_, fun_mk (st := s_Day_taken) l_Day_taken c_Day_taken k_Day_taken⟩, p_Day_taken := ⟨a_Day_taken, pg_Day_taken, pt_Day_taken, ⟨_, pr_Day_taken⟩⟩, F_Day___len__ := ⟨_, fun_mk (st := s_Day___len__) l_Day___len__ c_Day___len__ k_Day___len__⟩, l_Day := a_Day___len__, lf_Day := i_Day___len__, gn_Day := gn_Day___getitem__, F_Day___getitem__ := ⟨_, fun_mk (st := s_Day___getitem__) l_Day___getitem__ c_Day___getitem__ k_Day___getitem__⟩, g_Day := a_Day___getitem__, gf_Day := i_Day___getitem__, F_Day___eq__ := ⟨_, fun_mk (st := s_Day___eq__) l_Day___eq__ c_Day___eq__ k_Day___eq__⟩, e_Day := a_Day___eq__, ef_Day := i_Day___eq__, F_Day___str__ := ⟨_, fun_mk (st := s_Day___str__) l_Day___str__ c_Day___str__ k_Day___str__⟩, s_Day := a_Day___str__, sf_Day := i_Day___str__, m_Day := PySem.W.mg_of X G a_Day, cl_Day := ⟨pg_Day, hd_Day, po_Day, sa_Day⟩, mk_Day := ⟨mk_Day, a_Day___init__, i_Day___init__, kc_Day⟩, na_Day_length := na_Day_length, na_Day_meetings := na_Day_meetings, n_Day := n_Day, ks_Day := kit_str isc_Day tyc_Day su_Day, su_Day := su_Day, o_Day := o_Day, ic_Day := ic_Day, oc1 := oc1, oc2 := oc2, b_isinstance := PySem.W.mg_none_of X G b_isinstance, b_int := PySem.W.mg_none_of X G b_int, b_bool := PySem.W.mg_none_of X G b_bool, b_list := PySem.W.mg_none_of X G b_list, b_tuple := PySem.W.mg_none_of X G b_tuple, b_len := PySem.W.mg_none_of X G b_len, b_range := PySem.W.mg_none_of X G b_range, b_abs := PySem.W.mg_none_of X G b_abs, b_min := PySem.W.mg_none_of X G b_min, b_max := PySem.W.mg_none_of X G b_max, b_str := PySem.W.mg_none_of X G b_str, b_repr := PySem.W.mg_none_of X G b_repr }
  exact ⟨PySem.W.fnOf "law" "law" (defArgs s_law) (defBody s_law) (defScope s_law) .none kV_law do_law pm_law an_law cd_law ct_law, fun s v => .of_eq rfl, fun base _ _ => ok_law T (fun_mk l_law c_law k_law)⟩
theorem walk {l : PySem.W.OpenLaw} {q : Program} {loose : List Str} {XP : (Str → Option Value) → Heap → Prop} {YP : World → Heap → Prop} {d : DefRec} {K : Params → PySem.W.Frag} (hn : l.most = some 63) (hdf : d.params.defaults = [])
    (hY : ∀ (w : World) (h : Heap), YP w h → (K w.params).In h)
    (F : ∀ (w : World) (mg : Str → Option Value) (fa : Addr) (h : Heap), (K w.params).In h → h.Ns mainGlobals mg → mg d.name = some (.ref fa) →
      ∃ fd : FuncData, (∀ (s : Shared) (u : Value), BindsTo s fd ⟨[u], []⟩ [("_law_script", u)]) ∧ ∀ base : Heap, (K w.params).In base → base.Ns mainGlobals mg → FnG l.prog w (K w.params) mg base 14 fa fd ["_law_script"] (spLaw (K w.params))) :
    PySem.W.WalkO q loose XP YP l.row.toRowW d [] (fun f vs => PySem.call f vs) :=
  walk_ofG (n := 63) (k := 14) (x := "_law_script") (sp := spLaw) hn (by decide) hdf ⟨rfl, by decide, by decide⟩ hY F (fun _ _ a ns hl _ hS => ⟨a, ns, rfl, hS, hl, fun _ => rfl⟩)
end DD
open PySem PySem.W PyProof.Rows
set_option maxRecDepth 100000 in
set_option maxHeartbeats 0 in
theorem PySem.Challenge.cw_dimdays_k02_days_made_holds : PySem.Challenge.rw_dimdays_k02_days_made.Holds := by
  w_on; o_law; k_head; (case hw => w_witness2)
  k_fill
  refine DD.walk (l := PySem.Challenge.rw_dimdays_k02_days_made) rfl rfl (fun w h Y => PySem.W.kIn_of Y) ?F
  case F =>
    intro w mg fa h KX G hmg
    refine' DD.all_mk KX G hmg ?a_Day ?a_is_integer ?l_is_integer ?c_is_integer ?k_is_integer ?a_is_number ?l_is_number ?c_is_number ?k_is_number ?a_is_positive ?l_is_positive ?c_is_positive ?k_is_positive ?a_is_sequence ?l_is_sequence ?c_is_sequence ?k_is_sequence ?a_is_numeral ?l_is_numeral ?c_is_numeral ?k_is_numeral ?a_read_number ?l_read_number ?c_read_number ?k_read_number ?a_read_span ?l_read_span ?c_read_span ?k_read_span ?a__is_meeting ?l__is_meeting ?c__is_meeting ?k__is_meeting ?a__are_meetings ?l__are_meetings ?c__are_meetings ?k__are_meetings ?a__meeting_text ?l__meeting_text ?c__meeting_text ?k__meeting_text ?a__meetings_text ?l__meetings_text ?c__meetings_text ?k__meetings_text ?a__read_meeting ?l__read_meeting ?c__read_meeting ?k__read_meeting ?a__read_meetings ?l__read_meetings ?c__read_meetings ?k__read_meetings ?a__law_seed ?l__law_seed ?c__law_seed ?k__law_seed ?a__law_choose ?l__law_choose ?c__law_choose ?k__law_choose ?a__law_one_of ?l__law_one_of ?c__law_one_of ?k__law_one_of ?a__law_day ?l__law_day ?c__law_day ?k__law_day ?a__law_day_text ?l__law_day_text ?c__law_day_text ?k__law_day_text ?a_law ?l_law ?c_law ?k_law ?a_Day___init__ ?i_Day___init__ ?l_Day___init__ ?lt_Day___init__ ?lv_Day___init__ ?l_zDay ?lv_zDay ?c_Day___init__ ?k_Day___init__ ?a_Day_read ?pr_Day_read ?fi_Day_read ?rd_Day ?ga_Day ?l_Day_read ?c_Day_read ?k_Day_read ?a_Day_taken ?pg_Day_taken ?pt_Day_taken ?pr_Day_taken ?l_Day_taken ?c_Day_taken ?k_Day_taken ?a_Day___len__ ?i_Day___len__ ?l_Day___len__ ?c_Day___len__ ?k_Day___len__ ?a_Day___getitem__ ?i_Day___getitem__ ?gn_Day___getitem__ ?l_Day___getitem__ ?c_Day___getitem__ ?k_Day___getitem__ ?a_Day___eq__ ?i_Day___eq__ ?l_Day___eq__ ?c_Day___eq__ ?k_Day___eq__ ?a_Day___str__ ?i_Day___str__ ?l_Day___str__ ?c_Day___str__ ?k_Day___str__ ?pg_Day ?hd_Day ?po_Day ?sa_Day ?mk_Day ?kc_Day ?na_Day_length ?na_Day_meetings ?n_Day ?isc_Day ?tyc_Day ?su_Day ?o_Day ?ic_Day ?oc1 ?oc2 ?b_isinstance ?b_int ?b_bool ?b_list ?b_tuple ?b_len ?b_range ?b_abs ?b_min ?b_max ?b_str ?b_repr
    (case a_Day => k_is)
    (case a_is_integer => k_is)
    (case l_is_integer => k_is)
    (case c_is_integer => k_is)
    (case k_is_integer => k_is)
    (case a_is_number => k_is)
    (case l_is_number => k_is)
    (case c_is_number => k_is)
    (case k_is_number => k_is)
    (case a_is_positive => k_is)
    (case l_is_positive => k_is)
    (case c_is_positive => k_is)
    (case k_is_positive => k_is)
    (case a_is_sequence => k_is)
    (case l_is_sequence => k_is)
    (case c_is_sequence => k_is)
    (case k_is_sequence => k_is)
    (case a_is_numeral => k_is)
    (case l_is_numeral => k_is)
    (case c_is_numeral => k_is)
    (case k_is_numeral => k_is)
    (case a_read_number => k_is)
    (case l_read_number => k_is)
    (case c_read_number => k_is)
    (case k_read_number => k_is)
    (case a_read_span => k_is)
    (case l_read_span => k_is)
    (case c_read_span => k_is)
    (case k_read_span => k_is)
    (case a__is_meeting => k_is)
    (case l__is_meeting => k_is)
    (case c__is_meeting => k_is)
    (case k__is_meeting => k_is)
    (case a__are_meetings => k_is)
    (case l__are_meetings => k_is)
    (case c__are_meetings => k_is)
    (case k__are_meetings => k_is)
    (case a__meeting_text => k_is)
    (case l__meeting_text => k_is)
    (case c__meeting_text => k_is)
    (case k__meeting_text => k_is)
    (case a__meetings_text => k_is)
    (case l__meetings_text => k_is)
    (case c__meetings_text => k_is)
    (case k__meetings_text => k_is)
    (case a__read_meeting => k_is)
    (case l__read_meeting => k_is)
    (case c__read_meeting => k_is)
    (case k__read_meeting => k_is)
    (case a__read_meetings => k_is)
    (case l__read_meetings => k_is)
    (case c__read_meetings => k_is)
    (case k__read_meetings => k_is)
    (case a__law_seed => k_is)
    (case l__law_seed => k_is)
    (case c__law_seed => k_is)
    (case k__law_seed => k_is)
    (case a__law_choose => k_is)
    (case l__law_choose => k_is)
    (case c__law_choose => k_is)
    (case k__law_choose => k_is)
    (case a__law_one_of => k_is)
    (case l__law_one_of => k_is)
    (case c__law_one_of => k_is)
    (case k__law_one_of => k_is)
    (case a__law_day => k_is)
    (case l__law_day => k_is)
    (case c__law_day => k_is)
    (case k__law_day => k_is)
    (case a__law_day_text => k_is)
    (case l__law_day_text => k_is)
    (case c__law_day_text => k_is)
    (case k__law_day_text => k_is)
    (case a_law => k_is)
    (case l_law => k_is)
    (case c_law => k_is)
    (case k_law => k_is)
    (case a_Day___init__ => k_is)
    (case i_Day___init__ => k_is)
    (case l_Day___init__ => k_is)
    (case lt_Day___init__ => k_is)
    (case lv_Day___init__ => exact rfl)
    (case l_zDay => k_is)
    (case lv_zDay => exact rfl)
    (case c_Day___init__ => k_is)
    (case k_Day___init__ => k_is)
    (case a_Day_read => k_is)
    (case pr_Day_read => k_is)
    (case fi_Day_read => k_is)
    (case rd_Day => k_is)
    (case ga_Day => k_is)
    (case l_Day_read => k_is)
    (case c_Day_read => k_is)
    (case k_Day_read => k_is)
    (case a_Day_taken => k_is)
    (case pg_Day_taken => k_is)
    (case pt_Day_taken => k_is)
    (case pr_Day_taken => k_is)
    (case l_Day_taken => k_is)
    (case c_Day_taken => k_is)
    (case k_Day_taken => k_is)
    (case a_Day___len__ => k_is)
    (case i_Day___len__ => k_is)
    (case l_Day___len__ => k_is)
    (case c_Day___len__ => k_is)
    (case k_Day___len__ => k_is)
    (case a_Day___getitem__ => k_is)
    (case i_Day___getitem__ => k_is)
    (case gn_Day___getitem__ => k_is)
    (case l_Day___getitem__ => k_is)
    (case c_Day___getitem__ => k_is)
    (case k_Day___getitem__ => k_is)
    (case a_Day___eq__ => k_is)
    (case i_Day___eq__ => k_is)
    (case l_Day___eq__ => k_is)
    (case c_Day___eq__ => k_is)
    (case k_Day___eq__ => k_is)
    (case a_Day___str__ => k_is)
    (case i_Day___str__ => k_is)
    (case l_Day___str__ => k_is)
    (case c_Day___str__ => k_is)
    (case k_Day___str__ => k_is)
    (case pg_Day => k_is)
    (case hd_Day => k_is)
    (case po_Day => k_is)
    (case sa_Day => k_is)
    (case mk_Day => k_is)
    (case kc_Day => k_is)
    (case na_Day_length => k_is)
    (case na_Day_meetings => k_is)
    (case n_Day => k_is)
    (case isc_Day => k_is)
    (case tyc_Day => k_is)
    (case su_Day => k_is)
    (case o_Day => k_is)
    (case ic_Day => k_is)
    (case oc1 => k_is)
    (case oc2 => k_is)
    (case b_isinstance => k_is)
    (case b_int => k_is)
    (case b_bool => k_is)
    (case b_list => k_is)
    (case b_tuple => k_is)
    (case b_len => k_is)
    (case b_range => k_is)
    (case b_abs => k_is)
    (case b_min => k_is)
    (case b_max => k_is)
    (case b_str => k_is)
    (case b_repr => k_is)
