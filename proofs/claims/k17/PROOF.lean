import PyProof.Rows.All
import Wide.All
import OpenK.AllK
import Wide.FinOn
import HandS.ForMost
import HandS.Defaults
import HandS.Property
import HandS.OwnEq
import HandS.FStr
import HandS.IsInst
import HandS.TupAny
import HandS.Evl
import HandS.Star
import HandS.SlotsOwn
import KE.KCallOwn
import HandS.Conv
import HandS.ClsMeth
import HandS.CallLocal
import HandS.Text
import HandS.StrMore
import HandS.Style
import PyProof.ReprRoads
import HandS.Ends
import HandS.Iter
import HandS.FStrTup
import PySem.Challenge.RW_dimdays_k17_frames_made
set_option Elab.async false
set_option linter.all false
set_option maxRecDepth 100000
set_option maxHeartbeats 2000000
/-! rules that every law of this program wants -/
namespace DD
open PySem PySem.Spec PyProof.Rows L2

/-! ### calls by a positional promise -/
section
variable {X : Cx} {CX : CXT} {k : Nat} {f C p g : Addr} {sp : Sp} {E : XK} {x m : Str} {pp pos apos : Pos} {e o : Expr} {es : List Expr} {ta : TE} {t : TA}
def tCallR (sp : Sp) (E : XK) (t : TA) : TE := fun σ H Q => t σ H fun vs H1 => sp vs H1 Q E
theorem wp_fnR {pins : List (Addr × Obj)} {σ : L2.St} {H : Hp} {s : Shared} {Q : VK} {us : List Value} {vs : List V} (F : FnR X.prog X.w X.K X.mg X.base CX k f sp) (hr : Room k X.A) (hx : Passes CX X E) (I : Inv X pins σ H s) (r : Vals vs us) (h : sp vs H Q E) :
    wpAny (model X.prog X.w) X.A (call (.ref f) us) (EP X pins σ Q) X.xe s := wpAny_call (run_fnR F hr hx I r h)
theorem pe_callR (F : FnR X.prog X.w X.K X.mg X.base CX k f sp) (hr : Room k X.A) (hg : Gl X x) (hm : X.mg x = some (.ref f)) (hk : PySem.W.keepIn X.K (.ref f) = true) (hx : Passes CX X E)
    (ha : PA X (e :: es) t) (hdb : (x == ("__debug__" : Str)) = false := by decide) (he : starEach (e :: es) X.env = (false, eval e X.env) :: starEach es X.env := by rfl) (hpl : (backTo pos (starEach es X.env)).any (·.1) = false := by rfl) :
    PE X (.Call (.Name x pp) (e :: es) [] pos) (tCallR sp E t) := by
  refine ⟨fun pins s σ H Q I h => ?_⟩
  refine wpAny_Call_Name_kw (ld_glob I hg hm ?_ hdb)
  refine PySem.W.callWith_K (h₀ := X.base) I.ok.mod.kin hk (thn (ha.run pos pins s σ H _ I h) fun us s1 ⟨vs, H1, I1, r, q⟩ => ⟨I1.kIn, ?_⟩) he hpl
  exact wp_fnR F hr hx I1 r q
/-- o.m(..) of an instance of the class at C -/
def tMethR (C : Addr) (m : Str) (sp : Sp) (E : XK) (ta : TE) (t : TA) : TE := fun σ H Q => ta σ H fun x H1 => ∃ a dx fs, x = .ref a ∧ H1 a = some (.ins C dx fs) ∧ fs.lookup m = none ∧
  t σ H1 fun vs H2 => sp (x :: vs) H2 Q E
theorem pe_methR {pl : Sem Bool} (he : PE X o ta) (c : Cls X.K C) (hm : Meth X.K C m f) (F : FnR X.prog X.w X.K X.mg X.base CX k f sp) (hr : Room k X.A) (hx : Passes CX X E) (ha : PA X (e :: es) t)
    (hst : starEach (e :: es) X.env = (false, eval e X.env) :: starEach es X.env := by rfl) (hpl : (backTo pos (starEach es X.env)).any (·.1) = false := by rfl)
    (ht : eval (.Call (.Attribute o m apos) (e :: es) [] pos) X.env = (do
      let ov ← eval o X.env
      standAt apos.atName
      let (f, first) ← holding [ov] (getMethod ov m pl)
      callWith pos f first (backTo pos (starEach (e :: es) X.env)) (backToKw pos (keywordEach [] X.env))) := by rfl) :
    PE X (.Call (.Attribute o m apos) (e :: es) [] pos) (tMethR C m sp E ta t) := by
  refine ⟨fun pins s σ H Q I h => ?_⟩
  refine PySem.W.methodCall_KW (pl := pl) (thn (he.run pins s σ H _ I h) fun u s1 ⟨x, H1, I1, rx, a, dx, fs, ex, ea, l, q⟩ => ?_) ht
  subst ex
  obtain rfl : u = Value.ref a := rx
  refine getmeth_ok I1 ea c hm l ?_
  refine PySem.W.callWith_K (first := [.ref a]) (h₀ := X.base) I.ok.mod.kin hm.kp (thn (ha.run pos pins s1 σ H1 _ I1 q) fun us s2 ⟨vs, H2, I2, r, q2⟩ => ⟨I2.kIn, ?_⟩) hst hpl
  exact wp_fnR (us := .ref a :: us) (vs := .ref a :: vs) F hr hx I2 (.cons rfl r) q2
/-- e.f, a property -/
def tPropR (C : Addr) (sp : Sp) (E : XK) (ta : TE) : TE := fun σ H Q => ta σ H fun x H1 => ∃ a dx fs, x = .ref a ∧ H1 a = some (.ins C dx fs) ∧ sp [.ref a] H1 Q E
theorem pe_propR (he : PE X e ta) (c : Cls X.K C) (hp : PropOf X.K C m p g) (F : FnR X.prog X.w X.K X.mg X.base CX k g sp) (hr : Room (k + 1) X.A) (hx : Passes CX X.nox E)
    (hab : attributeBase e m X.env (eval e X.env) = eval e X.env := by rfl) : PE X (.Attribute e m pos) (tPropR C sp E ta) := by
  refine ⟨fun pins s σ H Q I h => ?_⟩
  refine attr_of hab (thn (he.run pins s σ H _ I h) fun u s1 ⟨x, H1, I1, rx, a, dx, fs, ex, ea, q⟩ => ?_)
  subst ex
  obtain rfl : u = Value.ref a := rx
  obtain ⟨mA, O, _, _, _, _⟩ := ins_get I1.hok ea
  obtain ⟨od, J, _⟩ := O.look
  obtain ⟨rest, hrec⟩ := hp.rec_
  have I2 := I1.tok (s1.toks + 1)
  have hc : (PySem.W.clsIn X.K C).isSome = true := by
    obtain ⟨cd, hc, _⟩ := PySem.W.any_some c.hd
    rw [hc]
    rfl
  refine PySem.W.get_bind I1.kIn J (PySem.W.plainGet_of (c.get m)).1 (PySem.W.findObj_data hc hp.at_ hp.get hp.tak) (PySem.W.plainGet_of (c.get m)).2 (wpAny_call (PySem.W.prop_get (s := { s1 with toks := s1.toks + 1 }) I1.kIn hrec ?_))
  refine codeAny_mono (F X.A.in1 X.stack { s1 with toks := s1.toks + 1 } H1 [.ref a] [.ref a] Q E hr.in1 I2.env0.in1 (.cons rfl .nil) q) fun r s' hq => ?_
  cases r with
  | error er => exact False.elim (hx pins σ H1 { s1 with toks := s1.toks + 1 } er s' (I2.wish _) hq)
  | ok fl =>
    cases fl with
    | ret u =>
      obtain ⟨v, H', I3, rv, q3⟩ := I2.after hq
      show wpAny _ _ (handedOut u) _ _ _
      rw [PySem.W.handedOut_of (handed_of rv)]
      exact wpAny_pure ⟨v, H', I3, rv, q3⟩
    | next => exact False.elim hq
    | brk => exact False.elim hq
    | cont => exact False.elim hq
/-- a statement that is never reached -/
theorem ps_dead {st : Stmt} : PS X st (fun _ _ _ => False) := ⟨fun _ _ _ _ _ _ h => h.elim⟩
theorem pss_dead {st : List Stmt} : PSs X st (fun _ _ _ => False) := ⟨fun _ _ _ _ _ _ h => h.elim⟩
end

/-! ### str(o), o == p, o != p of own classes -/
section
variable {X : Cx} {CX : CXT} {n : Nat} {f C : Addr} {sp : Sp} {E : XK}
theorem run_atR {pins : List (Addr × Obj)} {σ : L2.St} {H : Hp} {s : Shared} {A : Around} {Q : VK} {us : List Value} {ws : List V} (F : FnR X.prog X.w X.K X.mg X.base CX n f sp) (hr : Room n A) (e0 : Env0 X.prog X.w X.K X.mg X.base A X.stack s H) (hx : Passes CX X E) (I : Inv X pins σ H s) (r : Vals ws us) (h : sp ws H Q E) :
    wpAny (model X.prog X.w) A (call (.ref f) us) (EP X pins σ Q) X.xe s := wpAny_call (SlX.run_at F hr e0 hx I r h)
/-- str(o) by its own __str__ -/
def rStrO (C : Addr) (sp : Sp) (E : XK) : List V → Hp → VK → Prop := fun xs H Q => ∃ a dx fs, xs = [V.ref a] ∧ H a = some (.ins C dx fs) ∧ sp [.ref a] H (fun v H' => ∃ y, v = .str y ∧ Q v H') E
theorem call_strO (hs : PySem.W.findIn X.K (.ref C) "__str__" = some (some (.ref f))) (hf : PySem.W.isFn X.K (.ref f) = true) (F : FnR X.prog X.w X.K X.mg X.base CX n f sp) (hr : Room (n + 2) X.A) (hx : Passes CX X E) : CallR X (.type "str") (rStrO C sp E) := by
  intro pins s σ H xs us Q I r h
  obtain ⟨a, dx, fs, rfl, ea, q⟩ := h
  obtain ⟨u, rfl, ru⟩ := r.one
  cases (show u = Value.ref a from ru)
  obtain ⟨mA, O, _⟩ := ins_get I.hok ea
  obtain ⟨od, J, _⟩ := O.look
  have hr2 : Room n X.A.in1.in1 := (show Room (n + 1) X.A.in1 from Room.in1 hr).in1
  refine PySem.W.kso_call hr2.units0 I.kIn J hs hf (thn (run_atR (us := [.ref a]) (ws := [.ref a]) F hr2 I.env0.in1.in1 hx I (.cons rfl .nil) q) fun w s' z => ?_)
  obtain ⟨v, H', I', rv, y, ev, qv⟩ := z
  subst ev
  obtain ⟨t, rfl⟩ := rv
  exact ⟨.str y, H', I', ⟨t, rfl⟩, qv⟩
/-- x == y, both of the class at C -/
def rEqO (C : Addr) (sp : Sp) (E : XK) : R2 := fun x y H Q => ∃ a dx fs b dy gs, x = .ref a ∧ y = .ref b ∧ H a = some (.ins C dx fs) ∧ H b = some (.ins C dy gs) ∧ sp [.ref a, .ref b] H (fun v H' => ∃ c, v = .bl c ∧ Q v H') E
theorem op_eqO (hs : PySem.W.findIn X.K (.ref C) "__eq__" = some (some (.ref f))) (hf : PySem.W.isFn X.K (.ref f) = true) (F : FnR X.prog X.w X.K X.mg X.base CX n f sp) (hr : Room n X.A) (hx : Passes CX X E) : OpR X (compareOp .Eq) (rEqO C sp E) := by
  intro pins s σ H x y v u Q I rx ry h
  obtain ⟨a, dx, fs, b, dy, gs, rfl, rfl, ea, eb, q⟩ := h
  cases (show v = Value.ref a from rx)
  cases (show u = Value.ref b from ry)
  obtain ⟨mA, O, _⟩ := ins_get I.hok ea
  obtain ⟨od, J, _⟩ := O.look
  obtain ⟨mB, O', _⟩ := ins_get I.hok eb
  obtain ⟨od', J', _⟩ := O'.look
  obtain ⟨m, hF⟩ := I.fr
  show wpAny _ _ (richCompare .Eq _ _) _ _ _
  refine PySem.W.cmp_K (op := .Eq) (tb := .ref C) hr.units0 hF I.ok.mod.kin J J'.type (by simp [PySem.W.notFirst]) hs hf ?_
  refine thn (wpAny_call (run_fnR (us := [.ref a, .ref b]) (vs := [.ref a, .ref b]) F hr hx I (.cons rfl (.cons rfl .nil)) q)) fun w s' z => ?_
  obtain ⟨z', H', I', rz, c, ez, qz⟩ := z
  subst ez
  cases rz
  exact ⟨.bl c, H', I', rfl, qz⟩
theorem ifBound_B {M : Model} {A : Around} {E : Value → Shared → Prop} {s : Shared} {K : PySem.W.Frag} {x C : Addr} {ox : Obj} {od : Option Obj} {name : Str} {id : String} {args : List Value} {Q : Option Value → Shared → Prop} (Xk : K.In s.heap) (I : PySem.W.InstAt s.heap x ox C od)
    (hs : PySem.W.findIn K (.ref C) name = some (some (.builtin id))) (hb : ∀ self, bindSpecial (.builtin id) self = pure (.builtin id, [self]))
    (h : wpAny M A (call (.builtin id) (.ref x :: args)) (fun v => Q (some v)) E s) : wpAny M A (callSpecialIfBound? (.ref x) name args) Q E s := by
  simp only [callSpecialIfBound?, bindSpecialIfBound?]
  refine wpAny_holding (wpAny_bind (wpAny_bind (wpAny_bind (I.type.here ((PySem.W.looks_findIn Xk hs).here ?_)))))
  refine wpAny_bind (wpAny_askSetting (wpAny_ite ?_))
  have fin : wpAny M A (call (.builtin id) ([.ref x] ++ args) >>= fun v => pure (some v)) Q E s := wpAny_bind (wpAny_mono h (fun v s' h' => wpAny_pure h') fun _ _ h' => h')
  split
  · exact wpAny_bind ((PySem.W.Looks.of_pure (hb _)).here (wpAny_pure (by exact fin)))
  · exact wpAny_tryCatch (wpAny_bind ((PySem.W.Looks.of_pure (hb _)).here (wpAny_pure (by exact fin))))
/-- x != y by object.__ne__ over the own __eq__ -/
theorem objNe_K {prog : Program} {w : World} {A : Around} {E : Value → Shared → Prop} {s : Shared} {K : PySem.W.Frag} {x y C f : Addr} {ox : Obj} {od : Option Obj} {Q : Fin → Shared → Prop} (Xk : K.In s.heap) (I : PySem.W.InstAt s.heap x ox C od)
    (hs : PySem.W.findIn K (.ref C) "__eq__" = some (some (.ref f))) (hf : PySem.W.isFn K (.ref f) = true) (hu : A.units < cLine)
    (hcall : wpAny (model prog w) A (call (.ref f) [.ref x, .ref y]) (fun v s' => ∃ b, v = .bool b ∧ Q (.done (.ret (.bool (!b)))) s') E s) :
    wpAny (model prog w) A (Builtin.«object.__ne__» ⟨[.ref x, .ref y], []⟩) Q E s := by
  unfold Builtin.«object.__ne__»
  repeat (first
    | with_reducible refine wpAny_cRoomFor hu ?_
    | (refine wpAny_bind (m := callSpecialIfBound? (.ref x) (Str.ofString "__eq__") [.ref y])
        (PySem.W.ifBound_K Xk I hs hf (wpAny_mono hcall (fun r s' hr => by
          obtain ⟨b, rfl, hq⟩ := hr
          repeat (first | exact hq | exact wpAny_pure hq | exact wpAny_truthy_bool hq | (refine wpAny_bind (m := truthy (.bool _)) (wpAny_truthy_bool ?_)) | wp_step)) fun _ _ e => e)))
    | wp_step)
theorem ne_K {prog : Program} {w : World} {A : Around} {E : Value → Shared → Prop} {s : Shared} {K : PySem.W.Frag} {x y C f : Addr} {ox : Obj} {od : Option Obj} {Q : Value → Shared → Prop} (Xk : K.In s.heap) (I : PySem.W.InstAt s.heap x ox C od)
    (hb : PySem.W.Looks (model prog w) s.heap (typeOf (.ref y)) (.ref C))
    (hn : PySem.W.findIn K (.ref C) "__ne__" = some (some (.builtin "object.__ne__"))) (hm : PySem.W.mroIn K C (.type "object") = some true)
    (hs : PySem.W.findIn K (.ref C) "__eq__" = some (some (.ref f))) (hf : PySem.W.isFn K (.ref f) = true) (hu : A.units + 1 < cLine)
    (hcall : wpAny (model prog w) A.in1 (call (.ref f) [.ref x, .ref y]) (fun v s' => ∃ b, v = .bool b ∧ Q (.bool (!b)) s') E s) :
    wpAny (model prog w) A (richCompare .NotEq (.ref x) (.ref y)) Q E s := by
  unfold richCompare
  simp only [oneThing_ref]
  refine wpAny_holding (wpAny_bind (wpAny_cRoomFor (Nat.lt_of_succ_lt hu) ?_))
  rw [cmpInfo_NotEq]
  dsimp only
  refine wpAny_bind (I.type.here (wpAny_bind (hb.here ?_)))
  rw [show (Value.ref C != Value.ref C) = false from by simp]
  simp only [Bool.false_eq_true, if_false]
  refine wpAny_bind (wpAny_pure ?_)
  simp only [Bool.false_eq_true, if_false]
  simp only [tryCompare]
  refine wpAny_bind (wpAny_bind (ifBound_B Xk I hn (fun _ => rfl) (wpAny_call (codeAny_call_builtin (by decide +kernel) F.cmpEntry_ne (PySem.W.check_slot (i := "object.__ne__") (owner := "object") (n := "__ne__") F.cmpKind_ne F.cmpSplit_ne (I.type.andThen (PySem.W.looks_mroIn Xk hm)) (F.cmpArgs_ne _ _)
    (objNe_K (A := A.in1) Xk I hs hf (by exact hu) (wpAny_mono hcall (fun v s' hv => ?_) fun _ _ e => e)))))))
  obtain ⟨b, rfl, hq⟩ := hv
  first | exact ⟨b, rfl, wpAny_pure (wpAny_pure hq)⟩ | exact ⟨b, rfl, wpAny_pure hq⟩ | exact ⟨b, rfl, hq⟩
def rNeO (C : Addr) (sp : Sp) (E : XK) : R2 := fun x y H Q => ∃ a dx fs b dy gs, x = .ref a ∧ y = .ref b ∧ H a = some (.ins C dx fs) ∧ H b = some (.ins C dy gs) ∧ sp [.ref a, .ref b] H (fun v H' => ∃ c, v = .bl c ∧ Q (.bl (!c)) H') E
theorem op_neO (hn : PySem.W.findIn X.K (.ref C) "__ne__" = some (some (.builtin "object.__ne__"))) (hm : PySem.W.mroIn X.K C (.type "object") = some true) (hs : PySem.W.findIn X.K (.ref C) "__eq__" = some (some (.ref f))) (hf : PySem.W.isFn X.K (.ref f) = true) (F : FnR X.prog X.w X.K X.mg X.base CX n f sp) (hr : Room (n + 1) X.A) (hx : Passes CX X E) : OpR X (compareOp .NotEq) (rNeO C sp E) := by
  intro pins s σ H x y v u Q I rx ry h
  obtain ⟨a, dx, fs, b, dy, gs, rfl, rfl, ea, eb, q⟩ := h
  cases (show v = Value.ref a from rx)
  cases (show u = Value.ref b from ry)
  obtain ⟨mA, O, _⟩ := ins_get I.hok ea
  obtain ⟨od, J, _⟩ := O.look
  obtain ⟨mB, O', _⟩ := ins_get I.hok eb
  obtain ⟨od', J', _⟩ := O'.look
  show wpAny _ _ (richCompare .NotEq _ _) _ _ _
  refine ne_K I.kIn J J'.type hn hm hs hf (hu_of hr) (thn (run_atR (us := [.ref a, .ref b]) (ws := [.ref a, .ref b]) F hr.in1 I.env0.in1 hx I (.cons rfl (.cons rfl .nil)) q) fun w s' z => ?_)
  obtain ⟨z', H', I', rz, c, ez, qz⟩ := z
  subst ez
  cases rz
  exact ⟨c, rfl, .bl (!c), H', I', rfl, qz⟩
end
end DD

set_option Elab.async false
set_option linter.all false
set_option maxRecDepth 100000
set_option maxHeartbeats 2000000
namespace DD
open PySem PySem.Spec PyProof.Rows L2
section
variable {X : Cx} {CX : CXT} {n : Nat} {f C : Addr} {sp : Sp} {E : XK}
/-- len(o) by its own __len__ -/
def rLenO (C : Addr) (sp : Sp) (E : XK) : List V → Hp → VK → Prop := fun xs H Q => ∃ a dx fs, xs = [V.ref a] ∧ H a = some (.ins C dx fs) ∧ sp [.ref a] H (fun v H' => ∃ i : Int, v = .int i ∧ 0 ≤ i ∧ i < 2 ^ 63 ∧ Q v H') E
theorem call_lenO (hs : PySem.W.findIn X.K (.ref C) "__len__" = some (some (.ref f))) (hf : PySem.W.isFn X.K (.ref f) = true) (F : FnR X.prog X.w X.K X.mg X.base CX n f sp) (hr : Room (n + 1) X.A) (hx : Passes CX X E) : CallR X (.builtin "len") (rLenO C sp E) := by
  intro pins s σ H xs us Q I r h
  obtain ⟨a, dx, fs, rfl, ea, q⟩ := h
  obtain ⟨u, rfl, ru⟩ := r.one
  cases (show u = Value.ref a from ru)
  obtain ⟨mA, O, _⟩ := ins_get I.hok ea
  obtain ⟨od, J, _⟩ := O.look
  obtain ⟨m, hF⟩ := I.fr
  refine PySem.W.len_K hF I.ok.mod.kin J hs hf (thn (run_atR (us := [.ref a]) (ws := [.ref a]) F hr.in1 I.env0.in1 hx I (.cons rfl .nil) q) fun w s' z => ?_)
  obtain ⟨v, H', I', rv, i, ev, h0, h1, qv⟩ := z
  subst ev
  obtain ⟨t, rfl⟩ := rv
  exact ⟨⟨h0, h1⟩, .int i, H', I'.tok _, ⟨_, rfl⟩, qv⟩
/-- o[i] by its own __getitem__ -/
def rIxO (C : Addr) (sp : Sp) (E : XK) : R2 := fun x y H Q => ∃ a dx fs, x = .ref a ∧ H a = some (.ins C dx fs) ∧ sp [.ref a, y] H Q E
theorem pe_ixO {a b : Expr} {ta tb : TE} {pos : Pos} (hs : PySem.W.findIn X.K (.ref C) "__getitem__" = some (some (.ref f))) (hf : PySem.W.fnIn X.K f = true) (hfn : PySem.W.isFn X.K (.ref f) = true) (F : FnR X.prog X.w X.K X.mg X.base CX n f sp) (hr : Room (n + 1) X.A) (hx : Passes CX X E) (ha : PE X a ta) (hb : PE X b tb)
    (hsl : ∀ x i, subscripted b true (.ref x) i = runValue (.builtin "lifetime.subscript" ⟨[.ref x, i], []⟩) := by intro _ _; rfl) : PE X (.Subscript a b pos) (tOp (rIxO C sp E) ta tb) := by
  refine ⟨fun pins s σ H Q I h => ?_⟩
  refine Subscript_ (binT ha hb I h fun v u s2 x y H2 I2 rx ry q => ?_)
  obtain ⟨p, dx, fs, rfl, ea, q⟩ := q
  cases (show v = Value.ref p from rx)
  obtain ⟨mA, O, _⟩ := ins_get I2.hok ea
  obtain ⟨od, J, _⟩ := O.look
  obtain ⟨m, hF⟩ := I2.fr
  exact PySem.W.sub_K hF I2.ok.mod.kin J hs hf hfn (run_atR (us := [.ref p, u]) (ws := [.ref p, y]) F hr.in1 I2.env0.in1 hx I2 (.cons rfl (.cons ry .nil)) q) (hsl p u)
end
/-! ### rules whose reading names K itself -/
theorem inK {X : Cx} {K : PySem.W.Frag} (h : X.K = K := by rfl) : OpR X (compareOp .In) (rIn K false) := h ▸ op_in_seq
theorem eqDK {X : Cx} {K : PySem.W.Frag} (hu : X.A.units + 64 < cLine) (h : X.K = K := by rfl) : OpR X (compareOp .Eq) (rEqD K) := h ▸ op_eqD hu
theorem neDK {X : Cx} {K : PySem.W.Frag} (hu : X.A.units + 64 < cLine) (h : X.K = K := by rfl) : OpR X (compareOp .NotEq) (rNeD K) := h ▸ op_neD hu
/-! ### x, y = a, b -/
theorem sw2 {x y : Str} {a b : Expr} {px py pt pv : Pos} {kt kv} {env : Env} (hk : (env.blockKind != .function) = false) (lx : env.scope.names.lookup x = some .local) (ly : env.scope.names.lookup y = some .local)
    (hl : (py.line == px.line) = true := by rfl) (hxy : ((y == x) = false) := by decide +kernel) (h1 : ([a, b].any fun | .Starred .. => true | _ => false) = false := by rfl) (h2 : [a, b].all (foldedForSure 8) = false := by rfl) (h3 : [a, b].all (constantsAlone 8) = false := by rfl) :
    swappedStores [.Tuple [.Name x px, .Name y py] kt pt] (.Tuple [a, b] kv pv) env = pure (some [x, y]) := by
  have kx : (env.kindOf x == some .local) = true := by rw [show env.kindOf x = some .local from lx]; rfl
  have ky : (env.kindOf y == some .local) = true := by rw [show env.kindOf y = some .local from ly]; rfl
  unfold swappedStores
  simp only [pure_bind, List.head?_cons, Option.map_some, Option.getD_some, Expr.pos]
  have e : (px.line == px.line) = true := by simp
  simp only [List.filterMap_cons, List.filterMap_nil, Expr.pos, kx, ky, hl, e, Bool.and_self, if_true, h1, h2, h3, hk, List.length_cons, List.length_nil]
  have ed : ([x, y] : List Str).eraseDups = [x, y] := by
    simp [List.eraseDups_cons, hxy]
  rw [ed]
  refine (if_neg (by decide)).trans ((if_neg ?_).trans ((if_neg (by show ¬ ((2 != 2 || 2 != 2) = true); decide)).trans ((if_neg (by decide)).trans (if_neg (by decide)))))
  rw [Bool.not_eq_true]
  exact h1
/-! ### cls(..), the class in a local name -/
section
variable {X : Cx} {CX : CXT} {k i : Nat} {f C : Addr} {sp : Sp} {E : XK} {x : Str} {p pos : Pos} {e : Expr} {es : List Expr} {t : TA}
def tMakeL (i : Nat) (C : Addr) (sp : Sp) (E : XK) (t : TA) : TE := fun σ H Q => σ[i]? = some (some (.ref C)) ∧ StX.tMakeR C sp E t σ H Q
theorem pe_makeL (i : Nat) (M : Mk X.K C f) (F : FnR X.prog X.w X.K X.mg X.base CX k f sp) (hr : Room (k + 1) X.A) (hx : Passes CX X E) (ha : PA X (e :: es) t) (hN : X.N[i]? = some x := by rfl) (hv : Vis X.env.scope x := by first | exact Or.inl rfl | exact Or.inr (Or.inl rfl) | exact Or.inr (Or.inr rfl))
    (hdb : (x == ("__debug__" : Str)) = false := by decide) (hcd : (x == ("__classdict__" : Str)) = false := by decide)
    (he : starEach (e :: es) X.env = (false, eval e X.env) :: starEach es X.env := by rfl) (hpl : (backTo pos (starEach es X.env)).any (·.1) = false := by rfl) : PE X (.Call (.Name x p) (e :: es) [] pos) (tMakeL i C sp E t) := by
  refine ⟨fun pins s σ H Q I h => ?_⟩
  obtain ⟨hs, ht⟩ := h
  refine wpAny_Call_Name_kw (thn ((pe_var (pos := p) hN hv hdb hcd).run pins s σ H (fun v H1 => v = .ref C ∧ H1 = H) I ⟨.ref C, hs, rfl, rfl⟩) fun u s1 ⟨v, H1, I1, r1, q1⟩ => ?_)
  obtain ⟨rfl, rfl⟩ := q1
  cases r1
  refine PySem.W.callWith_K (h₀ := X.base) I.ok.mod.kin M.kp (thn (ha.run pos pins s1 σ _ _ I1 ht) fun us s2 ⟨vs, H2, I2, r, q⟩ => ⟨I2.kIn, ?_⟩) he hpl
  exact StX.run_makeR M F hr hx I2 r q
end
end DD

set_option Elab.async false
set_option linter.all false
set_option maxRecDepth 100000
set_option maxHeartbeats 2000000
/-! where the guards are known: repr of data; a def run there -/
namespace DD
open PySem PySem.Spec PyProof.Rows L2
section
variable {X : Cx}
/-- repr(x), x a list, tuple or dict of data -/
def rReprD (K : PySem.W.Frag) : List V → Hp → VK → Prop := fun xs H Q => ∃ a d, xs = [.ref a] ∧ Dp K H (.ref a) d ∧ d.showable = true ∧ d.hasDict = false ∧ d.depth ≤ 60 ∧ d.shown.length ≤ sizeLine ∧ Q (.str d.shown) H
theorem call_reprD (hg : X.A.guards = some []) (hu : X.A.units + 64 < cLine) : CallR X (.builtin "repr") (rReprD X.K) := by
  intro pins s σ H xs us Q I r h
  obtain ⟨a, d, rfl, hd, hs, hn, hp, hz, q⟩ := h
  obtain ⟨u, rfl, ru⟩ := r.one
  obtain ⟨as, rd⟩ := Dp.reads I d _ u hd ru
  obtain rfl : u = Value.ref a := ru
  exact repr_of_reads' rd hs (fun e => by rw [hn] at e; cases e) hg (by omega) (fun _ _ e => e) (fun h' u tk hk => ⟨.str d.shown, H, I.kept hk, ⟨u, rfl⟩, q⟩) hz
end
section
variable {P : Program} {w : World} {K : PySem.W.Frag} {mg : Str → Option Value} {base : Heap}
/-- a def's promise where the guards are known -/
def FnG (P : Program) (w : World) (K : PySem.W.Frag) (mg : Str → Option Value) (base : Heap) (k : Nat) (f : Addr) (fd : FuncData) (ps : List Str) (sp : Sp) : Prop :=
  ∀ (A : Around) (outer : List Env) (s : Shared) (H : Hp) (args : Args) (us : List Value) (vs : List V) (Q : VK) (E : XK), Room k A → A.guards = some [] → Env0 P w K mg base A outer s H → BindsTo s fd args (ps.zip us) → Vals vs us → sp vs H Q E →
    codeAny (model P w) A (.call (.ref f) args) (CR CX0 outer P w H s Q E) s
theorem fnG_of {name qual : Str} {params : Arguments} {body : List Stmt} {scope : Scope} {dV kV doc pm cdv ct oc : Value} {an od : Option Addr} {f : Addr} {k : Nat} {osl : Array (Option Value)} {N ps : List Str} {sp : Sp}
    (lk : K.lookup f = some ⟨oc, od, .func (PySem.W.fnOf name qual params body scope dV kV doc pm an cdv ct), osl⟩) (hcd : PySem.W.codeIn K cdv qual = true) (S : FnScope N ps scope) (len : ∀ vs H Q E, sp vs H Q E → vs.length = ps.length)
    (hbody : ∀ (A : Around) (outer : List Env) (s : Shared) (H : Hp) (vs : List V) (Q : VK) (E : XK), Room k (A.deeper (envOfC qual scope s.heap.objs.size f cdv)) → (A.deeper (envOfC qual scope s.heap.objs.size f cdv)).guards = some [] → sp vs H Q E →
      ∃ t, PSs (cxOf CX0 P w K mg base N qual scope f cdv A outer s H E).nox body t ∧ t { nx := fun _ H' => Q .non H', rt := Q } (start N vs) H) :
    FnG P w K mg base (k + 1) f (PySem.W.fnOf name qual params body scope dV kV doc pm an cdv ct) ps sp := by
  intro A outer s H args us vs Q E room hg e0 binds vals h
  have inS : ∀ {b : Addr} {o : Obj}, base.get? b = some o → s.heap.get? b = some o := fun e => (e0.bs _ _ e).1
  have kinS : K.In s.heap := e0.mod.kin.keeps fun _ _ => inS
  refine codeAny_call_function room.depth (kinS _ _ lk) rfl S.co S.gen rfl (PySem.W.codeRec_of kinS hcd) (binds _ _ _ _ (wpAny_newFunctionEnv_cells S.kind (fun y hy => ?_) fun env he s1 x => ?_))
  · have hp := S.par y.1 (List.of_mem_zip (show (y.1, y.2) ∈ ps.zip us from hy)).1
    exact hp.imp id fun c => ⟨c, PySem.W.cellsFrom_some _ _ _ (.inl c)⟩
  · cases he
    refine ⟨(e0.mod.nolimit.keeps fun _ _ => inS).keeps x.toInCall.keep, codeAny_func ?_⟩
    obtain ⟨t, run, start_⟩ := hbody A outer s H vs Q E (room.deeper _) (by exact hg) h
    have I : Inv (cxOf CX0 P w K mg base N qual scope f cdv A outer s H E) [] (start N vs) H s1 := inv_start S room.hd e0 (len _ _ _ _ h) vals x
    refine wpAny_mono (run.nox.run [] s1 (start N vs) H _ I start_) (fun fl s2 z => ?_) fun _ _ z => z
    cases fl with
    | ret u =>
      obtain ⟨v, σ', H', J, rv, qv⟩ := z
      exact ⟨v, H', J.os, J.bare, J.base, J.hok, rv, qv⟩
    | next =>
      obtain ⟨σ', H', J, qv⟩ := z
      exact ⟨.non, H', J.os, J.bare, J.base, J.hok, rfl, qv⟩
    | brk => exact z.choose_spec.choose_spec.2.elim
    | cont => exact z.choose_spec.choose_spec.2.elim
end
end DD

set_option Elab.async false
set_option linter.all false
set_option maxRecDepth 100000
set_option maxHeartbeats 2000000
/-! the law run where the caller's guards are known -/
namespace DD
open PySem PySem.Spec PyProof.Rows L2
def scriptO (vs : List Value) : Obj := { cls := .type "list", data := .seq vs.toArray }
/-- either nothing is tracked, or the script alone -/
def Script (K : PySem.W.Frag) (H : Hp) (a : Addr) (o : Obj) (xs : List V) : Prop := ∀ b, H b = none ∨ (b = a ∧ H b = some (.frz o (.lst xs)) ∧ K.lookup a = none)
section
variable {P : Program} {w : World} {K : PySem.W.Frag} {mg mb : Str → Option Value} {k : Nat} {fa a : Addr} {fd : FuncData} {x : Str} {sp : Sp} {s : Shared} {vs : List Value} {ns : List Int} {H : Hp}
theorem script_core (inK : K.In s.heap) (nsG : s.heap.Ns mainGlobals mg) (nsB : s.heap.Ns builtinsNs mb) (boot : ∀ x : Str, x ≠ "__name__" → mb x = bootBuiltins x) (lim : s.heap.NoLimit) (gens : s.gens = #[]) (at_ : s.heap.get? a = some (scriptO vs))
    (room : Room k callerA) (F : ∀ base : Heap, K.In base → base.Ns mainGlobals mg → FnG P w K mg base k fa fd [x] sp) (binds : ∀ (s : Shared) (u : Value), BindsTo s fd ⟨[u], []⟩ [(x, u)])
    (alone : Script K H a (scriptO vs) (ns.map V.int)) (hok : HOk P w H s.heap) (h : sp [.ref a] H (fun v _ => v = .bl true) fun _ _ _ => False) :
    codeAny (model P w) callerA (.call (.ref fa) ⟨[.ref a], []⟩) (fun r s' => r = .ok (.ret (.bool true)) ∧ OldK s.heap s'.heap ∧ s'.os = s.os ∧ AllBare s'.gens) s := by
  have keepNs : ∀ {b : Addr} {m : Str → Option Value}, s.heap.Ns b m → (hidT s.heap H).Ns b m := by
    rintro b m ⟨o, es, ep, e, dat, r⟩
    refine ⟨o, es, ep, hidT_get e ?_, dat, r⟩
    rcases alone b with z | ⟨rfl, -, -⟩
    · exact z
    · rw [at_] at e
      cases e
      cases (show Data.seq vs.toArray _ = Data.dict es ep from dat)
  have keepK : K.In (hidT s.heap H) := fun b o e => hidT_get (inK b o e) <| by
    rcases alone b with z | ⟨rfl, -, z⟩
    · exact z
    · rw [e] at z
      cases z
  have mod : Mod K mg (hidT s.heap H) := by
    obtain ⟨mc, l1, l2⟩ := lim
    exact ⟨keepK, keepNs nsG, ⟨mb, keepNs nsB, boot⟩, ⟨mc, keepNs l1, l2⟩⟩
  have env : Env0 P w K mg (hidT s.heap H) callerA [] s H :=
    { frames := rfl, mod := mod, bs := fun b o e => of_hidT e, bsz := Nat.le_of_eq (hidT_size _ _), funs := trivial, frf := fun b z => absurd (show b ∈ ([] : List Addr) from z) (by simp), hok := hok, bare := .of_eq gens }
  refine codeAny_mono (F _ keepK (keepNs nsG) callerA [] s H _ [.ref a] [.ref a] _ _ room rfl env (binds s (.ref a)) (.cons rfl .nil) h) fun r s' z => ?_
  match r, z with
  | .ok (.ret u), ⟨v, H', os, bare, un, hok', rv, ev⟩ =>
    have ev' : v = .bl true := ev
    subst ev'
    obtain rfl : u = Value.bool true := rv
    refine ⟨rfl, OldK.of_keep fun b o e => ?_, os, bare⟩
    rcases alone b with z | ⟨rfl, z, -⟩
    · exact un.keep b o e z (by intro y; exact absurd (show b ∈ ([] : List Addr) from y) (by simp)) (by simp)
    · have t := (hok' b _ (un.frzs b _ _ z)).1
      rw [at_] at e
      cases e
      exact t
theorem script_run (inK : K.In s.heap) (nsG : s.heap.Ns mainGlobals mg) (nsB : s.heap.Ns builtinsNs mb) (boot : ∀ x : Str, x ≠ "__name__" → mb x = bootBuiltins x) (lim : s.heap.NoLimit) (gens : s.gens = #[]) (at_ : s.heap.get? a = some (scriptO vs))
    (nums : IntsAre vs ns) (size : ns.length ≤ sizeLine) (room : Room k callerA) (F : ∀ base : Heap, K.In base → base.Ns mainGlobals mg → FnG P w K mg base k fa fd [x] sp) (binds : ∀ (s : Shared) (u : Value), BindsTo s fd ⟨[u], []⟩ [(x, u)])
    (h : ∀ H : Hp, Only H → SqL K H a (ns.map V.int) → sp [.ref a] H (fun v _ => v = .bl true) fun _ _ _ => False) :
    codeAny (model P w) callerA (.call (.ref fa) ⟨[.ref a], []⟩) (fun r s' => r = .ok (.ret (.bool true)) ∧ OldK s.heap s'.heap ∧ s'.os = s.os ∧ AllBare s'.gens) s := by
  have rv := vals_ints nums
  have len := nums.length
  cases e : K.lookup a with
  | some o =>
    have o' := inK a o e
    rw [at_] at o'
    cases o'
    have hs : SqL K (fun _ => none) a (ns.map V.int) := .inr ⟨_, vs.toArray, _, e, rfl, rfl, rfl, by rw [List.size_toArray, len]; exact size, by simpa using rv⟩
    exact script_core (ns := ns) (H := fun _ => none) inK nsG nsB boot lim gens at_ room F binds (fun b => .inl rfl) (fun b u z => nomatch z) (h _ (fun _ => .inl rfl) hs)
  | none =>
    have hs : SqL K (upd (fun _ => none) a (.frz (scriptO vs) (.lst (ns.map V.int)))) a (ns.map V.int) := .inl (.inr ⟨scriptO vs, upd_same⟩)
    have al : Script K (upd (fun _ => none) a (.frz (scriptO vs) (.lst (ns.map V.int)))) a (scriptO vs) (ns.map V.int) := fun b => by
      by_cases hb : b = a
      · exact .inr ⟨hb, by rw [hb]; exact upd_same, e⟩
      · exact .inl (by rw [upd_ne hb])
    refine script_core (H := upd (fun _ => none) a (.frz (scriptO vs) (.lst (ns.map V.int)))) inK nsG nsB boot lim gens at_ room F binds al (fun b u z => ?_) (h _ (fun b => (al b).imp id fun y => ⟨_, _, y.2.1⟩) hs)
    by_cases hb : b = a
    · subst hb
      rw [upd_same] at z
      cases z
      exact ⟨at_, by rw [List.length_map]; exact size, vs, _, rv, at_⟩
    · rw [upd_ne hb] at z
      cases z
end
theorem walk_ofG {l : PySem.W.OpenLaw} {n k : Nat} {q : Program} {loose : List Str} {XP : (Str → Option Value) → Heap → Prop} {YP : World → Heap → Prop} {d : DefRec} {K : Params → PySem.W.Frag} {sp : PySem.W.Frag → Sp} {x : Str}
    (hn : l.most = some n) (hn2 : n ≤ sizeLine) (hdf : d.params.defaults = []) (hr : Room k callerA)
    (hY : ∀ (w : World) (h : Heap), YP w h → (K w.params).In h)
    (F : ∀ (w : World) (mg : Str → Option Value) (fa : Addr) (h : Heap), (K w.params).In h → h.Ns mainGlobals mg → mg d.name = some (.ref fa) →
      ∃ fd : FuncData, (∀ (s : Shared) (u : Value), BindsTo s fd ⟨[u], []⟩ [(x, u)]) ∧ ∀ base : Heap, (K w.params).In base → base.Ns mainGlobals mg → FnG l.prog w (K w.params) mg base k fa fd [x] (sp (K w.params)))
    (hsp : ∀ (K : PySem.W.Frag) (H : Hp) (a : Addr) (ns : List Int), ns.length ≤ n → Only H → SqL K H a (ns.map V.int) → sp K [.ref a] H (fun v _ => v = .bl true) fun _ _ _ => False) :
    PySem.W.WalkO q loose XP YP l.row.toRowW d [] (fun f vs => PySem.call f vs) := by
  refine Att.attach_call hn hdf fun w s₀ s₁ mg mb fa o pm cd doc a vs ns G Y ho hd hcd hmg hobj hints hlen hg => ?_
  obtain ⟨fd, binds, hF⟩ := F w mg fa _ (hY w _ Y) G.T.g hmg
  exact script_run (hY w _ Y) G.T.g G.T.b G.T.builtins G.T.nolimit hg hobj hints (Nat.le_trans hlen hn2) hr hF binds fun H hO hS => hsp (K w.params) H a ns hlen hO hS
/-- the rule for a def, by its body, where the guards are known -/
theorem fun_okG {P : Program} {w : World} {K : PySem.W.Frag} {mg : Str → Option Value} {base : Heap} {x qual : Str} {st : Stmt} {f : Addr} {fd : FuncData} {N ps : List Str} {k : Nat} {sp : Sp} (F : Fun K x qual st f fd) (S : FnScope N ps (defScope st)) (len : ∀ vs H Q E, sp vs H Q E → vs.length = ps.length)
    (hbody : ∀ (cdv : Value) (A : Around) (outer : List Env) (s : Shared) (H : Hp) (vs : List V) (Q : VK) (E : XK), Room k (A.deeper (envOfC qual (defScope st) s.heap.objs.size f cdv)) → (A.deeper (envOfC qual (defScope st) s.heap.objs.size f cdv)).guards = some [] → sp vs H Q E →
      ∃ t, PSs (cxOf CX0 P w K mg base N qual (defScope st) f cdv A outer s H E).nox (defBody st) t ∧ t { nx := fun _ H' => Q .non H', rt := Q } (start N vs) H) : FnG P w K mg base (k + 1) f fd ps sp := by
  obtain ⟨oc, od, kV, doc, pm, an, cdv, ct, osl, rfl, lk, hcd⟩ := F.ex
  exact fnG_of lk hcd S len fun A outer s H vs Q E hr hg h => hbody cdv A outer s H vs Q E hr hg h
section
variable {X : Cx} {CX : CXT} {n : Nat} {f C : Addr} {sp : Sp} {E : XK}
/-- x == y, x of the class at C, y a text -/
def rEqOS (C : Addr) (sp : Sp) (E : XK) : R2 := fun x y H Q => ∃ a dx fs z, x = .ref a ∧ y = .str z ∧ H a = some (.ins C dx fs) ∧ sp [.ref a, .str z] H (fun v H' => ∃ c, v = .bl c ∧ Q (.bl c) H') E
theorem op_eqOS (hsub : PySem.W.subIn X.K (.type "str") (.ref C) = some false) (hs : PySem.W.findIn X.K (.ref C) "__eq__" = some (some (.ref f))) (hf : PySem.W.isFn X.K (.ref f) = true) (F : FnR X.prog X.w X.K X.mg X.base CX n f sp) (hr : Room n X.A) (hx : Passes CX X E) : OpR X (compareOp .Eq) (rEqOS C sp E) := by
  intro pins s σ H x y v u Q I rx ry h
  obtain ⟨a, dx, fs, z, rfl, rfl, ea, q⟩ := h
  cases (show v = Value.ref a from rx)
  obtain ⟨t, rfl⟩ := ry
  obtain ⟨mA, O, _⟩ := ins_get I.hok ea
  obtain ⟨od, J, _⟩ := O.look
  obtain ⟨m, hF⟩ := I.fr
  show wpAny _ _ (richCompare .Eq _ _) _ _ _
  refine PySem.W.cmp_K (op := .Eq) (tb := .type "str") hr.units0 hF I.ok.mod.kin J (PySem.W.Looks.of_pure rfl) (by simp [PySem.W.notFirst, hsub]) hs hf ?_
  refine thn (wpAny_call (run_fnR (us := [.ref a, .str z t]) (vs := [.ref a, .str z]) F hr hx I (.cons rfl (.cons ⟨t, rfl⟩ .nil)) q)) fun w s' z => ?_
  obtain ⟨z', H', I', rz, c, ez, qz⟩ := z
  subst ez
  cases rz
  exact ⟨.bl c, H', I', rfl, qz⟩
end
end DD

set_option Elab.async false
set_option linter.all false
set_option maxRecDepth 100000
set_option maxHeartbeats 2000000
/-! xs[lo:hi:step] of a list -/
namespace DD
open PySem PySem.Spec PyProof.Rows L2
/-- the items of xs[lo:hi:st] -/
def pickV (xs : List V) (lo hi : Option Int) (st : Int) : List V :=
  (sliceRange (sliceBounds lo hi (some st) xs.length).1 (sliceBounds lo hi (some st) xs.length).2.1 (sliceBounds lo hi (some st) xs.length).2.2).filterMap (xs[·]?)
theorem vals_pick {xs : List V} {us : List Value} (r : Vals xs us) : ∀ is : List Nat, Vals (is.filterMap (xs[·]?)) (is.filterMap (us[·]?))
  | [] => .nil
  | i :: is => by
    have ih := vals_pick r is
    cases e : xs[i]? with
    | none =>
      have e2 : us[i]? = none := by
        rw [List.getElem?_eq_none_iff] at e ⊢
        rw [← r.length]
        exact e
      rw [List.filterMap_cons_none e, List.filterMap_cons_none e2]
      exact ih
    | some x =>
      obtain ⟨u, h1, h2⟩ := r.get e
      rw [List.filterMap_cons_some e, List.filterMap_cons_some h1]
      exact .cons h2 ih
/-- xs[lo:hi:st] of a list: a new list -/
def tSl3 (K : PySem.W.Frag) (st : Int) (te : TE) (tl th : TO) : TE := fun σ H Q => te σ H fun x H1 => tl σ H1 fun lo H2 => th σ H2 fun hi H3 => ∃ a xs, x = .ref a ∧ SqL K H3 a xs ∧ (pickV xs lo hi st).length ≤ sizeLine ∧ ∀ p, H3 p = none → Q (.ref p) (upd H3 p (.lst (pickV xs lo hi st)))
theorem pe_slice3 {X : Cx} {e : Expr} {lo hi : Option Expr} {te : TE} {tl th : TO} {st : Int} {k : Nat} {p1 p2 pos : Pos} (hst : st ≠ 0) (he : PE X e te) (hl : PO X lo tl) (hu : PO X hi th) :
    PE X (.Subscript e (.Slice lo hi (some (.Constant (.int st) k p1)) p2) pos) (tSl3 X.K st te tl th) := by
  refine ⟨fun pins s σ H Q I h => ?_⟩
  refine Subscript_ (thn (he.run pins s σ H _ I h) fun v s1 ⟨x, H1, I1, r1, q1⟩ => ?_)
  have hs : PO X (some (.Constant (.int st) k p1)) (tPart (tC (.int st))) := po_some pe_int
  refine wpAny_Slice (thn (hl.run pins s1 σ H1 _ I1 q1) fun vl s2 ⟨l, H2, I2, pl, q2⟩ => thn (hu.run pins s2 σ H2 _ I2 q2) fun vu s3 ⟨u, H3, I3, pu, q3⟩ => ?_)
  refine thn (hs.run pins s3 σ H3 (fun o H4 => o = some st ∧ H4 = H3) I3 ⟨st, rfl, rfl, rfl⟩) fun vs s4 ⟨o, H4, I4, ps, eo, e4⟩ => ?_
  subst eo e4
  obtain ⟨a, xs, ex, hx, hz2, q⟩ := q3
  subst ex
  cases r1
  have I5 : Inv X pins σ H4 { s4 with heap := s4.heap.push { cls := .type "slice", data := .fields #[vl, vu, vs] } } := I4.kept (t' := s4.toks) fun b ob q => Heap.get?_push_of_some _ q
  obtain ⟨its, r, ht, hz⟩ := I5.list hx
  have hlen := r.length
  show wpAny (model X.prog X.w) X.A (subscriptTail e (.Slice lo hi (some (.Constant (.int st) k p1)) p2) (.ref a) (.ref s4.heap.objs.size)) (EP X pins σ Q) X.xe { s4 with heap := s4.heap.push { cls := .type "slice", data := .fields #[vl, vu, vs] } }
  refine tail_any (ops := [.ref a, .ref s4.heap.objs.size]) ht.isList.typeIs (PySem.slot_list_getitem.lookup) ?_ (by with_unfolding_all rfl)
  refine wpAny_getItem_list_slice ht.isList (Heap.IsSliceOf.new _ vl vu vs) pl pu ps (by simpa using hst) ?_ (by rw [List.size_toArray]; omega)
  have e : slicePick its.toArray l u (some st) = ((sliceRange (sliceBounds l u (some st) xs.length).1 (sliceBounds l u (some st) xs.length).2.1 (sliceBounds l u (some st) xs.length).2.2).filterMap (its[·]?)).toArray := by
    unfold slicePick
    rw [List.size_toArray, ← hlen]
    simp
  rw [e]
  refine ⟨.ref _, _, I5.laid (t' := s4.toks) (o := .lst (pickV xs l u st)) (fun b ob q => Heap.get?_push_of_some _ q) (Nat.le_refl _) ?_, rfl, q _ (I5.hok.fresh (Nat.le_refl _))⟩
  exact ⟨hz2, _, 0, vals_pick r _, Heap.get?_push_size _ rfl⟩
end DD

set_option Elab.async false
set_option linter.all false
set_option maxRecDepth 100000
set_option maxHeartbeats 2000000
/-! rows of tuples, rows of values -/
namespace DD
open PySem PySem.Spec PyProof.Rows L2
theorem pi_listK {X : Cx} {K : PySem.W.Frag} {tg l : Expr} {tl : TE} (hl : PE X l tl) (h : X.K = K := by rfl) : PI X tg l (iList K tl) := h ▸ pi_list hl
theorem pi_tupK {X : Cx} {K : PySem.W.Frag} {tg l : Expr} {tl : TE} (hl : PE X l tl) (h : X.K = K := by rfl) : PI X tg l (iTup K tl) := h ▸ pi_tup hl
theorem Same.mut {H H' : Hp} {p : Addr} {o : HO} (e : Same H H') (h : H p = none) : Same H (upd H' p o) := fun a u ha => by
  rw [upd_ne (ne_of_none ha h)]
  exact e a u ha
theorem sz1000 {n : Nat} (h : n ≤ 1000) : n < sizeLine := Nat.lt_of_le_of_lt h (by decide)
theorem ixN_last {ws : List V} {x : V} : ixN (ws ++ [x]).length (-1) = some ws.length := by
  unfold ixN
  rw [if_neg (by decide), if_pos (by rw [List.length_append, List.length_singleton]; omega), List.length_append, List.length_singleton]
  congr 1
  omega
theorem set_last {ws : List V} {x y : V} : (ws ++ [x]).set ws.length y = ws ++ [y] := by
  rw [List.set_append_right _ _ (Nat.le_refl _)]
  simp
/-! ### rows of tuples -/
def IsRw {α : Type} (f : α → List V) (H : Hp) (v : V) (m : α) : Prop := ∃ a, v = .ref a ∧ H a = some (.tup (f m))
def IsRs {α : Type} (f : α → List V) (H : Hp) (vs : List V) (ms : List α) : Prop := vs.length = ms.length ∧ ∀ (i : Nat) v m, vs[i]? = some v → ms[i]? = some m → IsRw f H v m
section
variable {α : Type} {f : α → List V}
theorem IsRw.on {H H' : Hp} {v : V} {m : α} (e : ∀ a xs, H a = some (.tup xs) → H' a = some (.tup xs)) (x : IsRw f H v m) : IsRw f H' v m := by
  obtain ⟨a, e1, e2⟩ := x
  exact ⟨a, e1, e _ _ e2⟩
theorem IsRs.on {H H' : Hp} {vs : List V} {ms : List α} (e : ∀ a xs, H a = some (.tup xs) → H' a = some (.tup xs)) (x : IsRs f H vs ms) : IsRs f H' vs ms := ⟨x.1, fun i v m h1 h2 => (x.2 i v m h1 h2).on e⟩
theorem IsRs.mono {H H' : Hp} {vs : List V} {ms : List α} (e : Same H H') (x : IsRs f H vs ms) : IsRs f H' vs ms := x.on fun a xs h => e a _ h
theorem tup_upd {H : Hp} {l : Addr} {ys : List V} {o : HO} (hl : H l = some (.lst ys)) : ∀ a xs, H a = some (.tup xs) → upd H l o a = some (.tup xs) := fun a xs h => by
  rw [upd_ne (ne_of h hl (by intro z; cases z))]
  exact h
theorem IsRs.nil {H : Hp} : IsRs f H [] [] := ⟨rfl, fun i v m h => by simp at h⟩
theorem IsRs.get {H : Hp} {vs : List V} {ms : List α} (x : IsRs f H vs ms) {i : Nat} {v : V} (h : vs[i]? = some v) : ∃ m, ms[i]? = some m ∧ IsRw f H v m := by
  have hi : i < ms.length := by rw [← x.1]; exact (List.getElem?_eq_some_iff.mp h).1
  exact ⟨ms[i], List.getElem?_eq_getElem hi, x.2 i v _ h (List.getElem?_eq_getElem hi)⟩
theorem IsRs.cons {H : Hp} {v : V} {m : α} {vs : List V} {ms : List α} (x : IsRw f H v m) (xs : IsRs f H vs ms) : IsRs f H (v :: vs) (m :: ms) := by
  refine ⟨by simp [xs.1], fun i v' m' h1 h2 => ?_⟩
  cases i with
  | zero =>
    simp at h1 h2
    subst h1 h2
    exact x
  | succ i =>
    simp at h1 h2
    exact xs.2 i v' m' h1 h2
theorem IsRs.append {H : Hp} {vs ws : List V} {ms ns : List α} (x : IsRs f H vs ms) (y : IsRs f H ws ns) : IsRs f H (vs ++ ws) (ms ++ ns) := by
  refine ⟨by simp [x.1, y.1], fun i v m h1 h2 => ?_⟩
  by_cases hi : i < vs.length
  · rw [List.getElem?_append_left hi] at h1
    rw [List.getElem?_append_left (by rw [← x.1]; exact hi)] at h2
    exact x.2 i v m h1 h2
  · rw [List.getElem?_append_right (by omega)] at h1
    rw [List.getElem?_append_right (by rw [← x.1]; omega), ← x.1] at h2
    exact y.2 _ v m h1 h2
theorem IsRs.one {H : Hp} {v : V} {m : α} (x : IsRw f H v m) : IsRs f H [v] [m] := .cons x .nil
theorem IsRs.take {H : Hp} {vs : List V} {ms : List α} (x : IsRs f H vs ms) (n : Nat) : IsRs f H (vs.take n) (ms.take n) := by
  refine ⟨by simp [x.1], fun i v m h1 h2 => ?_⟩
  rw [List.getElem?_take] at h1 h2
  split at h1
  · rename_i hi
    rw [if_pos hi] at h2
    exact x.2 i v m h1 h2
  · cases h1
/-- the last one: what is ahead of it, and it -/
theorem IsRs.last {H : Hp} {vs : List V} {ms : List α} {m : α} (x : IsRs f H vs (ms ++ [m])) : ∃ ws v, vs = ws ++ [v] ∧ IsRs f H ws ms ∧ IsRw f H v m := by
  have hl := x.1
  rw [List.length_append, List.length_singleton] at hl
  have hi : ms.length < vs.length := by omega
  refine ⟨vs.take ms.length, vs[ms.length], ?_, ?_, ?_⟩
  · rw [List.take_append_getElem hi, List.take_of_length_le (by omega)]
  · have y := x.take ms.length
    rw [List.take_left] at y
    exact y
  · exact x.2 ms.length _ _ (List.getElem?_eq_getElem hi) (by simp)
end
/-- rows of values, each as told -/
structure AllR {α : Type} (R : V → α → Prop) (vs : List V) (ms : List α) : Prop where
  len : vs.length = ms.length
  at_ : ∀ (i : Nat) v m, vs[i]? = some v → ms[i]? = some m → R v m
theorem AllR.nil {α : Type} {R : V → α → Prop} : AllR R [] [] := ⟨rfl, fun i v m h => by simp at h⟩
theorem AllR.imp {α : Type} {R S : V → α → Prop} {vs : List V} {ms : List α} (h : ∀ v m, R v m → S v m) (x : AllR R vs ms) : AllR S vs ms := ⟨x.len, fun i v m h1 h2 => h v m (x.at_ i v m h1 h2)⟩
theorem AllR.snoc {α : Type} {R : V → α → Prop} {vs : List V} {ms : List α} {v : V} {m : α} (x : AllR R vs ms) (y : R v m) : AllR R (vs ++ [v]) (ms ++ [m]) := by
  refine ⟨by simp [x.len], fun i v' m' h1 h2 => ?_⟩
  by_cases hi : i < vs.length
  · rw [List.getElem?_append_left hi] at h1
    rw [List.getElem?_append_left (by rw [← x.len]; exact hi)] at h2
    exact x.at_ i v' m' h1 h2
  · rw [List.getElem?_append_right (by omega)] at h1
    rw [List.getElem?_append_right (by rw [← x.len]; omega), ← x.len] at h2
    cases e : i - vs.length with
    | zero =>
      rw [e] at h1 h2
      simp at h1 h2
      subst h1 h2
      exact y
    | succ k =>
      rw [e] at h1
      simp at h1
theorem AllR.get {α : Type} {R : V → α → Prop} {vs : List V} {ms : List α} (x : AllR R vs ms) {i : Nat} {v : V} (h : vs[i]? = some v) : ∃ m, ms[i]? = some m ∧ R v m := by
  have hi : i < ms.length := by rw [← x.len]; exact (List.getElem?_eq_some_iff.mp h).1
  exact ⟨ms[i], List.getElem?_eq_getElem hi, x.at_ i v _ h (List.getElem?_eq_getElem hi)⟩
theorem none_of {H H' : Hp} {a : Addr} (e : Same H H') (h : H' a = none) : H a = none := by
  cases z : H a with
  | none => rfl
  | some o => rw [e a o z] at h; cases h
/-- a sequence is not the instance that changes -/
theorem offL {K : PySem.W.Frag} {H1 H2 : Hp} {x a C dx : Addr} {fs : List (Str × V)} {ws : List V} (h : SqL K H1 a ws) (hx : H1 x = some (.ins C dx fs)) (k : ∀ b u, H1 b = some u → b ≠ x → H2 b = some u) : SqL K H2 a ws := by
  rcases h with (h | ⟨o, h⟩) | h
  · exact .inl (.inl (k _ _ h (ne_of h hx (by intro z; cases z))))
  · exact .inl (.inr ⟨o, k _ _ h (ne_of h hx (by intro z; cases z))⟩)
  · exact .inr h
theorem offT {K : PySem.W.Frag} {H1 H2 : Hp} {x a C dx : Addr} {fs : List (Str × V)} {ws : List V} (h : SqT K H1 a ws) (hx : H1 x = some (.ins C dx fs)) (k : ∀ b u, H1 b = some u → b ≠ x → H2 b = some u) : SqT K H2 a ws := by
  rcases h with (h | ⟨o, h⟩) | h
  · exact .inl (.inl (k _ _ h (ne_of h hx (by intro z; cases z))))
  · exact .inl (.inr ⟨o, k _ _ h (ne_of h hx (by intro z; cases z))⟩)
  · exact .inr h
theorem takeSnoc {α : Type} {xs : List α} {i : Nat} {x : α} (h : xs[i]? = some x) : xs.take (i + 1) = xs.take i ++ [x] := by
  rw [List.take_add_one, h]
  rfl
end DD

set_option Elab.async false
set_option linter.all false
set_option maxRecDepth 100000
set_option maxHeartbeats 2000000
/-! texts of numbers -/
namespace DD
open PySem PySem.Spec PyProof.Rows L2
abbrev intT (i : Int) : Str := Str.ofString (toString i)
theorem len_app {x y : Str} {n m : Nat} (hx : x.length ≤ n) (hy : y.length ≤ m) : (x ++ y).length ≤ n + m := by
  rw [Str.length_append]
  omega
theorem len_int {i : Int} (h0 : 0 ≤ i) (h : i ≤ 1000) : (intT i).length ≤ 5 := by
  have e := int_text_length_le10 (a := i) (k := 4) (by decide) (by omega)
  show (Str.ofString (toString i)).length ≤ 5
  rw [PySem.ofString_length]
  omega
theorem log_int {i : Int} (h0 : 0 ≤ i) (h : i ≤ 1000) : i.natAbs.log2 < 1920 := by
  have := Nat.log2_le_self i.natAbs
  omega
theorem le0 : Str.empty.length ≤ 0 := by decide
theorem sum_le {α : Type} {f : α → Nat} {k : Nat} : ∀ {xs : List α}, (∀ x ∈ xs, f x ≤ k) → (xs.map f).sum ≤ xs.length * k
  | [], _ => by simp
  | x :: xs, h => by
    have h1 := h x (List.mem_cons_self ..)
    have h2 := sum_le (xs := xs) fun y hy => h y (List.mem_cons_of_mem _ hy)
    simp only [List.map_cons, List.sum_cons, List.length_cons, Nat.add_mul]
    omega
theorem join_len {s : Str} {xs : List Str} : (Txt.join s xs).length ≤ (xs.map (·.length)).sum + xs.length * s.length := by
  rw [show Txt.join s xs = Str.join s xs from StrLaws.glued_eq_join s xs]
  exact StrLaws.join_length_le s xs
theorem num_ok : ∀ n : Fin 100, (Txt.isascii (intT (n.val : Int)) && Txt.isdecimal (intT (n.val : Int)) && !decide ((intT (n.val : Int)).length > 2) &&
    (decide ((intT (n.val : Int)).length = 1) || match (intT (n.val : Int)).cps.toList with | c :: _ => !decide (c = 48) | [] => false)) = true := by decide +kernel
theorem num_facts {n : Nat} (h : n ≤ 99) : Txt.isascii (intT (n : Int)) = true ∧ Txt.isdecimal (intT (n : Int)) = true ∧ (intT (n : Int)).length ≤ 2 ∧ ((intT (n : Int)).length = 1 ∨ ∃ c l, (intT (n : Int)).cps.toList = c :: l ∧ c ≠ 48) := by
  have z := num_ok ⟨n, by omega⟩
  simp only [Bool.and_eq_true, Bool.not_eq_true', decide_eq_false_iff_not, Bool.or_eq_true, decide_eq_true_eq] at z
  obtain ⟨⟨⟨z1, z2⟩, z3⟩, z4⟩ := z
  refine ⟨z1, z2, by omega, z4.imp id fun z4 => ?_⟩
  revert z4
  generalize (intT (n : Int)).cps.toList = L
  intro z4
  cases L with
  | nil => exact absurd z4 (by simp)
  | cons c l => exact ⟨c, l, rfl, by simpa using z4⟩
theorem nat_of {i : Int} (h0 : 0 ≤ i) (h1 : i ≤ 99) : ∃ n : Nat, i = (n : Int) ∧ n ≤ 99 := ⟨i.toNat, by omega, by omega⟩
theorem tl_int {i : Int} (h : 0 ≤ i) : TL.tl (intT i) = TL.numL i.toNat := by
  have e : i = ((i.toNat : Nat) : Int) := by omega
  conv => lhs; rw [e]
  exact TL.tl_num _
end DD

set_option Elab.async false
set_option linter.all false
set_option maxRecDepth 100000
set_option maxHeartbeats 2000000
/-! lists of texts, slices, a walk by steps -/
namespace DD
open PySem PySem.Spec PyProof.Rows L2
theorem cutTo {xs : List V} {k : Nat} : cutV xs none (some (k : Int)) = xs.take k := by
  unfold cutV
  rw [HT.sIx_none, HT.sIx_nat, Nat.sub_zero, List.drop_zero]
  by_cases h : k ≤ xs.length
  · rw [Nat.min_eq_left h]
  · rw [Nat.min_eq_right (by omega), List.take_length, List.take_of_length_le (by omega)]
theorem cutFrom {xs : List V} {k : Nat} : cutV xs (some (k : Int)) none = xs.drop k := by
  unfold cutV
  rw [HT.sIx_none, HT.sIx_nat]
  by_cases h : k ≤ xs.length
  · rw [Nat.min_eq_left h, List.take_of_length_le (by rw [List.length_drop] <;> omega)]
  · rw [Nat.min_eq_right (by omega), List.drop_length, List.drop_of_length_le (by omega)]
    simp
def strsD (l : List Str) : PyData := .list (l.map PyData.str)
theorem dpStrs {K : PySem.W.Frag} : ∀ {H : Hp} {l : List Str}, DpAll K H (l.map V.str) (l.map PyData.str)
  | _, [] => .nil
  | _, i :: l => .cons (.str i) dpStrs
theorem okStr {x : Str} (h : ∀ c ∈ TL.tl x, c < 0x110000) : PyData.strOk x = true := by
  unfold PyData.strOk
  rw [← Array.all_toList]
  exact List.all_eq_true.mpr fun c hc => decide_eq_true (h c hc)
theorem okInt {i : Int} (h : 0 ≤ i) : PyData.strOk (intT i) = true := okStr fun z hz => by
  rw [tl_int h] at hz
  by_cases h2 : 57 < z
  · exact absurd hz (TL.numL_free (by omega))
  · omega
theorem layStrs : ∀ {l : List Str}, (∀ x ∈ l, PyData.strOk x = true) → PyData.canLayAll0 (l.map PyData.str) = true
  | [], _ => rfl
  | i :: l, h => by
    show (PyData.strOk i && PyData.canLayAll0 (l.map PyData.str)) = true
    rw [layStrs (l := l) fun x hx => h x (List.mem_cons_of_mem _ hx), h i (List.mem_cons_self ..)]
    rfl
theorem depthStrs : ∀ {l : List Str}, PyData.depthAll (l.map PyData.str) = 0
  | [] => rfl
  | i :: l => by
    show max (PyData.depth (.str i)) (PyData.depthAll (l.map PyData.str)) = 0
    rw [depthStrs (l := l)]
    rfl
theorem shapedStrs {l : List Str} (h : ∀ x ∈ l, PyData.strOk x = true) : SeqAt.shaped (strsD l) = true := by
  unfold SeqAt.shaped
  rw [Bool.and_eq_true_iff]
  refine ⟨layStrs h, decide_eq_true ?_⟩
  show PyData.depthAll (l.map PyData.str) + 1 ≤ 64
  rw [depthStrs]
  decide
theorem eqvStrs : ∀ {l l' : List Str}, PyData.eqvAll (l.map PyData.str) (l'.map PyData.str) = decide (l = l')
  | [], [] => by simp [PyData.eqvAll]
  | [], c :: cs => by simp [PyData.eqvAll]
  | b :: bs, [] => by simp [PyData.eqvAll]
  | b :: bs, c :: cs => by
    show (PyData.eqv (.str b) (.str c) && PyData.eqvAll (bs.map PyData.str) (cs.map PyData.str)) = _
    rw [eqvStrs, Bool.eq_iff_iff]
    simp [PyData.eqv]
theorem ne_strs {K : PySem.W.Frag} {H : Hp} {p q : Addr} {l l' : List Str} {Q : VK} (hp : SqL K H p (l.map V.str)) (hq : SqL K H q (l'.map V.str)) (o : ∀ x ∈ l, PyData.strOk x = true) (o' : ∀ x ∈ l', PyData.strOk x = true) (h : Q (.bl (!decide (l = l'))) H) : rNeD K (.ref p) (.ref q) H Q := by
  refine ⟨strsD l, strsD l', .lst hp dpStrs, .lst hq dpStrs, shapedStrs o, shapedStrs o', ?_⟩
  rw [show PyData.eqv (strsD l) (strsD l') = decide (l = l') from eqvStrs]
  exact h
/-- a walk over a range by steps -/
theorem lc_rngC {lo c : Int} {n : Nat} {g : TG} {tt : TT} {te : TE} {vs : List Nat} {σ : L2.St} {H1 : Hp} {D : Addr} {Qd : Hp → Prop} (Pv : Nat → Hp → Prop) (h0 : Pv 0 (upd H1 D (.lst [])))
    (hs : ∀ i H, i < n → Pv i H → g (.int (lo + (i : Int) * c)) (wipe σ vs) H fun σ2 H2 => wipe σ2 vs = wipe σ vs ∧ tt σ2 H2 fun b H3 =>
      if b = true then te σ2 H3 fun y H4 => ∃ acc, H4 D = some (.lst acc) ∧ acc.length < sizeLine ∧ Pv (i + 1) (upd H4 D (.lst (acc ++ [y]))) else Pv (i + 1) H3) (hd : ∀ H, Pv n H → Qd H) :
    ∃ W : Nat → Nat → Hp → Prop, (∃ m, W 0 m (upd H1 D (.lst []))) ∧ ∀ i m H, W i m H →
      ((Itc lo c n).stop i H ∧ Qd H) ∨ ((Itc lo c n).go i H ∧ ∃ Nx : Hp → Prop, (∀ H', Nx H' → ∃ m', m' < m ∧ W (i + 1) m' H') ∧ ∀ x H', (Itc lo c n).yld i H x H' → g x (wipe σ vs) H' fun σ2 H2 => wipe σ2 vs = wipe σ vs ∧ tt σ2 H2 fun b H3 =>
        if b = true then te σ2 H3 fun y H4 => ∃ acc, H4 D = some (.lst acc) ∧ acc.length < sizeLine ∧ Nx (upd H4 D (.lst (acc ++ [y]))) else Nx H3) := by
  refine ⟨fun i m H => m = n - i ∧ i ≤ n ∧ Pv i H, ⟨n, by simp, Nat.zero_le _, h0⟩, ?_⟩
  rintro i m H ⟨rfl, hi, p⟩
  by_cases hlt : i < n
  · refine .inr ⟨hlt, Pv (i + 1), fun H' p' => ⟨n - (i + 1), by omega, rfl, hlt, p'⟩, fun x H' y => ?_⟩
    obtain ⟨e, y⟩ := y
    subst e y
    exact hs i _ hlt p
  · have e : i = n := by omega
    subst e
    exact .inl ⟨Nat.le_refl _, hd H p⟩
end DD

set_option Elab.async false
set_option linter.all false
set_option maxRecDepth 100000
set_option maxHeartbeats 2000000
namespace DD
open PySem PySem.Spec PyProof.Rows L2 ClX
def top (i : Nat) : Stmt := PySem.Challenge.pw_dimdays_k17_frames_made.main.body.getD i (.Pass ⟨0, 0, 0, 0⟩)
abbrev s_is_integer : Stmt := top 6
theorem sc_is_integer : FnScope ["value"] ["value"] (defScope s_is_integer) := ⟨rfl, rfl, rfl, by decide +kernel, rfl, by decide +kernel, by decide +kernel⟩
abbrev s_is_number : Stmt := top 7
theorem sc_is_number : FnScope ["value"] ["value"] (defScope s_is_number) := ⟨rfl, rfl, rfl, by decide +kernel, rfl, by decide +kernel, by decide +kernel⟩
abbrev s_is_positive : Stmt := top 8
theorem sc_is_positive : FnScope ["value"] ["value"] (defScope s_is_positive) := ⟨rfl, rfl, rfl, by decide +kernel, rfl, by decide +kernel, by decide +kernel⟩
abbrev s_is_sequence : Stmt := top 9
theorem sc_is_sequence : FnScope ["value"] ["value"] (defScope s_is_sequence) := ⟨rfl, rfl, rfl, by decide +kernel, rfl, by decide +kernel, by decide +kernel⟩
abbrev s_is_numeral : Stmt := top 10
theorem sc_is_numeral : FnScope ["word"] ["word"] (defScope s_is_numeral) := ⟨rfl, rfl, rfl, by decide +kernel, rfl, by decide +kernel, by decide +kernel⟩
abbrev s_read_number : Stmt := top 11
theorem sc_read_number : FnScope ["word"] ["word"] (defScope s_read_number) := ⟨rfl, rfl, rfl, by decide +kernel, rfl, by decide +kernel, by decide +kernel⟩
abbrev s__is_known : Stmt := top 13
theorem sc__is_known : FnScope ["value", "length", "tick", "is_taken"] ["value", "length"] (defScope s__is_known) := ⟨rfl, rfl, rfl, by decide +kernel, rfl, by decide +kernel, by decide +kernel⟩
abbrev s__are_known : Stmt := top 14
theorem sc__are_known : FnScope ["value", "length", "pair"] ["value", "length"] (defScope s__are_known) := ⟨rfl, rfl, rfl, by decide +kernel, rfl, by decide +kernel, by decide +kernel⟩
abbrev s__wrong_argument : Stmt := top 15
theorem sc__wrong_argument : FnScope ["length", "shortest", "most", "private", "known"] ["length", "shortest", "most", "private", "known"] (defScope s__wrong_argument) := ⟨rfl, rfl, rfl, by decide +kernel, rfl, by decide +kernel, by decide +kernel⟩
abbrev s__pair_words : Stmt := top 16
theorem sc__pair_words : FnScope ["pair", "tick", "is_taken"] ["pair"] (defScope s__pair_words) := ⟨rfl, rfl, rfl, by decide +kernel, rfl, by decide +kernel, by decide +kernel⟩
abbrev s__frame_words : Stmt := top 17
theorem sc__frame_words : FnScope ["frame", "words", "pair"] ["frame"] (defScope s__frame_words) := ⟨rfl, rfl, rfl, by decide +kernel, rfl, by decide +kernel, by decide +kernel⟩
abbrev s__read_most : Stmt := top 18
theorem sc__read_most : FnScope ["words"] ["words"] (defScope s__read_most) := ⟨rfl, rfl, rfl, by decide +kernel, rfl, by decide +kernel, by decide +kernel⟩
abbrev s__read_private : Stmt := top 19
theorem sc__read_private : FnScope ["words"] ["words"] (defScope s__read_private) := ⟨rfl, rfl, rfl, by decide +kernel, rfl, by decide +kernel, by decide +kernel⟩
abbrev s__read_pair : Stmt := top 20
theorem sc__read_pair : FnScope ["word", "numeral"] ["word", "numeral"] (defScope s__read_pair) := ⟨rfl, rfl, rfl, by decide +kernel, rfl, by decide +kernel, by decide +kernel⟩
abbrev s__read_known : Stmt := top 21
theorem sc__read_known : FnScope ["words", "at"] ["words"] (defScope s__read_known) := ⟨rfl, rfl, rfl, by decide +kernel, rfl, by decide +kernel, by decide +kernel⟩
abbrev s__law_seed : Stmt := top 24
theorem sc__law_seed : FnScope ["_law_script", "_law_k", "_law_cell"] ["_law_script", "_law_k"] (defScope s__law_seed) := ⟨rfl, rfl, rfl, by decide +kernel, rfl, by decide +kernel, by decide +kernel⟩
abbrev s__law_choose : Stmt := top 25
theorem sc__law_choose : FnScope ["_law_box", "_law_many", "_law_raw", "_law_digit"] ["_law_box", "_law_many"] (defScope s__law_choose) := ⟨rfl, rfl, rfl, by decide +kernel, rfl, by decide +kernel, by decide +kernel⟩
abbrev s__law_one_of : Stmt := top 26
theorem sc__law_one_of : FnScope ["_law_box", "_law_some"] ["_law_box", "_law_some"] (defScope s__law_one_of) := ⟨rfl, rfl, rfl, by decide +kernel, rfl, by decide +kernel, by decide +kernel⟩
abbrev s__law_frame : Stmt := top 27
theorem sc__law_frame : FnScope ["_law_box", "_law_top", "_law_is_secret", "_law_turn", "_law_many", "_law_size", "_law_marked"] ["_law_box", "_law_top", "_law_is_secret"] (defScope s__law_frame) := ⟨rfl, rfl, rfl, by decide +kernel, rfl, by decide +kernel, by decide +kernel⟩
abbrev s__law_frame_text : Stmt := top 28
theorem sc__law_frame_text : FnScope ["_law_frame_here", "_law_words", "_law_tick", "_law_is_full"] ["_law_frame_here"] (defScope s__law_frame_text) := ⟨rfl, rfl, rfl, by decide +kernel, rfl, by decide +kernel, by decide +kernel⟩
abbrev s_law : Stmt := top 29
theorem sc_law : FnScope ["_law_script", "_law_k", "_law_turn", "_law_box", "_law_before", "_law_told", "_law_handed", "_law_frame_here", "_law_shown", "_law_more", "_law_tick", "_law_is_full"] ["_law_script"] (defScope s_law) := ⟨rfl, rfl, rfl, by decide +kernel, rfl, by decide +kernel, by decide +kernel⟩
abbrev s_Frame___init__ : Stmt := inClass (top 22) 0
theorem sc_Frame___init__ : FnScope ["self", "length", "shortest", "most", "private", "known", "wrong"] ["self", "length", "shortest", "most", "private", "known"] (defScope s_Frame___init__) := ⟨rfl, rfl, rfl, by decide +kernel, rfl, by decide +kernel, by decide +kernel⟩
abbrev s_Frame_read : Stmt := inClass (top 22) 1
theorem sc_Frame_read : FnScope ["cls", "text", "words", "length", "shortest", "most", "behind", "private"] ["cls", "text"] (defScope s_Frame_read) := ⟨rfl, rfl, rfl, by decide +kernel, rfl, by decide +kernel, by decide +kernel⟩
abbrev s_Frame_knowing : Stmt := inClass (top 22) 2
theorem sc_Frame_knowing : FnScope ["self", "tick", "is_taken"] ["self", "tick", "is_taken"] (defScope s_Frame_knowing) := ⟨rfl, rfl, rfl, by decide +kernel, rfl, by decide +kernel, by decide +kernel⟩
abbrev s_Frame___eq__ : Stmt := inClass (top 22) 4
theorem sc_Frame___eq__ : FnScope ["self", "other"] ["self", "other"] (defScope s_Frame___eq__) := ⟨rfl, rfl, rfl, by decide +kernel, rfl, by decide +kernel, by decide +kernel⟩
abbrev s_Frame___str__ : Stmt := inClass (top 22) 5
theorem sc_Frame___str__ : FnScope ["self"] ["self"] (defScope s_Frame___str__) := ⟨rfl, rfl, rfl, by decide +kernel, rfl, by decide +kernel, by decide +kernel⟩
structure Ad where
  f_is_integer : Addr
  f_is_number : Addr
  f_is_positive : Addr
  f_is_sequence : Addr
  f_is_numeral : Addr
  f_read_number : Addr
  f__is_known : Addr
  f__are_known : Addr
  f__wrong_argument : Addr
  f__pair_words : Addr
  f__frame_words : Addr
  f__read_most : Addr
  f__read_private : Addr
  f__read_pair : Addr
  f__read_known : Addr
  f__law_seed : Addr
  f__law_choose : Addr
  f__law_one_of : Addr
  f__law_frame : Addr
  f__law_frame_text : Addr
  f_law : Addr
  f_Frame___init__ : Addr
  f_Frame_read : Addr
  q_Frame_read : Addr
  f_Frame_knowing : Addr
  f_Frame___eq__ : Addr
  f_Frame___str__ : Addr
  C_Frame : Addr
  z_Frame : Addr
def dv_Frame (d : Ad) : List V := [.int 1, .non, .bl false, .ref d.z_Frame]

structure Txt (K : PySem.W.Frag) (mg : Str → Option Value) (d : Ad) : Prop where
  m_is_integer : mg "is_integer" = some (.ref d.f_is_integer)
  k_is_integer : PySem.W.keepIn K (.ref d.f_is_integer) = true
  F_is_integer : ∃ fd, Fun K "is_integer" "is_integer" s_is_integer d.f_is_integer fd
  m_is_number : mg "is_number" = some (.ref d.f_is_number)
  k_is_number : PySem.W.keepIn K (.ref d.f_is_number) = true
  F_is_number : ∃ fd, Fun K "is_number" "is_number" s_is_number d.f_is_number fd
  m_is_positive : mg "is_positive" = some (.ref d.f_is_positive)
  k_is_positive : PySem.W.keepIn K (.ref d.f_is_positive) = true
  F_is_positive : ∃ fd, Fun K "is_positive" "is_positive" s_is_positive d.f_is_positive fd
  m_is_sequence : mg "is_sequence" = some (.ref d.f_is_sequence)
  k_is_sequence : PySem.W.keepIn K (.ref d.f_is_sequence) = true
  F_is_sequence : ∃ fd, Fun K "is_sequence" "is_sequence" s_is_sequence d.f_is_sequence fd
  m_is_numeral : mg "is_numeral" = some (.ref d.f_is_numeral)
  k_is_numeral : PySem.W.keepIn K (.ref d.f_is_numeral) = true
  F_is_numeral : ∃ fd, Fun K "is_numeral" "is_numeral" s_is_numeral d.f_is_numeral fd
  m_read_number : mg "read_number" = some (.ref d.f_read_number)
  k_read_number : PySem.W.keepIn K (.ref d.f_read_number) = true
  F_read_number : ∃ fd, Fun K "read_number" "read_number" s_read_number d.f_read_number fd
  m__is_known : mg "_is_known" = some (.ref d.f__is_known)
  k__is_known : PySem.W.keepIn K (.ref d.f__is_known) = true
  F__is_known : ∃ fd, Fun K "_is_known" "_is_known" s__is_known d.f__is_known fd
  m__are_known : mg "_are_known" = some (.ref d.f__are_known)
  k__are_known : PySem.W.keepIn K (.ref d.f__are_known) = true
  F__are_known : ∃ fd, Fun K "_are_known" "_are_known" s__are_known d.f__are_known fd
  m__wrong_argument : mg "_wrong_argument" = some (.ref d.f__wrong_argument)
  k__wrong_argument : PySem.W.keepIn K (.ref d.f__wrong_argument) = true
  F__wrong_argument : ∃ fd, Fun K "_wrong_argument" "_wrong_argument" s__wrong_argument d.f__wrong_argument fd
  m__pair_words : mg "_pair_words" = some (.ref d.f__pair_words)
  k__pair_words : PySem.W.keepIn K (.ref d.f__pair_words) = true
  F__pair_words : ∃ fd, Fun K "_pair_words" "_pair_words" s__pair_words d.f__pair_words fd
  m__frame_words : mg "_frame_words" = some (.ref d.f__frame_words)
  k__frame_words : PySem.W.keepIn K (.ref d.f__frame_words) = true
  F__frame_words : ∃ fd, Fun K "_frame_words" "_frame_words" s__frame_words d.f__frame_words fd
  m__read_most : mg "_read_most" = some (.ref d.f__read_most)
  k__read_most : PySem.W.keepIn K (.ref d.f__read_most) = true
  F__read_most : ∃ fd, Fun K "_read_most" "_read_most" s__read_most d.f__read_most fd
  m__read_private : mg "_read_private" = some (.ref d.f__read_private)
  k__read_private : PySem.W.keepIn K (.ref d.f__read_private) = true
  F__read_private : ∃ fd, Fun K "_read_private" "_read_private" s__read_private d.f__read_private fd
  m__read_pair : mg "_read_pair" = some (.ref d.f__read_pair)
  k__read_pair : PySem.W.keepIn K (.ref d.f__read_pair) = true
  F__read_pair : ∃ fd, Fun K "_read_pair" "_read_pair" s__read_pair d.f__read_pair fd
  m__read_known : mg "_read_known" = some (.ref d.f__read_known)
  k__read_known : PySem.W.keepIn K (.ref d.f__read_known) = true
  F__read_known : ∃ fd, Fun K "_read_known" "_read_known" s__read_known d.f__read_known fd
  m__law_seed : mg "_law_seed" = some (.ref d.f__law_seed)
  k__law_seed : PySem.W.keepIn K (.ref d.f__law_seed) = true
  F__law_seed : ∃ fd, Fun K "_law_seed" "_law_seed" s__law_seed d.f__law_seed fd
  m__law_choose : mg "_law_choose" = some (.ref d.f__law_choose)
  k__law_choose : PySem.W.keepIn K (.ref d.f__law_choose) = true
  F__law_choose : ∃ fd, Fun K "_law_choose" "_law_choose" s__law_choose d.f__law_choose fd
  m__law_one_of : mg "_law_one_of" = some (.ref d.f__law_one_of)
  k__law_one_of : PySem.W.keepIn K (.ref d.f__law_one_of) = true
  F__law_one_of : ∃ fd, Fun K "_law_one_of" "_law_one_of" s__law_one_of d.f__law_one_of fd
  m__law_frame : mg "_law_frame" = some (.ref d.f__law_frame)
  k__law_frame : PySem.W.keepIn K (.ref d.f__law_frame) = true
  F__law_frame : ∃ fd, Fun K "_law_frame" "_law_frame" s__law_frame d.f__law_frame fd
  m__law_frame_text : mg "_law_frame_text" = some (.ref d.f__law_frame_text)
  k__law_frame_text : PySem.W.keepIn K (.ref d.f__law_frame_text) = true
  F__law_frame_text : ∃ fd, Fun K "_law_frame_text" "_law_frame_text" s__law_frame_text d.f__law_frame_text fd
  m_law : mg "law" = some (.ref d.f_law)
  k_law : PySem.W.keepIn K (.ref d.f_law) = true
  F_law : ∃ fd, Fun K "law" "law" s_law d.f_law fd
  F_Frame___init__ : ∃ fd, FunD K "__init__" "Frame.__init__" (defArgs s_Frame___init__) (defBody s_Frame___init__) (defScope s_Frame___init__) (dv_Frame d) [] d.f_Frame___init__ fd
  F_Frame_read : ∃ fd, Fun K "read" "Frame.read" s_Frame_read d.f_Frame_read fd
  cm_Frame_read : ClX.CMet K d.C_Frame (.type "type") "read" d.q_Frame_read d.f_Frame_read
  cr_Frame : ClX.CRead K d.C_Frame (.type "type")
  F_Frame_knowing : ∃ fd, Fun K "knowing" "Frame.knowing" s_Frame_knowing d.f_Frame_knowing fd
  me_Frame_knowing : Meth K d.C_Frame "knowing" d.f_Frame_knowing
  F_Frame___eq__ : ∃ fd, Fun K "__eq__" "Frame.__eq__" s_Frame___eq__ d.f_Frame___eq__ fd
  e_Frame : PySem.W.findIn K (.ref d.C_Frame) "__eq__" = some (some (.ref d.f_Frame___eq__))
  ef_Frame : PySem.W.isFn K (.ref d.f_Frame___eq__) = true
  F_Frame___str__ : ∃ fd, Fun K "__str__" "Frame.__str__" s_Frame___str__ d.f_Frame___str__ fd
  s_Frame : PySem.W.findIn K (.ref d.C_Frame) "__str__" = some (some (.ref d.f_Frame___str__))
  sf_Frame : PySem.W.isFn K (.ref d.f_Frame___str__) = true
  m_Frame : mg "Frame" = some (.ref d.C_Frame)
  cl_Frame : Cls K d.C_Frame
  mk_Frame : Mk K d.C_Frame d.f_Frame___init__
  na_Frame_length : NoAttr K d.C_Frame "length"
  na_Frame_shortest : NoAttr K d.C_Frame "shortest"
  na_Frame_most : NoAttr K d.C_Frame "most"
  na_Frame_private : NoAttr K d.C_Frame "private"
  na_Frame_known : NoAttr K d.C_Frame "known"
  n_Frame : PySem.W.findIn K (.ref d.C_Frame) "__ne__" = some (some (.builtin "object.__ne__"))
  ks_Frame : PySem.W.kitOne K (.type "str") (.ref d.C_Frame) = some false
  su_Frame : PySem.W.subIn K (.type "str") (.ref d.C_Frame) = some false
  o_Frame : PySem.W.mroIn K d.C_Frame (.type "object") = some true
  ic_Frame : PySem.W.findIn K (.ref d.C_Frame) "__class__" = some (some (.builtin "object.__class__"))
  oc1 : PySem.W.specialIn K (.builtin "object.__class__") "__get__" = some (some (.builtin "getset_descriptor.__get__"))
  oc2 : PySem.W.takesIn K (.builtin "object.__class__") = some true
  w_zFrame : ∀ H, SqT K H d.z_Frame []
  b_isinstance : mg "isinstance" = none
  b_int : mg "int" = none
  b_bool : mg "bool" = none
  b_list : mg "list" = none
  b_tuple : mg "tuple" = none
  b_len : mg "len" = none
  b_range : mg "range" = none
  b_abs : mg "abs" = none
  b_min : mg "min" = none
  b_max : mg "max" = none
  b_str : mg "str" = none
  b_repr : mg "repr" = none
  b_all : mg "all" = none

/-! ### small words -/
section
variable {P : Program} {w : World} {K : PySem.W.Frag} {mg : Str → Option Value} {base : Heap}
theorem vals_abs : ∀ {us : List Value} {vs : List V}, us.mapM absV = some vs → Vals vs us
  | [], vs, h => by
    simp at h
    subst h
    exact .nil
  | u :: us, vs, h => by
    rw [List.mapM_cons] at h
    cases e : absV u with
    | none => rw [e] at h; simp at h
    | some v =>
      cases e2 : us.mapM absV with
      | none => rw [e, e2] at h; simp at h
      | some ws =>
        rw [e, e2] at h
        simp at h
        subst h
        refine .cons ?_ (vals_abs e2)
        cases u <;> simp [absV] at e <;> subst e <;> first | rfl | exact ⟨_, rfl⟩
theorem sqt_mk {H : Hp} {c : Addr} {td : Option Addr} {it : Array Value} {n : Nat} {ts : Array (Option Value)} {vs : List V} (l : K.lookup c = some ⟨.type "tuple", td, .seq it n, ts⟩) (lv : it.toList.mapM absV = some vs) (hz : vs.length ≤ sizeLine) : SqT K H c vs := by
  have r := vals_abs lv
  refine .inr ⟨_, it, n, l, rfl, rfl, ?_, r⟩
  rw [← Array.length_toList, ← r.length]
  exact hz
theorem fund_mk {x qual : Str} {st : Stmt} {f T : Addr} {oc tc : Value} {od an td : Option Addr} {osl ts : Array (Option Value)} {it : Array Value} {tn : Nat} {kV doc pm cdv ct : Value} {dvs : List V}
    (l : K.lookup f = some ⟨oc, od, .func (PySem.W.fnOf x qual (defArgs st) (defBody st) (defScope st) (.ref T) kV doc pm an cdv ct), osl⟩) (lt : K.lookup T = some ⟨tc, td, .seq it tn, ts⟩) (lv : it.toList.mapM absV = some dvs) (hn : dvs ≠ [])
    (c : PySem.W.codeIn K cdv qual = true) (k : PySem.W.keepIn K (.ref f) = true) : FunD K x qual (defArgs st) (defBody st) (defScope st) dvs [] f (PySem.W.fnOf x qual (defArgs st) (defBody st) (defScope st) (.ref T) kV doc pm an cdv ct) :=
  ⟨⟨oc, od, .ref T, kV, doc, pm, an, cdv, ct, osl, rfl, l, c, .inr ⟨hn, T, _, it.toList, tn, rfl, lt, by simp, vals_abs lv⟩, .inl rfl⟩, k⟩
/-- a def without defaults, by its body: a positional promise -/
theorem mkR {x qual : Str} {st : Stmt} {f : Addr} {N ps : List Str} {k : Nat} {sp : Sp} (F : ∃ fd, Fun K x qual st f fd) (S : FnScope N ps (defScope st)) (len : ∀ vs H Q E, sp vs H Q E → vs.length = ps.length)
    (hb : ∀ (kV doc pm : Value) (an : Option Addr) (cdv ct : Value) (us : List Value), us.length = ps.length → bindArgs (PySem.W.fnOf x qual (defArgs st) (defBody st) (defScope st) .none kV doc pm an cdv ct) ⟨us, []⟩ = pure (ps.zip us))
    (hbody : ∀ (cdv : Value) (A : Around) (outer : List Env) (s : Shared) (H : Hp) (vs : List V) (Q : VK) (E : XK), Room k (A.deeper (envOfC qual (defScope st) s.heap.objs.size f cdv)) → sp vs H Q E →
      ∃ t, PSs (cxOf CX0 P w K mg base N qual (defScope st) f cdv A outer s H E).nox (defBody st) t ∧ t { nx := fun _ H' => Q .non H', rt := Q } (start N vs) H) : FnR P w K mg base CX0 (k + 1) f sp := by
  obtain ⟨fd, F⟩ := F
  have G : FnOk P w K mg base CX0 (k + 1) f fd ps sp := F.ok S len hbody
  refine (G.raw (F.binds hb) .nil).imp fun vs H Q E h => ?_
  rw [List.append_nil]
  exact h
/-- a def with defaults, all arguments written but the last ones: j is where the defaults that fill up begin -/
theorem mkRD {x qual : Str} {st : Stmt} {f : Addr} {N ps : List Str} {k : Nat} {sp sp' : Sp} {dvs : List V} (n j : Nat) (F : ∃ fd, FunD K x qual (defArgs st) (defBody st) (defScope st) dvs [] f fd) (hd : dvs ≠ []) (hn : n + (dvs.length - j) = ps.length) (S : FnScope N ps (defScope st)) (len : ∀ vs H Q E, sp vs H Q E → vs.length = ps.length)
    (hb : ∀ (T : Addr) (kV doc pm : Value) (an : Option Addr) (cdv ct : Value) (us its : List Value), us.length = n → its.length = dvs.length →
      ∃ k, bindArgs (PySem.W.fnOf x qual (defArgs st) (defBody st) (defScope st) (.ref T) kV doc pm an cdv ct) ⟨us, []⟩ = seqItems? (.ref T) >>= k ∧ k (some its.toArray) = pure (ps.zip (us ++ its.drop j)))
    (hs : ∀ vs H Q E, sp' vs H Q E → sp (vs ++ dvs.drop j) H Q E)
    (hbody : ∀ (cdv : Value) (A : Around) (outer : List Env) (s : Shared) (H : Hp) (vs : List V) (Q : VK) (E : XK), Room k (A.deeper (envOfC qual (defScope st) s.heap.objs.size f cdv)) → sp vs H Q E →
      ∃ t, PSs (cxOf CX0 P w K mg base N qual (defScope st) f cdv A outer s H E) (defBody st) t ∧ t { nx := fun _ H' => Q .non H', rt := Q } (start N vs) H) : FnR P w K mg base CX0 (k + 1) f sp' := by
  obtain ⟨fd, F⟩ := F
  have G : FnOk P w K mg base CX0 (k + 1) f fd ps sp := F.ok S len hbody
  obtain ⟨ds, hv, b⟩ := F.binds1 n j hd hn hb
  exact (G.raw b hv).imp hs
end
/-- the place of a name among written ones -/
theorem look_at {fs : List (Str × V)} {ks : List Str} {f g : Str} {i : Nat} {v : V} (hk : fs.map (·.1) = ks) (hi : ks.findIdx? (· == f) = some i) (hv : fs[i]? = some (g, v)) : fs.lookup f = some v := by
  induction fs generalizing ks i with
  | nil => simp at hv
  | cons p fs ih =>
    obtain ⟨k, x⟩ := p
    subst hk
    rw [List.map_cons, List.findIdx?_cons] at hi
    by_cases e : (k == f) = true
    · rw [if_pos e] at hi
      cases hi
      have e2 : (f == k) = true := by rw [beq_iff_eq] at e ⊢; exact e.symm
      simp at hv
      simp [List.lookup, e2, hv.2]
    · rw [if_neg e] at hi
      have e2 : (f == k) = false := by
        rw [beq_eq_false_iff_ne]; rintro rfl; exact e (by simp)
      obtain ⟨j, hj, rfl⟩ := Option.map_eq_some_iff.mp hi
      simp only [List.lookup, e2]
      exact ih rfl hj (by simpa using hv)
theorem look_no {fs : List (Str × V)} {ks : List Str} {f : Str} (hk : fs.map (·.1) = ks) (hi : ks.contains f = false) : fs.lookup f = none := by
  induction fs generalizing ks with
  | nil => rfl
  | cons p fs ih =>
    obtain ⟨k, x⟩ := p
    subst hk
    rw [List.map_cons, List.contains_cons, Bool.or_eq_false_iff] at hi
    simp only [List.lookup, hi.1]
    exact ih rfl hi.2
theorem putF_new {f : Str} {v : V} : ∀ {fs : List (Str × V)} {ks : List Str}, fs.map (·.1) = ks → ks.contains f = false → putF f v fs = fs ++ [(f, v)]
  | [], _, _, _ => rfl
  | (k, x) :: fs, ks, hk, hc => by
    subst hk
    rw [List.map_cons, List.contains_cons, Bool.or_eq_false_iff] at hc
    have ne : ¬ k = f := fun e => by rw [e] at hc; simp at hc
    rw [show putF f v ((k, x) :: fs) = (if k = f then (k, v) :: fs else (k, x) :: putF f v fs) from rfl, if_neg ne, putF_new rfl hc.2]
    rfl
theorem Same.new {H : Hp} {p : Addr} {o : HO} (h : H p = none) : Same H (upd H p o) := fun a u e => by
  rw [upd_ne (ne_of_none e h)]
  exact e
theorem Same.new' {H H1 : Hp} {p : Addr} {o : HO} (s : Same H H1) (h : H1 p = none) : Same H (upd H1 p o) := s.trans (Same.new h)
theorem Same.tup {K : PySem.W.Frag} {H H' : Hp} {a : Addr} {xs : List V} (e : Same H H') (h : SqT K H a xs) : SqT K H' a xs := by
  rcases h with (h | ⟨o, h⟩) | h
  · exact .inl (.inl (e _ _ h))
  · exact .inl (.inr ⟨o, e _ _ h⟩)
  · exact .inr h
theorem sz {n : Nat} (h : n ≤ 100000) : n ≤ sizeLine := Nat.le_trans h (by decide)
theorem rd_fld {K : PySem.W.Frag} {i : Nat} {σ : L2.St} {H : Hp} {f : Str} {Q : VK} {a C dx : Addr} {fs : List (Str × V)} {v : V} (hs : σ[i]? = some (some (.ref a))) (ho : H a = some (.ins C dx fs)) (c : Cls K C) (n : NoAttr K C f) (l : fs.lookup f = some v) (q : Q v H) : tFld K (tVar i) f σ H Q :=
  ⟨_, hs, a, C, dx, fs, v, rfl, ho, c, n, l, q⟩

/-! ### rules whose reading names K itself -/
theorem ixT_K {X : Cx} {K : PySem.W.Frag} (h : X.K = K := by rfl) : IxR X (rIxT K) := h ▸ ix_tup
theorem ixL_K {X : Cx} {K : PySem.W.Frag} (h : X.K = K := by rfl) : IxR X (rIxL K) := h ▸ ix_list
theorem pe_fldK {X : Cx} {K : PySem.W.Frag} {e : Expr} {f : Str} {pos : Pos} {ta : TE} (he : PE X e ta) (hb : attributeBase e f X.env (eval e X.env) = eval e X.env) (h : X.K = K := by rfl) : PE X (.Attribute e f pos) (tFld K ta f) := h ▸ pe_fld he hb
theorem pg_tupK {X : Cx} {K : PySem.W.Frag} {es : List Expr} {k : Nat} {t : TGs} {n : Nat} {pos : Pos} (hc : X.calm = true) (h : PGs X es t)
    (hn : (assignEach es X.env).length = n := by rfl) (hst : (assignEach es X.env).findIdx? (·.1) = none := by rfl) (hK : X.K = K := by rfl) : PG X (.Tuple es k pos) (gTup K n t) := hK ▸ pg_tup hc h hn hst
/-! ### what kind of value -/
def TyI (K : PySem.W.Frag) (H : Hp) (x : V) (b : Bool) : Prop := ∃ t b1 b2, TyX K H x t ∧ PySem.W.kitOne K t (.type "int") = some b1 ∧ PySem.W.kitOne K t (.type "bool") = some b2 ∧ b = (b1 && !b2)
theorem tyI_int {K : PySem.W.Frag} {H : Hp} {i : Int} : TyI K H (.int i) true := ⟨_, true, false, .base (.int i), kit_ty (by decide +kernel), kit_ty (by decide +kernel), rfl⟩
theorem isi_own {K : PySem.W.Frag} {C : Addr} : PySem.W.kitOne K (.ref C) (.ref C) = some true := by simp [PySem.W.kitOne]
section
variable {P : Program} {w : World} {K : PySem.W.Frag} {mg : Str → Option Value} {base : Heap} {d : Ad}
def sp_is_integer (K : PySem.W.Frag) : Sp := fun vs H Q _ => ∃ x b, vs = [x] ∧ TyI K H x b ∧ Q (.bl b) H
theorem ok_is_integer (T : Txt K mg d) : FnR P w K mg base CX0 1 d.f_is_integer (sp_is_integer K) := by
  refine mkR T.F_is_integer sc_is_integer (fun vs H Q E h => ?_) (fun _ _ _ _ _ _ us hl => match us, hl with | [_], _ => rfl) (fun cdv A outer s H vs Q E hr h => ?_)
  · obtain ⟨x, b, rfl, _⟩ := h
    rfl
  · obtain ⟨x, b, rfl, ⟨t, b1, b2, ty, k1, k2, e⟩, q⟩ := h
    refine ⟨_, (pss_one (ps_ret (pe_and (pe_callB call_isi (by rfl) T.b_isinstance (by decide +kernel) (pa_cons (pv 0) (pa_cons (pe_bltn (v := .ty "int") rfl T.b_int (by decide +kernel) rfl) pa_nil))) (pe_one (pe_not (pe_callB call_isi (by rfl) T.b_isinstance (by decide +kernel) (pa_cons (pv 0) (pa_cons (pe_bltn (v := .ty "bool") rfl T.b_bool (by decide +kernel) rfl) pa_nil)))))))), ?_⟩
    refine ⟨x, rfl, x, .ty "int", t, .type "int", b1, rfl, .ty _, ty, k1, b1, rfl, ?_⟩
    subst e
    cases b1 with
    | false => exact iteF q
    | true =>
      refine iteT ?_
      exact ⟨x, rfl, x, .ty "bool", t, .type "bool", b2, rfl, .ty _, ty, k2, b2, rfl, q⟩
def sp_is_number (K : PySem.W.Frag) : Sp := fun vs H Q _ => (∃ i, vs = [.int i] ∧ Q (.bl (decide (0 ≤ i))) H) ∨ ∃ x, vs = [x] ∧ TyI K H x false ∧ Q (.bl false) H
theorem ok_is_number (T : Txt K mg d) : FnR P w K mg base CX0 2 d.f_is_number (sp_is_number K) := by
  refine mkR T.F_is_number sc_is_number (fun vs H Q E h => ?_) (fun _ _ _ _ _ _ us hl => match us, hl with | [_], _ => rfl) (fun cdv A outer s H vs Q E hr h => ?_)
  · rcases h with ⟨_, rfl, _⟩ | ⟨_, rfl, _⟩ <;> rfl
  · refine ⟨_, (pss_one (ps_ret (pe_and (pe_callR (ok_is_integer T) (hr.mono (by decide)) rfl T.m_is_integer T.k_is_integer pass0 (pa_cons (pv 0) pa_nil)) (pe_one (pe_cmpR op_ge (pv 0) pe_int (nomark _)))))), ?_⟩
    rcases h with ⟨i, rfl, q⟩ | ⟨x, rfl, ty, q⟩
    · refine ⟨_, rfl, _, true, rfl, tyI_int, true, rfl, iteT ?_⟩
      exact ⟨_, rfl, i, 0, rfl, rfl, q⟩
    · exact ⟨_, rfl, _, false, rfl, ty, false, rfl, iteF q⟩
def sp_is_positive (K : PySem.W.Frag) : Sp := fun vs H Q _ => (∃ i, vs = [.int i] ∧ Q (.bl (decide (1 ≤ i))) H) ∨ ∃ x, vs = [x] ∧ TyI K H x false ∧ Q (.bl false) H
theorem ok_is_positive (T : Txt K mg d) : FnR P w K mg base CX0 2 d.f_is_positive (sp_is_positive K) := by
  refine mkR T.F_is_positive sc_is_positive (fun vs H Q E h => ?_) (fun _ _ _ _ _ _ us hl => match us, hl with | [_], _ => rfl) (fun cdv A outer s H vs Q E hr h => ?_)
  · rcases h with ⟨_, rfl, _⟩ | ⟨_, rfl, _⟩ <;> rfl
  · refine ⟨_, (pss_one (ps_ret (pe_and (pe_callR (ok_is_integer T) (hr.mono (by decide)) rfl T.m_is_integer T.k_is_integer pass0 (pa_cons (pv 0) pa_nil)) (pe_one (pe_cmpR op_ge (pv 0) pe_int (nomark _)))))), ?_⟩
    rcases h with ⟨i, rfl, q⟩ | ⟨x, rfl, ty, q⟩
    · refine ⟨_, rfl, _, true, rfl, tyI_int, true, rfl, iteT ?_⟩
      exact ⟨_, rfl, i, 1, rfl, rfl, q⟩
    · exact ⟨_, rfl, _, false, rfl, ty, false, rfl, iteF q⟩
end
end DD

set_option Elab.async false
set_option linter.all false
set_option maxRecDepth 100000
set_option maxHeartbeats 2000000
namespace DD
open PySem PySem.Spec PyProof.Rows L2 StX
section
variable {P : Program} {w : World} {K : PySem.W.Frag} {mg : Str → Option Value} {base : Heap} {d : Ad}
def sp_is_sequence (K : PySem.W.Frag) : Sp := fun vs H Q _ => ∃ x t b, vs = [x] ∧ (∀ H', Same H H' → TyX K H' x t) ∧ PySem.W.kitAny K t [.type "list", .type "tuple"] = some b ∧ ∀ H', Same H H' → Q (.bl b) H'
theorem ok_is_sequence (T : Txt K mg d) : FnR P w K mg base CX0 1 d.f_is_sequence (sp_is_sequence K) := by
  refine mkR T.F_is_sequence sc_is_sequence (fun vs H Q E h => ?_) (fun _ _ _ _ _ _ us hl => match us, hl with | [_], _ => rfl) (fun cdv A outer s H vs Q E hr h => ?_)
  · obtain ⟨_, _, _, rfl, _⟩ := h
    rfl
  · obtain ⟨x, t, b, rfl, ty, k, q⟩ := h
    refine ⟨_, (pss_one (ps_ret (pe_callB call_isiT (by rfl) T.b_isinstance (by decide +kernel) (pa_cons (pv 0) (pa_cons (pe_tup (pa_cons (pe_bltn (v := .ty "list") rfl T.b_list (by decide +kernel) rfl) (pa_cons (pe_bltn (v := .ty "tuple") rfl T.b_tuple (by decide +kernel) rfl) pa_nil))) pa_nil))))), ?_⟩
    refine ⟨_, rfl, (by show 2 ≤ sizeLine; decide), fun p np => ?_⟩
    have s1 : Same H (upd H p (.tup [.ty "list", .ty "tuple"])) := Same.new np
    exact ⟨x, p, [.ty "list", .ty "tuple"], t, _, b, rfl, upd_same, .cons (.ty _) (.cons (.ty _) .nil), ty _ s1, k, q _ s1⟩
theorem any_list : PySem.W.kitAny K (.type "list") [.type "list", .type "tuple"] = some true := kitAny_cons (b := true) (kit_ty (by decide +kernel)) (fun h => nomatch h) fun _ => rfl
theorem any_tuple : PySem.W.kitAny K (.type "tuple") [.type "list", .type "tuple"] = some true := kitAny_cons (b := false) (kit_ty (by decide +kernel)) (fun _ => kitAny_cons (b := true) (kit_ty (by decide +kernel)) (fun h => nomatch h) fun _ => rfl) fun h => nomatch h
theorem ty_sql {H : Hp} {a : Addr} {vs : List V} (h : SqL K H a vs) : TyX K H (.ref a) (.type "list") := by
  rcases h with (h | ⟨o, h⟩) | ⟨o, _, _, h, c, _⟩
  · exact .base (.lst h)
  · exact .base (.frz h)
  · exact .kList h c
theorem ty_sqt {H : Hp} {a : Addr} {vs : List V} (h : SqT K H a vs) : TyX K H (.ref a) (.type "tuple") := by
  rcases h with (h | ⟨o, h⟩) | ⟨o, _, _, h, c, _⟩
  · exact .base (.tup h)
  · exact .fTuple h
  · exact .kTuple h c
end
end DD

set_option Elab.async false
set_option linter.all false
set_option maxRecDepth 100000
set_option maxHeartbeats 2000000
namespace DD
open PySem PySem.Spec PyProof.Rows L2 StX
section
variable {P : Program} {w : World} {K : PySem.W.Frag} {mg : Str → Option Value} {base : Heap} {d : Ad}
/-! ### the law's own draws -/
def sp_seed (K : PySem.W.Frag) : Sp := fun vs H Q _ => ∃ (a : Addr) (ns : List Int) (k : Nat), vs = [.ref a, .int k] ∧ SqL K H a (ns.map V.int) ∧ ∀ b x y H', H b = none → Same H H' → H' b = some (.lst [.int x, .int y]) → Q (.ref b) H'
theorem ok__law_seed (T : Txt K mg d) : FnR P w K mg base CX0 1 d.f__law_seed (sp_seed K) := by
  refine mkR T.F__law_seed sc__law_seed (fun vs H Q E h => ?_) (fun _ _ _ _ _ _ us hl => match us, hl with | [_, _], _ => rfl) (fun cdv A outer s H vs Q E hr h => ?_)
  · obtain ⟨_, _, _, rfl, _⟩ := h
    rfl
  · obtain ⟨a, ns, k, rfl, hS, q⟩ := h
    refine ⟨_, (pss_cons (ps_set (i := 2) sc__law_seed.nd rfl (by first | exact Or.inl rfl | exact Or.inr rfl) (pe_op op_add (pe_op op_mul pe_int (pv 1)) pe_int)) (pss_cons (ps_if (pt_cmpR op_lt (pv 1) (pe_callB call_len_seq (by rfl) T.b_len PySem.boot_len (pa_cons (pv 0) pa_nil)) (nomark _)) (pss_one (ps_set (i := 2) sc__law_seed.nd rfl (by first | exact Or.inl rfl | exact Or.inr rfl) (pe_callB call_abs (by rfl) T.b_abs (by decide +kernel) (pa_cons (pe_ix ix_list (pv 0) (pv 1) (fun _ _ => rfl)) pa_nil)))) (pss_one (ps_if (pt_cmpR op_gt (pe_callB call_len_seq (by rfl) T.b_len PySem.boot_len (pa_cons (pv 0) pa_nil)) pe_int (nomark _)) (pss_one (ps_set (i := 2) sc__law_seed.nd rfl (by first | exact Or.inl rfl | exact Or.inr rfl) (pe_op op_add (pv 2) (pe_op op_mul (pe_op op_mod (pe_callTy call_int1 rfl T.b_int (by decide +kernel) (pa_cons (pe_callB call_abs (by rfl) T.b_abs (by decide +kernel) (pa_cons (pe_ix ix_list (pv 0) (pe_op op_mod (pe_callTy call_int1 rfl T.b_int (by decide +kernel) (pa_cons (pv 1) pa_nil)) (pe_callB call_len_seq (by rfl) T.b_len PySem.boot_len (pa_cons (pv 0) pa_nil))) (fun _ _ => rfl)) pa_nil)) pa_nil)) pe_int) pe_int)))) pss_nil))) (pss_one (ps_ret (pe_lst (pa_cons (pe_ifExp (pt_cmpR op_ge (pv 2) (pe_op op_pow pe_int pe_int) (nomark _)) (pv 2) pe_int) (pa_cons (pe_op op_add (pe_op op_mod (pe_callTy call_int1 rfl T.b_int (by decide +kernel) (pa_cons (pe_op op_add (pe_op op_mul (pe_op op_mod (pe_callTy call_int1 rfl T.b_int (by decide +kernel) (pa_cons (pv 2) pa_nil)) pe_int) pe_int) (pe_op op_mul pe_int (pv 1))) pa_nil)) pe_int) pe_int) pa_nil))))))), ?_⟩
    refine ⟨_, rfl, _, _, rfl, rfl, .inl ⟨by decide, by decide⟩, _, _, rfl, rfl, ?_⟩
    refine ⟨_, rfl, _, rfl, a, _, rfl, .inl hS, _, _, rfl, rfl, _, rfl, ?_⟩
    refine ite2 (fun h1 => ?_) (fun h1 => ?_)
    · have hk : k < ns.length := by
        have := of_decide_eq_true h1
        rw [List.length_map] at this
        omega
      refine ⟨_, rfl, _, rfl, a, _, _, _, rfl, rfl, hS, atI_nat (j := k) (by rw [List.getElem?_map, List.getElem?_eq_getElem hk]; rfl), _, rfl, ?_⟩
      refine ⟨_, rfl, _, _, rfl, rfl, ⟨by decide, by decide, by decide⟩, _, _, rfl, rfl, _, rfl, ?_⟩
      refine ite2 (fun _ => ?_) (fun _ => ?_)
      · refine ⟨_, rfl, _, rfl, .inl ⟨_, rfl, _, _, rfl, rfl, (by show (0 : Int) < 2147483629; decide), _, _, rfl, rfl, .inr ⟨by decide, by decide⟩, _, rfl, _, _, rfl, rfl, .inl ⟨by decide, by decide⟩, _, _, rfl, rfl, .inl ⟨_, rfl, _, _, rfl, rfl, (by show (0 : Int) < 2147483629; decide), _, _, rfl, rfl, (by show 2 ≤ sizeLine; decide), fun p np => ?_⟩⟩⟩
        exact q p _ _ _ np (Same.new np) upd_same
      · refine ⟨_, rfl, .inl ⟨_, rfl, _, _, rfl, rfl, (by show (0 : Int) < 2147483629; decide), _, _, rfl, rfl, .inr ⟨by decide, by decide⟩, _, rfl, _, _, rfl, rfl, .inl ⟨by decide, by decide⟩, _, _, rfl, rfl, .inl ⟨_, rfl, _, _, rfl, rfl, (by show (0 : Int) < 2147483629; decide), _, _, rfl, rfl, (by show 2 ≤ sizeLine; decide), fun p np => ?_⟩⟩⟩
        exact q p _ _ _ np (Same.new np) upd_same
    · refine ⟨_, rfl, a, _, rfl, .inl hS, _, _, rfl, rfl, _, rfl, ?_⟩
      refine ite2 (fun h2 => ?_) (fun h2 => ?_)
      · have hn : 0 < ns.length := by
          have := of_decide_eq_true h2
          rw [List.length_map] at this
          omega
        have e : ((k : Int) % ((ns.map V.int).length : Int)) = ((k % ns.length : Nat) : Int) := by rw [List.length_map, Int.natCast_emod]
        have hk : k % ns.length < ns.length := Nat.mod_lt _ hn
        refine ⟨_, rfl, _, rfl, _, rfl, .inl ⟨_, rfl, _, rfl, a, _, rfl, .inl hS, _, _, rfl, rfl, (by rw [List.length_map]; omega), ?_⟩⟩
        have hat : atI (ns.map V.int) ((k : Int) % ((ns.map V.int).length : Int)) = some (V.int (ns[k % ns.length])) := by
          rw [e]
          exact atI_nat (j := k % ns.length) (by rw [List.getElem?_map, List.getElem?_eq_getElem hk]; rfl)
        refine ⟨a, _, _, _, rfl, rfl, hS, hat, _, rfl, .inl ⟨_, rfl, _, _, rfl, rfl, (by show (0 : Int) < 2147483629; decide), _, _, rfl, rfl, .inr ⟨by decide, by decide⟩, _, _, rfl, rfl, ?_⟩⟩
        refine ⟨_, rfl, _, _, rfl, rfl, ⟨by decide, by decide, by decide⟩, _, _, rfl, rfl, _, rfl, ?_⟩
        refine ite2 (fun _ => ?_) (fun _ => ?_)
        · refine ⟨_, rfl, _, rfl, .inl ⟨_, rfl, _, _, rfl, rfl, (by show (0 : Int) < 2147483629; decide), _, _, rfl, rfl, .inr ⟨by decide, by decide⟩, _, rfl, _, _, rfl, rfl, .inl ⟨by decide, by decide⟩, _, _, rfl, rfl, .inl ⟨_, rfl, _, _, rfl, rfl, (by show (0 : Int) < 2147483629; decide), _, _, rfl, rfl, (by show 2 ≤ sizeLine; decide), fun p np => ?_⟩⟩⟩
          exact q p _ _ _ np (Same.new np) upd_same
        · refine ⟨_, rfl, .inl ⟨_, rfl, _, _, rfl, rfl, (by show (0 : Int) < 2147483629; decide), _, _, rfl, rfl, .inr ⟨by decide, by decide⟩, _, rfl, _, _, rfl, rfl, .inl ⟨by decide, by decide⟩, _, _, rfl, rfl, .inl ⟨_, rfl, _, _, rfl, rfl, (by show (0 : Int) < 2147483629; decide), _, _, rfl, rfl, (by show 2 ≤ sizeLine; decide), fun p np => ?_⟩⟩⟩
          exact q p _ _ _ np (Same.new np) upd_same
      · refine ⟨_, rfl, _, _, rfl, rfl, ⟨by decide, by decide, by decide⟩, _, _, rfl, rfl, _, rfl, ?_⟩
        refine ite2 (fun _ => ?_) (fun _ => ?_)
        · refine ⟨_, rfl, _, rfl, .inl ⟨_, rfl, _, _, rfl, rfl, (by show (0 : Int) < 2147483629; decide), _, _, rfl, rfl, .inr ⟨by decide, by decide⟩, _, rfl, _, _, rfl, rfl, .inl ⟨by decide, by decide⟩, _, _, rfl, rfl, .inl ⟨_, rfl, _, _, rfl, rfl, (by show (0 : Int) < 2147483629; decide), _, _, rfl, rfl, (by show 2 ≤ sizeLine; decide), fun p np => ?_⟩⟩⟩
          exact q p _ _ _ np (Same.new np) upd_same
        · refine ⟨_, rfl, .inl ⟨_, rfl, _, _, rfl, rfl, (by show (0 : Int) < 2147483629; decide), _, _, rfl, rfl, .inr ⟨by decide, by decide⟩, _, rfl, _, _, rfl, rfl, .inl ⟨by decide, by decide⟩, _, _, rfl, rfl, .inl ⟨_, rfl, _, _, rfl, rfl, (by show (0 : Int) < 2147483629; decide), _, _, rfl, rfl, (by show 2 ≤ sizeLine; decide), fun p np => ?_⟩⟩⟩
          exact q p _ _ _ np (Same.new np) upd_same
/-- a draw from a box -/
def sp_choose : Sp := fun vs H Q _ => ∃ (b : Addr) (x y m : Int), vs = [.ref b, .int m] ∧ H b = some (.lst [.int x, .int y]) ∧ 0 < m ∧ m < 1073741824 ∧ ∀ r x' y', 0 ≤ r → r < m → Q (.int r) (upd H b (.lst [.int x', .int y']))
theorem ok__law_choose (T : Txt K mg d) : FnR P w K mg base CX0 1 d.f__law_choose sp_choose := by
  refine mkR T.F__law_choose sc__law_choose (fun vs H Q E h => ?_) (fun _ _ _ _ _ _ us hl => match us, hl with | [_, _], _ => rfl) (fun cdv A outer s H vs Q E hr h => ?_)
  · obtain ⟨_, _, _, _, rfl, _⟩ := h
    rfl
  · obtain ⟨b, x, y, m, rfl, hb, hm, hm2, q⟩ := h
    refine ⟨_, (pss_cons (ps_if (pt_cmpR op_gt (pe_ix ix_list (pv 0) pe_int (fun _ _ => rfl)) pe_int (nomark _)) (pss_cons (ps_set (i := 3) sc__law_choose.nd rfl (by first | exact Or.inl rfl | exact Or.inr rfl) (pe_op op_mod (pe_callTy call_int1 rfl T.b_int (by decide +kernel) (pa_cons (pe_ix ix_list (pv 0) pe_int (fun _ _ => rfl)) pa_nil)) (pv 1))) (pss_cons (ps_asg (pe_op op_fdiv (pe_ix ix_list (pv 0) pe_int (fun _ _ => rfl)) (pv 1)) (pg_sub (pv 0) pe_int set_list)) (pss_one (ps_ret (pv 3))))) pss_nil) (pss_cons (ps_set (i := 2) sc__law_choose.nd rfl (by first | exact Or.inl rfl | exact Or.inr rfl) (pe_op op_mod (pe_callTy call_int1 rfl T.b_int (by decide +kernel) (pa_cons (pe_op op_add (pe_op op_mul (pe_ix ix_list (pv 0) pe_int (fun _ _ => rfl)) pe_int) pe_int) pa_nil)) pe_int)) (pss_cons (ps_asg (pe_op op_add (pe_op op_mod (pe_callTy call_int1 rfl T.b_int (by decide +kernel) (pa_cons (pe_op op_add (pe_op op_mul (pv 2) pe_int) pe_int) pa_nil)) pe_int) pe_int) (pg_sub (pv 0) pe_int set_list)) (pss_one (ps_ret (pe_op op_mod (pe_callTy call_int1 rfl T.b_int (by decide +kernel) (pa_cons (pe_op op_fdiv (pe_op op_add (pe_op op_mul (pv 2) pe_int) (pe_ix ix_list (pv 0) pe_int (fun _ _ => rfl))) pe_int) pa_nil)) (pv 1))))))), ?_⟩
    refine ⟨_, rfl, b, _, _, _, rfl, rfl, .inl (.inl hb), atI_nat (j := 0) rfl, _, _, rfl, rfl, _, rfl, ?_⟩
    refine ite2 (fun _ => ?_) (fun _ => ?_)
    · refine ⟨_, rfl, b, _, _, _, rfl, rfl, .inl (.inl hb), atI_nat (j := 0) rfl, .inl ⟨_, rfl, _, rfl, _, _, rfl, rfl, hm, ?_⟩⟩
      refine ⟨_, rfl, b, _, _, _, rfl, rfl, .inl (.inl hb), atI_nat (j := 0) rfl, _, rfl, _, _, rfl, rfl, ⟨hm, hm2⟩, ?_⟩
      refine ⟨_, rfl, b, _, _, 0, rfl, rfl, hb, rfl, ?_⟩
      refine ⟨_, rfl, ?_⟩
      exact q _ _ _ (Int.emod_nonneg _ (by omega)) (Int.emod_lt_of_pos _ hm)
    · refine ⟨_, rfl, b, _, _, _, rfl, rfl, .inl (.inl hb), atI_nat (j := 1) rfl, _, _, rfl, rfl, .inr ⟨by decide, by decide⟩, _, _, rfl, rfl, .inl ⟨_, rfl, _, _, rfl, rfl, (by show (0 : Int) < 2147483563; decide), ?_⟩⟩
      refine ⟨_, rfl, _, _, rfl, rfl, .inr ⟨by decide, by decide⟩, _, _, rfl, rfl, .inl ⟨_, rfl, _, _, rfl, rfl, (by show (0 : Int) < 2147483629; decide), _, _, rfl, rfl, ?_⟩⟩
      refine ⟨_, rfl, b, _, _, 1, rfl, rfl, hb, rfl, ?_⟩
      refine ⟨_, rfl, _, _, rfl, rfl, .inr ⟨by decide, by decide⟩, _, rfl, b, _, _, _, rfl, rfl, .inl (.inl upd_same), atI_nat (j := 1) rfl, _, _, rfl, rfl, _, _, rfl, rfl, ⟨by decide, by decide⟩, .inl ⟨_, rfl, _, rfl, _, _, rfl, rfl, hm, ?_⟩⟩
      exact q _ _ _ (Int.emod_nonneg _ (by omega)) (Int.emod_lt_of_pos _ hm)
end
end DD

set_option Elab.async false
set_option linter.all false
set_option maxRecDepth 100000
set_option maxHeartbeats 2000000
namespace DD
open PySem PySem.Spec PyProof.Rows L2 StX
/-! ### what a draw leaves as it was -/
def SameX (b : Addr) (H H' : Hp) : Prop := ∀ c o, H c = some o → c ≠ b → H' c = some o
def Imm (H H' : Hp) : Prop := ∀ c o, H c = some o → (∀ xs, o ≠ .lst xs) → H' c = some o
theorem SameX.refl {b : Addr} {H : Hp} : SameX b H H := fun _ _ h _ => h
theorem SameX.of {b : Addr} {H H' : Hp} (e : Same H H') : SameX b H H' := fun c o h _ => e c o h
theorem SameX.trans {b : Addr} {H H1 H2 : Hp} (e : SameX b H H1) (f : SameX b H1 H2) : SameX b H H2 := fun c o h n => f c o (e c o h n) n
theorem SameX.upd {b : Addr} {H : Hp} {o : HO} : SameX b H (upd H b o) := fun c u h n => by rw [upd_ne n]; exact h
theorem Imm.of {H H' : Hp} (e : Same H H') : Imm H H' := fun c o h _ => e c o h
theorem Imm.refl {H : Hp} : Imm H H := fun _ _ h _ => h
theorem Imm.trans {H H1 H2 : Hp} (e : Imm H H1) (f : Imm H1 H2) : Imm H H2 := fun c o h n => f c o (e c o h n) n
theorem SameX.imm {b : Addr} {H H' : Hp} {xs : List V} (e : SameX b H H') (hb : H b = some (.lst xs)) : Imm H H' := fun c o h n => e c o h fun z => by
  subst z
  rw [hb] at h
  exact n xs (Option.some.inj h).symm
/-- a list is written -/
theorem Imm.upd {l : Addr} {H : Hp} {xs : List V} {o : HO} (hl : H l = some (.lst xs)) : Imm H (L2.upd H l o) := SameX.imm SameX.upd hl
theorem Imm.tup {K : PySem.W.Frag} {H H' : Hp} {a : Addr} {xs : List V} (e : Imm H H') (h : SqT K H a xs) : SqT K H' a xs := by
  rcases h with (h | ⟨o, h⟩) | h
  · exact .inl (.inl (e _ _ h fun _ z => nomatch z))
  · exact .inl (.inr ⟨o, e _ _ h fun _ z => nomatch z⟩)
  · exact .inr h
def IsBox (H : Hp) (b : Addr) : Prop := ∃ x y : Int, H b = some (.lst [.int x, .int y])
theorem IsBox.same {H H' : Hp} {b : Addr} (e : Same H H') (h : IsBox H b) : IsBox H' b := by
  obtain ⟨x, y, h⟩ := h
  exact ⟨x, y, e _ _ h⟩
theorem IsBox.new {H : Hp} {b : Addr} {x y : Int} : IsBox (upd H b (.lst [.int x, .int y])) b := ⟨x, y, upd_same⟩
theorem IsBox.imm {H H' : Hp} {b : Addr} (h : IsBox H b) (e : SameX b H H') : Imm H H' := by
  obtain ⟨x, y, h⟩ := h
  exact e.imm h
section
variable {P : Program} {w : World} {K : PySem.W.Frag} {mg : Str → Option Value} {base : Heap} {d : Ad}
/-- one of a list -/
def sp_one_of : Sp := fun vs H Q _ => ∃ (b l : Addr) (xs : List V), vs = [.ref b, .ref l] ∧ IsBox H b ∧ H l = some (.lst xs) ∧ l ≠ b ∧ xs ≠ [] ∧ xs.length ≤ 1000 ∧ ∀ (i : Nat) v H', xs[i]? = some v → SameX b H H' → IsBox H' b → Q v H'
theorem ok__law_one_of (T : Txt K mg d) : FnR P w K mg base CX0 2 d.f__law_one_of sp_one_of := by
  refine mkR T.F__law_one_of sc__law_one_of (fun vs H Q E h => ?_) (fun _ _ _ _ _ _ us hl => match us, hl with | [_, _], _ => rfl) (fun cdv A outer s H vs Q E hr h => ?_)
  · obtain ⟨_, _, _, rfl, _⟩ := h
    rfl
  · obtain ⟨b, l, xs, rfl, ⟨x, y, hb⟩, hl, ne, h0, hz, q⟩ := h
    have h1 : 0 < xs.length := List.length_pos_iff.mpr h0
    refine ⟨_, (pss_one (ps_ret (pe_ix ix_list (pv 1) (pe_callR (ok__law_choose T) (hr.mono (by decide)) rfl T.m__law_choose T.k__law_choose pass0 (pa_cons (pv 0) (pa_cons (pe_callB call_len_seq (by rfl) T.b_len PySem.boot_len (pa_cons (pv 1) pa_nil)) pa_nil))) (fun _ _ => rfl)))), ?_⟩
    refine ⟨_, rfl, _, rfl, _, rfl, l, xs, rfl, .inl (.inl (.inl hl)), b, x, y, _, rfl, hb, by omega, by omega, fun r x' y' r0 r1 => ?_⟩
    obtain ⟨j, rfl⟩ : ∃ j : Nat, r = (j : Int) := ⟨r.toNat, by omega⟩
    have hr1 : j < xs.length := by omega
    exact ⟨l, xs, _, xs[j], rfl, rfl, .inl (.inl (by rw [upd_ne ne]; exact hl)), atI_nat (List.getElem?_eq_getElem hr1), q j _ _ (List.getElem?_eq_getElem hr1) SameX.upd IsBox.new⟩
theorem ints_get {ns : List Int} {j : Nat} {v : V} (h : (ns.map V.int)[j]? = some v) : ∃ z ∈ ns, v = .int z := by
  rw [List.getElem?_map] at h
  obtain ⟨z, h1, h2⟩ := Option.map_eq_some_iff.mp h
  exact ⟨z, List.mem_of_getElem? h1, h2.symm⟩
end
end DD

set_option Elab.async false
set_option linter.all false
set_option maxRecDepth 100000
set_option maxHeartbeats 2000000
namespace DD
open PySem PySem.Spec PyProof.Rows L2 StX
section
variable {P : Program} {w : World} {K : PySem.W.Frag} {mg : Str → Option Value} {base : Heap} {d : Ad}
def sp_is_numeral : Sp := fun vs H Q _ => ∃ i : Int, vs = [.str (intT i)] ∧ 0 ≤ i ∧ i ≤ 99 ∧ Q (.bl true) H
theorem ok_is_numeral (T : Txt K mg d) : FnR P w K mg base CX0 1 d.f_is_numeral sp_is_numeral := by
  refine mkR T.F_is_numeral sc_is_numeral (fun vs H Q E h => ?_) (fun _ _ _ _ _ _ us hl => match us, hl with | [_], _ => rfl) (fun cdv A outer s H vs Q E hr h => ?_)
  · obtain ⟨_, rfl, _⟩ := h
    rfl
  · obtain ⟨i, rfl, h0, h1, q⟩ := h
    obtain ⟨n, rfl, hn⟩ := nat_of h0 h1
    obtain ⟨f1, f2, f3, f4⟩ := num_facts hn
    refine ⟨_, (pss_cons (ps_if (PW.pt (pw_or (pt_not (pt_val (pe_m0 PySem.F.slot_str_isascii PySem.F.type_str_isascii mt_isascii (pv 0)))) (pw_or (pt_not (pt_val (pe_m0 PySem.F.slot_str_isdecimal PySem.F.type_str_isdecimal mt_isdecimal (pv 0)))) (pw_or1 (pt_cmpR op_gt (pe_callB call_len_str (by rfl) T.b_len PySem.boot_len (pa_cons (pv 0) pa_nil)) pe_int (nomark _)))))) (pss_one (ps_ret pe_bl)) pss_nil) (pss_one (ps_ret (pe_or (pe_cmpR op_eq (pe_callB call_len_str (by rfl) T.b_len PySem.boot_len (pa_cons (pv 0) pa_nil)) pe_int (nomark _)) (pe_one (pe_cmpR op_ne (pe_ix ix_str (pv 0) pe_int (fun _ _ => rfl)) pe_str (nomark _))))))), ?_⟩
    refine ⟨_, rfl, ⟨_, rfl⟩, _, rfl, rfl, trivial, ?_⟩
    rw [f1]
    refine ⟨_, rfl, iteF ?_⟩
    refine ⟨_, rfl, ⟨_, rfl⟩, _, rfl, rfl, trivial, ?_⟩
    rw [f2]
    refine ⟨_, rfl, iteF ?_⟩
    refine ⟨_, rfl, _, rfl, sz (by omega), _, _, rfl, rfl, _, rfl, ?_⟩
    rw [decide_eq_false (by omega)]
    refine iteF ?_
    refine ⟨_, rfl, _, rfl, sz (by omega), rfl, _, rfl, ?_⟩
    by_cases h1 : (intT (n : Int)).length = 1
    · rw [decide_eq_true (congrArg V.int (by omega))]
      refine iteT ?_
      exact q
    · rw [decide_eq_false (fun e => h1 (by have := V.int.inj e; omega))]
      refine iteF ?_
      obtain ⟨c, l, e, hc⟩ := f4.resolve_left h1
      refine ⟨_, rfl, _, _, c, rfl, rfl, sz (by omega), atI_nat (j := 0) (by rw [e]; rfl), rfl, ?_⟩
      have : decide (V.str ⟨#[c]⟩ = V.str "0") = false := decide_eq_false fun e => hc (by
        have := congrArg (fun v => match v with | V.str s => s.cps.toList | _ => []) e
        exact List.head_eq_of_cons_eq (show [c] = [48] from this))
      rw [this]
      exact q
def sp_read_number : Sp := fun vs H Q _ => ∃ i : Int, vs = [.str (intT i)] ∧ 0 ≤ i ∧ i ≤ 99 ∧ Q (.int i) H
theorem ok_read_number (T : Txt K mg d) : FnR P w K mg base CX0 2 d.f_read_number sp_read_number := by
  refine mkR T.F_read_number sc_read_number (fun vs H Q E h => ?_) (fun _ _ _ _ _ _ us hl => match us, hl with | [_], _ => rfl) (fun cdv A outer s H vs Q E hr h => ?_)
  · obtain ⟨_, rfl, _⟩ := h
    rfl
  · obtain ⟨i, rfl, h0, h1, q⟩ := h
    refine ⟨_, (pss_cons (ps_if (pt_not (pt_val (pe_callR (ok_is_numeral T) (hr.mono (by decide)) rfl T.m_is_numeral T.k_is_numeral pass0 (pa_cons (pv 0) pa_nil)))) (pss_one ps_dead) pss_nil) (pss_one (ps_ret (pe_callTy call_int_str rfl T.b_int (by decide +kernel) (pa_cons (pv 0) pa_nil))))), ?_⟩
    refine ⟨_, rfl, i, rfl, h0, h1, ?_⟩
    refine ⟨_, rfl, iteF ?_⟩
    obtain ⟨n, rfl, hn⟩ := nat_of h0 h1
    exact ⟨_, rfl, _, _, rfl, TL.int_num (Nat.le_trans (TL.numL_len (k := 2) (by decide) (by omega)) (by decide)), Nat.le_trans (len_int h0 (by omega)) (by decide), q⟩
end
end DD

set_option Elab.async false
set_option linter.all false
set_option maxRecDepth 100000
set_option maxHeartbeats 2000000
namespace DD
open PySem PySem.Spec PyProof.Rows L2 StX
/-! ### frames -/
abbrev Kn := Int × Bool
def knV (k : Kn) : List V := [.int k.1, .bl k.2]
def mostV : Option Int → V
  | none => .non
  | some i => .int i
def knOk (n : Int) (k : Kn) : Bool := decide (0 ≤ k.1) && decide (k.1 < n)
def mostOk : Option Int → Bool
  | none => true
  | some i => decide (0 ≤ i)
structure Fr where
  n : Int
  s : Int
  m : Option Int
  p : Bool
  ks : List Kn
deriving DecidableEq
structure FrOk (f : Fr) : Prop where
  n : 1 ≤ f.n
  s : 1 ≤ f.s
  m : mostOk f.m = true
  k : f.ks.all (knOk f.n) = true
  l : f.ks.length ≤ 1000
def flF (n s : Int) (m : V) (p : Bool) (t : V) : List (Str × V) := [("length", .int n), ("shortest", .int s), ("most", m), ("private", .bl p), ("known", t)]
section
variable {P : Program} {w : World} {K : PySem.W.Frag} {mg : Str → Option Value} {base : Heap} {d : Ad}
def IsFrame (d : Ad) (K : PySem.W.Frag) (H : Hp) (v : V) (f : Fr) : Prop := ∃ a dx t vs, v = .ref a ∧ H a = some (.ins d.C_Frame dx (flF f.n f.s (mostV f.m) f.p (.ref t))) ∧ SqT K H t vs ∧ IsRs knV H vs f.ks
theorem IsFrame.mono {H H' : Hp} {v : V} {f : Fr} (e : Same H H') (x : IsFrame d K H v f) : IsFrame d K H' v f := by
  obtain ⟨a, dx, t, vs, e1, e2, e3, e4⟩ := x
  exact ⟨a, dx, t, vs, e1, e _ _ e2, Same.tup e e3, e4.mono e⟩
/-- a list or tuple of known ticks -/
def KnsV (K : PySem.W.Frag) (H : Hp) (v : V) (ks : List Kn) : Prop := ∃ a vs, v = .ref a ∧ (SqL K H a vs ∨ SqT K H a vs) ∧ IsRs knV H vs ks
theorem KnsV.mono {H H' : Hp} {v : V} {ks : List Kn} (e : Same H H') (x : KnsV K H v ks) : KnsV K H' v ks := by
  obtain ⟨a, vs, e1, e2, e3⟩ := x
  exact ⟨a, vs, e1, e2.imp e.seq (Same.tup e), e3.mono e⟩
def sp_is_known : Sp := fun vs H Q _ => ∃ v k n, vs = [v, .int n] ∧ IsRw knV H v k ∧ Q (.bl (knOk n k)) H
theorem ok__is_known (T : Txt K mg d) : FnR P w K mg base CX0 3 d.f__is_known sp_is_known := by
  refine mkR T.F__is_known sc__is_known (fun vs H Q E h => ?_) (fun _ _ _ _ _ _ us hl => match us, hl with | [_, _], _ => rfl) (fun cdv A outer s H vs Q E hr h => ?_)
  · obtain ⟨_, _, _, rfl, _⟩ := h
    rfl
  · obtain ⟨v, ⟨t, b⟩, n, rfl, ⟨a, rfl, ha⟩, q⟩ := h
    refine ⟨_, (pss_cons (ps_if (PW.pt (pw_or (pt_not (pt_val (pe_callB call_isi (by rfl) T.b_isinstance (by decide +kernel) (pa_cons (pv 0) (pa_cons (pe_bltn (v := .ty "tuple") rfl T.b_tuple (by decide +kernel) rfl) pa_nil))))) (pw_or1 (pt_cmpR op_ne (pe_callB call_len_seq (by rfl) T.b_len PySem.boot_len (pa_cons (pv 0) pa_nil)) pe_int (nomark _))))) (pss_one (ps_ret pe_bl)) pss_nil) (pss_cons (ps_asg (pv 0) (pg_tup rfl (pgs_cons (pg_name (i := 2) sc__is_known.nd rfl (by first | exact Or.inl rfl | exact Or.inr rfl)) (pgs_cons (pg_name (i := 3) sc__is_known.nd rfl (by first | exact Or.inl rfl | exact Or.inr rfl)) pgs_nil)))) (pss_one (ps_ret (pe_and (pe_callR (ok_is_number T) (hr.mono (by decide)) rfl T.m_is_number T.k_is_number pass0 (pa_cons (pv 2) pa_nil)) (pe_and (pe_cmpR op_lt (pv 2) (pv 1) (nomark _)) (pe_one (pe_callB call_isi (by rfl) T.b_isinstance (by decide +kernel) (pa_cons (pv 3) (pa_cons (pe_bltn (v := .ty "bool") rfl T.b_bool (by decide +kernel) rfl) pa_nil)))))))))), ?_⟩
    refine ⟨_, rfl, _, .ty "tuple", _, _, true, rfl, .ty _, .base (.tup ha), kit_ty (by decide +kernel), true, rfl, ?_⟩
    refine ⟨_, rfl, a, _, rfl, .inr (.inl (.inl ha)), rfl, false, rfl, ?_⟩
    refine ⟨_, rfl, a, _, rfl, .inl (.inl ha), rfl, _, _, rfl, _, _, rfl, rfl, ?_⟩
    have e0 : knOk n (t, b) = (decide (0 ≤ t) && decide (t < n)) := rfl
    rw [e0] at q
    refine ⟨_, rfl, .inl ⟨t, rfl, ?_⟩⟩
    refine ⟨_, rfl, ?_⟩
    by_cases ht : 0 ≤ t
    · rw [decide_eq_true ht] at q ⊢
      refine iteT ⟨_, rfl, _, rfl, t, n, rfl, rfl, _, rfl, ?_⟩
      by_cases hn : t < n
      · rw [decide_eq_true hn] at q ⊢
        exact iteT ⟨_, rfl, _, .ty "bool", _, _, true, rfl, .ty _, .base (.bl b), kit_ty (by decide +kernel), q⟩
      · rw [decide_eq_false hn] at q ⊢
        exact iteF q
    · rw [decide_eq_false ht] at q ⊢
      exact iteF q
def sp_are_known (K : PySem.W.Frag) : Sp := fun vs H Q _ => ∃ (v : V) (n : Int) (ks : List Kn), vs = [v, .int n] ∧ KnsV K H v ks ∧ ks.length ≤ 1000 ∧ ∀ H', Same H H' → Q (.bl (ks.all (knOk n))) H'
theorem ok__are_known (T : Txt K mg d) : FnR P w K mg base CX0 4 d.f__are_known (sp_are_known K) := by
  refine mkR T.F__are_known sc__are_known (fun vs H Q E h => ?_) (fun _ _ _ _ _ _ us hl => match us, hl with | [_, _], _ => rfl) (fun cdv A outer s H vs Q E hr h => ?_)
  · obtain ⟨_, _, _, rfl, _⟩ := h
    rfl
  · obtain ⟨v, n, ks, rfl, ⟨a, vs, rfl, hv, hm⟩, hz, q⟩ := h
    have fin : ∀ {H2 : Hp} {C : Addr}, Same H H2 → H2 C = some (.lst (((ks.take vs.length).map (knOk n)).map V.bl)) → rAll K [.ref C] H2 (fun v H' => (fun _ => Q v H') ()) := by
      intro H2 C s2 h2
      rw [hm.1, List.take_length] at h2
      refine ⟨C, ks.map (knOk n), rfl, .inl (.inl h2), ?_⟩
      rw [List.all_map]
      exact q H2 s2
    rcases hv with hv | hv
    · refine ⟨_, (pss_one (ps_ret (pe_and (pe_callR (ok_is_sequence T) (hr.mono (by decide)) rfl T.m_is_sequence T.k_is_sequence pass0 (pa_cons (pv 0) pa_nil)) (pe_one (pe_callB (cr_all rfl) (by rfl) T.b_all (by decide +kernel) (pa_cons (pe_lc (own := [("pair", 2)]) rfl sc__are_known.nd (pi_list (pv 0)) (blkOk_by (N := ["value", "length", "pair"]) (sc := defScope s__are_known) (by decide +kernel)) (fun _ _ _ _ _ => (pg_name (i := 2) sc__are_known.nd rfl (by first | exact Or.inl rfl | exact Or.inr rfl))) (fun _ _ _ _ _ => pts_nil) (fun _ _ _ _ _ => (pe_callR (ok__is_known T) (hr.mono (by decide)) rfl T.m__is_known T.k__is_known pass0 (pa_cons (pv 2) (pa_cons (pv 1) pa_nil))))) pa_nil)))))), ?_⟩
      refine ⟨_, rfl, _, _, true, rfl, fun H' e => ty_sql (e.seq hv), any_list, fun H1 s1 => ?_⟩
      refine ⟨_, rfl, iteT ?_⟩
      refine ⟨_, rfl, a, rfl, ⟨vs, s1.seq hv⟩, fun C nC => ?_⟩
      have s0 := s1.trans (Same.new (o := .lst []) nC)
      have nH := none_of s1 nC
      refine lc_list (K := K) (a := a) (xs := vs) (fun i H2 => Same H H2 ∧ H2 C = some (.lst (((ks.take i).map (knOk n)).map V.bl))) ⟨s0, upd_same⟩ (fun i H2 _ h2 => h2.1.seq hv) ?_ ?_
      · rintro i x H2 hx ⟨s2, h2⟩
        obtain ⟨k, hk1, hk2⟩ := hm.get hx
        refine ⟨rfl, ?_⟩
        refine ⟨_, rfl, _, rfl, x, k, n, rfl, hk2.on (fun b zs e => s2 _ _ e), _, h2, ?_, Same.mut s2 nH, ?_⟩
        · rw [List.length_map, List.length_map, List.length_take]
          exact sz1000 (by omega)
        · rw [upd_same, takeSnoc hk1, List.map_append, List.map_append]
          rfl
      · rintro H2 ⟨s2, h2⟩
        exact fin s2 h2
    · refine ⟨_, (pss_one (ps_ret (pe_and (pe_callR (ok_is_sequence T) (hr.mono (by decide)) rfl T.m_is_sequence T.k_is_sequence pass0 (pa_cons (pv 0) pa_nil)) (pe_one (pe_callB (cr_all rfl) (by rfl) T.b_all (by decide +kernel) (pa_cons (pe_lc (own := [("pair", 2)]) rfl sc__are_known.nd (pi_tup (pv 0)) (blkOk_by (N := ["value", "length", "pair"]) (sc := defScope s__are_known) (by decide +kernel)) (fun _ _ _ _ _ => (pg_name (i := 2) sc__are_known.nd rfl (by first | exact Or.inl rfl | exact Or.inr rfl))) (fun _ _ _ _ _ => pts_nil) (fun _ _ _ _ _ => (pe_callR (ok__is_known T) (hr.mono (by decide)) rfl T.m__is_known T.k__is_known pass0 (pa_cons (pv 2) (pa_cons (pv 1) pa_nil))))) pa_nil)))))), ?_⟩
      refine ⟨_, rfl, _, _, true, rfl, fun H' e => ty_sqt (Same.tup e hv), any_tuple, fun H1 s1 => ?_⟩
      refine ⟨_, rfl, iteT ?_⟩
      refine ⟨_, rfl, a, rfl, ⟨vs, Same.tup s1 hv⟩, fun C nC => ?_⟩
      have s0 := s1.trans (Same.new (o := .lst []) nC)
      have nH := none_of s1 nC
      refine lc_tup (K := K) (a := a) (xs := vs) (fun i H2 => Same H H2 ∧ H2 C = some (.lst (((ks.take i).map (knOk n)).map V.bl))) ⟨s0, upd_same⟩ (fun i H2 _ h2 => Same.tup h2.1 hv) ?_ ?_
      · rintro i x H2 hx ⟨s2, h2⟩
        obtain ⟨k, hk1, hk2⟩ := hm.get hx
        refine ⟨rfl, ?_⟩
        refine ⟨_, rfl, _, rfl, x, k, n, rfl, hk2.on (fun b zs e => s2 _ _ e), _, h2, ?_, Same.mut s2 nH, ?_⟩
        · rw [List.length_map, List.length_map, List.length_take]
          exact sz1000 (by omega)
        · rw [upd_same, takeSnoc hk1, List.map_append, List.map_append]
          rfl
      · rintro H2 ⟨s2, h2⟩
        exact fin s2 h2
def sp_wrong (K : PySem.W.Frag) : Sp := fun vs H Q _ => ∃ (f : Fr) (v : V), vs = [.int f.n, .int f.s, mostV f.m, .bl f.p, v] ∧ KnsV K H v f.ks ∧ FrOk f ∧ ∀ H', Same H H' → Q .non H'
theorem ok__wrong_argument (T : Txt K mg d) : FnR P w K mg base CX0 5 d.f__wrong_argument (sp_wrong K) := by
  refine mkR T.F__wrong_argument sc__wrong_argument (fun vs H Q E h => ?_) (fun _ _ _ _ _ _ us hl => match us, hl with | [_, _, _, _, _], _ => rfl) (fun cdv A outer s H vs Q E hr h => ?_)
  · obtain ⟨_, _, rfl, _⟩ := h
    rfl
  · obtain ⟨⟨n, st, m, p, ks⟩, v, rfl, hk, O, q⟩ := h
    refine ⟨_, (pss_cons (ps_if (pt_not (pt_val (pe_callR (ok_is_positive T) (hr.mono (by decide)) rfl T.m_is_positive T.k_is_positive pass0 (pa_cons (pv 0) pa_nil)))) (pss_one (ps_ret pe_str)) pss_nil) (pss_cons (ps_if (pt_not (pt_val (pe_callR (ok_is_positive T) (hr.mono (by decide)) rfl T.m_is_positive T.k_is_positive pass0 (pa_cons (pv 1) pa_nil)))) (pss_one (ps_ret pe_str)) pss_nil) (pss_cons (ps_if (PW.pt (pw_and (pt_cmp (pc_notN (pv 2))) (pw_and1 (pt_not (pt_val (pe_callR (ok_is_number T) (hr.mono (by decide)) rfl T.m_is_number T.k_is_number pass0 (pa_cons (pv 2) pa_nil))))))) (pss_one (ps_ret pe_str)) pss_nil) (pss_cons (ps_if (pt_not (pt_val (pe_callB call_isi (by rfl) T.b_isinstance (by decide +kernel) (pa_cons (pv 3) (pa_cons (pe_bltn (v := .ty "bool") rfl T.b_bool (by decide +kernel) rfl) pa_nil))))) (pss_one (ps_ret pe_str)) pss_nil) (pss_cons (ps_if (pt_not (pt_val (pe_callR (ok__are_known T) (hr.mono (by decide)) rfl T.m__are_known T.k__are_known pass0 (pa_cons (pv 4) (pa_cons (pv 0) pa_nil))))) (pss_one (ps_ret pe_str)) pss_nil) (pss_one (ps_ret pe_non))))))), ?_⟩
    refine ⟨_, rfl, .inl ⟨n, rfl, ?_⟩⟩
    refine ⟨_, rfl, ?_⟩
    rw [decide_eq_true O.n]
    refine iteF ⟨_, rfl, .inl ⟨st, rfl, ?_⟩⟩
    refine ⟨_, rfl, ?_⟩
    rw [decide_eq_true O.s]
    refine iteF ⟨_, rfl, _, rfl, ?_⟩
    have rest : ∀ {t : TS}, t { nx := fun _ H' => Q .non H', rt := Q } (start ["length", "shortest", "most", "private", "known"] [.int n, .int st, mostV m, .bl p, v]) H → t { nx := fun _ H' => Q .non H', rt := Q } (start ["length", "shortest", "most", "private", "known"] [.int n, .int st, mostV m, .bl p, v]) H := fun h => h
    cases m with
    | none =>
      refine iteF (iteF ?_)
      refine ⟨_, rfl, _, .ty "bool", _, _, true, rfl, .ty _, .base (.bl p), kit_ty (by decide +kernel), true, rfl, iteF ?_⟩
      refine ⟨_, rfl, _, rfl, v, n, ks, rfl, hk, O.l, fun H1 s1 => ?_⟩
      refine ⟨_, rfl, ?_⟩
      rw [O.k]
      exact iteF (q H1 s1)
    | some i =>
      refine iteT ?_
      refine ⟨_, rfl, .inl ⟨i, rfl, ?_⟩⟩
      refine ⟨_, rfl, ?_⟩
      have hi : 0 ≤ i := of_decide_eq_true O.m
      rw [decide_eq_true hi]
      refine iteF ?_
      refine ⟨_, rfl, _, .ty "bool", _, _, true, rfl, .ty _, .base (.bl p), kit_ty (by decide +kernel), true, rfl, iteF ?_⟩
      refine ⟨_, rfl, _, rfl, v, n, ks, rfl, hk, O.l, fun H1 s1 => ?_⟩
      refine ⟨_, rfl, ?_⟩
      rw [O.k]
      exact iteF (q H1 s1)
end
end DD

set_option Elab.async false
set_option linter.all false
set_option maxRecDepth 100000
set_option maxHeartbeats 2000000
namespace DD
open PySem PySem.Spec PyProof.Rows L2 StX
section
variable {P : Program} {w : World} {K : PySem.W.Frag} {mg : Str → Option Value} {base : Heap} {d : Ad}
theorem ff2 {a b : V} : putF "shortest" b ([("length", a)] : List (Str × V)) = ([("length", a), ("shortest", b)] : List (Str × V)) := putF_new (ks := ["length"]) rfl (by decide +kernel)
theorem ff3 {a b c : V} : putF "most" c ([("length", a), ("shortest", b)] : List (Str × V)) = ([("length", a), ("shortest", b), ("most", c)] : List (Str × V)) := putF_new (ks := ["length", "shortest"]) rfl (by decide +kernel)
theorem ff4 {a b c e : V} : putF "private" e ([("length", a), ("shortest", b), ("most", c)] : List (Str × V)) = ([("length", a), ("shortest", b), ("most", c), ("private", e)] : List (Str × V)) := putF_new (ks := ["length", "shortest", "most"]) rfl (by decide +kernel)
theorem ff5 {a b c e f : V} : putF "known" f ([("length", a), ("shortest", b), ("most", c), ("private", e)] : List (Str × V)) = ([("length", a), ("shortest", b), ("most", c), ("private", e), ("known", f)] : List (Str × V)) := putF_new (ks := ["length", "shortest", "most", "private"]) rfl (by decide +kernel)
def sp_Frame_init (d : Ad) (K : PySem.W.Frag) : Sp := fun vs H Q _ => ∃ (x dx : Addr) (f : Fr) (v : V), vs = [.ref x, .int f.n, .int f.s, mostV f.m, .bl f.p, v] ∧ H x = some (.ins d.C_Frame dx []) ∧ KnsV K H v f.ks ∧ FrOk f ∧
  ∀ H' t ws, (∀ b u, H b = some u → b ≠ x → H' b = some u) → H' x = some (.ins d.C_Frame dx (flF f.n f.s (mostV f.m) f.p (.ref t))) → SqT K H' t ws → IsRs knV H' ws f.ks → Q .non H'
theorem body_Frame_init (T : Txt K mg d) (cdv : Value) (A : Around) (outer : List Env) (s : Shared) (H : Hp) (vs : List V) (Q : VK) (E : XK) (hr : Room 5 (A.deeper (envOfC "Frame.__init__" (defScope s_Frame___init__) s.heap.objs.size d.f_Frame___init__ cdv))) (h : sp_Frame_init d K vs H Q E) :
    ∃ t, PSs (cxOf CX0 P w K mg base ["self", "length", "shortest", "most", "private", "known", "wrong"] "Frame.__init__" (defScope s_Frame___init__) d.f_Frame___init__ cdv A outer s H E).nox (defBody s_Frame___init__) t ∧ t { nx := fun _ H' => Q .non H', rt := Q } (start ["self", "length", "shortest", "most", "private", "known", "wrong"] vs) H := by
  obtain ⟨x, dx, f, v, rfl, hx, hv, O, q⟩ := h
  refine ⟨_, (pss_cons (ps_set (i := 6) sc_Frame___init__.nd rfl (by first | exact Or.inl rfl | exact Or.inr rfl) (pe_callR (ok__wrong_argument T) (hr.mono (by decide)) rfl T.m__wrong_argument T.k__wrong_argument pass0 (pa_cons (pv 1) (pa_cons (pv 2) (pa_cons (pv 3) (pa_cons (pv 4) (pa_cons (pv 5) pa_nil))))))) (pss_cons (ps_if (pt_cmp (pc_notN (pv 6))) (pss_one ps_dead) pss_nil) (pss_cons (ps_fld (pv 0) (pv 1) rfl) (pss_cons (ps_fld (pv 0) (pv 2) rfl) (pss_cons (ps_fld (pv 0) (pv 3) rfl) (pss_cons (ps_fld (pv 0) (pv 4) rfl) (pss_one (ps_fld (pv 0) (pe_callTy call_tuple_of rfl T.b_tuple (by decide +kernel) (pa_cons (pv 5) pa_nil)) rfl)))))))), ?_⟩
  refine ⟨_, rfl, _, rfl, _, rfl, _, rfl, _, rfl, f, v, rfl, hv, O, fun H1 s1 => ?_⟩
  refine ⟨_, rfl, _, rfl, iteF ?_⟩
  obtain ⟨a, ws, rfl, hw, hm⟩ := hv.mono s1
  have hx1 := s1 _ _ hx
  refine ⟨_, rfl, _, rfl, x, _, dx, _, rfl, hx1, T.cl_Frame, T.na_Frame_length, (by show 0 < 1000; decide), ?_⟩
  refine ⟨_, rfl, _, rfl, x, _, dx, _, rfl, upd_same, T.cl_Frame, T.na_Frame_shortest, (by show 1 < 1000; decide), ?_⟩
  rw [show putF "length" (V.int f.n) [] = ([("length", V.int f.n)] : List (Str × V)) from rfl, ff2]
  refine ⟨_, rfl, _, rfl, x, _, dx, _, rfl, upd_same, T.cl_Frame, T.na_Frame_most, (by show 2 < 1000; decide), ?_⟩
  rw [ff3]
  refine ⟨_, rfl, _, rfl, x, _, dx, _, rfl, upd_same, T.cl_Frame, T.na_Frame_private, (by show 3 < 1000; decide), ?_⟩
  rw [ff4]
  have k4 : ∀ {o1 o2 o3 o4 : HO} (b : Addr) (u : HO), H1 b = some u → b ≠ x → upd (upd (upd (upd H1 x o1) x o2) x o3) x o4 b = some u := fun {o1 o2 o3 o4} b u e hb => by
    rw [upd_ne hb, upd_ne hb, upd_ne hb, upd_ne hb]
    exact e
  have x4 : upd (upd (upd (upd H1 x (.ins d.C_Frame dx ([("length", V.int f.n)] : List (Str × V)))) x (.ins d.C_Frame dx ([("length", V.int f.n), ("shortest", V.int f.s)] : List (Str × V)))) x (.ins d.C_Frame dx ([("length", V.int f.n), ("shortest", V.int f.s), ("most", mostV f.m)] : List (Str × V)))) x (.ins d.C_Frame dx ([("length", V.int f.n), ("shortest", V.int f.s), ("most", mostV f.m), ("private", V.bl f.p)] : List (Str × V))) x = some (.ins d.C_Frame dx ([("length", V.int f.n), ("shortest", V.int f.s), ("most", mostV f.m), ("private", V.bl f.p)] : List (Str × V))) := upd_same
  have kk := fun b u e hb => k4 (o1 := .ins d.C_Frame dx ([("length", V.int f.n)] : List (Str × V))) (o2 := .ins d.C_Frame dx ([("length", V.int f.n), ("shortest", V.int f.s)] : List (Str × V))) (o3 := .ins d.C_Frame dx ([("length", V.int f.n), ("shortest", V.int f.s), ("most", mostV f.m)] : List (Str × V))) (o4 := .ins d.C_Frame dx ([("length", V.int f.n), ("shortest", V.int f.s), ("most", mostV f.m), ("private", V.bl f.p)] : List (Str × V))) b u e hb
  generalize upd (upd (upd (upd H1 x (.ins d.C_Frame dx ([("length", V.int f.n)] : List (Str × V)))) x (.ins d.C_Frame dx ([("length", V.int f.n), ("shortest", V.int f.s)] : List (Str × V)))) x (.ins d.C_Frame dx ([("length", V.int f.n), ("shortest", V.int f.s), ("most", mostV f.m)] : List (Str × V)))) x (.ins d.C_Frame dx ([("length", V.int f.n), ("shortest", V.int f.s), ("most", mostV f.m), ("private", V.bl f.p)] : List (Str × V))) = H4 at x4 kk ⊢
  have mts : ∀ {H2 : Hp}, (∀ b u, H1 b = some u → b ≠ x → H2 b = some u) → IsRs knV H2 ws f.ks := fun {H2} k => hm.on fun b zs e => k b _ e (ne_of e hx1 (by intro z; cases z))
  rcases hw with hw | hw
  · refine ⟨_, rfl, a, ws, rfl, .inl ⟨offL hw hx1 kk, fun l nl => ?_⟩⟩
    have hlx : x ≠ l := ne_of_none x4 nl
    refine ⟨_, rfl, x, _, dx, _, rfl, (by rw [upd_ne hlx]; exact x4), T.cl_Frame, T.na_Frame_known, (by show 4 < 1000; decide), ?_⟩
    rw [ff5]
    have kp : ∀ (o : HO) (b : Addr) (u : HO), H1 b = some u → b ≠ x → upd (upd H4 l (.tup ws)) x o b = some u := fun o b u e hb => by
      have e4 := kk b u e hb
      rw [upd_ne hb, upd_ne (ne_of_none e4 nl)]
      exact e4
    refine q _ l ws (fun b u e hb => kp _ b u (s1 _ _ e) hb) upd_same (.inl (.inl ?_)) (mts (kp _))
    rw [upd_ne (Ne.symm hlx)]
    exact upd_same
  · refine ⟨_, rfl, a, ws, rfl, .inr ⟨offT hw hx1 kk, ?_⟩⟩
    refine ⟨_, rfl, x, _, dx, _, rfl, x4, T.cl_Frame, T.na_Frame_known, (by show 4 < 1000; decide), ?_⟩
    rw [ff5]
    have kp : ∀ (o : HO) (b : Addr) (u : HO), H1 b = some u → b ≠ x → upd H4 x o b = some u := fun o b u e hb => by
      rw [upd_ne hb]
      exact kk b u e hb
    exact q _ a ws (fun b u e hb => kp _ b u (s1 _ _ e) hb) upd_same (offT hw hx1 (kp _)) (mts (kp _))
theorem len_Frame_init {vs : List V} {H : Hp} {Q : VK} {E : XK} (h : sp_Frame_init d K vs H Q E) : vs.length = 6 := by obtain ⟨_, _, _, _, rfl, _⟩ := h; rfl
theorem ok_Frame_init5 (T : Txt K mg d) : FnR P w K mg base CX0 6 d.f_Frame___init__ (sp_Frame_init d K) :=
  mkRD 6 4 T.F_Frame___init__ (by simp [dv_Frame]) rfl sc_Frame___init__ (fun vs H Q E h => len_Frame_init h)
    (fun _ _ _ _ _ _ _ us its h1 h2 => match us, its, h1, h2 with | [_, _, _, _, _, _], [_, _, _, _], _, _ => ⟨_, rfl, rfl⟩)
    (fun vs H Q E h => by rw [show (dv_Frame d).drop 4 = [] from rfl, List.append_nil]; exact h)
    (fun cdv A outer s H vs Q E hr h => let ⟨t, h1, h2⟩ := body_Frame_init T cdv A outer s H vs Q E hr h; ⟨t, h1.nox, h2⟩)
theorem ok_Frame_init1 (T : Txt K mg d) : FnR P w K mg base CX0 6 d.f_Frame___init__ (fun vs H Q E => sp_Frame_init d K (vs ++ [.int 1, .non, .bl false, .ref d.z_Frame]) H Q E) :=
  mkRD 2 0 T.F_Frame___init__ (by simp [dv_Frame]) rfl sc_Frame___init__ (fun vs H Q E h => len_Frame_init h)
    (fun _ _ _ _ _ _ _ us its h1 h2 => match us, its, h1, h2 with | [_, _], [_, _, _, _], _, _ => ⟨_, rfl, rfl⟩)
    (fun vs H Q E h => h)
    (fun cdv A outer s H vs Q E hr h => let ⟨t, h1, h2⟩ := body_Frame_init T cdv A outer s H vs Q E hr h; ⟨t, h1.nox, h2⟩)
theorem made_frame' {H1 : Hp} {f : Fr} {v : V} {W : VK} {E : XK} {x dx : Addr} (hv : KnsV K H1 v f.ks) (O : FrOk f) (nx : H1 x = none) (ndx : H1 dx = none) (ne : dx ≠ x) (q : ∀ H', Same H1 H' → IsFrame d K H' (.ref x) f → W .non H') :
    sp_Frame_init d K [.ref x, .int f.n, .int f.s, mostV f.m, .bl f.p, v] (upd (upd H1 dx (.own x)) x (.ins d.C_Frame dx [])) W E := by
  have s0 : Same H1 (upd (upd H1 dx (.own x)) x (.ins d.C_Frame dx [])) := Same.new' (Same.new ndx) (by rw [upd_ne (Ne.symm ne)]; exact nx)
  refine ⟨x, dx, f, v, rfl, upd_same, hv.mono s0, O, fun H' t ws k1 k2 k3 k4 => ?_⟩
  have s1 : Same H1 H' := fun b u e => k1 b u (s0 b u e) (ne_of_none e nx)
  exact q H' s1 ⟨x, dx, t, ws, rfl, k2, k3, k4⟩
abbrev ksF : List Str := ["length", "shortest", "most", "private", "known"]
theorem lkF_length {n s : Int} {m : V} {p : Bool} {t : V} : (flF n s m p t).lookup ("length" : Str) = some (V.int n) := look_at rfl (by decide +kernel : ksF.findIdx? (· == ("length" : Str)) = some 0) rfl
theorem lkF_shortest {n s : Int} {m : V} {p : Bool} {t : V} : (flF n s m p t).lookup ("shortest" : Str) = some (V.int s) := look_at rfl (by decide +kernel : ksF.findIdx? (· == ("shortest" : Str)) = some 1) rfl
theorem lkF_most {n s : Int} {m : V} {p : Bool} {t : V} : (flF n s m p t).lookup ("most" : Str) = some m := look_at rfl (by decide +kernel : ksF.findIdx? (· == ("most" : Str)) = some 2) rfl
theorem lkF_private {n s : Int} {m : V} {p : Bool} {t : V} : (flF n s m p t).lookup ("private" : Str) = some (V.bl p) := look_at rfl (by decide +kernel : ksF.findIdx? (· == ("private" : Str)) = some 3) rfl
theorem lkF_known {n s : Int} {m : V} {p : Bool} {t : V} : (flF n s m p t).lookup ("known" : Str) = some t := look_at rfl (by decide +kernel : ksF.findIdx? (· == ("known" : Str)) = some 4) rfl
theorem lkF_no {m : Str} {n s : Int} {mo : V} {p : Bool} {t : V} (h : ksF.contains m = false) : (flF n s mo p t).lookup m = none := look_no rfl h
/-- one more known tick -/
def more (f : Fr) (k : Kn) : Fr := { f with ks := f.ks ++ [k] }
def sp_Frame_knowing (d : Ad) (K : PySem.W.Frag) : Sp := fun vs H Q _ => ∃ (v : V) (f : Fr) (k : Kn), vs = [v, .int k.1, .bl k.2] ∧ IsFrame d K H v f ∧ FrOk (more f k) ∧ ∀ v' H', Same H H' → IsFrame d K H' v' (more f k) → Q v' H'
theorem ok_Frame_knowing (T : Txt K mg d) : FnR P w K mg base CX0 8 d.f_Frame_knowing (sp_Frame_knowing d K) := by
  refine mkR T.F_Frame_knowing sc_Frame_knowing (fun vs H Q E h => ?_) (fun _ _ _ _ _ _ us hl => match us, hl with | [_, _, _], _ => rfl) (fun cdv A outer s H vs Q E hr h => ?_)
  · obtain ⟨_, _, _, rfl, _⟩ := h
    rfl
  · obtain ⟨v, f, k, rfl, ⟨a, dx, t, vs, rfl, ha, ht, hm⟩, O, q⟩ := h
    refine ⟨_, (pss_one (ps_ret (pe_makeR T.mk_Frame (ok_Frame_init5 T) (hr.mono (by decide)) rfl T.m_Frame pass0 (pa_cons (pe_fld (pv 0) rfl) (pa_cons (pe_fld (pv 0) rfl) (pa_cons (pe_fld (pv 0) rfl) (pa_cons (pe_fld (pv 0) rfl) (pa_cons (pe_op op_catA (pe_fld (pv 0) rfl) (pe_tup (pa_cons (pe_tup (pa_cons (pv 1) (pa_cons (pv 2) pa_nil))) pa_nil))) pa_nil)))))))), ?_⟩
    refine ⟨_, rfl, _, _, _, _, _, rfl, ha, T.cl_Frame, T.na_Frame_length, lkF_length, ?_⟩
    refine ⟨_, rfl, _, _, _, _, _, rfl, ha, T.cl_Frame, T.na_Frame_shortest, lkF_shortest, ?_⟩
    refine ⟨_, rfl, _, _, _, _, _, rfl, ha, T.cl_Frame, T.na_Frame_most, lkF_most, ?_⟩
    refine ⟨_, rfl, _, _, _, _, _, rfl, ha, T.cl_Frame, T.na_Frame_private, lkF_private, ?_⟩
    refine ⟨_, rfl, _, _, _, _, _, rfl, ha, T.cl_Frame, T.na_Frame_known, lkF_known, ?_⟩
    refine ⟨_, rfl, _, rfl, (by show 2 ≤ sizeLine; decide), fun p1 n1 => ⟨(by show 1 ≤ sizeLine; decide), fun p2 n2 => ?_⟩⟩
    have s1 := Same.new (o := .tup [.int k.1, .bl k.2]) n1
    have s2 := Same.new (o := .tup [.ref p1]) n2
    have s12 := s1.trans s2
    have hl := O.l
    have hfl : f.ks.length + 1 ≤ 1000 := by simpa [more] using hl
    have hvl : vs.length = f.ks.length := hm.1
    have hm12 := hm.mono s12
    have one : IsRs knV (upd (upd H p1 (.tup [.int k.1, .bl k.2])) p2 (.tup [.ref p1])) [.ref p1] [k] := .one ⟨p1, rfl, s2 _ _ upd_same⟩
    refine ⟨t, p2, vs, [.ref p1], rfl, rfl, Same.tup s12 ht, .inl (.inl upd_same), sz (by show vs.length + 1 ≤ 100000; omega), fun e => ?_, fun _ e => (by cases e), fun _ _ p3 n3 => ?_⟩
    · have e2 : f.ks = [] := List.length_eq_zero_iff.mp (by rw [← hvl, e]; rfl)
      exact fun x dx nx ndx ne => made_frame' (f := more f k) ⟨p2, _, rfl, .inr (.inl (.inl upd_same)), by show IsRs knV _ _ (f.ks ++ [k]); rw [e2]; exact one⟩ O nx ndx ne fun H' e F => ⟨rfl, q _ _ (s12.trans e) F⟩
    · have s3 := Same.new (o := .tup (vs ++ [.ref p1])) n3
      exact fun x dx nx ndx ne => made_frame' (f := more f k) ⟨p3, _, rfl, .inr (.inl (.inl upd_same)), (hm12.append one).mono s3⟩ O nx ndx ne fun H' e F => ⟨rfl, q _ _ (s12.trans (s3.trans e)) F⟩
/-! ### == of frames -/
def knD (k : Kn) : PyData := .tuple [.int k.1, .bool k.2]
def ksD (ks : List Kn) : PyData := .tuple (ks.map knD)
def mostD : Option Int → PyData
  | none => .none
  | some i => .int i
theorem dp_most {H : Hp} {m : Option Int} : Dp K H (mostV m) (mostD m) := by
  cases m with
  | none => exact .non
  | some i => exact .int i
theorem shaped_most {m : Option Int} : SeqAt.shaped (mostD m) = true := by cases m <;> rfl
theorem eqv_most {m m' : Option Int} : PyData.eqv (mostD m) (mostD m') = decide (m = m') := by
  rw [Bool.eq_iff_iff]
  cases m <;> cases m' <;> simp [mostD, PyData.eqv]
theorem dp_kns {H : Hp} : ∀ {vs : List V} {ks : List Kn}, IsRs knV H vs ks → DpAll K H vs (ks.map knD)
  | [], [], _ => .nil
  | [], m :: ms, h => absurd h.1 (by simp)
  | v :: vs, [], h => absurd h.1 (by simp)
  | v :: vs, m :: ms, h => by
    obtain ⟨a, rfl, ha⟩ := h.2 0 v m rfl rfl
    refine .cons (.tup (.inl (.inl ha)) (.cons (.int _) (.cons (.bl _) .nil))) (dp_kns ⟨by simpa using h.1, fun i v' m' h1 h2 => h.2 (i + 1) v' m' h1 h2⟩)
theorem lay_kns : ∀ {ks : List Kn}, PyData.canLayAll0 (ks.map knD) = true
  | [] => rfl
  | m :: ks => by
    show ((PyData.canLay0 (.int m.1) && (PyData.canLay0 (.bool m.2) && PyData.canLayAll0 [])) && PyData.canLayAll0 (ks.map knD)) = true
    rw [lay_kns (ks := ks)]
    rfl
theorem depth_kns : ∀ {ks : List Kn}, PyData.depthAll (ks.map knD) ≤ 1
  | [] => by decide
  | m :: ks => by
    show max (PyData.depth (knD m)) (PyData.depthAll (ks.map knD)) ≤ 1
    have h := depth_kns (ks := ks)
    have h2 : PyData.depth (knD m) = 1 := rfl
    omega
theorem shaped_kns {ks : List Kn} : SeqAt.shaped (ksD ks) = true := by
  unfold SeqAt.shaped
  rw [Bool.and_eq_true_iff]
  refine ⟨lay_kns, decide_eq_true ?_⟩
  show PyData.depthAll (ks.map knD) + 1 ≤ 64
  have := depth_kns (ks := ks)
  omega
theorem eqv_kn {m n : Kn} : PyData.eqv (knD m) (knD n) = decide (m = n) := by
  obtain ⟨a, c⟩ := m
  obtain ⟨a', c'⟩ := n
  show (PyData.eqv (.int a) (.int a') && (PyData.eqv (.bool c) (.bool c') && true)) = _
  rw [Bool.eq_iff_iff]
  simp [PyData.eqv]
theorem eqv_kns : ∀ {bs cs : List Kn}, PyData.eqvAll (bs.map knD) (cs.map knD) = decide (bs = cs)
  | [], [] => by simp [PyData.eqvAll]
  | [], c :: cs => by simp [PyData.eqvAll]
  | b :: bs, [] => by simp [PyData.eqvAll]
  | b :: bs, c :: cs => by
    show (PyData.eqv (knD b) (knD c) && PyData.eqvAll (bs.map knD) (cs.map knD)) = _
    rw [eqv_kn, eqv_kns, Bool.eq_iff_iff]
    simp
theorem eqv_ks {bs cs : List Kn} : PyData.eqv (ksD bs) (ksD cs) = decide (bs = cs) := eqv_kns
theorem ty_frame (T : Txt K mg d) {H : Hp} {a dx : Addr} {fs : List (Str × V)} (ha : H a = some (.ins d.C_Frame dx fs)) : TyX K H (.ref a) (.ref d.C_Frame) := .base (.ins ha T.cl_Frame T.ic_Frame T.oc1 T.oc2 T.o_Frame)
def sp_Frame_eq (d : Ad) (K : PySem.W.Frag) : Sp := fun vs H Q _ => ∃ (v v' : V) (f f' : Fr), vs = [v, v'] ∧ IsFrame d K H v f ∧ IsFrame d K H v' f' ∧ Q (.bl (decide (f = f'))) H
theorem ok_Frame___eq__ (T : Txt K mg d) : FnR P w K mg base CX0 1 d.f_Frame___eq__ (sp_Frame_eq d K) := by
  refine mkR T.F_Frame___eq__ sc_Frame___eq__ (fun vs H Q E h => ?_) (fun _ _ _ _ _ _ us hl => match us, hl with | [_, _], _ => rfl) (fun cdv A outer s H vs Q E hr h => ?_)
  · obtain ⟨_, _, _, _, rfl, _⟩ := h
    rfl
  · obtain ⟨v, v', ⟨n, st, m, p, ks⟩, ⟨n', st', m', p', ks'⟩, rfl, ⟨a, dx, t, vs, rfl, ha, ht, hm⟩, ⟨b, dy, t', vs', rfl, hb, ht', hm'⟩, q⟩ := h
    have hu := hr.units
    refine ⟨_, (pss_one (ps_ret (pe_and (pe_callB call_isi (by rfl) T.b_isinstance (by decide +kernel) (pa_cons (pv 1) (pa_cons (pe_glob (v := .ref d.C_Frame) rfl T.m_Frame rfl) pa_nil))) (pe_and (pe_cmpR op_eq (pe_fld (pv 0) rfl) (pe_fld (pv 1) rfl) (nomark _)) (pe_and (pe_cmpR op_eq (pe_fld (pv 0) rfl) (pe_fld (pv 1) rfl) (nomark _)) (pe_and (pe_cmpR (op_eqD hu) (pe_fld (pv 0) rfl) (pe_fld (pv 1) rfl) (nomark _)) (pe_and (pe_cmpR op_eq (pe_fld (pv 0) rfl) (pe_fld (pv 1) rfl) (nomark _)) (pe_one (pe_cmpR (op_eqD hu) (pe_fld (pv 0) rfl) (pe_fld (pv 1) rfl) (nomark _)))))))))), ?_⟩
    refine ⟨_, rfl, _, .ref d.C_Frame, _, _, true, rfl, .own _, ty_frame T hb, isi_own, true, rfl, iteT ?_⟩
    refine ⟨_, rfl, _, _, _, _, _, rfl, ha, T.cl_Frame, T.na_Frame_length, lkF_length, ?_⟩
    refine ⟨_, rfl, _, _, _, _, _, rfl, hb, T.cl_Frame, T.na_Frame_length, lkF_length, ?_⟩
    refine ⟨rfl, _, rfl, ?_⟩
    by_cases e1 : n = n'
    case neg =>
      rw [decide_eq_false (fun e => e1 (V.int.inj e))]
      rw [decide_eq_false (fun e => e1 (congrArg Fr.n e))] at q
      exact iteF q
    subst e1
    rw [decide_eq_true (show V.int n = V.int n from rfl)]
    refine iteT ?_
    refine ⟨_, rfl, _, _, _, _, _, rfl, ha, T.cl_Frame, T.na_Frame_shortest, lkF_shortest, ?_⟩
    refine ⟨_, rfl, _, _, _, _, _, rfl, hb, T.cl_Frame, T.na_Frame_shortest, lkF_shortest, ?_⟩
    refine ⟨rfl, _, rfl, ?_⟩
    by_cases e2 : st = st'
    case neg =>
      rw [decide_eq_false (fun e => e2 (V.int.inj e))]
      rw [decide_eq_false (fun e => e2 (congrArg Fr.s e))] at q
      exact iteF q
    subst e2
    rw [decide_eq_true (show V.int st = V.int st from rfl)]
    refine iteT ?_
    refine ⟨_, rfl, _, _, _, _, _, rfl, ha, T.cl_Frame, T.na_Frame_most, lkF_most, ?_⟩
    refine ⟨_, rfl, _, _, _, _, _, rfl, hb, T.cl_Frame, T.na_Frame_most, lkF_most, ?_⟩
    refine ⟨mostD m, mostD m', dp_most, dp_most, shaped_most, shaped_most, ?_⟩
    rw [eqv_most]
    refine ⟨_, rfl, ?_⟩
    by_cases e3 : m = m'
    case neg =>
      rw [decide_eq_false e3]
      rw [decide_eq_false (fun e => e3 (congrArg Fr.m e))] at q
      exact iteF q
    subst e3
    rw [decide_eq_true (rfl : m = m)]
    refine iteT ?_
    refine ⟨_, rfl, _, _, _, _, _, rfl, ha, T.cl_Frame, T.na_Frame_private, lkF_private, ?_⟩
    refine ⟨_, rfl, _, _, _, _, _, rfl, hb, T.cl_Frame, T.na_Frame_private, lkF_private, ?_⟩
    refine ⟨rfl, _, rfl, ?_⟩
    by_cases e4 : p = p'
    case neg =>
      rw [decide_eq_false (fun e => e4 (V.bl.inj e))]
      rw [decide_eq_false (fun e => e4 (congrArg Fr.p e))] at q
      exact iteF q
    subst e4
    rw [decide_eq_true (show V.bl p = V.bl p from rfl)]
    refine iteT ?_
    refine ⟨_, rfl, _, _, _, _, _, rfl, ha, T.cl_Frame, T.na_Frame_known, lkF_known, ?_⟩
    refine ⟨_, rfl, _, _, _, _, _, rfl, hb, T.cl_Frame, T.na_Frame_known, lkF_known, ?_⟩
    refine ⟨ksD ks, ksD ks', .tup ht (dp_kns hm), .tup ht' (dp_kns hm'), shaped_kns, shaped_kns, ?_⟩
    rw [eqv_ks]
    have e : decide (ks = ks') = decide (({ n := n, s := st, m := m, p := p, ks := ks } : Fr) = { n := n, s := st, m := m, p := p, ks := ks' }) := by
      rw [Bool.eq_iff_iff]
      simp
    rw [e]
    exact q
end
end DD

set_option Elab.async false
set_option linter.all false
set_option maxRecDepth 100000
set_option maxHeartbeats 2000000
namespace DD
open PySem PySem.Spec PyProof.Rows L2 StX
/-! ### texts of frames -/
abbrev SPC : Str := " "
abbrev J (l : List Str) : Str := Str.join SPC l
def phr (a y : Str) : Str := a ++ SPC ++ y
def Rj (l l' : List Str) : Prop := (l = [] ↔ l' = []) ∧ J l = J l'
theorem Rj.refl (l : List Str) : Rj l l := ⟨Iff.rfl, rfl⟩
theorem Rj.cons {l l' : List Str} (x : Str) (r : Rj l l') : Rj (x :: l) (x :: l') := by
  refine ⟨by simp, ?_⟩
  obtain ⟨r1, r2⟩ := r
  cases l with
  | nil =>
    obtain rfl := r1.mp rfl
    rfl
  | cons y l =>
    cases l' with
    | nil => exact absurd (r1.mpr rfl) (by simp)
    | cons y' l' =>
      show x ++ SPC ++ J (y :: l) = x ++ SPC ++ J (y' :: l')
      rw [r2]
theorem Rj.phr {l l' : List Str} (a y : Str) (r : Rj l l') : Rj (phr a y :: l) (a :: y :: l') := by
  refine ⟨by simp, ?_⟩
  have h := (r.cons y).2
  rw [show J (DD.phr a y :: l) = a ++ SPC ++ J (y :: l) from StrLaws.join_shift SPC a y l]
  show _ = a ++ SPC ++ J (y :: l')
  rw [h]
def kw (b : Bool) : Str := if b = true then "taken" else "free"
def kP (ks : List Kn) : List Str := ks.map fun k => phr (kw k.2) (intT k.1)
def kW (ks : List Kn) : List Str := ks.flatMap fun k => [kw k.2, intT k.1]
def pW (p : Bool) : List Str := if p = true then ["private"] else []
def mP : Option Int → List Str
  | none => []
  | some i => [phr "most" (intT i)]
def mW : Option Int → List Str
  | none => []
  | some i => ["most", intT i]
def fP (f : Fr) : List Str := phr "length" (intT f.n) :: phr "shortest" (intT f.s) :: (mP f.m ++ (pW f.p ++ kP f.ks))
def tailW (m : Option Int) (p : Bool) (ks : List Kn) : List Str := mW m ++ (pW p ++ kW ks)
def fW (f : Fr) : List Str := "length" :: intT f.n :: "shortest" :: intT f.s :: tailW f.m f.p f.ks
theorem rj_k : ∀ ks, Rj (kP ks) (kW ks)
  | [] => .refl _
  | k :: ks => (rj_k ks).phr _ _
theorem rj_p {p : Bool} {l l' : List Str} (r : Rj l l') : Rj (pW p ++ l) (pW p ++ l') := by
  cases p with
  | false => exact r
  | true => exact r.cons _
theorem rj_m {m : Option Int} {l l' : List Str} (r : Rj l l') : Rj (mP m ++ l) (mW m ++ l') := by
  cases m with
  | none => exact r
  | some i => exact r.phr _ _
theorem fP_fW (f : Fr) : J (fP f) = J (fW f) := (((rj_m (rj_p (rj_k f.ks))).phr _ _).phr _ _).2
def frameText (f : Fr) : Str := J (fW f)
/-- numbers that a text can have -/
structure FrSm (f : Fr) (k : Int) : Prop where
  n0 : 0 ≤ f.n
  n : f.n ≤ k
  s0 : 0 ≤ f.s
  s : f.s ≤ k
  m : ∀ i, f.m = some i → 0 ≤ i ∧ i ≤ k
  k : ∀ x ∈ f.ks, 0 ≤ x.1 ∧ x.1 ≤ k
  l : f.ks.length ≤ 1000
theorem free_int {i : Int} (h : 0 ≤ i) : 32 ∉ TL.tl (intT i) := by rw [tl_int h]; exact TL.numL_free (by omega)
theorem fW_free {f : Fr} {k : Int} (z : FrSm f k) : ∀ x ∈ fW f, 32 ∉ TL.tl x := by
  intro x hx
  unfold fW tailW at hx
  rw [List.mem_cons, List.mem_cons, List.mem_cons, List.mem_cons, List.mem_append, List.mem_append] at hx
  rcases hx with rfl | rfl | rfl | rfl | hx | hx | hx
  · decide +kernel
  · exact free_int z.n0
  · decide +kernel
  · exact free_int z.s0
  · cases e : f.m with
    | none => rw [e] at hx; cases hx
    | some i =>
      rw [e] at hx
      rcases List.mem_cons.mp hx with rfl | hx
      · decide +kernel
      · obtain rfl := List.mem_singleton.mp hx
        exact free_int (z.m i e).1
  · unfold pW at hx
    split at hx
    · obtain rfl := List.mem_singleton.mp hx
      decide +kernel
    · cases hx
  · obtain ⟨y, hy, hx⟩ := List.mem_flatMap.mp hx
    rcases List.mem_cons.mp hx with rfl | hx
    · cases y.2 <;> decide +kernel
    · obtain rfl := List.mem_singleton.mp hx
      exact free_int (z.k y hy).1
theorem split_frame {f : Fr} {k : Int} (z : FrSm f k) : Txt.split (frameText f) SPC = fW f := by
  have h := TL.split_join (y := SPC) (s := 32) (S := []) (by decide +kernel) (by decide +kernel) (parts := fW f) (by simp [fW]) (fW_free z)
  rw [TL.join_eq] at h
  exact h
theorem intT_inj {a b : Int} (ha : 0 ≤ a) (hb : 0 ≤ b) (h : intT a = intT b) : a = b := by
  have e := congrArg TL.tl h
  rw [tl_int ha, tl_int hb] at e
  have := TL.numL_inj e
  omega
theorem kw_inj {b c : Bool} (h : kw b = kw c) : b = c := by
  revert h
  cases b <;> cases c <;> decide +kernel
theorem kW_inj : ∀ {ks ks' : List Kn}, (∀ x ∈ ks, 0 ≤ x.1) → (∀ x ∈ ks', 0 ≤ x.1) → kW ks = kW ks' → ks = ks'
  | [], [], _, _, _ => rfl
  | [], k :: ks, _, _, h => absurd h (by simp [kW])
  | k :: ks, [], _, _, h => absurd h (by simp [kW])
  | k :: ks, k' :: ks', h1, h2, h => by
    have e : kw k.2 :: intT k.1 :: kW ks = kw k'.2 :: intT k'.1 :: kW ks' := h
    have e1 := List.cons.inj e
    have e2 := List.cons.inj e1.2
    have a := intT_inj (h1 k (List.mem_cons_self ..)) (h2 k' (List.mem_cons_self ..)) e2.1
    have b := kw_inj e1.1
    rw [kW_inj (fun x hx => h1 x (List.mem_cons_of_mem _ hx)) (fun x hx => h2 x (List.mem_cons_of_mem _ hx)) e2.2, show k = k' from Prod.ext a b]
theorem kW_head {ks : List Kn} {x : Str} {l : List Str} (h : kW ks = x :: l) : x = "taken" ∨ x = "free" := by
  cases ks with
  | nil => cases h
  | cons k ks =>
    have e : kw k.2 :: intT k.1 :: kW ks = x :: l := h
    rw [← (List.cons.inj e).1]
    cases k.2
    · exact .inr rfl
    · exact .inl rfl
theorem pk_inj {p p' : Bool} {ks ks' : List Kn} (h1 : ∀ x ∈ ks, 0 ≤ x.1) (h2 : ∀ x ∈ ks', 0 ≤ x.1) (h : pW p ++ kW ks = pW p' ++ kW ks') : p = p' ∧ ks = ks' := by
  cases p <;> cases p'
  · exact ⟨rfl, kW_inj h1 h2 h⟩
  · rcases kW_head (show kW ks = ("private" : Str) :: kW ks' from h) with e | e <;> exact absurd e (by decide +kernel)
  · rcases kW_head (show kW ks' = ("private" : Str) :: kW ks from h.symm) with e | e <;> exact absurd e (by decide +kernel)
  · exact ⟨rfl, kW_inj h1 h2 (List.cons.inj (show ("private" : Str) :: kW ks = ("private" : Str) :: kW ks' from h)).2⟩
theorem pk_head {p : Bool} {ks : List Kn} {x : Str} {l : List Str} (h : pW p ++ kW ks = x :: l) : x ≠ "most" := by
  cases p with
  | false => rcases kW_head (show kW ks = x :: l from h) with rfl | rfl <;> decide +kernel
  | true =>
    rw [← (List.cons.inj (show ("private" : Str) :: kW ks = x :: l from h)).1]
    decide +kernel
theorem fW_inj {f f' : Fr} {k k' : Int} (z : FrSm f k) (z' : FrSm f' k') (h : fW f = fW f') : f = f' := by
  obtain ⟨n, s, m, p, ks⟩ := f
  obtain ⟨n', s', m', p', ks'⟩ := f'
  have a1 := (List.cons.inj h).2
  have a2 := List.cons.inj a1
  have a3 := (List.cons.inj a2.2).2
  have a4 := List.cons.inj a3
  obtain rfl := intT_inj z.n0 z'.n0 a2.1
  obtain rfl := intT_inj z.s0 z'.s0 a4.1
  have hk := fun x hx => (z.k x hx).1
  have hk' := fun x hx => (z'.k x hx).1
  have a5 : tailW m p ks = tailW m' p' ks' := a4.2
  cases m with
  | none =>
    cases m' with
    | none =>
      obtain ⟨rfl, rfl⟩ := pk_inj hk hk' a5
      rfl
    | some i => exact absurd rfl (pk_head (show pW p ++ kW ks = ("most" : Str) :: (intT i :: (pW p' ++ kW ks')) from a5))
  | some j =>
    cases m' with
    | none => exact absurd rfl (pk_head (show pW p' ++ kW ks' = ("most" : Str) :: (intT j :: (pW p ++ kW ks)) from a5.symm))
    | some i =>
      have b := List.cons.inj (List.cons.inj (show ("most" : Str) :: intT j :: (pW p ++ kW ks) = ("most" : Str) :: intT i :: (pW p' ++ kW ks') from a5)).2
      obtain rfl := intT_inj (z.m j rfl).1 (z'.m i rfl).1 b.1
      obtain ⟨rfl, rfl⟩ := pk_inj hk hk' b.2
      rfl
theorem frame_eq {f f' : Fr} {k k' : Int} (z : FrSm f k) (z' : FrSm f' k') : decide (f = f') = decide (V.str (frameText f) = V.str (frameText f')) := by
  rw [Bool.eq_iff_iff, decide_eq_true_eq, decide_eq_true_eq]
  constructor
  · rintro rfl
    rfl
  · intro e
    have h : Txt.split (frameText f) SPC = Txt.split (frameText f') SPC := by rw [V.str.inj e]
    rw [split_frame z, split_frame z'] at h
    exact fW_inj z z' h
end DD

set_option Elab.async false
set_option linter.all false
set_option maxRecDepth 100000
set_option maxHeartbeats 2000000
namespace DD
open PySem PySem.Spec PyProof.Rows L2 StX
theorem fs_phr {a x : Str} {b : Str} (e : b = a ++ SPC) : Str.empty ++ b ++ x = phr a x := by
  rw [Str.empty_append, e]
  rfl
theorem phr_len {a x : Str} {n m : Nat} (ha : a.length ≤ n) (hx : x.length ≤ m) : (phr a x).length ≤ n + 1 + m := len_app (len_app ha (by decide +kernel)) hx
theorem kP_len {ks : List Kn} : (kP ks).length = ks.length := by simp [kP]
/-- how long a text can be -/
def FrLn (f : Fr) : Prop := FrSm f 1000
section
variable {P : Program} {w : World} {K : PySem.W.Frag} {mg : Str → Option Value} {base : Heap} {d : Ad}
def sp_pair_words : Sp := fun vs H Q _ => ∃ v k, vs = [v] ∧ IsRw knV H v k ∧ 0 ≤ k.1 ∧ k.1 ≤ 1000 ∧ Q (.str (phr (kw k.2) (intT k.1))) H
theorem ok__pair_words (T : Txt K mg d) : FnR P w K mg base CX0 1 d.f__pair_words sp_pair_words := by
  refine mkR T.F__pair_words sc__pair_words (fun vs H Q E h => ?_) (fun _ _ _ _ _ _ us hl => match us, hl with | [_], _ => rfl) (fun cdv A outer s H vs Q E hr h => ?_)
  · obtain ⟨_, _, rfl, _⟩ := h
    rfl
  · obtain ⟨v, ⟨t, b⟩, rfl, ⟨a, rfl, ha⟩, h0, h1, q⟩ := h
    refine ⟨_, (pss_cons (ps_asg (pv 0) (pg_tup rfl (pgs_cons (pg_name (i := 1) sc__pair_words.nd rfl (by first | exact Or.inl rfl | exact Or.inr rfl)) (pgs_cons (pg_name (i := 2) sc__pair_words.nd rfl (by first | exact Or.inl rfl | exact Or.inr rfl)) pgs_nil)))) (pss_one (ps_ret (pe_ifExp (pt_val (pv 2)) (pe_joined (PJ.cons pe_str (PJ.cons (pe_fmt (pv 1)) PJ.nil))) (pe_joined (PJ.cons pe_str (PJ.cons (pe_fmt (pv 1)) PJ.nil))))))), ?_⟩
    refine ⟨_, rfl, a, _, rfl, .inl (.inl ha), rfl, _, _, rfl, _, _, rfl, rfl, ?_⟩
    have lt := len_int h0 h1
    refine ⟨_, rfl, b, rfl, ?_⟩
    cases b with
    | true =>
      refine iteT ?_
      refine ⟨_, rfl, sz (by decide), _, rfl, .inr ⟨t, rfl, log_int h0 h1, _, rfl, sz (Nat.le_trans (len_app (n := 6) (by decide +kernel) lt) (by decide)), ?_⟩⟩
      rw [fs_phr (a := "taken") (by decide +kernel)]
      exact q
    | false =>
      refine iteF ?_
      refine ⟨_, rfl, sz (by decide), _, rfl, .inr ⟨t, rfl, log_int h0 h1, _, rfl, sz (Nat.le_trans (len_app (n := 5) (by decide +kernel) lt) (by decide)), ?_⟩⟩
      rw [fs_phr (a := "free") (by decide +kernel)]
      exact q
def sp_frame_words (d : Ad) (K : PySem.W.Frag) : Sp := fun vs H Q _ => ∃ (v : V) (f : Fr), vs = [v] ∧ IsFrame d K H v f ∧ FrLn f ∧ ∀ p H', Same H H' → H' p = some (.lst ((fP f).map V.str)) → Q (.ref p) H'
theorem ok__frame_words (T : Txt K mg d) : FnR P w K mg base CX0 2 d.f__frame_words (sp_frame_words d K) := by
  refine mkR T.F__frame_words sc__frame_words (fun vs H Q E h => ?_) (fun _ _ _ _ _ _ us hl => match us, hl with | [_], _ => rfl) (fun cdv A outer s H vs Q E hr h => ?_)
  · obtain ⟨_, _, rfl, _⟩ := h
    rfl
  · obtain ⟨v, f, rfl, ⟨a, dx, t, vs, rfl, ha, ht, hm⟩, z, q⟩ := h
    have hu := hr.units
    refine ⟨_, (pss_cons (ps_set (i := 1) sc__frame_words.nd rfl (by first | exact Or.inl rfl | exact Or.inr rfl) (pe_lst (pa_cons (pe_joined (PJ.cons pe_str (PJ.cons (pe_fmt (pe_fld (pv 0) rfl)) PJ.nil))) (pa_cons (pe_joined (PJ.cons pe_str (PJ.cons (pe_fmt (pe_fld (pv 0) rfl)) PJ.nil))) pa_nil)))) (pss_cons (ps_if (pt_cmp (pc_notN (pe_fld (pv 0) rfl))) (pss_one (ps_expr (pe_bm PySem.F.plainAttrs_list PySem.F.slot_list_append PySem.F.type_list_append mt_append (pv 1) (pa_cons (pe_joined (PJ.cons pe_str (PJ.cons (pe_fmt (pe_fld (pv 0) rfl)) PJ.nil))) pa_nil)))) pss_nil) (pss_cons (ps_if (pt_val (pe_fld (pv 0) rfl)) (pss_one (ps_expr (pe_bm PySem.F.plainAttrs_list PySem.F.slot_list_append PySem.F.type_list_append mt_append (pv 1) (pa_cons pe_str pa_nil)))) pss_nil) (pss_one (ps_ret (pe_op op_cat (pv 1) (pe_lc (own := [("pair", 2)]) rfl sc__frame_words.nd (pi_tup (pe_fld (pv 0) rfl)) (blkOk_by (N := ["frame", "words", "pair"]) (sc := defScope s__frame_words) (by decide +kernel)) (fun _ _ _ _ _ => (pg_name (i := 2) sc__frame_words.nd rfl (by first | exact Or.inl rfl | exact Or.inr rfl))) (fun _ _ _ _ _ => pts_nil) (fun _ _ _ _ _ => (pe_callR (ok__pair_words T) (hr.mono (by decide)) rfl T.m__pair_words T.k__pair_words pass0 (pa_cons (pv 2) pa_nil)))))))))), ?_⟩
    have ln := len_int z.n0 z.n
    have ls := len_int z.s0 z.s
    refine ⟨_, rfl, sz (by decide), _, rfl, _, _, _, _, _, rfl, ha, T.cl_Frame, T.na_Frame_length, lkF_length, .inr ⟨f.n, rfl, log_int z.n0 z.n, _, rfl, sz (Nat.le_trans (len_app (n := 7) (by decide +kernel) ln) (by decide)), ?_⟩⟩
    refine ⟨_, rfl, sz (by decide), _, rfl, _, _, _, _, _, rfl, ha, T.cl_Frame, T.na_Frame_shortest, lkF_shortest, .inr ⟨f.s, rfl, log_int z.s0 z.s, _, rfl, sz (Nat.le_trans (len_app (n := 9) (by decide +kernel) ls) (by decide)), ?_⟩⟩
    rw [fs_phr (a := "length") (b := "length ") (by decide +kernel), fs_phr (a := "shortest") (b := "shortest ") (by decide +kernel)]
    refine ⟨(by show 2 ≤ sizeLine; decide), fun l nl => ?_⟩
    obtain ⟨n, st, m, p, ks⟩ := f
    have s0 := Same.new (o := .lst [.str (phr "length" (intT n)), .str (phr "shortest" (intT st))]) nl
    refine ⟨_, rfl, _, _, _, _, _, rfl, s0 _ _ ha, T.cl_Frame, T.na_Frame_most, lkF_most, _, rfl, ?_⟩
    have hz : ks.length ≤ 1000 := z.l
    have hvl : vs.length = ks.length := hm.1
    cases m with
    | none =>
      refine iteF ?_
      have h1 : upd H l (.lst [V.str (phr "length" (intT n)), V.str (phr "shortest" (intT st))]) l = some (.lst [V.str (phr "length" (intT n)), V.str (phr "shortest" (intT st))]) := upd_same
      have s1 : Same H (upd H l (.lst [V.str (phr "length" (intT n)), V.str (phr "shortest" (intT st))])) := s0
      generalize upd H l (.lst [V.str (phr "length" (intT n)), V.str (phr "shortest" (intT st))]) = H1 at h1 s1 ⊢
      refine ⟨_, rfl, _, _, _, _, _, rfl, s1 _ _ ha, T.cl_Frame, T.na_Frame_private, lkF_private, p, rfl, ?_⟩
      cases p with
      | false =>
        refine iteF ?_
        have s2 := s1
        have h2 := h1
        generalize H1 = H2 at h2 s2 ⊢
        refine ⟨_, rfl, _, rfl, _, _, _, _, _, rfl, s2 _ _ ha, T.cl_Frame, T.na_Frame_known, lkF_known, t, rfl, ⟨vs, Same.tup s2 ht⟩, fun C nC => ?_⟩
        have nH := none_of s2 nC
        have ne : l ≠ C := ne_of_none h2 nC
        refine lc_tup (K := K) (a := t) (xs := vs) (fun j H3 => Same H H3 ∧ H3 l = some (.lst [V.str (phr "length" (intT n)), V.str (phr "shortest" (intT st))]) ∧ H3 C = some (.lst ((kP (ks.take j)).map V.str))) ⟨s2.trans (Same.new nC), (by rw [upd_ne ne]; exact h2), upd_same⟩ (fun j H3 _ h3 => Same.tup h3.1 ht) ?_ ?_
        · rintro j x H3 hx ⟨s3, h3, c3⟩
          obtain ⟨k, hk1, hk2⟩ := hm.get hx
          obtain ⟨k0, k1⟩ := z.k k (List.mem_of_getElem? hk1)
          refine ⟨rfl, ?_⟩
          refine ⟨_, rfl, x, k, rfl, hk2.on (fun b zs e => s3 _ _ e), k0, k1, _, c3, ?_, Same.mut s3 nH, by rw [upd_ne ne]; exact h3, ?_⟩
          · rw [List.length_map, kP_len, List.length_take]
            exact sz1000 (by omega)
          · rw [upd_same, takeSnoc hk1]
            simp [kP]
        · rintro H3 ⟨s3, h3, c3⟩
          rw [hvl, List.take_length] at c3
          refine ⟨l, C, _, _, rfl, rfl, h3, c3, ?_, fun r nr => ?_⟩
          · rw [List.length_map, kP_len]
            exact sz (by show 2 + _ ≤ 100000; omega)
          · exact q r _ (s3.trans (Same.new nr)) (by rw [upd_same]; rfl)
      | true =>
        refine iteT ?_
        refine ⟨_, rfl, .inl ⟨rfl, _, .inl (.inl h1)⟩, l, _, _, rfl, rfl, h1, sz1000 (by show 2 ≤ 1000; decide), ?_⟩
        have s2 := Same.mut (o := .lst [V.str (phr "length" (intT n)), V.str (phr "shortest" (intT st)), V.str ("private" : Str)]) s1 nl
        have h2 : upd H1 l (.lst [V.str (phr "length" (intT n)), V.str (phr "shortest" (intT st)), V.str ("private" : Str)]) l = some (.lst [V.str (phr "length" (intT n)), V.str (phr "shortest" (intT st)), V.str ("private" : Str)]) := upd_same
        rw [show ([V.str (phr "length" (intT n)), V.str (phr "shortest" (intT st))] ++ [V.str (Str.ofString "private")] : List V) = [V.str (phr "length" (intT n)), V.str (phr "shortest" (intT st)), V.str ("private" : Str)] from rfl]
        generalize upd H1 l (.lst [V.str (phr "length" (intT n)), V.str (phr "shortest" (intT st)), V.str ("private" : Str)]) = H2 at h2 s2 ⊢
        refine ⟨_, rfl, _, rfl, _, _, _, _, _, rfl, s2 _ _ ha, T.cl_Frame, T.na_Frame_known, lkF_known, t, rfl, ⟨vs, Same.tup s2 ht⟩, fun C nC => ?_⟩
        have nH := none_of s2 nC
        have ne : l ≠ C := ne_of_none h2 nC
        refine lc_tup (K := K) (a := t) (xs := vs) (fun j H3 => Same H H3 ∧ H3 l = some (.lst [V.str (phr "length" (intT n)), V.str (phr "shortest" (intT st)), V.str ("private" : Str)]) ∧ H3 C = some (.lst ((kP (ks.take j)).map V.str))) ⟨s2.trans (Same.new nC), (by rw [upd_ne ne]; exact h2), upd_same⟩ (fun j H3 _ h3 => Same.tup h3.1 ht) ?_ ?_
        · rintro j x H3 hx ⟨s3, h3, c3⟩
          obtain ⟨k, hk1, hk2⟩ := hm.get hx
          obtain ⟨k0, k1⟩ := z.k k (List.mem_of_getElem? hk1)
          refine ⟨rfl, ?_⟩
          refine ⟨_, rfl, x, k, rfl, hk2.on (fun b zs e => s3 _ _ e), k0, k1, _, c3, ?_, Same.mut s3 nH, by rw [upd_ne ne]; exact h3, ?_⟩
          · rw [List.length_map, kP_len, List.length_take]
            exact sz1000 (by omega)
          · rw [upd_same, takeSnoc hk1]
            simp [kP]
        · rintro H3 ⟨s3, h3, c3⟩
          rw [hvl, List.take_length] at c3
          refine ⟨l, C, _, _, rfl, rfl, h3, c3, ?_, fun r nr => ?_⟩
          · rw [List.length_map, kP_len]
            exact sz (by show 3 + _ ≤ 100000; omega)
          · exact q r _ (s3.trans (Same.new nr)) (by rw [upd_same]; rfl)
    | some i =>
      refine iteT ?_
      obtain ⟨i0, i1⟩ := z.m i rfl
      have li := len_int i0 i1
      refine ⟨_, rfl, .inl ⟨rfl, _, .inl (.inl upd_same)⟩, _, rfl, sz (by decide), _, rfl, _, _, _, _, _, rfl, s0 _ _ ha, T.cl_Frame, T.na_Frame_most, lkF_most, .inr ⟨i, rfl, log_int i0 i1, _, rfl, sz (Nat.le_trans (len_app (n := 5) (by decide +kernel) li) (by decide)), ?_⟩⟩
      rw [fs_phr (a := "most") (b := "most ") (by decide +kernel)]
      refine ⟨l, _, _, rfl, rfl, upd_same, sz1000 (by show 2 ≤ 1000; decide), ?_⟩
      have s1 := Same.mut (o := .lst [V.str (phr "length" (intT n)), V.str (phr "shortest" (intT st)), V.str (phr "most" (intT i))]) s0 nl
      have h1 : upd (upd H l (.lst [V.str (phr "length" (intT n)), V.str (phr "shortest" (intT st))])) l (.lst [V.str (phr "length" (intT n)), V.str (phr "shortest" (intT st)), V.str (phr "most" (intT i))]) l = some (.lst [V.str (phr "length" (intT n)), V.str (phr "shortest" (intT st)), V.str (phr "most" (intT i))]) := upd_same
      rw [show ([V.str (phr "length" (intT n)), V.str (phr "shortest" (intT st))] ++ [V.str (phr "most" (intT i))] : List V) = [V.str (phr "length" (intT n)), V.str (phr "shortest" (intT st)), V.str (phr "most" (intT i))] from rfl]
      generalize upd (upd H l (.lst [V.str (phr "length" (intT n)), V.str (phr "shortest" (intT st))])) l (.lst [V.str (phr "length" (intT n)), V.str (phr "shortest" (intT st)), V.str (phr "most" (intT i))]) = H1 at h1 s1 ⊢
      refine ⟨_, rfl, _, _, _, _, _, rfl, s1 _ _ ha, T.cl_Frame, T.na_Frame_private, lkF_private, p, rfl, ?_⟩
      cases p with
      | false =>
        refine iteF ?_
        have s2 := s1
        have h2 := h1
        generalize H1 = H2 at h2 s2 ⊢
        refine ⟨_, rfl, _, rfl, _, _, _, _, _, rfl, s2 _ _ ha, T.cl_Frame, T.na_Frame_known, lkF_known, t, rfl, ⟨vs, Same.tup s2 ht⟩, fun C nC => ?_⟩
        have nH := none_of s2 nC
        have ne : l ≠ C := ne_of_none h2 nC
        refine lc_tup (K := K) (a := t) (xs := vs) (fun j H3 => Same H H3 ∧ H3 l = some (.lst [V.str (phr "length" (intT n)), V.str (phr "shortest" (intT st)), V.str (phr "most" (intT i))]) ∧ H3 C = some (.lst ((kP (ks.take j)).map V.str))) ⟨s2.trans (Same.new nC), (by rw [upd_ne ne]; exact h2), upd_same⟩ (fun j H3 _ h3 => Same.tup h3.1 ht) ?_ ?_
        · rintro j x H3 hx ⟨s3, h3, c3⟩
          obtain ⟨k, hk1, hk2⟩ := hm.get hx
          obtain ⟨k0, k1⟩ := z.k k (List.mem_of_getElem? hk1)
          refine ⟨rfl, ?_⟩
          refine ⟨_, rfl, x, k, rfl, hk2.on (fun b zs e => s3 _ _ e), k0, k1, _, c3, ?_, Same.mut s3 nH, by rw [upd_ne ne]; exact h3, ?_⟩
          · rw [List.length_map, kP_len, List.length_take]
            exact sz1000 (by omega)
          · rw [upd_same, takeSnoc hk1]
            simp [kP]
        · rintro H3 ⟨s3, h3, c3⟩
          rw [hvl, List.take_length] at c3
          refine ⟨l, C, _, _, rfl, rfl, h3, c3, ?_, fun r nr => ?_⟩
          · rw [List.length_map, kP_len]
            exact sz (by show 3 + _ ≤ 100000; omega)
          · exact q r _ (s3.trans (Same.new nr)) (by rw [upd_same]; rfl)
      | true =>
        refine iteT ?_
        refine ⟨_, rfl, .inl ⟨rfl, _, .inl (.inl h1)⟩, l, _, _, rfl, rfl, h1, sz1000 (by show 3 ≤ 1000; decide), ?_⟩
        have s2 := Same.mut (o := .lst [V.str (phr "length" (intT n)), V.str (phr "shortest" (intT st)), V.str (phr "most" (intT i)), V.str ("private" : Str)]) s1 nl
        have h2 : upd H1 l (.lst [V.str (phr "length" (intT n)), V.str (phr "shortest" (intT st)), V.str (phr "most" (intT i)), V.str ("private" : Str)]) l = some (.lst [V.str (phr "length" (intT n)), V.str (phr "shortest" (intT st)), V.str (phr "most" (intT i)), V.str ("private" : Str)]) := upd_same
        rw [show ([V.str (phr "length" (intT n)), V.str (phr "shortest" (intT st)), V.str (phr "most" (intT i))] ++ [V.str (Str.ofString "private")] : List V) = [V.str (phr "length" (intT n)), V.str (phr "shortest" (intT st)), V.str (phr "most" (intT i)), V.str ("private" : Str)] from rfl]
        generalize upd H1 l (.lst [V.str (phr "length" (intT n)), V.str (phr "shortest" (intT st)), V.str (phr "most" (intT i)), V.str ("private" : Str)]) = H2 at h2 s2 ⊢
        refine ⟨_, rfl, _, rfl, _, _, _, _, _, rfl, s2 _ _ ha, T.cl_Frame, T.na_Frame_known, lkF_known, t, rfl, ⟨vs, Same.tup s2 ht⟩, fun C nC => ?_⟩
        have nH := none_of s2 nC
        have ne : l ≠ C := ne_of_none h2 nC
        refine lc_tup (K := K) (a := t) (xs := vs) (fun j H3 => Same H H3 ∧ H3 l = some (.lst [V.str (phr "length" (intT n)), V.str (phr "shortest" (intT st)), V.str (phr "most" (intT i)), V.str ("private" : Str)]) ∧ H3 C = some (.lst ((kP (ks.take j)).map V.str))) ⟨s2.trans (Same.new nC), (by rw [upd_ne ne]; exact h2), upd_same⟩ (fun j H3 _ h3 => Same.tup h3.1 ht) ?_ ?_
        · rintro j x H3 hx ⟨s3, h3, c3⟩
          obtain ⟨k, hk1, hk2⟩ := hm.get hx
          obtain ⟨k0, k1⟩ := z.k k (List.mem_of_getElem? hk1)
          refine ⟨rfl, ?_⟩
          refine ⟨_, rfl, x, k, rfl, hk2.on (fun b zs e => s3 _ _ e), k0, k1, _, c3, ?_, Same.mut s3 nH, by rw [upd_ne ne]; exact h3, ?_⟩
          · rw [List.length_map, kP_len, List.length_take]
            exact sz1000 (by omega)
          · rw [upd_same, takeSnoc hk1]
            simp [kP]
        · rintro H3 ⟨s3, h3, c3⟩
          rw [hvl, List.take_length] at c3
          refine ⟨l, C, _, _, rfl, rfl, h3, c3, ?_, fun r nr => ?_⟩
          · rw [List.length_map, kP_len]
            exact sz (by show 4 + _ ≤ 100000; omega)
          · exact q r _ (s3.trans (Same.new nr)) (by rw [upd_same]; rfl)
theorem fP_bound {f : Fr} (z : FrLn f) : ((fP f).map (·.length)).sum + (fP f).length * SPC.length ≤ 20000 := by
  have hl := z.l
  have l1 := len_int z.n0 z.n
  have l2 := len_int z.s0 z.s
  have hs : SPC.length = 1 := by decide +kernel
  have hk : ((kP f.ks).map (·.length)).sum ≤ f.ks.length * 11 := by
    unfold kP
    rw [List.map_map]
    refine sum_le (f := (fun x : Str => x.length) ∘ fun k : Kn => phr (kw k.2) (intT k.1)) (k := 11) fun k hk => ?_
    obtain ⟨k0, k1⟩ := z.k k hk
    exact phr_len (n := 5) (m := 5) (by cases k.2 <;> decide +kernel) (len_int k0 k1)
  have hp : ((pW f.p).map (·.length)).sum ≤ 7 ∧ (pW f.p).length ≤ 1 := by
    cases f.p <;> decide +kernel
  have hm : ((mP f.m).map (·.length)).sum ≤ 10 ∧ (mP f.m).length ≤ 1 := by
    cases e : f.m with
    | none => decide
    | some i =>
      obtain ⟨i0, i1⟩ := z.m i e
      have := phr_len (a := "most") (n := 4) (m := 5) (by decide +kernel) (len_int i0 i1)
      simp [mP]
      omega
  have p1 := phr_len (a := "length") (n := 6) (m := 5) (by decide +kernel) l1
  have p2 := phr_len (a := "shortest") (n := 8) (m := 5) (by decide +kernel) l2
  unfold fP
  rw [hs]
  simp only [List.map_cons, List.map_append, List.sum_cons, List.sum_append, List.length_cons, List.length_append, kP_len]
  omega
def sp_Frame_str (d : Ad) (K : PySem.W.Frag) : Sp := fun vs H Q _ => ∃ (v : V) (f : Fr), vs = [v] ∧ IsFrame d K H v f ∧ FrLn f ∧ ∀ H', Same H H' → Q (.str (frameText f)) H'
theorem ok_Frame___str__ (T : Txt K mg d) : FnR P w K mg base CX0 3 d.f_Frame___str__ (sp_Frame_str d K) := by
  refine mkR T.F_Frame___str__ sc_Frame___str__ (fun vs H Q E h => ?_) (fun _ _ _ _ _ _ us hl => match us, hl with | [_], _ => rfl) (fun cdv A outer s H vs Q E hr h => ?_)
  · obtain ⟨_, _, rfl, _⟩ := h
    rfl
  · obtain ⟨v, f, rfl, F, z, q⟩ := h
    refine ⟨_, (pss_one (ps_ret (pe_bm PySem.F.plainAttrs_str PySem.F.slot_str_join PySem.F.type_str_join mt_join pe_str (pa_cons (pe_callR (ok__frame_words T) (hr.mono (by decide)) rfl T.m__frame_words T.k__frame_words pass0 (pa_cons (pv 0) pa_nil)) pa_nil)))), ?_⟩
    refine ⟨rfl, _, rfl, v, f, rfl, F, z, fun p H1 s1 h1 => ?_⟩
    refine ⟨_, p, fP f, rfl, rfl, .inl (.inl (.inl h1)), Nat.le_trans (fP_bound z) (by decide), ?_⟩
    have q2 := q H1 s1
    unfold frameText at q2
    rw [← fP_fW, show J (fP f) = Txt.join SPC (fP f) from (TL.join_eq SPC (fP f)).symm] at q2
    exact q2
theorem fText_len {f : Fr} (z : FrLn f) : (frameText f).length ≤ 20000 := by
  unfold frameText
  rw [← fP_fW, show J (fP f) = Txt.join SPC (fP f) from (TL.join_eq SPC (fP f)).symm]
  exact Nat.le_trans join_len (fP_bound z)
def sp_Frame_eqS (d : Ad) (K : PySem.W.Frag) : Sp := fun vs H Q _ => ∃ (v : V) (f : Fr) (z : Str), vs = [v, .str z] ∧ IsFrame d K H v f ∧ Q (.bl false) H
theorem ok_Frame___eq___S (T : Txt K mg d) : FnR P w K mg base CX0 1 d.f_Frame___eq__ (sp_Frame_eqS d K) := by
  refine mkR T.F_Frame___eq__ sc_Frame___eq__ (fun vs H Q E h => ?_) (fun _ _ _ _ _ _ us hl => match us, hl with | [_, _], _ => rfl) (fun cdv A outer s H vs Q E hr h => ?_)
  · obtain ⟨_, _, _, rfl, _⟩ := h
    rfl
  · obtain ⟨v, f, z, rfl, I, q⟩ := h
    have hu := hr.units
    refine ⟨_, (pss_one (ps_ret (pe_and (pe_callB call_isi (by rfl) T.b_isinstance (by decide +kernel) (pa_cons (pv 1) (pa_cons (pe_glob (v := .ref d.C_Frame) rfl T.m_Frame rfl) pa_nil))) (pe_and (pe_cmpR op_eq (pe_fld (pv 0) rfl) (pe_fld (pv 1) rfl) (nomark _)) (pe_and (pe_cmpR op_eq (pe_fld (pv 0) rfl) (pe_fld (pv 1) rfl) (nomark _)) (pe_and (pe_cmpR (op_eqD hu) (pe_fld (pv 0) rfl) (pe_fld (pv 1) rfl) (nomark _)) (pe_and (pe_cmpR op_eq (pe_fld (pv 0) rfl) (pe_fld (pv 1) rfl) (nomark _)) (pe_one (pe_cmpR (op_eqD hu) (pe_fld (pv 0) rfl) (pe_fld (pv 1) rfl) (nomark _)))))))))), ?_⟩
    refine ⟨_, rfl, _, .ref d.C_Frame, .type "str", _, false, rfl, .own _, .base (.str _), ?_, false, rfl, iteF ?_⟩
    · exact T.ks_Frame
    · exact q
end
end DD

set_option Elab.async false
set_option linter.all false
set_option maxRecDepth 100000
set_option maxHeartbeats 2000000
namespace DD
open PySem PySem.Spec PyProof.Rows L2 StX
/-! ### frames that are read -/
theorem rg2_all : ∀ n : Fin 1001, (Builtin.Range.small 0 (2 * (n.val : Int)) 2 && decide (Builtin.Range.rangeSize 0 (2 * (n.val : Int)) 2 = n.val)) = true := by decide +kernel
theorem rg2 {n : Nat} (h : n ≤ 1000) : RgC 0 (2 * (n : Int)) 2 n := by
  have z := rg2_all ⟨n, by omega⟩
  rw [Bool.and_eq_true_iff] at z
  exact ⟨by decide, by decide, z.1, of_decide_eq_true z.2⟩
theorem okTail {f : Fr} {k : Int} (z : FrSm f k) : ∀ x ∈ fW f, PyData.strOk x = true := by
  intro x hx
  unfold fW tailW at hx
  rw [List.mem_cons, List.mem_cons, List.mem_cons, List.mem_cons, List.mem_append, List.mem_append] at hx
  rcases hx with rfl | rfl | rfl | rfl | hx | hx | hx
  · decide +kernel
  · exact okInt z.n0
  · decide +kernel
  · exact okInt z.s0
  · cases e : f.m with
    | none => rw [e] at hx; cases hx
    | some i =>
      rw [e] at hx
      rcases List.mem_cons.mp hx with rfl | hx
      · decide +kernel
      · obtain rfl := List.mem_singleton.mp hx
        exact okInt (z.m i e).1
  · unfold pW at hx
    split at hx
    · obtain rfl := List.mem_singleton.mp hx
      decide +kernel
    · cases hx
  · obtain ⟨y, hy, hx⟩ := List.mem_flatMap.mp hx
    rcases List.mem_cons.mp hx with rfl | hx
    · cases y.2 <;> decide +kernel
    · obtain rfl := List.mem_singleton.mp hx
      exact okInt (z.k y hy).1
theorem kW_len {ks : List Kn} : (kW ks).length = 2 * ks.length := by
  induction ks with
  | nil => rfl
  | cons k ks ih =>
    show (kW ks).length + 1 + 1 = _
    rw [ih, List.length_cons]
    omega
theorem kW_at {ks : List Kn} {i : Nat} {k : Kn} (h : ks[i]? = some k) : (kW ks)[2 * i]? = some (kw k.2) ∧ (kW ks)[2 * i + 1]? = some (intT k.1) := by
  induction ks generalizing i with
  | nil => simp at h
  | cons x ks ih =>
    cases i with
    | zero =>
      simp at h
      subst h
      exact ⟨rfl, rfl⟩
    | succ i =>
      have := ih (i := i) (by simpa using h)
      exact this
section
variable {P : Program} {w : World} {K : PySem.W.Frag} {mg : Str → Option Value} {base : Heap} {d : Ad}
def sp_read_most (K : PySem.W.Frag) : Sp := fun vs H Q _ => ∃ (a : Addr) (m : Option Int) (p : Bool) (ks : List Kn), vs = [.ref a] ∧ H a = some (.lst ((tailW m p ks).map V.str)) ∧ (∀ i, m = some i → 0 ≤ i ∧ i ≤ 99) ∧ (∀ x ∈ tailW m p ks, PyData.strOk x = true) ∧
  ∀ t b H', Same H H' → H' t = some (.tup [mostV m, .ref b]) → H' b = some (.lst ((pW p ++ kW ks).map V.str)) → Q (.ref t) H'
theorem ok__read_most (T : Txt K mg d) : FnR P w K mg base CX0 3 d.f__read_most (sp_read_most K) := by
  refine mkR T.F__read_most sc__read_most (fun vs H Q E h => ?_) (fun _ _ _ _ _ _ us hl => match us, hl with | [_], _ => rfl) (fun cdv A outer s H vs Q E hr h => ?_)
  · obtain ⟨_, _, _, _, rfl, _⟩ := h
    rfl
  · obtain ⟨a, m, p, ks, rfl, ha, hm, ho, q⟩ := h
    have hu := hr.units
    refine ⟨_, (pss_cons (ps_if (pt_cmpR (op_neD hu) (pe_slice sl_list (pv 0) po_none (po_some pe_int)) (pe_lst (pa_cons pe_str pa_nil)) (nomark _)) (pss_one (ps_ret (pe_tup (pa_cons pe_non (pa_cons (pv 0) pa_nil))))) pss_nil) (pss_cons (ps_if (pt_cmpR op_lt (pe_callB call_len_seq (by rfl) T.b_len PySem.boot_len (pa_cons (pv 0) pa_nil)) pe_int (nomark _)) (pss_one ps_dead) pss_nil) (pss_one (ps_ret (pe_tup (pa_cons (pe_callR (ok_read_number T) (hr.mono (by decide)) rfl T.m_read_number T.k_read_number pass0 (pa_cons (pe_ix ix_list (pv 0) pe_int (fun _ _ => rfl)) pa_nil)) (pa_cons (pe_slice sl_list (pv 0) (po_some pe_int) po_none) pa_nil))))))), ?_⟩
    refine ⟨_, rfl, _, rfl, a, _, rfl, .inl (.inl ha), fun p1 n1 => ?_⟩
    rw [show (some (1 : Int)) = some ((1 : Nat) : Int) from rfl, cutTo, ← List.map_take]
    have s1 := Same.new (o := .lst (((tailW m p ks).take 1).map V.str)) n1
    refine ⟨(by show 1 ≤ sizeLine; decide), fun p2 n2 => ?_⟩
    have s2 := Same.new (o := .lst [.str "most"]) n2
    refine ne_strs (l' := [("most" : Str)]) (.inl (.inl (s2 _ _ upd_same))) (.inl (.inl upd_same)) (fun x hx => ho x (List.mem_of_mem_take hx)) (fun x hx => by obtain rfl := List.mem_singleton.mp hx; decide +kernel) ⟨_, rfl, ?_⟩
    have s12 := s1.trans s2
    cases m with
    | none =>
      rw [decide_eq_false (by
        intro e
        cases e2 : pW p ++ kW ks with
        | nil =>
          rw [show tailW none p ks = pW p ++ kW ks from rfl, e2] at e
          cases e
        | cons x l =>
          rw [show tailW none p ks = pW p ++ kW ks from rfl, e2] at e
          exact pk_head e2 (List.cons.inj e).1)]
      refine iteT ?_
      refine ⟨_, rfl, (by show 2 ≤ sizeLine; decide), fun t nt => ?_⟩
      have st := Same.new (o := .tup [.non, .ref a]) nt
      exact q t a _ (s12.trans st) upd_same (st _ _ (s12 _ _ ha))
    | some i =>
      obtain ⟨i0, i1⟩ := hm i rfl
      rw [decide_eq_true (show (tailW (some i) p ks).take 1 = [("most" : Str)] from rfl)]
      refine iteF ?_
      refine ⟨_, rfl, a, _, rfl, .inl (.inl (.inl (s12 _ _ ha))), _, _, rfl, rfl, _, rfl, ?_⟩
      rw [decide_eq_false (by rw [List.length_map]; show ¬ ((((pW p ++ kW ks).length + 1 + 1 : Nat) : Int) < 2); omega)]
      refine iteF ?_
      refine ⟨_, rfl, a, _, _, _, rfl, rfl, .inl (.inl (s12 _ _ ha)), atI_nat (j := 1) rfl, i, rfl, i0, i1, ?_⟩
      refine ⟨_, rfl, _, rfl, a, _, rfl, .inl (.inl (s12 _ _ ha)), fun p3 n3 => ?_⟩
      rw [show (some (2 : Int)) = some ((2 : Nat) : Int) from rfl, cutFrom, ← List.map_drop]
      have s3 := Same.new (o := .lst (((tailW (some i) p ks).drop 2).map V.str)) n3
      refine ⟨(by show 2 ≤ sizeLine; decide), fun t nt => ?_⟩
      have st := Same.new (o := .tup [.int i, .ref p3]) nt
      exact q t p3 _ (s12.trans (s3.trans st)) upd_same (st _ _ upd_same)
def sp_read_private (K : PySem.W.Frag) : Sp := fun vs H Q _ => ∃ (a : Addr) (p : Bool) (ks : List Kn), vs = [.ref a] ∧ H a = some (.lst ((pW p ++ kW ks).map V.str)) ∧ (∀ x ∈ pW p ++ kW ks, PyData.strOk x = true) ∧
  ∀ t b H', Same H H' → H' t = some (.tup [.bl p, .ref b]) → H' b = some (.lst ((kW ks).map V.str)) → Q (.ref t) H'
theorem ok__read_private (T : Txt K mg d) : FnR P w K mg base CX0 3 d.f__read_private (sp_read_private K) := by
  refine mkR T.F__read_private sc__read_private (fun vs H Q E h => ?_) (fun _ _ _ _ _ _ us hl => match us, hl with | [_], _ => rfl) (fun cdv A outer s H vs Q E hr h => ?_)
  · obtain ⟨_, _, _, rfl, _⟩ := h
    rfl
  · obtain ⟨a, p, ks, rfl, ha, ho, q⟩ := h
    have hu := hr.units
    refine ⟨_, (pss_cons (ps_if (pt_cmpR (op_neD hu) (pe_slice sl_list (pv 0) po_none (po_some pe_int)) (pe_lst (pa_cons pe_str pa_nil)) (nomark _)) (pss_one (ps_ret (pe_tup (pa_cons pe_bl (pa_cons (pv 0) pa_nil))))) pss_nil) (pss_one (ps_ret (pe_tup (pa_cons pe_bl (pa_cons (pe_slice sl_list (pv 0) (po_some pe_int) po_none) pa_nil)))))), ?_⟩
    refine ⟨_, rfl, _, rfl, a, _, rfl, .inl (.inl ha), fun p1 n1 => ?_⟩
    rw [show (some (1 : Int)) = some ((1 : Nat) : Int) from rfl, cutTo, ← List.map_take]
    have s1 := Same.new (o := .lst (((pW p ++ kW ks).take 1).map V.str)) n1
    refine ⟨(by show 1 ≤ sizeLine; decide), fun p2 n2 => ?_⟩
    have s2 := Same.new (o := .lst [.str "private"]) n2
    refine ne_strs (l' := [("private" : Str)]) (.inl (.inl (s2 _ _ upd_same))) (.inl (.inl upd_same)) (fun x hx => ho x (List.mem_of_mem_take hx)) (fun x hx => by obtain rfl := List.mem_singleton.mp hx; decide +kernel) ⟨_, rfl, ?_⟩
    have s12 := s1.trans s2
    cases p with
    | false =>
      rw [decide_eq_false (by
        intro e
        cases e2 : kW ks with
        | nil =>
          rw [show pW false ++ kW ks = kW ks from rfl, e2] at e
          cases e
        | cons x l =>
          rw [show pW false ++ kW ks = kW ks from rfl, e2] at e
          rcases kW_head e2 with rfl | rfl <;> exact absurd (List.cons.inj e).1 (by decide +kernel))]
      refine iteT ?_
      refine ⟨_, rfl, (by show 2 ≤ sizeLine; decide), fun t nt => ?_⟩
      have st := Same.new (o := .tup [.bl false, .ref a]) nt
      exact q t a _ (s12.trans st) upd_same (st _ _ (s12 _ _ ha))
    | true =>
      rw [decide_eq_true (show (pW true ++ kW ks).take 1 = [("private" : Str)] from rfl)]
      refine iteF ?_
      refine ⟨_, rfl, _, rfl, a, _, rfl, .inl (.inl (s12 _ _ ha)), fun p3 n3 => ?_⟩
      rw [show (some (1 : Int)) = some ((1 : Nat) : Int) from rfl, cutFrom, ← List.map_drop]
      have s3 := Same.new (o := .lst (((pW true ++ kW ks).drop 1).map V.str)) n3
      refine ⟨(by show 2 ≤ sizeLine; decide), fun t nt => ?_⟩
      have st := Same.new (o := .tup [.bl true, .ref p3]) nt
      exact q t p3 _ (s12.trans (s3.trans st)) upd_same (st _ _ upd_same)
theorem kw_taken {b : Bool} : decide (V.str (kw b) = V.str "taken") = b := by cases b <;> decide +kernel
theorem kw_in {b : Bool} : inV (.str (kw b)) [.str "taken", .str "free"] = true := by cases b <;> decide +kernel
def sp_read_pair : Sp := fun vs H Q _ => ∃ (k : Kn), vs = [.str (kw k.2), .str (intT k.1)] ∧ 0 ≤ k.1 ∧ k.1 ≤ 99 ∧ ∀ t H', Same H H' → H' t = some (.tup (knV k)) → Q (.ref t) H'
theorem ok__read_pair (T : Txt K mg d) : FnR P w K mg base CX0 3 d.f__read_pair sp_read_pair := by
  refine mkR T.F__read_pair sc__read_pair (fun vs H Q E h => ?_) (fun _ _ _ _ _ _ us hl => match us, hl with | [_, _], _ => rfl) (fun cdv A outer s H vs Q E hr h => ?_)
  · obtain ⟨_, rfl, _⟩ := h
    rfl
  · obtain ⟨⟨i, b⟩, rfl, i0, i1, q⟩ := h
    refine ⟨_, (pss_cons (ps_if (pt_cmpR op_notIn_seq (pv 0) (pe_tup (pa_cons pe_str (pa_cons pe_str pa_nil))) rfl) (pss_one ps_dead) pss_nil) (pss_one (ps_ret (pe_tup (pa_cons (pe_callR (ok_read_number T) (hr.mono (by decide)) rfl T.m_read_number T.k_read_number pass0 (pa_cons (pv 1) pa_nil)) (pa_cons (pe_cmpR op_eq (pv 0) pe_str (nomark _)) pa_nil)))))), ?_⟩
    refine ⟨_, rfl, (by show 2 ≤ sizeLine; decide), fun p1 n1 => ?_⟩
    have s1 := Same.new (o := .tup [.str "taken", .str "free"]) n1
    refine ⟨p1, _, rfl, .inr (.inl (.inl upd_same)), rfl, rfl, _, rfl, ?_⟩
    show if (if true = true then !inV (V.str (kw b)) [.str "taken", .str "free"] else inV (V.str (kw b)) [.str "taken", .str "free"]) = true then _ else _
    rw [if_pos rfl, kw_in]
    refine iteF ?_
    refine ⟨_, rfl, i, rfl, i0, i1, _, rfl, rfl, (by show 2 ≤ sizeLine; decide), fun t nt => ?_⟩
    rw [kw_taken]
    exact q t _ (s1.trans (Same.new nt)) upd_same
def sp_read_known : Sp := fun vs H Q _ => ∃ (a : Addr) (ks : List Kn), vs = [.ref a] ∧ H a = some (.lst ((kW ks).map V.str)) ∧ (∀ k ∈ ks, 0 ≤ k.1 ∧ k.1 ≤ 99) ∧ ks.length ≤ 1000 ∧ ∀ p xs H', Same H H' → H' p = some (.lst xs) → IsRs knV H' xs ks → Q (.ref p) H'
theorem ok__read_known (T : Txt K mg d) : FnR P w K mg base CX0 4 d.f__read_known sp_read_known := by
  refine mkR T.F__read_known sc__read_known (fun vs H Q E h => ?_) (fun _ _ _ _ _ _ us hl => match us, hl with | [_], _ => rfl) (fun cdv A outer s H vs Q E hr h => ?_)
  · obtain ⟨_, _, rfl, _⟩ := h
    rfl
  · obtain ⟨a, ks, rfl, ha, hk, hz, q⟩ := h
    refine ⟨_, (pss_cons (ps_if (pt_cmpR op_ne (pe_op op_mod (pe_callB call_len_seq (by rfl) T.b_len PySem.boot_len (pa_cons (pv 0) pa_nil)) pe_int) pe_int (nomark _)) (pss_one ps_dead) pss_nil) (pss_one (ps_ret (pe_lc (own := [("at", 1)]) rfl sc__read_known.nd (pi_range3 rfl T.b_range (pa_cons pe_int (pa_cons (pe_callB call_len_seq (by rfl) T.b_len PySem.boot_len (pa_cons (pv 0) pa_nil)) (pa_cons pe_int pa_nil)))) (blkOk_by (N := ["words", "at"]) (sc := defScope s__read_known) (by decide +kernel)) (fun _ _ _ _ _ => (pg_name (i := 1) sc__read_known.nd rfl (by first | exact Or.inl rfl | exact Or.inr rfl))) (fun _ _ _ _ _ => pts_nil) (fun _ _ _ _ _ => (pe_callR (ok__read_pair T) (hr.mono (by decide)) rfl T.m__read_pair T.k__read_pair pass0 (pa_cons (pe_ix (ixL_K (K := K)) (pv 0) (pv 1) (fun _ _ => rfl)) (pa_cons (pe_ix (ixL_K (K := K)) (pv 0) (pe_op op_add (pv 1) pe_int) (fun _ _ => rfl)) pa_nil)))))))), ?_⟩
    have el : (((kW ks).map V.str).length : Int) = 2 * (ks.length : Int) := by
      rw [List.length_map, kW_len]
      omega
    refine ⟨_, rfl, a, _, rfl, .inl (.inl (.inl ha)), _, _, rfl, rfl, (by show (0 : Int) < 2; decide), rfl, _, rfl, ?_⟩
    refine iteNS (congrArg V.int (by rw [el]; omega)) ?_
    refine ⟨_, rfl, a, _, rfl, .inl (.inl (.inl ha)), _, _, _, ks.length, rfl, (by rw [el]; exact rg2 hz), fun C nC => ?_⟩
    refine lc_rngC (fun i H2 => Same H H2 ∧ ∃ xs, H2 C = some (.lst xs) ∧ IsRs knV H2 xs (ks.take i)) ⟨Same.new nC, [], upd_same, .nil⟩ ?_ ?_
    · rintro i H2 hi ⟨s2, xs, h2, r2⟩
      have hk1 : ks[i]? = some ks[i] := List.getElem?_eq_getElem hi
      obtain ⟨k0, k1⟩ := hk _ (List.mem_of_getElem? hk1)
      obtain ⟨w1, w2⟩ := kW_at hk1
      have e1 : (0 + (i : Int) * 2) = ((2 * i : Nat) : Int) := by omega
      have e2 : (0 + (i : Int) * 2 + 1) = ((2 * i + 1 : Nat) : Int) := by omega
      have g1 : atI ((kW ks).map V.str) (0 + (i : Int) * 2) = some (V.str (kw (ks[i]).2)) := by
        rw [e1]
        exact atI_nat (by rw [List.getElem?_map, w1]; rfl)
      have g2 : atI ((kW ks).map V.str) (0 + (i : Int) * 2 + 1) = some (V.str (intT (ks[i]).1)) := by
        rw [e2]
        exact atI_nat (by rw [List.getElem?_map, w2]; rfl)
      refine ⟨rfl, ?_⟩
      refine ⟨_, rfl, _, rfl, a, _, _, _, rfl, rfl, .inl (.inl (s2 _ _ ha)), g1, ?_⟩
      refine ⟨_, rfl, _, rfl, _, _, rfl, rfl, a, _, _, _, rfl, rfl, .inl (.inl (s2 _ _ ha)), g2, ?_⟩
      refine ⟨ks[i], rfl, k0, k1, fun t H3 s3 ht => ?_⟩
      have h3 := s3 _ _ h2
      have hl2 := r2.1
      rw [List.length_take] at hl2
      refine ⟨xs, h3, sz1000 (by omega), Same.mut (s2.trans s3) nC, xs ++ [.ref t], upd_same, ?_⟩
      rw [takeSnoc hk1]
      exact ((r2.mono s3).append (.one ⟨t, rfl, ht⟩)).on (tup_upd h3)
    · rintro H2 ⟨s2, xs, h2, r2⟩
      rw [List.take_length] at r2
      exact q C xs H2 s2 h2 r2
theorem pick_032 {a b c e : V} {r : List V} : pickV (a :: b :: c :: e :: r) (some 0) (some 3) 2 = [a, c] := by
  unfold pickV
  have h : sliceBounds (some 0) (some 3) (some 2) (a :: b :: c :: e :: r).length = (0, 3, 2) := by
    have h1 : min (0 : Int) ((r.length : Int) + 1 + 1 + 1 + 1) = 0 := by omega
    have h2 : min (3 : Int) ((r.length : Int) + 1 + 1 + 1 + 1) = 3 := by omega
    simp [sliceBounds, h1, h2]
    decide
  rw [h]
  rfl
def sp_Frame_read (d : Ad) (K : PySem.W.Frag) : Sp := fun vs H Q _ => ∃ (f : Fr), vs = [.ref d.C_Frame, .str (frameText f)] ∧ FrOk f ∧ FrSm f 99 ∧ ∀ v H', Same H H' → IsFrame d K H' v f → Q v H'
theorem FrSm.ln {f : Fr} (z : FrSm f 99) : FrLn f := ⟨z.n0, by have := z.n; omega, z.s0, by have := z.s; omega, fun i h => by have := z.m i h; omega, fun x h => by have := z.k x h; omega, z.l⟩
theorem ok_Frame_read (T : Txt K mg d) : FnR P w K mg base CX0 8 d.f_Frame_read (sp_Frame_read d K) := by
  refine mkR T.F_Frame_read sc_Frame_read (fun vs H Q E h => ?_) (fun _ _ _ _ _ _ us hl => match us, hl with | [_, _], _ => rfl) (fun cdv A outer s H vs Q E hr h => ?_)
  · obtain ⟨_, rfl, _⟩ := h
    rfl
  · obtain ⟨f, rfl, O, z, q⟩ := h
    have hu := hr.units
    have hW := okTail z
    have tl := fText_len z.ln
    refine ⟨_, (pss_cons (ps_if (pt_not (pt_val (pe_callB call_isi (by rfl) T.b_isinstance (by decide +kernel) (pa_cons (pv 1) (pa_cons (pe_bltn (v := .ty "str") rfl T.b_str (by decide +kernel) rfl) pa_nil))))) (pss_one ps_dead) pss_nil) (pss_cons (ps_set (i := 2) sc_Frame_read.nd rfl (by first | exact Or.inl rfl | exact Or.inr rfl) (pe_split (pv 1) pe_str)) (pss_cons (ps_if (PW.pt (pw_or (pt_cmpR (op_neD hu) (pe_slice3 (by decide) (pv 2) (po_some pe_int) (po_some pe_int)) (pe_lst (pa_cons pe_str (pa_cons pe_str pa_nil))) (nomark _)) (pw_or1 (pt_cmpR op_lt (pe_callB call_len_seq (by rfl) T.b_len PySem.boot_len (pa_cons (pv 2) pa_nil)) pe_int (nomark _))))) (pss_one ps_dead) pss_nil) (pss_cons (ps_par (i := 3) (j := 4) rfl sc_Frame_read.nd rfl rfl (by decide) rfl rfl (pa_cons (pe_callR (ok_read_number T) (hr.mono (by decide)) rfl T.m_read_number T.k_read_number pass0 (pa_cons (pe_ix ix_list (pv 2) pe_int (fun _ _ => rfl)) pa_nil)) (pa_cons (pe_callR (ok_read_number T) (hr.mono (by decide)) rfl T.m_read_number T.k_read_number pass0 (pa_cons (pe_ix ix_list (pv 2) pe_int (fun _ _ => rfl)) pa_nil)) pa_nil)) (by first | rfl | exact sw2 (by rfl) (by rfl) (by rfl))) (pss_cons (ps_asg (pe_callR (ok__read_most T) (hr.mono (by decide)) rfl T.m__read_most T.k__read_most pass0 (pa_cons (pe_slice sl_list (pv 2) (po_some pe_int) po_none) pa_nil)) (pg_tup rfl (pgs_cons (pg_name (i := 5) sc_Frame_read.nd rfl (by first | exact Or.inl rfl | exact Or.inr rfl)) (pgs_cons (pg_name (i := 6) sc_Frame_read.nd rfl (by first | exact Or.inl rfl | exact Or.inr rfl)) pgs_nil)))) (pss_cons (ps_asg (pe_callR (ok__read_private T) (hr.mono (by decide)) rfl T.m__read_private T.k__read_private pass0 (pa_cons (pv 6) pa_nil)) (pg_tup rfl (pgs_cons (pg_name (i := 7) sc_Frame_read.nd rfl (by first | exact Or.inl rfl | exact Or.inr rfl)) (pgs_cons (pg_name (i := 6) sc_Frame_read.nd rfl (by first | exact Or.inl rfl | exact Or.inr rfl)) pgs_nil)))) (pss_one (ps_ret (pe_makeL 0 T.mk_Frame (ok_Frame_init5 T) (hr.mono (by decide)) pass0 (pa_cons (pv 3) (pa_cons (pv 4) (pa_cons (pv 5) (pa_cons (pv 7) (pa_cons (pe_callR (ok__read_known T) (hr.mono (by decide)) rfl T.m__read_known T.k__read_known pass0 (pa_cons (pv 6) pa_nil)) pa_nil)))))))))))))), ?_⟩
    refine ⟨_, rfl, _, .ty "str", _, _, true, rfl, .ty _, .base (.str _), kit_ty (by decide +kernel), true, rfl, ?_⟩
    refine iteF ?_
    refine ⟨_, rfl, ⟨_, rfl⟩, _, _, rfl, rfl, rfl, Nat.le_trans (Nat.add_le_add_right tl 2) (by decide), fun p np => ?_⟩
    rw [show Txt.split (frameText f) (" " : Str) = fW f from split_frame z]
    have sp := Same.new (o := .lst ((fW f).map V.str)) np
    have hp : upd H p (.lst ((fW f).map V.str)) p = some (.lst ((fW f).map V.str)) := upd_same
    generalize upd H p (.lst ((fW f).map V.str)) = H1 at sp hp
    refine ⟨_, rfl, _, rfl, _, rfl, p, _, rfl, .inl (.inl hp), ?_, fun p1 n1 => ?_⟩
    · rw [show (fW f).map V.str = V.str "length" :: V.str (intT f.n) :: V.str "shortest" :: V.str (intT f.s) :: (tailW f.m f.p f.ks).map V.str from rfl, pick_032]
      exact sz (by decide)
    rw [show pickV ((fW f).map V.str) (some 0) (some 3) 2 = ([("length" : Str), "shortest"]).map V.str from pick_032]
    have s1 := Same.new (o := .lst (([("length" : Str), "shortest"]).map V.str)) n1
    refine ⟨(by show 2 ≤ sizeLine; decide), fun p2 n2 => ?_⟩
    have s2 := Same.new (o := .lst [.str "length", .str "shortest"]) n2
    have okc : ∀ x ∈ [("length" : Str), "shortest"], PyData.strOk x = true := by decide +kernel
    refine ne_strs (l := [("length" : Str), "shortest"]) (l' := [("length" : Str), "shortest"]) (.inl (.inl (s2 _ _ upd_same))) (.inl (.inl upd_same)) okc okc ⟨_, rfl, ?_⟩
    rw [decide_eq_true (rfl : [("length" : Str), "shortest"] = [("length" : Str), "shortest"])]
    refine iteF ?_
    have s12 := s1.trans s2
    have h2 := s12 _ _ hp
    refine ⟨_, rfl, p, _, rfl, .inl (.inl (.inl h2)), _, _, rfl, rfl, _, rfl, ?_⟩
    rw [decide_eq_false (by rw [List.length_map]; show ¬ ((((tailW f.m f.p f.ks).length + 1 + 1 + 1 + 1 : Nat) : Int) < 4); omega)]
    refine iteF ?_
    refine ⟨_, rfl, p, _, _, _, rfl, rfl, .inl (.inl h2), atI_nat (j := 1) rfl, f.n, rfl, z.n0, z.n, ?_⟩
    refine ⟨_, rfl, p, _, _, _, rfl, rfl, .inl (.inl h2), atI_nat (j := 3) rfl, f.s, rfl, z.s0, z.s, _, _, rfl, ?_⟩
    refine ⟨_, rfl, _, rfl, p, _, rfl, .inl (.inl h2), fun p3 n3 => ?_⟩
    rw [show (some (4 : Int)) = some ((4 : Nat) : Int) from rfl, cutFrom, ← List.map_drop]
    have s3 := Same.new (o := .lst (((fW f).drop 4).map V.str)) n3
    refine ⟨p3, f.m, f.p, f.ks, rfl, upd_same, z.m, fun x hx => hW x (List.mem_of_mem_drop (i := 4) hx), fun t b H4 s4 ht hb => ?_⟩
    refine ⟨t, _, rfl, .inl (.inl ht), rfl, _, _, rfl, _, _, rfl, rfl, ?_⟩
    refine ⟨_, rfl, b, f.p, f.ks, rfl, hb, fun x hx => hW x (List.mem_of_mem_drop (i := 4) (List.mem_append_right _ hx)), fun t2 b2 H5 s5 ht2 hb2 => ?_⟩
    refine ⟨t2, _, rfl, .inl (.inl ht2), rfl, _, _, rfl, _, _, rfl, rfl, ?_⟩
    have f5 := sp.trans (s12.trans (s3.trans (s4.trans s5)))
    refine ⟨rfl, _, rfl, _, rfl, _, rfl, _, rfl, _, rfl, b2, f.ks, rfl, hb2, z.k, z.l, fun p6 xs H6 s6 hp6 r6 => ?_⟩
    exact fun x dx nx ndx ne => made_frame' (f := f) ⟨p6, xs, rfl, .inl (.inl (.inl hp6)), r6⟩ O nx ndx ne fun H' e F => ⟨rfl, q _ _ (f5.trans (s6.trans e)) F⟩
end
end DD

set_option Elab.async false
set_option linter.all false
set_option maxRecDepth 100000
set_option maxHeartbeats 2000000
namespace DD
open PySem PySem.Spec PyProof.Rows L2 StX
/-! ### a drawn frame -/
theorem SameX.tups {b : Addr} {H H' : Hp} (e : SameX b H H') (hb : IsBox H b) : ∀ a xs, H a = some (.tup xs) → H' a = some (.tup xs) := fun a xs h => e a _ h (by
  rintro rfl
  obtain ⟨x, y, hb⟩ := hb
  rw [hb] at h
  cases h)
theorem box_ne {H : Hp} {b p : Addr} (hb : IsBox H b) (np : H p = none) : p ≠ b := by
  obtain ⟨x, y, h⟩ := hb
  exact (ne_of_none h np).symm
section
variable {P : Program} {w : World} {K : PySem.W.Frag} {mg : Str → Option Value} {base : Heap} {d : Ad}
def sp_law_frame : Sp := fun vs H Q _ => ∃ (b : Addr) (top : Int) (sec : Bool), vs = [.ref b, .int top, .bl sec] ∧ IsBox H b ∧ 0 < top ∧ top ≤ 99 ∧
  ∀ (t l : Addr) (f : Fr) (ws : List V) (H' : Hp), SameX b H H' → IsBox H' b → H' t = some (.tup [.int f.n, .int f.s, mostV f.m, .bl f.p, .ref l]) → H' l = some (.lst ws) → H l = none → IsRs knV H' ws f.ks → FrOk f → FrSm f 99 → f.n ≤ top → f.ks.length ≤ 2 → Q (.ref t) H'
theorem ok__law_frame (T : Txt K mg d) : FnR P w K mg base CX0 3 d.f__law_frame sp_law_frame := by
  refine mkR T.F__law_frame sc__law_frame (fun vs H Q E h => ?_) (fun _ _ _ _ _ _ us hl => match us, hl with | [_, _, _], _ => rfl) (fun cdv A outer s H vs Q E hr h => ?_)
  · obtain ⟨_, _, _, rfl, _⟩ := h
    rfl
  · obtain ⟨b, top, sec, rfl, hb, h0, h1, q⟩ := h
    refine ⟨_, (pss_cons (ps_par (i := 5) (j := 6) rfl sc__law_frame.nd rfl rfl (by decide) rfl rfl (pa_cons (pe_op op_add pe_int (pe_callR (ok__law_choose T) (hr.mono (by decide)) rfl T.m__law_choose T.k__law_choose pass0 (pa_cons (pv 0) (pa_cons (pv 1) pa_nil)))) (pa_cons (pe_lst pa_nil) pa_nil)) (by first | rfl | exact sw2 (by rfl) (by rfl) (by rfl))) (pss_cons (ps_for PassesOwn.never rfl (pi_range1 rfl T.b_range (pa_cons (pe_callR (ok__law_one_of T) (hr.mono (by decide)) rfl T.m__law_one_of T.k__law_one_of pass0 (pa_cons (pv 0) (pa_cons (pe_lst (pa_cons pe_int (pa_cons pe_int (pa_cons pe_int (pa_cons pe_int (pa_cons pe_int pa_nil)))))) pa_nil))) pa_nil)) (pg_name (i := 3) sc__law_frame.nd rfl (by first | exact Or.inl rfl | exact Or.inr rfl)) (pss_one (ps_expr (pe_bm PySem.F.plainAttrs_list PySem.F.slot_list_append PySem.F.type_list_append mt_append (pv 6) (pa_cons (pe_tup (pa_cons (pe_callR (ok__law_choose T) (hr.mono (by decide)) rfl T.m__law_choose T.k__law_choose pass0 (pa_cons (pv 0) (pa_cons (pv 5) pa_nil))) (pa_cons (pe_cmpR op_eq (pe_callR (ok__law_choose T) (hr.mono (by decide)) rfl T.m__law_choose T.k__law_choose pass0 (pa_cons (pv 0) (pa_cons pe_int pa_nil))) pe_int (nomark _)) pa_nil))) pa_nil))))) (pss_cons (ps_set (i := 4) sc__law_frame.nd rfl (by first | exact Or.inl rfl | exact Or.inr rfl) (pe_callR (ok__law_one_of T) (hr.mono (by decide)) rfl T.m__law_one_of T.k__law_one_of pass0 (pa_cons (pv 0) (pa_cons (pe_lst (pa_cons pe_non (pa_cons pe_non (pa_cons (pe_callR (ok__law_choose T) (hr.mono (by decide)) rfl T.m__law_choose T.k__law_choose pass0 (pa_cons (pv 0) (pa_cons pe_int pa_nil))) pa_nil)))) pa_nil)))) (pss_one (ps_ret (pe_tup (pa_cons (pv 5) (pa_cons (pe_callR (ok__law_one_of T) (hr.mono (by decide)) rfl T.m__law_one_of T.k__law_one_of pass0 (pa_cons (pv 0) (pa_cons (pe_lst (pa_cons pe_int (pa_cons pe_int (pa_cons pe_int (pa_cons pe_int pa_nil))))) pa_nil))) (pa_cons (pv 4) (pa_cons (pe_and (pv 2) (pe_one (pe_cmpR op_eq (pe_callR (ok__law_choose T) (hr.mono (by decide)) rfl T.m__law_choose T.k__law_choose pass0 (pa_cons (pv 0) (pa_cons pe_int pa_nil))) pe_int (nomark _)))) (pa_cons (pv 6) pa_nil))))))))))), ?_⟩
    obtain ⟨x, y, hb0⟩ := id hb
    refine ⟨_, rfl, _, rfl, b, x, y, top, rfl, hb0, h0, by omega, fun r x' y' r0 r1 => ⟨_, _, rfl, rfl, ?_⟩⟩
    refine ⟨(by show 0 ≤ sizeLine; decide), fun l nl => ?_⟩
    have nlH : H l = none := by
      rw [upd_ne (ne_of_none (H := upd H b (.lst [.int x', .int y'])) upd_same nl).symm] at nl
      exact nl
    have lb : l ≠ b := box_ne hb nlH
    have bx1 : IsBox (upd (upd H b (.lst [.int x', .int y'])) l (.lst [])) b := IsBox.same (Same.new nl) IsBox.new
    have e1 : SameX b H (upd (upd H b (.lst [.int x', .int y'])) l (.lst [])) := SameX.upd.trans (.of (Same.new nl))
    have hn : 1 + r ≤ top := by omega
    generalize hH1 : upd (upd H b (HO.lst [V.int x', V.int y'])) l (HO.lst []) = H1 at bx1 e1
    have hl1 : H1 l = some (.lst []) := by rw [← hH1]; exact upd_same
    refine ⟨_, _, rfl, ?_⟩
    refine ⟨_, rfl, (by show 5 ≤ sizeLine; decide), fun p np => ?_⟩
    have sp := Same.new (o := .lst (([0, 0, 0, 1, 2] : List Int).map V.int)) np
    refine ⟨b, p, _, rfl, bx1.same sp, upd_same, box_ne bx1 np, List.cons_ne_nil _ _, (by show 5 ≤ 1000; decide), fun j v H2 hv e2 bx2 => ?_⟩
    obtain ⟨z, hz, rfl⟩ := ints_get (ns := [0, 0, 0, 1, 2]) hv
    have hz2 : z = 0 ∨ z = 1 ∨ z = 2 := by simpa using hz
    have e12 : SameX b H H2 := e1.trans ((SameX.of sp).trans e2)
    have hl2 : H2 l = some (.lst []) := e2 _ _ (sp _ _ hl1) lb
    refine ⟨z, rfl, by omega, by omega, ?_⟩
    refine for_range (n := z.toNat) (fun i σ H3 => ∃ s3 s4 ws ks, σ = [some (.ref b), some (.int top), some (.bl sec), s3, s4, some (.int (1 + r)), some (.ref l)] ∧ SameX b H H3 ∧ IsBox H3 b ∧ H3 l = some (.lst ws) ∧ IsRs knV H3 ws ks ∧ ks.all (knOk (1 + r)) = true ∧ ks.length ≤ i)
      ⟨_, _, [], [], rfl, e12, bx2, hl2, .nil, rfl, Nat.le_refl _⟩ ?_ ?_
    · rintro i σ H3 hi ⟨s3, s4, ws, ks, rfl, e3, bx3, hl3, r3, hk, hkl⟩
      obtain ⟨x3, y3, hb3⟩ := id bx3
      refine ⟨_, rfl, .inl ⟨rfl, ws, .inl (.inl hl3)⟩, _, rfl, _, rfl, b, x3, y3, 1 + r, rfl, hb3, by omega, by omega, fun r4 x4 y4 r40 r41 => ?_⟩
      refine ⟨_, rfl, b, x4, y4, 2, rfl, upd_same, by decide, by decide, fun r5 x5 y5 r50 r51 => ⟨rfl, ?_⟩⟩
      refine ⟨(by show 2 ≤ sizeLine; decide), fun p6 n6 => ?_⟩
      have eb : SameX b H3 (upd (upd H3 b (.lst [.int x4, .int y4])) b (.lst [.int x5, .int y5])) := SameX.upd.trans SameX.upd
      have s6 := Same.new (o := .tup [.int r4, .bl (decide (V.int r5 = V.int 0))]) n6
      have hl6 := s6 _ _ (eb _ _ hl3 lb)
      have hwl := r3.1
      refine ⟨l, ws, _, rfl, rfl, hl6, sz1000 (by omega), ?_⟩
      have e6 : SameX b H3 _ := eb.trans (.of s6)
      have nH6 : ∀ c o, H c = some o → c ≠ l := fun c o h => ne_of_none h nlH
      refine ⟨_, _, ws ++ [.ref p6], ks ++ [(r4, decide (V.int r5 = V.int 0))], rfl, ?_, ?_, upd_same, ?_, ?_, ?_⟩
      · intro c o h n
        rw [upd_ne (nH6 c o h)]
        exact e6 _ _ (e3 _ _ h n) n
      · refine ⟨x5, y5, ?_⟩
        rw [upd_ne lb.symm]
        exact s6 _ _ upd_same
      · exact ((r3.on (e6.tups bx3)).append (.one ⟨p6, rfl, upd_same⟩)).on (tup_upd hl6)
      · rw [List.all_append, hk]
        simp [knOk]
        omega
      · rw [List.length_append, List.length_singleton]
        omega
    · rintro σ H3 ⟨s3, s4, ws, ks, rfl, e3, bx3, hl3, r3, hk, hkl⟩
      obtain ⟨x3, y3, hb3⟩ := id bx3
      -- _law_many
      refine ⟨_, rfl, _, rfl, b, x3, y3, 4, rfl, hb3, by decide, by decide, fun r4 x4 y4 r40 r41 => ?_⟩
      have e4 : SameX b H3 (upd H3 b (.lst [.int x4, .int y4])) := SameX.upd
      have bx4 : IsBox (upd H3 b (.lst [.int x4, .int y4])) b := IsBox.new
      generalize upd H3 b (HO.lst [V.int x4, V.int y4]) = H4 at e4 bx4
      refine ⟨(by show 3 ≤ sizeLine; decide), fun p5 n5 => ?_⟩
      have s5 := Same.new (o := .lst [.non, .non, .int r4]) n5
      refine ⟨b, p5, _, rfl, bx4.same s5, upd_same, box_ne bx4 n5, List.cons_ne_nil _ _, (by show 3 ≤ 1000; decide), fun j5 v5 H5 hv5 e5 bx5 => ?_⟩
      obtain ⟨m, rfl, hm0, hm1⟩ : ∃ m : Option Int, v5 = mostV m ∧ mostOk m = true ∧ ∀ i, m = some i → 0 ≤ i ∧ i ≤ 3 := by
        match j5, hv5 with
        | 0, h => cases h; exact ⟨none, rfl, rfl, fun i h => by cases h⟩
        | 1, h => cases h; exact ⟨none, rfl, rfl, fun i h => by cases h⟩
        | 2, h => cases h; exact ⟨some r4, rfl, decide_eq_true r40, fun i h => by cases h; omega⟩
        | k + 3, h => simp at h
      have e35 : SameX b H3 H5 := e4.trans ((SameX.of s5).trans e5)
      -- the tuple
      refine ⟨_, rfl, _, rfl, (by show 4 ≤ sizeLine; decide), fun p6 n6 => ?_⟩
      have s6 := Same.new (o := .lst (([1, 1, 2, 3] : List Int).map V.int)) n6
      refine ⟨b, p6, _, rfl, bx5.same s6, upd_same, box_ne bx5 n6, List.cons_ne_nil _ _, (by show 4 ≤ 1000; decide), fun j6 v6 H6 hv6 e6 bx6 => ?_⟩
      obtain ⟨z6, hz6, rfl⟩ := ints_get (ns := [1, 1, 2, 3]) hv6
      have hz62 : 1 ≤ z6 ∧ z6 ≤ 3 := by simp at hz6; omega
      have e36 : SameX b H3 H6 := e35.trans ((SameX.of s6).trans e6)
      have hl6 : H6 l = some (.lst ws) := e36 _ _ hl3 lb
      have r6 : IsRs knV H6 ws ks := r3.on (e36.tups bx3)
      refine ⟨_, rfl, ?_⟩
      have fin : ∀ (p : Bool) (H7 : Hp), SameX b H6 H7 → IsBox H7 b → ∀ t, H7 t = none → Q (.ref t) (upd H7 t (.tup [.int (1 + r), .int z6, mostV m, .bl p, .ref l])) := by
        intro p H7 e7 bx7 t nt
        have st := Same.new (o := .tup [.int (1 + r), .int z6, mostV m, .bl p, .ref l]) nt
        have e67 : SameX b H6 _ := e7.trans (.of st)
        have kz : ∀ x ∈ ks, 0 ≤ x.1 ∧ x.1 < 1 + r := fun x hx => by
          have := List.all_eq_true.mp hk x hx
          simpa [knOk] using this
        refine q t l { n := 1 + r, s := z6, m := m, p := p, ks := ks } ws _ (e3.trans (e36.trans e67)) (bx7.same st) upd_same (e67 _ _ hl6 lb) nlH (r6.on (e67.tups bx6)) ⟨by show 1 ≤ 1 + r; omega, hz62.1, hm0, hk, by show ks.length ≤ 1000; omega⟩
          ⟨by show 0 ≤ 1 + r; omega, by show 1 + r ≤ 99; omega, by show 0 ≤ z6; omega, by show z6 ≤ 99; omega, fun i h => by have := hm1 i h; omega, fun x hx => by have := kz x hx; omega, by show ks.length ≤ 1000; omega⟩ hn (by show ks.length ≤ 2; omega)
      refine ⟨_, rfl, sec, rfl, ?_⟩
      cases sec with
      | false =>
        refine iteF ?_
        exact ⟨_, rfl, (by show 5 ≤ sizeLine; decide), fun t nt => fin false H6 SameX.refl bx6 t nt⟩
      | true =>
        refine iteT ?_
        obtain ⟨x6, y6, hb6⟩ := id bx6
        refine ⟨_, rfl, b, x6, y6, 3, rfl, hb6, by decide, by decide, fun r7 x7 y7 r70 r71 => ⟨rfl, ?_⟩⟩
        exact ⟨_, rfl, (by show 5 ≤ sizeLine; decide), fun t nt => fin _ _ SameX.upd IsBox.new t nt⟩
end
end DD

set_option Elab.async false
set_option linter.all false
set_option maxRecDepth 100000
set_option maxHeartbeats 2000000
namespace DD
open PySem PySem.Spec PyProof.Rows L2 StX
theorem fW_le {f : Fr} (z : FrLn f) : ∀ x ∈ fW f, x.length ≤ 8 := by
  intro x hx
  unfold fW tailW at hx
  rw [List.mem_cons, List.mem_cons, List.mem_cons, List.mem_cons, List.mem_append, List.mem_append] at hx
  have li : ∀ {i : Int}, 0 ≤ i → i ≤ 1000 → (intT i).length ≤ 8 := fun a b => Nat.le_trans (len_int a b) (by decide)
  rcases hx with rfl | rfl | rfl | rfl | hx | hx | hx
  · decide +kernel
  · exact li z.n0 z.n
  · decide +kernel
  · exact li z.s0 z.s
  · cases e : f.m with
    | none => rw [e] at hx; cases hx
    | some i =>
      rw [e] at hx
      rcases List.mem_cons.mp hx with rfl | hx
      · decide +kernel
      · obtain rfl := List.mem_singleton.mp hx
        exact li (z.m i e).1 (z.m i e).2
  · unfold pW at hx
    split at hx
    · obtain rfl := List.mem_singleton.mp hx
      decide +kernel
    · cases hx
  · obtain ⟨y, hy, hx⟩ := List.mem_flatMap.mp hx
    rcases List.mem_cons.mp hx with rfl | hx
    · cases y.2 <;> decide +kernel
    · obtain rfl := List.mem_singleton.mp hx
      exact li (z.k y hy).1 (z.k y hy).2
theorem fW_len {f : Fr} : (fW f).length ≤ 7 + 2 * f.ks.length := by
  obtain ⟨n, s, m, p, ks⟩ := f
  unfold fW tailW
  rw [List.length_cons, List.length_cons, List.length_cons, List.length_cons, List.length_append, List.length_append, kW_len]
  cases m <;> cases p <;> simp [mW, pW] <;> omega
theorem fW_bound {f : Fr} (z : FrLn f) : ((fW f).map (·.length)).sum + (fW f).length * SPC.length ≤ 20000 := by
  have h1 := sum_le (f := fun x : Str => x.length) (k := 8) (fW_le z)
  have h2 := fW_len (f := f)
  have hl := z.l
  rw [show SPC.length = 1 from by decide +kernel]
  omega
theorem frameText_join (f : Fr) : frameText f = Txt.join SPC (fW f) := (TL.join_eq SPC (fW f)).symm
theorem cat_len {a b : List Str} (h : a.length + b.length ≤ 100000) : (a.map V.str).length + (b.map V.str).length ≤ sizeLine := by
  rw [List.length_map, List.length_map]
  exact sz h
section
variable {P : Program} {w : World} {K : PySem.W.Frag} {mg : Str → Option Value} {base : Heap} {d : Ad}
def sp_law_frame_text : Sp := fun vs H Q _ => ∃ (t l : Addr) (f : Fr) (ws : List V), vs = [.ref t] ∧ H t = some (.tup [.int f.n, .int f.s, mostV f.m, .bl f.p, .ref l]) ∧ H l = some (.lst ws) ∧ IsRs knV H ws f.ks ∧ FrLn f ∧ ∀ H', Same H H' → Q (.str (frameText f)) H'
theorem ok__law_frame_text (T : Txt K mg d) : FnR P w K mg base CX0 1 d.f__law_frame_text sp_law_frame_text := by
  refine mkR T.F__law_frame_text sc__law_frame_text (fun vs H Q E h => ?_) (fun _ _ _ _ _ _ us hl => match us, hl with | [_], _ => rfl) (fun cdv A outer s H vs Q E hr h => ?_)
  · obtain ⟨_, _, _, _, rfl, _⟩ := h
    rfl
  · obtain ⟨t, l, ⟨n, st, m, p, ks⟩, ws, rfl, ht, hl, hr2, z, q⟩ := h
    refine ⟨_, (pss_cons (ps_set (i := 1) sc__law_frame_text.nd rfl (by first | exact Or.inl rfl | exact Or.inr rfl) (pe_lst (pa_cons pe_str (pa_cons (pe_callTy call_str_int rfl T.b_str (by decide +kernel) (pa_cons (pe_ix ix_tup (pv 0) pe_int (fun _ _ => rfl)) pa_nil)) (pa_cons pe_str (pa_cons (pe_callTy call_str_int rfl T.b_str (by decide +kernel) (pa_cons (pe_ix ix_tup (pv 0) pe_int (fun _ _ => rfl)) pa_nil)) pa_nil)))))) (pss_cons (ps_set (i := 1) sc__law_frame_text.nd rfl (by first | exact Or.inl rfl | exact Or.inr rfl) (pe_op op_cat (pe_op op_cat (pv 1) (pe_ifExp (pt_cmp (pc_notN (pe_ix ix_tup (pv 0) pe_int (fun _ _ => rfl)))) (pe_lst (pa_cons pe_str (pa_cons (pe_callTy call_str_int rfl T.b_str (by decide +kernel) (pa_cons (pe_ix ix_tup (pv 0) pe_int (fun _ _ => rfl)) pa_nil)) pa_nil))) (pe_lst pa_nil))) (pe_ifExp (pt_val (pe_ix ix_tup (pv 0) pe_int (fun _ _ => rfl))) (pe_lst (pa_cons pe_str pa_nil)) (pe_lst pa_nil)))) (pss_cons (ps_for PassesOwn.never rfl (pi_list (pe_ix ix_tup (pv 0) pe_int (fun _ _ => rfl))) (pg_tup rfl (pgs_cons (pg_name (i := 2) sc__law_frame_text.nd rfl (by first | exact Or.inl rfl | exact Or.inr rfl)) (pgs_cons (pg_name (i := 3) sc__law_frame_text.nd rfl (by first | exact Or.inl rfl | exact Or.inr rfl)) pgs_nil))) (pss_one (ps_set (i := 1) sc__law_frame_text.nd rfl (by first | exact Or.inl rfl | exact Or.inr rfl) (pe_op op_cat (pv 1) (pe_lst (pa_cons (pe_ifExp (pt_val (pv 3)) pe_str pe_str) (pa_cons (pe_callTy call_str_int rfl T.b_str (by decide +kernel) (pa_cons (pv 2) pa_nil)) pa_nil))))))) (pss_one (ps_ret (pe_bm PySem.F.plainAttrs_str PySem.F.slot_str_join PySem.F.type_str_join mt_join pe_str (pa_cons (pv 1) pa_nil))))))), ?_⟩
    refine ⟨_, rfl, t, _, _, _, rfl, rfl, .inl (.inl ht), atI_nat (j := 0) rfl, n, rfl, log_int z.n0 z.n, ?_⟩
    refine ⟨_, rfl, t, _, _, _, rfl, rfl, .inl (.inl ht), atI_nat (j := 1) rfl, st, rfl, log_int z.s0 z.s, ?_⟩
    refine ⟨(by show 4 ≤ sizeLine; decide), fun w0 nw0 => ?_⟩
    have s0 := Same.new (o := .lst ([("length" : Str), intT n, "shortest", intT st].map V.str)) nw0
    have h0 : upd H w0 (.lst ([("length" : Str), intT n, "shortest", intT st].map V.str)) w0 = some (.lst ([("length" : Str), intT n, "shortest", intT st].map V.str)) := upd_same
    have hz : ks.length ≤ 1000 := z.l
    have ht0 := s0 _ _ ht
    have hwl : ws.length = ks.length := hr2.1
    cases m with
    | none =>
      refine ⟨_, rfl, _, rfl, t, _, _, _, rfl, rfl, .inl (.inl ht0), atI_nat (j := 2) rfl, _, rfl, iteF ?_⟩
      refine ⟨(by show 0 ≤ sizeLine; decide), fun p1 n1 => ?_⟩
      have s1 := Same.new (o := .lst (([] : List Str).map V.str)) n1
      refine ⟨w0, p1, _, _, rfl, rfl, s1 _ _ h0, upd_same, cat_len (a := ["length", intT n, "shortest", intT st]) (b := []) (by show 4 + 0 ≤ 100000; decide), fun w1 nw1 => ?_⟩
      have sw1 := Same.new (o := .lst ([("length" : Str), intT n, "shortest", intT st].map V.str)) nw1
      have s01 := s0.trans (s1.trans sw1)
      refine ⟨_, rfl, t, _, _, _, rfl, rfl, .inl (.inl (s01 _ _ ht)), atI_nat (j := 3) rfl, p, rfl, ?_⟩
      cases p with
      | false =>
        refine iteF ?_
        refine ⟨(by show 0 ≤ sizeLine; decide), fun p2 n2 => ?_⟩
        have s2 := Same.new (o := .lst (([] : List Str).map V.str)) n2
        refine ⟨w1, p2, _, _, rfl, rfl, s2 _ _ upd_same, upd_same, cat_len (a := [("length" : Str), intT n, "shortest", intT st]) (b := []) (by show 4 + 0 ≤ 100000; decide), fun w2 nw2 => ?_⟩
        have sw2 := Same.new (o := .lst ([("length" : Str), intT n, "shortest", intT st].map V.str)) nw2
        have s02 := s01.trans (s2.trans sw2)
        refine ⟨_, rfl, t, _, _, _, rfl, rfl, .inl (.inl (s02 _ _ ht)), atI_nat (j := 4) rfl, l, rfl, ⟨ws, .inl (.inl (s02 _ _ hl))⟩, for_list (K := K) (a := l) (xs := ws) (fun j σ H3 => ∃ x2 x3 wl, σ = [some (.ref t), some (.ref wl), x2, x3] ∧ Same H H3 ∧ H3 wl = some (.lst (([("length" : Str), intT n, "shortest", intT st] ++ kW (ks.take j)).map V.str)))
          ⟨none, none, w2, rfl, s02, upd_same⟩ (fun j σ H3 _ ⟨_, _, _, _, s3, _⟩ => .inl (.inl (s3 _ _ hl))) ?_ ?_⟩
        · rintro j x σ H3 hx ⟨x2, x3, wl, rfl, s3, h3⟩
          obtain ⟨k, hk1, hk2⟩ := hr2.get hx
          obtain ⟨c, rfl, hc⟩ := (hk2.on (fun b zs e => s3 _ _ e) : IsRw knV H3 _ k)
          obtain ⟨k0, k1⟩ := z.k k (List.mem_of_getElem? hk1)
          have hjl := (List.getElem?_eq_some_iff.mp hk1).1
          refine ⟨c, _, rfl, .inl (.inl hc), rfl, _, _, rfl, _, _, rfl, rfl, ?_⟩
          have fin : ∀ (p3 : Addr), H3 p3 = none → ∀ r, upd H3 p3 (.lst ([kw k.2, intT k.1].map V.str)) r = none → ∃ x2 x3 wl2, ([some (V.ref t), some (V.ref r), some (V.int k.1), some (V.bl k.2)] : L2.St) = [some (.ref t), some (.ref wl2), x2, x3] ∧ Same H (upd (upd H3 p3 (.lst ([kw k.2, intT k.1].map V.str))) r (.lst (([("length" : Str), intT n, "shortest", intT st] ++ kW (ks.take j)).map V.str ++ [kw k.2, intT k.1].map V.str))) ∧ upd (upd H3 p3 (.lst ([kw k.2, intT k.1].map V.str))) r (.lst (([("length" : Str), intT n, "shortest", intT st] ++ kW (ks.take j)).map V.str ++ [kw k.2, intT k.1].map V.str)) wl2 = some (.lst (([("length" : Str), intT n, "shortest", intT st] ++ kW (ks.take (j + 1))).map V.str)) := by
            intro p3 n3 r nr
            refine ⟨_, _, r, rfl, s3.trans ((Same.new n3).trans (Same.new nr)), ?_⟩
            rw [upd_same, takeSnoc hk1, ← List.map_append, List.append_assoc]
            simp [kW]
          have cl : ([("length" : Str), intT n, "shortest", intT st] ++ kW (ks.take j)).length + 2 ≤ 100000 := by
            rw [List.length_append, kW_len, List.length_take]
            show 4 + 2 * (min j ks.length) + 2 ≤ 100000
            omega
          refine ⟨_, rfl, _, rfl, k.2, rfl, ?_⟩
          cases hb : k.2 with
          | false =>
            rw [hb] at fin
            refine iteF ?_
            refine ⟨_, rfl, k.1, rfl, log_int k0 k1, (by show 2 ≤ sizeLine; decide), fun p3 n3 => ?_⟩
            have s4 := Same.new (o := .lst ([kw false, intT k.1].map V.str)) n3
            exact ⟨wl, p3, _, _, rfl, rfl, s4 _ _ h3, upd_same, cat_len (a := [("length" : Str), intT n, "shortest", intT st] ++ kW (ks.take j)) (b := [kw false, intT k.1]) cl, fun r nr => fin p3 n3 r nr⟩
          | true =>
            rw [hb] at fin
            refine iteT ?_
            refine ⟨_, rfl, k.1, rfl, log_int k0 k1, (by show 2 ≤ sizeLine; decide), fun p3 n3 => ?_⟩
            have s4 := Same.new (o := .lst ([kw true, intT k.1].map V.str)) n3
            exact ⟨wl, p3, _, _, rfl, rfl, s4 _ _ h3, upd_same, cat_len (a := [("length" : Str), intT n, "shortest", intT st] ++ kW (ks.take j)) (b := [kw true, intT k.1]) cl, fun r nr => fin p3 n3 r nr⟩
        · rintro σ H3 ⟨x2, x3, wl, rfl, s3, h3⟩
          rw [hwl, List.take_length] at h3
          have zb := fW_bound z
          refine ⟨rfl, _, rfl, _, wl, [("length" : Str), intT n, "shortest", intT st] ++ kW ks, rfl, rfl, .inl (.inl (.inl h3)), Nat.le_trans zb (by decide), ?_⟩
          have q2 := q H3 s3
          rw [frameText_join] at q2
          exact q2
      | true =>
        refine iteT ?_
        refine ⟨(by show 1 ≤ sizeLine; decide), fun p2 n2 => ?_⟩
        have s2 := Same.new (o := .lst ([("private" : Str)].map V.str)) n2
        refine ⟨w1, p2, _, _, rfl, rfl, s2 _ _ upd_same, upd_same, cat_len (a := [("length" : Str), intT n, "shortest", intT st]) (b := ["private"]) (by show 4 + 1 ≤ 100000; decide), fun w2 nw2 => ?_⟩
        have sw2 := Same.new (o := .lst ([("length" : Str), intT n, "shortest", intT st, "private"].map V.str)) nw2
        have s02 := s01.trans (s2.trans sw2)
        refine ⟨_, rfl, t, _, _, _, rfl, rfl, .inl (.inl (s02 _ _ ht)), atI_nat (j := 4) rfl, l, rfl, ⟨ws, .inl (.inl (s02 _ _ hl))⟩, for_list (K := K) (a := l) (xs := ws) (fun j σ H3 => ∃ x2 x3 wl, σ = [some (.ref t), some (.ref wl), x2, x3] ∧ Same H H3 ∧ H3 wl = some (.lst (([("length" : Str), intT n, "shortest", intT st, "private"] ++ kW (ks.take j)).map V.str)))
          ⟨none, none, w2, rfl, s02, upd_same⟩ (fun j σ H3 _ ⟨_, _, _, _, s3, _⟩ => .inl (.inl (s3 _ _ hl))) ?_ ?_⟩
        · rintro j x σ H3 hx ⟨x2, x3, wl, rfl, s3, h3⟩
          obtain ⟨k, hk1, hk2⟩ := hr2.get hx
          obtain ⟨c, rfl, hc⟩ := (hk2.on (fun b zs e => s3 _ _ e) : IsRw knV H3 _ k)
          obtain ⟨k0, k1⟩ := z.k k (List.mem_of_getElem? hk1)
          have hjl := (List.getElem?_eq_some_iff.mp hk1).1
          refine ⟨c, _, rfl, .inl (.inl hc), rfl, _, _, rfl, _, _, rfl, rfl, ?_⟩
          have fin : ∀ (p3 : Addr), H3 p3 = none → ∀ r, upd H3 p3 (.lst ([kw k.2, intT k.1].map V.str)) r = none → ∃ x2 x3 wl2, ([some (V.ref t), some (V.ref r), some (V.int k.1), some (V.bl k.2)] : L2.St) = [some (.ref t), some (.ref wl2), x2, x3] ∧ Same H (upd (upd H3 p3 (.lst ([kw k.2, intT k.1].map V.str))) r (.lst (([("length" : Str), intT n, "shortest", intT st, "private"] ++ kW (ks.take j)).map V.str ++ [kw k.2, intT k.1].map V.str))) ∧ upd (upd H3 p3 (.lst ([kw k.2, intT k.1].map V.str))) r (.lst (([("length" : Str), intT n, "shortest", intT st, "private"] ++ kW (ks.take j)).map V.str ++ [kw k.2, intT k.1].map V.str)) wl2 = some (.lst (([("length" : Str), intT n, "shortest", intT st, "private"] ++ kW (ks.take (j + 1))).map V.str)) := by
            intro p3 n3 r nr
            refine ⟨_, _, r, rfl, s3.trans ((Same.new n3).trans (Same.new nr)), ?_⟩
            rw [upd_same, takeSnoc hk1, ← List.map_append, List.append_assoc]
            simp [kW]
          have cl : ([("length" : Str), intT n, "shortest", intT st, "private"] ++ kW (ks.take j)).length + 2 ≤ 100000 := by
            rw [List.length_append, kW_len, List.length_take]
            show 5 + 2 * (min j ks.length) + 2 ≤ 100000
            omega
          refine ⟨_, rfl, _, rfl, k.2, rfl, ?_⟩
          cases hb : k.2 with
          | false =>
            rw [hb] at fin
            refine iteF ?_
            refine ⟨_, rfl, k.1, rfl, log_int k0 k1, (by show 2 ≤ sizeLine; decide), fun p3 n3 => ?_⟩
            have s4 := Same.new (o := .lst ([kw false, intT k.1].map V.str)) n3
            exact ⟨wl, p3, _, _, rfl, rfl, s4 _ _ h3, upd_same, cat_len (a := [("length" : Str), intT n, "shortest", intT st, "private"] ++ kW (ks.take j)) (b := [kw false, intT k.1]) cl, fun r nr => fin p3 n3 r nr⟩
          | true =>
            rw [hb] at fin
            refine iteT ?_
            refine ⟨_, rfl, k.1, rfl, log_int k0 k1, (by show 2 ≤ sizeLine; decide), fun p3 n3 => ?_⟩
            have s4 := Same.new (o := .lst ([kw true, intT k.1].map V.str)) n3
            exact ⟨wl, p3, _, _, rfl, rfl, s4 _ _ h3, upd_same, cat_len (a := [("length" : Str), intT n, "shortest", intT st, "private"] ++ kW (ks.take j)) (b := [kw true, intT k.1]) cl, fun r nr => fin p3 n3 r nr⟩
        · rintro σ H3 ⟨x2, x3, wl, rfl, s3, h3⟩
          rw [hwl, List.take_length] at h3
          have zb := fW_bound z
          refine ⟨rfl, _, rfl, _, wl, [("length" : Str), intT n, "shortest", intT st, "private"] ++ kW ks, rfl, rfl, .inl (.inl (.inl h3)), Nat.le_trans zb (by decide), ?_⟩
          have q2 := q H3 s3
          rw [frameText_join] at q2
          exact q2
    | some i =>
      obtain ⟨i0, i1⟩ := z.m i rfl
      refine ⟨_, rfl, _, rfl, t, _, _, _, rfl, rfl, .inl (.inl ht0), atI_nat (j := 2) rfl, _, rfl, iteT ?_⟩
      refine ⟨_, rfl, t, _, _, _, rfl, rfl, .inl (.inl ht0), atI_nat (j := 2) rfl, i, rfl, log_int i0 i1, ?_⟩
      refine ⟨(by show 2 ≤ sizeLine; decide), fun p1 n1 => ?_⟩
      have s1 := Same.new (o := .lst ([("most" : Str), intT i].map V.str)) n1
      refine ⟨w0, p1, _, _, rfl, rfl, s1 _ _ h0, upd_same, cat_len (a := ["length", intT n, "shortest", intT st]) (b := ["most", intT i]) (by show 4 + 2 ≤ 100000; decide), fun w1 nw1 => ?_⟩
      have sw1 := Same.new (o := .lst ([("length" : Str), intT n, "shortest", intT st, "most", intT i].map V.str)) nw1
      have s01 := s0.trans (s1.trans sw1)
      refine ⟨_, rfl, t, _, _, _, rfl, rfl, .inl (.inl (s01 _ _ ht)), atI_nat (j := 3) rfl, p, rfl, ?_⟩
      cases p with
      | false =>
        refine iteF ?_
        refine ⟨(by show 0 ≤ sizeLine; decide), fun p2 n2 => ?_⟩
        have s2 := Same.new (o := .lst (([] : List Str).map V.str)) n2
        refine ⟨w1, p2, _, _, rfl, rfl, s2 _ _ upd_same, upd_same, cat_len (a := [("length" : Str), intT n, "shortest", intT st, "most", intT i]) (b := []) (by show 6 + 0 ≤ 100000; decide), fun w2 nw2 => ?_⟩
        have sw2 := Same.new (o := .lst ([("length" : Str), intT n, "shortest", intT st, "most", intT i].map V.str)) nw2
        have s02 := s01.trans (s2.trans sw2)
        refine ⟨_, rfl, t, _, _, _, rfl, rfl, .inl (.inl (s02 _ _ ht)), atI_nat (j := 4) rfl, l, rfl, ⟨ws, .inl (.inl (s02 _ _ hl))⟩, for_list (K := K) (a := l) (xs := ws) (fun j σ H3 => ∃ x2 x3 wl, σ = [some (.ref t), some (.ref wl), x2, x3] ∧ Same H H3 ∧ H3 wl = some (.lst (([("length" : Str), intT n, "shortest", intT st, "most", intT i] ++ kW (ks.take j)).map V.str)))
          ⟨none, none, w2, rfl, s02, upd_same⟩ (fun j σ H3 _ ⟨_, _, _, _, s3, _⟩ => .inl (.inl (s3 _ _ hl))) ?_ ?_⟩
        · rintro j x σ H3 hx ⟨x2, x3, wl, rfl, s3, h3⟩
          obtain ⟨k, hk1, hk2⟩ := hr2.get hx
          obtain ⟨c, rfl, hc⟩ := (hk2.on (fun b zs e => s3 _ _ e) : IsRw knV H3 _ k)
          obtain ⟨k0, k1⟩ := z.k k (List.mem_of_getElem? hk1)
          have hjl := (List.getElem?_eq_some_iff.mp hk1).1
          refine ⟨c, _, rfl, .inl (.inl hc), rfl, _, _, rfl, _, _, rfl, rfl, ?_⟩
          have fin : ∀ (p3 : Addr), H3 p3 = none → ∀ r, upd H3 p3 (.lst ([kw k.2, intT k.1].map V.str)) r = none → ∃ x2 x3 wl2, ([some (V.ref t), some (V.ref r), some (V.int k.1), some (V.bl k.2)] : L2.St) = [some (.ref t), some (.ref wl2), x2, x3] ∧ Same H (upd (upd H3 p3 (.lst ([kw k.2, intT k.1].map V.str))) r (.lst (([("length" : Str), intT n, "shortest", intT st, "most", intT i] ++ kW (ks.take j)).map V.str ++ [kw k.2, intT k.1].map V.str))) ∧ upd (upd H3 p3 (.lst ([kw k.2, intT k.1].map V.str))) r (.lst (([("length" : Str), intT n, "shortest", intT st, "most", intT i] ++ kW (ks.take j)).map V.str ++ [kw k.2, intT k.1].map V.str)) wl2 = some (.lst (([("length" : Str), intT n, "shortest", intT st, "most", intT i] ++ kW (ks.take (j + 1))).map V.str)) := by
            intro p3 n3 r nr
            refine ⟨_, _, r, rfl, s3.trans ((Same.new n3).trans (Same.new nr)), ?_⟩
            rw [upd_same, takeSnoc hk1, ← List.map_append, List.append_assoc]
            simp [kW]
          have cl : ([("length" : Str), intT n, "shortest", intT st, "most", intT i] ++ kW (ks.take j)).length + 2 ≤ 100000 := by
            rw [List.length_append, kW_len, List.length_take]
            show 6 + 2 * (min j ks.length) + 2 ≤ 100000
            omega
          refine ⟨_, rfl, _, rfl, k.2, rfl, ?_⟩
          cases hb : k.2 with
          | false =>
            rw [hb] at fin
            refine iteF ?_
            refine ⟨_, rfl, k.1, rfl, log_int k0 k1, (by show 2 ≤ sizeLine; decide), fun p3 n3 => ?_⟩
            have s4 := Same.new (o := .lst ([kw false, intT k.1].map V.str)) n3
            exact ⟨wl, p3, _, _, rfl, rfl, s4 _ _ h3, upd_same, cat_len (a := [("length" : Str), intT n, "shortest", intT st, "most", intT i] ++ kW (ks.take j)) (b := [kw false, intT k.1]) cl, fun r nr => fin p3 n3 r nr⟩
          | true =>
            rw [hb] at fin
            refine iteT ?_
            refine ⟨_, rfl, k.1, rfl, log_int k0 k1, (by show 2 ≤ sizeLine; decide), fun p3 n3 => ?_⟩
            have s4 := Same.new (o := .lst ([kw true, intT k.1].map V.str)) n3
            exact ⟨wl, p3, _, _, rfl, rfl, s4 _ _ h3, upd_same, cat_len (a := [("length" : Str), intT n, "shortest", intT st, "most", intT i] ++ kW (ks.take j)) (b := [kw true, intT k.1]) cl, fun r nr => fin p3 n3 r nr⟩
        · rintro σ H3 ⟨x2, x3, wl, rfl, s3, h3⟩
          rw [hwl, List.take_length] at h3
          have zb := fW_bound z
          refine ⟨rfl, _, rfl, _, wl, [("length" : Str), intT n, "shortest", intT st, "most", intT i] ++ kW ks, rfl, rfl, .inl (.inl (.inl h3)), Nat.le_trans zb (by decide), ?_⟩
          have q2 := q H3 s3
          rw [frameText_join] at q2
          exact q2
      | true =>
        refine iteT ?_
        refine ⟨(by show 1 ≤ sizeLine; decide), fun p2 n2 => ?_⟩
        have s2 := Same.new (o := .lst ([("private" : Str)].map V.str)) n2
        refine ⟨w1, p2, _, _, rfl, rfl, s2 _ _ upd_same, upd_same, cat_len (a := [("length" : Str), intT n, "shortest", intT st, "most", intT i]) (b := ["private"]) (by show 6 + 1 ≤ 100000; decide), fun w2 nw2 => ?_⟩
        have sw2 := Same.new (o := .lst ([("length" : Str), intT n, "shortest", intT st, "most", intT i, "private"].map V.str)) nw2
        have s02 := s01.trans (s2.trans sw2)
        refine ⟨_, rfl, t, _, _, _, rfl, rfl, .inl (.inl (s02 _ _ ht)), atI_nat (j := 4) rfl, l, rfl, ⟨ws, .inl (.inl (s02 _ _ hl))⟩, for_list (K := K) (a := l) (xs := ws) (fun j σ H3 => ∃ x2 x3 wl, σ = [some (.ref t), some (.ref wl), x2, x3] ∧ Same H H3 ∧ H3 wl = some (.lst (([("length" : Str), intT n, "shortest", intT st, "most", intT i, "private"] ++ kW (ks.take j)).map V.str)))
          ⟨none, none, w2, rfl, s02, upd_same⟩ (fun j σ H3 _ ⟨_, _, _, _, s3, _⟩ => .inl (.inl (s3 _ _ hl))) ?_ ?_⟩
        · rintro j x σ H3 hx ⟨x2, x3, wl, rfl, s3, h3⟩
          obtain ⟨k, hk1, hk2⟩ := hr2.get hx
          obtain ⟨c, rfl, hc⟩ := (hk2.on (fun b zs e => s3 _ _ e) : IsRw knV H3 _ k)
          obtain ⟨k0, k1⟩ := z.k k (List.mem_of_getElem? hk1)
          have hjl := (List.getElem?_eq_some_iff.mp hk1).1
          refine ⟨c, _, rfl, .inl (.inl hc), rfl, _, _, rfl, _, _, rfl, rfl, ?_⟩
          have fin : ∀ (p3 : Addr), H3 p3 = none → ∀ r, upd H3 p3 (.lst ([kw k.2, intT k.1].map V.str)) r = none → ∃ x2 x3 wl2, ([some (V.ref t), some (V.ref r), some (V.int k.1), some (V.bl k.2)] : L2.St) = [some (.ref t), some (.ref wl2), x2, x3] ∧ Same H (upd (upd H3 p3 (.lst ([kw k.2, intT k.1].map V.str))) r (.lst (([("length" : Str), intT n, "shortest", intT st, "most", intT i, "private"] ++ kW (ks.take j)).map V.str ++ [kw k.2, intT k.1].map V.str))) ∧ upd (upd H3 p3 (.lst ([kw k.2, intT k.1].map V.str))) r (.lst (([("length" : Str), intT n, "shortest", intT st, "most", intT i, "private"] ++ kW (ks.take j)).map V.str ++ [kw k.2, intT k.1].map V.str)) wl2 = some (.lst (([("length" : Str), intT n, "shortest", intT st, "most", intT i, "private"] ++ kW (ks.take (j + 1))).map V.str)) := by
            intro p3 n3 r nr
            refine ⟨_, _, r, rfl, s3.trans ((Same.new n3).trans (Same.new nr)), ?_⟩
            rw [upd_same, takeSnoc hk1, ← List.map_append, List.append_assoc]
            simp [kW]
          have cl : ([("length" : Str), intT n, "shortest", intT st, "most", intT i, "private"] ++ kW (ks.take j)).length + 2 ≤ 100000 := by
            rw [List.length_append, kW_len, List.length_take]
            show 7 + 2 * (min j ks.length) + 2 ≤ 100000
            omega
          refine ⟨_, rfl, _, rfl, k.2, rfl, ?_⟩
          cases hb : k.2 with
          | false =>
            rw [hb] at fin
            refine iteF ?_
            refine ⟨_, rfl, k.1, rfl, log_int k0 k1, (by show 2 ≤ sizeLine; decide), fun p3 n3 => ?_⟩
            have s4 := Same.new (o := .lst ([kw false, intT k.1].map V.str)) n3
            exact ⟨wl, p3, _, _, rfl, rfl, s4 _ _ h3, upd_same, cat_len (a := [("length" : Str), intT n, "shortest", intT st, "most", intT i, "private"] ++ kW (ks.take j)) (b := [kw false, intT k.1]) cl, fun r nr => fin p3 n3 r nr⟩
          | true =>
            rw [hb] at fin
            refine iteT ?_
            refine ⟨_, rfl, k.1, rfl, log_int k0 k1, (by show 2 ≤ sizeLine; decide), fun p3 n3 => ?_⟩
            have s4 := Same.new (o := .lst ([kw true, intT k.1].map V.str)) n3
            exact ⟨wl, p3, _, _, rfl, rfl, s4 _ _ h3, upd_same, cat_len (a := [("length" : Str), intT n, "shortest", intT st, "most", intT i, "private"] ++ kW (ks.take j)) (b := [kw true, intT k.1]) cl, fun r nr => fin p3 n3 r nr⟩
        · rintro σ H3 ⟨x2, x3, wl, rfl, s3, h3⟩
          rw [hwl, List.take_length] at h3
          have zb := fW_bound z
          refine ⟨rfl, _, rfl, _, wl, [("length" : Str), intT n, "shortest", intT st, "most", intT i, "private"] ++ kW ks, rfl, rfl, .inl (.inl (.inl h3)), Nat.le_trans zb (by decide), ?_⟩
          have q2 := q H3 s3
          rw [frameText_join] at q2
          exact q2
end
end DD

set_option Elab.async false
set_option linter.all false
set_option maxRecDepth 100000
set_option maxHeartbeats 4000000
namespace DD
open PySem PySem.Spec PyProof.Rows L2 StX ClX
theorem cutAll {xs : List V} {lo hi : Option Int} (h : HT.sIx xs.length 0 lo = 0 ∧ HT.sIx xs.length xs.length hi = xs.length) : cutV xs lo hi = xs := by
  unfold cutV
  rw [h.1, h.2]
  simp
theorem slaOf {K : PySem.W.Frag} {H : Hp} {p : Addr} {xs : List V} {lo hi : Option Int} {Q : VK} (hx : SqT K H p xs) (q : ∀ r H', Same H H' → SqT K H' r (cutV xs lo hi) → Q (.ref r) H') : rSlA K (.ref p) lo hi H Q := by
  refine ⟨p, xs, rfl, hx, fun hw => q p H (Same.refl H) ?_, fun _ t nt => q t _ (Same.new nt) (.inl (.inl upd_same))⟩
  rw [cutAll hw]
  exact hx
theorem catOf {K : PySem.W.Frag} {H : Hp} {p q : Addr} {xs ys : List V} {Q : VK} (hx : SqT K H p xs) (hy : SqT K H q ys) (hz : xs.length + ys.length ≤ sizeLine) (k : ∀ r H', Same H H' → SqT K H' r (xs ++ ys) → Q (.ref r) H') : rCatA K (.ref p) (.ref q) H Q := by
  refine ⟨p, q, xs, ys, rfl, rfl, hx, hy, hz, fun e => k q H (Same.refl H) ?_, fun _ e => k p H (Same.refl H) ?_, fun _ _ t nt => k t _ (Same.new nt) (.inl (.inl upd_same))⟩
  · rw [e]; exact hy
  · rw [e, List.append_nil]; exact hx
theorem sameX {H H1 H2 : Hp} {b : Addr} (e : Same H H1) (x : SameX b H1 H2) (n : H b = none) : Same H H2 := fun c o h => x c o (e c o h) (ne_of_none h n)
theorem itNB {c : Bool} {A B : Prop} (h : c = true) (q : B) : if (!c) = true then A else B := by
  rw [h]
  exact iteF q
theorem itFB {c : Bool} {A B : Prop} (h : c = false) (q : B) : if c = true then A else B := by
  rw [h]
  exact iteF q
/-! ### what repr tells of a frame -/
theorem kn_show : ∀ {ks : List Kn}, (∀ x ∈ ks, 0 ≤ x.1 ∧ x.1 ≤ 99) → PyData.showableAll (ks.map knD) = true ∧ PyData.hasDictAll (ks.map knD) = false ∧ piled (PyData.shownAll (ks.map knD)) ≤ ks.length * 30
  | [], _ => ⟨rfl, rfl, Nat.zero_le _⟩
  | k :: ks, h => by
    obtain ⟨h1, h2, h3⟩ := kn_show (ks := ks) fun x hx => h x (List.mem_cons_of_mem _ hx)
    obtain ⟨i0, i1⟩ := h k (List.mem_cons_self ..)
    refine ⟨?_, ?_, ?_⟩
    · show ((decide (k.1.natAbs.log2 < 1920) && (true && true)) && PyData.showableAll (ks.map knD)) = true
      rw [h1, decide_eq_true (log_int i0 (by omega))]
      rfl
    · show ((false || (false || false)) || PyData.hasDictAll (ks.map knD)) = false
      rw [h2]
      rfl
    · show piled (tupleText [intT k.1, PyData.shown (.bool k.2)] :: PyData.shownAll (ks.map knD)) ≤ _
      have z := fmt_text [intT k.1, PyData.shown (.bool k.2)]
      have hb : (PyData.shown (.bool k.2)).length ≤ 5 := by cases k.2 <;> decide +kernel
      have hi := len_int i0 (by omega : k.1 ≤ 1000)
      rw [piled_cons, piled_cons, piled_nil] at z
      rw [piled_cons]
      simp only [List.length_cons]
      omega
def frD (f : Fr) : PyData := .tuple [.int f.n, .int f.s, mostD f.m, .bool f.p, ksD f.ks]
theorem fr_show {f : Fr} (z : FrSm f 99) : (frD f).showable = true ∧ (frD f).hasDict = false ∧ (frD f).depth ≤ 60 ∧ (frD f).shown.length ≤ sizeLine := by
  obtain ⟨h1, h2, h3⟩ := kn_show z.k
  have hz := z.l
  have hn := z.n
  have hs := z.s
  have mo : PyData.showable (mostD f.m) = true ∧ PyData.hasDict (mostD f.m) = false ∧ PyData.depth (mostD f.m) = 0 ∧ (PyData.shown (mostD f.m)).length ≤ 5 := by
    cases e : f.m with
    | none => exact ⟨rfl, rfl, rfl, by decide +kernel⟩
    | some i =>
      obtain ⟨i0, i1⟩ := z.m i e
      exact ⟨decide_eq_true (log_int i0 (by omega)), rfl, rfl, len_int i0 (by omega)⟩
  refine ⟨?_, ?_, ?_, ?_⟩
  · show (decide (f.n.natAbs.log2 < 1920) && (decide (f.s.natAbs.log2 < 1920) && (PyData.showable (mostD f.m) && (true && (PyData.showableAll (f.ks.map knD) && true))))) = true
    rw [h1, mo.1, decide_eq_true (log_int z.n0 (by omega)), decide_eq_true (log_int z.s0 (by omega))]
    rfl
  · show (false || (false || (PyData.hasDict (mostD f.m) || (false || (PyData.hasDictAll (f.ks.map knD) || false))))) = false
    rw [h2, mo.2.1]
    rfl
  · show max 0 (max 0 (max (PyData.depth (mostD f.m)) (max 0 (max (PyData.depthAll (f.ks.map knD) + 1) 0)))) + 1 ≤ 60
    have := depth_kns (ks := f.ks)
    rw [mo.2.2.1]
    omega
  · have z1 := fmt_text (PyData.shownAll (f.ks.map knD))
    have z2 := fmt_text [intT f.n, intT f.s, PyData.shown (mostD f.m), PyData.shown (.bool f.p), tupleText (PyData.shownAll (f.ks.map knD))]
    rw [piled_cons, piled_cons, piled_cons, piled_cons, piled_cons, piled_nil] at z2
    have hb : (PyData.shown (.bool f.p)).length ≤ 5 := by cases f.p <;> decide +kernel
    have l1 := len_int z.n0 (by omega : f.n ≤ 1000)
    have l2 := len_int z.s0 (by omega : f.s ≤ 1000)
    show (tupleText [intT f.n, intT f.s, PyData.shown (mostD f.m), PyData.shown (.bool f.p), tupleText (PyData.shownAll (f.ks.map knD))]).length ≤ sizeLine
    have := mo.2.2.2
    exact sz (by omega)
theorem dp_fr {K : PySem.W.Frag} {H : Hp} {a t : Addr} {vs : List V} {f : Fr} (h : SqT K H a [.int f.n, .int f.s, mostV f.m, .bl f.p, .ref t]) (ht : SqT K H t vs) (r : IsRs knV H vs f.ks) : Dp K H (.ref a) (frD f) :=
  .tup h (.cons (.int _) (.cons (.int _) (.cons dp_most (.cons (.bl _) (.cons (.tup ht (dp_kns r)) .nil)))))
theorem fr_ex {K : PySem.W.Frag} {f : Fr} (z : FrSm f 99) : ∃ D : PyData, (∀ {H : Hp} {a t : Addr} {vs : List V}, SqT K H a [.int f.n, .int f.s, mostV f.m, .bl f.p, .ref t] → SqT K H t vs → IsRs knV H vs f.ks → Dp K H (.ref a) D) ∧ D.showable = true ∧ D.hasDict = false ∧ D.depth ≤ 60 ∧ D.shown.length ≤ sizeLine :=
  ⟨frD f, fun h ht r => dp_fr h ht r, fr_show z⟩
theorem shaped_knsL {ks : List Kn} : SeqAt.shaped (.list (ks.map knD)) = true := by
  unfold SeqAt.shaped
  rw [Bool.and_eq_true_iff]
  refine ⟨lay_kns, decide_eq_true ?_⟩
  show PyData.depthAll (ks.map knD) + 1 ≤ 64
  have := depth_kns (ks := ks)
  omega
theorem eqv_knsL {ks : List Kn} : PyData.eqv (.list (ks.map knD)) (.list (ks.map knD)) = true := by
  show PyData.eqvAll (ks.map knD) (ks.map knD) = true
  rw [eqv_kns]
  simp
def spLaw (K : PySem.W.Frag) : Sp := fun vs H Q _ => ∃ (a : Addr) (ns : List Int), vs = [.ref a] ∧ SqL K H a (ns.map V.int) ∧ ns.length ≤ 63 ∧ ∀ H', Q (.bl true) H'
section
variable {P : Program} {w : World} {K : PySem.W.Frag} {mg : Str → Option Value} {base : Heap} {d : Ad}
theorem IsFrame.imm {H H' : Hp} {v : V} {f : Fr} (e : Imm H H') (x : IsFrame d K H v f) : IsFrame d K H' v f := by
  obtain ⟨a, dx, t, vs, e1, e2, e3, e4⟩ := x
  exact ⟨a, dx, t, vs, e1, e _ _ e2 (fun _ z => nomatch z), e.tup e3, e4.on fun a xs h => e _ _ h fun _ z => nomatch z⟩
/-- what stands while a frame is looked at -/
structure Sta (d : Ad) (K : PySem.W.Frag) (H : Hp) (b t l x : Addr) (f : Fr) (ws : List V) (bv : V) (H' : Hp) : Prop where
  F : IsFrame d K H' (.ref x) f
  t : H' t = some (.tup [.int f.n, .int f.s, mostV f.m, .bl f.p, .ref l])
  l : H' l = some (.lst ws)
  r : IsRs knV H' ws f.ks
  bx : IsBox H' b
  f : Same H H'
  bv : bv = .non ∨ ∃ g, IsFrame d K H' bv g ∧ FrSm g 99
theorem Sta.mono {H H1 H2 : Hp} {b t l x : Addr} {f : Fr} {ws : List V} {bv : V} (S : Sta d K H b t l x f ws bv H1) (e : Same H1 H2) : Sta d K H b t l x f ws bv H2 :=
  ⟨S.F.mono e, e _ _ S.t, e _ _ S.l, S.r.mono e, S.bx.same e, S.f.trans e, S.bv.imp id fun ⟨g, F, z⟩ => ⟨g, F.mono e, z⟩⟩
theorem rs_ne {α : Type} {g : α → List V} {H : Hp} {b l : Addr} {ws : List V} {ms : List α} (hb : IsBox H b) (hl : H l = some (.lst ws)) (hm : IsRs g H ws ms) : l ≠ b := by
  rintro rfl
  obtain ⟨x, y, hb⟩ := hb
  rw [hl] at hb
  have e := HO.lst.inj (Option.some.inj hb)
  subst e
  obtain ⟨m, _, a, e1, _⟩ := hm.get (i := 0) rfl
  cases e1
theorem Sta.x {H H1 H2 : Hp} {b t l x : Addr} {f : Fr} {ws : List V} {bv : V} (S : Sta d K H b t l x f ws bv H1) (e : SameX b H1 H2) (bx : IsBox H2 b) (nb : H b = none) : Sta d K H b t l x f ws bv H2 :=
  ⟨S.F.imm (S.bx.imm e), e.tups S.bx _ _ S.t, e _ _ S.l (rs_ne S.bx S.l S.r), S.r.on (e.tups S.bx), bx, sameX S.f e nb, S.bv.imp id fun ⟨g, F, z⟩ => ⟨g, F.imm (S.bx.imm e), z⟩⟩
theorem Sta.i {H H1 H2 : Hp} {b t l x : Addr} {f : Fr} {ws : List V} {bv : V} (S : Sta d K H b t l x f ws bv H1) (e : Imm H1 H2) (hl : H2 l = some (.lst ws)) (bx : IsBox H2 b) (fs : Same H H2) : Sta d K H b t l x f ws bv H2 :=
  ⟨S.F.imm e, e _ _ S.t (fun _ z => nomatch z), hl, S.r.on (fun a xs h => e _ _ h fun _ z => nomatch z), bx, fs, S.bv.imp id fun ⟨g, F, z⟩ => ⟨g, F.imm e, z⟩⟩
def f12 : Fr := { n := 12, s := 1, m := none, p := false, ks := [] }
theorem O12 : FrOk f12 := ⟨by decide, by decide, rfl, rfl, by decide⟩
theorem z12 : FrSm f12 99 := ⟨by decide, by decide, by decide, by decide, fun i h => (by cases h), fun x h => (by cases h), by decide⟩
theorem made12 (T : Txt K mg d) {H1 : Hp} {W : VK} {E : XK} {x dx : Addr} (nx : H1 x = none) (ndx : H1 dx = none) (ne : dx ≠ x) (q : ∀ H', Same H1 H' → IsFrame d K H' (.ref x) f12 → W .non H') :
    sp_Frame_init d K [.ref x, .int 12, .int 1, .non, .bl false, .ref d.z_Frame] (upd (upd H1 dx (.own x)) x (.ins d.C_Frame dx [])) W E :=
  made_frame' (f := f12) ⟨d.z_Frame, [], rfl, .inr (T.w_zFrame _), .nil⟩ O12 nx ndx ne q
theorem ok_law {f : Addr} {fd : FuncData} (T : Txt K mg d) (F : Fun K "law" "law" s_law f fd) : FnG P w K mg base 14 f fd ["_law_script"] (spLaw K) := by
  refine fun_okG F sc_law (fun vs H Q E h => ?_) (fun cdv A outer s H vs Q E hr hg h => ?_)
  · obtain ⟨_, _, rfl, _⟩ := h
    rfl
  · obtain ⟨a, ns, rfl, hS, hl, q⟩ := h
    have hu := hr.units
    refine ⟨_, (pss_cons (ps_for PassesOwn.never rfl (pi_range1 rfl T.b_range (pa_cons (pe_callB (call_max2 rfl) (by rfl) T.b_max (by decide +kernel) (pa_cons pe_int (pa_cons (pe_callB (call_min2 rfl) (by rfl) T.b_min (by decide +kernel) (pa_cons pe_int (pa_cons (pe_callB call_len_seq (by rfl) T.b_len PySem.boot_len (pa_cons (pv 0) pa_nil)) pa_nil))) pa_nil))) pa_nil)) (pg_name (i := 1) sc_law.nd rfl (by first | exact Or.inl rfl | exact Or.inr rfl)) (pss_cons (ps_par (i := 3) (j := 4) rfl sc_law.nd rfl rfl (by decide) rfl rfl (pa_cons (pe_callR (ok__law_seed T) (hr.mono (by decide)) rfl T.m__law_seed T.k__law_seed pass0 (pa_cons (pv 0) (pa_cons (pv 1) pa_nil))) (pa_cons pe_non pa_nil)) (by first | rfl | exact sw2 (by rfl) (by rfl) (by rfl))) (pss_one (ps_for PassesOwn.never rfl (pi_range1 rfl T.b_range (pa_cons pe_int pa_nil)) (pg_name (i := 2) sc_law.nd rfl (by first | exact Or.inl rfl | exact Or.inr rfl)) (pss_cons (ps_set (i := 5) sc_law.nd rfl (by first | exact Or.inl rfl | exact Or.inr rfl) (pe_callR (ok__law_frame T) (hr.mono (by decide)) rfl T.m__law_frame T.k__law_frame pass0 (pa_cons (pv 3) (pa_cons pe_int (pa_cons pe_bl pa_nil))))) (pss_cons (ps_set (i := 6) sc_law.nd rfl (by first | exact Or.inl rfl | exact Or.inr rfl) (pe_callTy call_list_of rfl T.b_list (by decide +kernel) (pa_cons (pe_ix ix_tup (pv 5) pe_int (fun _ _ => rfl)) pa_nil))) (pss_cons (ps_set (i := 7) sc_law.nd rfl (by first | exact Or.inl rfl | exact Or.inr rfl) (pe_makeR T.mk_Frame (ok_Frame_init5 T) (hr.mono (by decide)) rfl T.m_Frame pass0 (pa_cons (pe_ix ix_tup (pv 5) pe_int (fun _ _ => rfl)) (pa_cons (pe_ix ix_tup (pv 5) pe_int (fun _ _ => rfl)) (pa_cons (pe_ix ix_tup (pv 5) pe_int (fun _ _ => rfl)) (pa_cons (pe_ix ix_tup (pv 5) pe_int (fun _ _ => rfl)) (pa_cons (pv 6) pa_nil))))))) (pss_cons (ps_set (i := 8) sc_law.nd rfl (by first | exact Or.inl rfl | exact Or.inr rfl) (pe_tup (pa_cons (pe_fld (pv 7) rfl) (pa_cons (pe_fld (pv 7) rfl) (pa_cons (pe_fld (pv 7) rfl) (pa_cons (pe_fld (pv 7) rfl) (pa_cons (pe_fld (pv 7) rfl) pa_nil))))))) (pss_cons (ps_if (PW.pt (pw_or (pt_cmpR op_ne (pe_callB (call_reprD hg hu) (by rfl) T.b_repr (by decide +kernel) (pa_cons (pv 8) pa_nil)) (pe_callB (call_reprD hg hu) (by rfl) T.b_repr (by decide +kernel) (pa_cons (pe_op op_catA (pe_slice sl_tupA (pv 5) po_none (po_some pe_int)) (pe_tup (pa_cons (pe_callTy call_tuple_of rfl T.b_tuple (by decide +kernel) (pa_cons (pe_ix ix_tup (pv 5) pe_int (fun _ _ => rfl)) pa_nil)) pa_nil))) pa_nil)) (nomark _)) (pw_or1 (pt_cmpR (op_neD hu) (pv 6) (pe_ix ix_tup (pv 5) pe_int (fun _ _ => rfl)) (nomark _))))) (pss_one (ps_ret pe_bl)) pss_nil) (pss_cons (ps_if (pt_cmpR op_ne (pe_callTy (call_strO T.s_Frame T.sf_Frame (ok_Frame___str__ T) (hr.mono (by decide)) pass0) rfl T.b_str (by decide +kernel) (pa_cons (pv 7) pa_nil)) (pe_callR (ok__law_frame_text T) (hr.mono (by decide)) rfl T.m__law_frame_text T.k__law_frame_text pass0 (pa_cons (pv 5) pa_nil)) (nomark _)) (pss_one (ps_ret pe_bl)) pss_nil) (pss_cons (ps_par (i := 10) (j := 11) rfl sc_law.nd rfl rfl (by decide) rfl rfl (pa_cons (pe_callR (ok__law_choose T) (hr.mono (by decide)) rfl T.m__law_choose T.k__law_choose pass0 (pa_cons (pv 3) (pa_cons (pe_ix ix_tup (pv 5) pe_int (fun _ _ => rfl)) pa_nil))) (pa_cons (pe_cmpR op_eq (pe_callR (ok__law_choose T) (hr.mono (by decide)) rfl T.m__law_choose T.k__law_choose pass0 (pa_cons (pv 3) (pa_cons pe_int pa_nil))) pe_int (nomark _)) pa_nil)) (by first | rfl | exact sw2 (by rfl) (by rfl) (by rfl))) (pss_cons (ps_set (i := 9) sc_law.nd rfl (by first | exact Or.inl rfl | exact Or.inr rfl) (pe_methR (pv 7) T.cl_Frame T.me_Frame_knowing (ok_Frame_knowing T) (hr.mono (by decide)) pass0 (pa_cons (pv 10) (pa_cons (pv 11) pa_nil)))) (pss_cons (ps_if (pt_cmpR (op_neO T.n_Frame T.o_Frame T.e_Frame T.ef_Frame (ok_Frame___eq__ T) (hr.mono (by decide)) pass0) (pv 9) (pe_makeR T.mk_Frame (ok_Frame_init5 T) (hr.mono (by decide)) rfl T.m_Frame pass0 (pa_cons (pe_ix ix_tup (pv 5) pe_int (fun _ _ => rfl)) (pa_cons (pe_ix ix_tup (pv 5) pe_int (fun _ _ => rfl)) (pa_cons (pe_ix ix_tup (pv 5) pe_int (fun _ _ => rfl)) (pa_cons (pe_ix ix_tup (pv 5) pe_int (fun _ _ => rfl)) (pa_cons (pe_op op_cat (pe_ix ix_tup (pv 5) pe_int (fun _ _ => rfl)) (pe_lst (pa_cons (pe_tup (pa_cons (pv 10) (pa_cons (pv 11) pa_nil))) pa_nil))) pa_nil)))))) (nomark _)) (pss_one (ps_ret pe_bl)) pss_nil) (pss_cons (ps_expr (pe_bm PySem.F.plainAttrs_list PySem.F.slot_list_append PySem.F.type_list_append mt_append (pv 6) (pa_cons (pe_tup (pa_cons pe_int (pa_cons pe_bl pa_nil))) pa_nil))) (pss_cons (ps_if (PW.pt (pw_or (pt_cmpR op_ne (pe_callTy (call_strO T.s_Frame T.sf_Frame (ok_Frame___str__ T) (hr.mono (by decide)) pass0) rfl T.b_str (by decide +kernel) (pa_cons (pv 7) pa_nil)) (pe_callR (ok__law_frame_text T) (hr.mono (by decide)) rfl T.m__law_frame_text T.k__law_frame_text pass0 (pa_cons (pv 5) pa_nil)) (nomark _)) (pw_or (pt_cmpR (op_neO T.n_Frame T.o_Frame T.e_Frame T.ef_Frame (ok_Frame___eq__ T) (hr.mono (by decide)) pass0) (ClX.pe_cmeth (pe_glob (v := .ref d.C_Frame) rfl T.m_Frame rfl) T.cr_Frame T.cm_Frame_read (ok_Frame_read T) (hr.mono (by decide)) pass0 (pa_cons (pe_callTy (call_strO T.s_Frame T.sf_Frame (ok_Frame___str__ T) (hr.mono (by decide)) pass0) rfl T.b_str (by decide +kernel) (pa_cons (pv 7) pa_nil)) pa_nil)) (pv 7) (nomark _)) (pw_or1 (pt_cmpR (op_eqOS T.su_Frame T.e_Frame T.ef_Frame (ok_Frame___eq___S T) (hr.mono (by decide)) pass0) (pv 7) (pe_callTy (call_strO T.s_Frame T.sf_Frame (ok_Frame___str__ T) (hr.mono (by decide)) pass0) rfl T.b_str (by decide +kernel) (pa_cons (pv 7) pa_nil)) (nomark _)))))) (pss_one (ps_ret pe_bl)) pss_nil) (pss_cons (ps_if (PW.pt (pw_and (pt_cmp (pc_notN (pv 4))) (pw_and1 (pt_cmpR op_ne (pe_cmpR (op_eqO T.e_Frame T.ef_Frame (ok_Frame___eq__ T) (hr.mono (by decide)) pass0) (pv 4) (pv 7) (nomark _)) (pe_cmpR op_eq (pe_callTy (call_strO T.s_Frame T.sf_Frame (ok_Frame___str__ T) (hr.mono (by decide)) pass0) rfl T.b_str (by decide +kernel) (pa_cons (pv 4) pa_nil)) (pe_callTy (call_strO T.s_Frame T.sf_Frame (ok_Frame___str__ T) (hr.mono (by decide)) pass0) rfl T.b_str (by decide +kernel) (pa_cons (pv 7) pa_nil)) (nomark _)) (nomark _))))) (pss_one (ps_ret pe_bl)) pss_nil) (pss_one (ps_set (i := 4) sc_law.nd rfl (by first | exact Or.inl rfl | exact Or.inr rfl) (pv 7))))))))))))))))))) (pss_one (ps_ret (pe_and (pe_cmpR op_eq (pe_callTy (call_strO T.s_Frame T.sf_Frame (ok_Frame___str__ T) (hr.mono (by decide)) pass0) rfl T.b_str (by decide +kernel) (pa_cons (pe_makeR T.mk_Frame (ok_Frame_init1 T) (hr.mono (by decide)) rfl T.m_Frame pass0 (pa_cons pe_int pa_nil)) pa_nil)) pe_str (nomark _)) (pe_and (pe_cmp (pc_isN (pe_fld (pe_makeR T.mk_Frame (ok_Frame_init1 T) (hr.mono (by decide)) rfl T.m_Frame pass0 (pa_cons pe_int pa_nil)) rfl))) (pe_one (pe_cmpR (op_eqD hu) (pe_fld (pe_makeR T.mk_Frame (ok_Frame_init1 T) (hr.mono (by decide)) rfl T.m_Frame pass0 (pa_cons pe_int pa_nil)) rfl) (pe_tup pa_nil) (nomark _)))))))), ?_⟩
    refine ⟨_, rfl, a, _, rfl, .inl hS, _, _, rfl, _, _, rfl, _, rfl, ?_, ?_, ?_⟩
    · rw [List.length_map]
      split <;> split <;> omega
    · rw [List.length_map]
      split <;> split <;> omega
    refine for_range (fun i σ H2 => ∃ s1 s2 s3 s4 s5 s6 s7 s8 s9 s10 s11, σ = [some (.ref a), s1, s2, s3, s4, s5, s6, s7, s8, s9, s10, s11] ∧ Same H H2) ⟨_, _, _, _, _, _, _, _, _, _, _, rfl, Same.refl H⟩ ?_ ?_
    · rintro i σ H2 hi ⟨s1, s2, s3, s4, s5, s6, s7, s8, s9, s10, s11, rfl, e2⟩
      refine ⟨_, rfl, _, rfl, a, ns, i, by rw [Int.zero_add], e2.seq hS, fun b x y H3 nb e3 hb => ⟨_, _, rfl, ?_⟩⟩
      have nbH : H b = none := none_of e2 nb
      have f3 : Same H H3 := e2.trans e3
      refine ⟨8, rfl, by decide, by decide, ?_⟩
      refine for_range (fun j σ H4 => ∃ s1 s2 s5 s6 s7 s8 s9 s10 s11 bv, σ = [some (.ref a), s1, s2, some (.ref b), some bv, s5, s6, s7, s8, s9, s10, s11] ∧ Same H H4 ∧ IsBox H4 b ∧ (bv = .non ∨ ∃ g, IsFrame d K H4 bv g ∧ FrSm g 99))
        ⟨_, _, _, _, _, _, _, _, _, _, rfl, f3, ⟨x, y, hb⟩, .inl rfl⟩ ?_ ?_
      · rintro j σ H4 hj ⟨s1, s2, s5, s6, s7, s8, s9, s10, s11, bv, rfl, f4, bx4, hbv⟩
        refine ⟨_, rfl, b, 24, true, rfl, bx4, by decide, by decide, fun t l f ws H5 e5 bx5 ht5 hl5 nl5 r5 O z hn hk2 => ?_⟩
        have f5 : Same H H5 := sameX f4 e5 nbH
        have hbv5 : bv = .non ∨ ∃ g, IsFrame d K H5 bv g ∧ FrSm g 99 := hbv.imp id fun ⟨g, F, z⟩ => ⟨g, F.imm (bx4.imm e5), z⟩
        -- handed = list(told[4])
        refine ⟨_, rfl, t, _, _, _, rfl, rfl, .inl (.inl ht5), atI_nat (j := 4) rfl, l, ws, rfl, .inl (.inl (.inl hl5)), fun o no => ?_⟩
        have noH := none_of f5 no
        have lo : l ≠ o := ne_of_none hl5 no
        have so := Same.new (o := .lst ws) no
        have ht6 := so _ _ ht5
        -- the frame
        refine ⟨_, rfl, t, _, _, _, rfl, rfl, .inl (.inl ht6), atI_nat (j := 0) rfl, ?_⟩
        refine ⟨_, rfl, t, _, _, _, rfl, rfl, .inl (.inl ht6), atI_nat (j := 1) rfl, ?_⟩
        refine ⟨_, rfl, t, _, _, _, rfl, rfl, .inl (.inl ht6), atI_nat (j := 2) rfl, ?_⟩
        refine ⟨_, rfl, t, _, _, _, rfl, rfl, .inl (.inl ht6), atI_nat (j := 3) rfl, _, rfl, ?_⟩
        refine fun xf dxf nxf ndxf nef => made_frame' (f := f) ⟨o, ws, rfl, .inl (.inl (.inl upd_same)), r5.mono so⟩ O nxf ndxf nef fun H7 e7 F7 => ⟨rfl, ?_⟩
        have S7 : Sta d K H b t l xf f ws bv H7 := ⟨F7, e7 _ _ ht6, e7 _ _ (so _ _ hl5), (r5.mono so).mono e7, (bx5.same so).same e7, f5.trans (so.trans e7), hbv5.imp id fun ⟨g, F, z⟩ => ⟨g, (F.mono so).mono e7, z⟩⟩
        have ho7 : H7 o = some (.lst ws) := e7 _ _ upd_same
        clear F7 e7 ht6 so no hbv5 f5 r5 nl5 hl5 ht5 bx5 e5 hbv bx4 f4
        obtain ⟨af, dxf7, tf, vf, eaf, hf7, htf7, rf7⟩ := id S7.F
        cases eaf
        -- shown
        refine ⟨_, rfl, _, _, _, _, _, rfl, hf7, T.cl_Frame, T.na_Frame_length, lkF_length, ?_⟩
        refine ⟨_, rfl, _, _, _, _, _, rfl, hf7, T.cl_Frame, T.na_Frame_shortest, lkF_shortest, ?_⟩
        refine ⟨_, rfl, _, _, _, _, _, rfl, hf7, T.cl_Frame, T.na_Frame_most, lkF_most, ?_⟩
        refine ⟨_, rfl, _, _, _, _, _, rfl, hf7, T.cl_Frame, T.na_Frame_private, lkF_private, ?_⟩
        refine ⟨_, rfl, _, _, _, _, _, rfl, hf7, T.cl_Frame, T.na_Frame_known, lkF_known, ?_⟩
        refine ⟨(by show 5 ≤ sizeLine; decide), fun p8 n8 => ?_⟩
        have s8 := Same.new (o := .tup [.int f.n, .int f.s, mostV f.m, .bl f.p, .ref tf]) n8
        obtain ⟨D, dpD, w1, w2, w3, w4⟩ := fr_ex (K := K) z
        refine ⟨_, rfl, p8, D, rfl, dpD (.inl (.inl upd_same)) (Same.tup s8 htf7) (rf7.mono s8), w1, w2, w3, w4, ?_⟩
        refine ⟨_, rfl, _, rfl, ?_⟩
        refine slaOf (.inl (.inl (s8 _ _ S7.t))) fun r9 H9 e9 h9 => ?_
        rw [show (some (4 : Int)) = some ((4 : Nat) : Int) from rfl, cutTo] at h9
        refine ⟨_, rfl, t, _, _, _, rfl, rfl, .inl (.inl (e9 _ _ (s8 _ _ S7.t))), atI_nat (j := 4) rfl, l, ws, rfl, .inl ⟨.inl (.inl (e9 _ _ (s8 _ _ S7.l))), fun p10 n10 => ?_⟩⟩
        have s10 := Same.new (o := .tup ws) n10
        refine ⟨(by show 1 ≤ sizeLine; decide), fun p11 n11 => ?_⟩
        have s11 := Same.new (o := .tup [.ref p10]) n11
        refine catOf (Same.tup (s10.trans s11) h9) (.inl (.inl upd_same)) (sz (by show 4 + 1 ≤ 100000; decide)) fun r12 H12 e12 h12 => ?_
        have c12 := s8.trans (e9.trans (s10.trans (s11.trans e12)))
        refine ⟨r12, D, rfl, dpD h12 (.inl (.inl (e12 _ _ (s11 _ _ upd_same)))) (S7.r.mono c12), w1, w2, w3, w4, rfl, _, rfl, ?_⟩
        refine iteNS rfl ?_
        have S12 := S7.mono c12
        have ho12 := c12 _ _ ho7
        clear h12 h9
        -- handed != told[4]
        refine ⟨_, rfl, _, rfl, t, _, _, _, rfl, rfl, .inl (.inl S12.t), atI_nat (j := 4) rfl, _, _, .lst (.inl (.inl ho12)) (dp_kns S12.r), .lst (.inl (.inl S12.l)) (dp_kns S12.r), shaped_knsL, shaped_knsL, _, rfl, ?_⟩
        rw [eqv_knsL]
        refine iteF ?_
        -- str(frame) != text
        refine ⟨_, rfl, xf, _, _, rfl, c12 _ _ hf7, _, f, rfl, S12.F, z.ln, fun H13 e13 => ⟨_, rfl, ?_⟩⟩
        refine ⟨_, rfl, t, l, f, ws, rfl, e13 _ _ S12.t, e13 _ _ S12.l, S12.r.mono e13, z.ln, fun H14 e14 => ⟨rfl, _, rfl, ?_⟩⟩
        refine iteNS rfl ?_
        have S14 := S12.mono (e13.trans e14)
        have ho14 := (e13.trans e14) _ _ ho12
        have hf14 := (c12.trans (e13.trans e14)) _ _ hf7
        clear S12 ho12 e13 e14 S7 ho7 hf7 htf7 rf7 c12 e12 s11 n11 s10 n10 e9 s8 n8
        -- tick, full
        obtain ⟨x14, y14, hb14⟩ := id S14.bx
        refine ⟨_, rfl, _, rfl, t, _, _, _, rfl, rfl, .inl (.inl S14.t), atI_nat (j := 0) rfl, b, x14, y14, f.n, rfl, hb14, by have := O.n; omega, by omega, fun r15 x15 y15 r150 r151 => ?_⟩
        refine ⟨_, rfl, b, x15, y15, 2, rfl, upd_same, by decide, by decide, fun r16 x16 y16 r160 r161 => ⟨rfl, _, _, rfl, ?_⟩⟩
        have e16 : SameX b H14 (upd (upd H14 b (.lst [.int x15, .int y15])) b (.lst [.int x16, .int y16])) := SameX.upd.trans SameX.upd
        have bx16 : IsBox (upd (upd H14 b (.lst [.int x15, .int y15])) b (.lst [.int x16, .int y16])) b := IsBox.new
        generalize upd (upd H14 b (HO.lst [V.int x15, V.int y15])) b (HO.lst [V.int x16, V.int y16]) = H16 at e16 bx16
        have S16 := S14.x e16 bx16 nbH
        have ob : o ≠ b := rs_ne S14.bx ho14 S14.r
        have ho16 := e16 _ _ ho14 ob
        obtain ⟨a16, dx16, tf16, vf16, ea16, hf16, htf16, rf16⟩ := id S16.F
        cases ea16
        clear hf14 S14 ho14 e16 bx16 hb14
        generalize hkf : decide (V.int r16 = V.int 0) = kf
        -- more = frame.knowing(tick, full)
        have O2 : FrOk (more f (r15, kf)) := ⟨O.n, O.s, O.m, by
          show (f.ks ++ [(r15, kf)]).all (knOk f.n) = true
          rw [List.all_append, O.k]
          simp [knOk]
          omega, by show (f.ks ++ [(r15, kf)]).length ≤ 1000; rw [List.length_append, List.length_singleton]; omega⟩
        refine ⟨_, rfl, xf, _, _, rfl, hf16, lkF_no (by decide +kernel), _, rfl, _, rfl, _, f, (r15, kf), rfl, S16.F, O2, fun vm H17 e17 M17 => ?_⟩
        have S17 := S16.mono e17
        have ho17 := e17 _ _ ho16
        -- more != Frame(.., told[4] + [(tick, full)])
        refine ⟨_, rfl, ?_⟩
        refine ⟨_, rfl, t, _, _, _, rfl, rfl, .inl (.inl S17.t), atI_nat (j := 0) rfl, ?_⟩
        refine ⟨_, rfl, t, _, _, _, rfl, rfl, .inl (.inl S17.t), atI_nat (j := 1) rfl, ?_⟩
        refine ⟨_, rfl, t, _, _, _, rfl, rfl, .inl (.inl S17.t), atI_nat (j := 2) rfl, ?_⟩
        refine ⟨_, rfl, t, _, _, _, rfl, rfl, .inl (.inl S17.t), atI_nat (j := 3) rfl, ?_⟩
        refine ⟨_, rfl, t, _, _, _, rfl, rfl, .inl (.inl S17.t), atI_nat (j := 4) rfl, ?_⟩
        refine ⟨_, rfl, _, rfl, (by show 2 ≤ sizeLine; decide), fun p18 n18 => ⟨(by show 1 ≤ sizeLine; decide), fun p19 n19 => ?_⟩⟩
        have s18 := Same.new (o := .tup [.int r15, .bl kf]) n18
        have s19 := Same.new (o := .lst [.ref p18]) n19
        have s1819 := s18.trans s19
        have hwl : ws.length = f.ks.length := S17.r.1
        refine ⟨l, p19, ws, [.ref p18], rfl, rfl, s1819 _ _ S17.l, upd_same, sz (by show ws.length + 1 ≤ 100000; omega), fun r20 n20 => ?_⟩
        have s20 := Same.new (o := .lst (ws ++ [.ref p18])) n20
        have c20 := s1819.trans s20
        refine fun xg dxg nxg ndxg neg => made_frame' (f := more f (r15, kf)) ⟨r20, _, rfl, .inl (.inl (.inl upd_same)), ((S17.r.mono s1819).append (.one ⟨p18, rfl, s19 _ _ upd_same⟩)).mono s20⟩ O2 nxg ndxg neg fun H21 e21 G21 => ⟨rfl, ?_⟩
        have c21 := c20.trans e21
        have S21 := S17.mono c21
        have ho21 := c21 _ _ ho17
        have M21 := M17.mono c21
        obtain ⟨am, dxm, tm, vm', rfl, hm21, htm, rm⟩ := id M21
        obtain ⟨ag, dxg', tg, vg, eag, hg21, htg, rg⟩ := id G21
        cases eag
        refine ⟨am, _, _, xg, _, _, rfl, rfl, hm21, hg21, _, _, _, _, rfl, M21, G21, _, rfl, ?_⟩
        rw [decide_eq_true (rfl : more f (r15, kf) = more f (r15, kf))]
        refine ⟨_, rfl, iteF ?_⟩
        clear hm21 htm rm hg21 htg rg M21 G21 M17 S17 ho17 s18 s19 s1819 s20 c20 e21 c21 n18 n19 n20 e17 S16 ho16 hf16 htf16 rf16 nxg ndxg neg
        -- handed.append((0, True))
        refine ⟨_, rfl, .inl ⟨rfl, ws, .inl (.inl ho21)⟩, (by show 2 ≤ sizeLine; decide), fun p23 n23 => ?_⟩
        have s23 := Same.new (o := .tup [.int 0, .bl true]) n23
        have ho23 := s23 _ _ ho21
        refine ⟨o, ws, _, rfl, rfl, ho23, sz1000 (by omega), ?_⟩
        have S23 : Sta d K H b t l xf f ws bv (upd (upd H21 p23 (.tup [.int 0, .bl true])) o (.lst (ws ++ [.ref p23]))) := by
          refine (S21.mono s23).i (Imm.upd ho23) ?_ ?_ ?_
          · rw [upd_ne lo]
            exact s23 _ _ S21.l
          · obtain ⟨xb, yb, hb21⟩ := S21.bx
            exact ⟨xb, yb, by rw [upd_ne ob.symm]; exact s23 _ _ hb21⟩
          · exact Same.mut (S21.f.trans s23) noH
        generalize upd (upd H21 p23 (.tup [.int 0, .bl true])) o (.lst (ws ++ [.ref p23])) = H23 at S23
        clear ho23 s23 n23 ho21 S21
        obtain ⟨a23, dx23, tf23, vf23, ea23, hf23, htf23, rf23⟩ := id S23.F
        cases ea23
        -- str(frame) != text
        refine ⟨_, rfl, xf, _, _, rfl, hf23, _, f, rfl, S23.F, z.ln, fun H24 e24 => ⟨_, rfl, ?_⟩⟩
        refine ⟨_, rfl, t, l, f, ws, rfl, e24 _ _ S23.t, e24 _ _ S23.l, S23.r.mono e24, z.ln, fun H25 e25 => ⟨rfl, _, rfl, ?_⟩⟩
        refine iteNS rfl ?_
        have c25 := e24.trans e25
        -- Frame.read(str(frame)) != frame
        refine ⟨rfl, _, rfl, xf, _, _, rfl, c25 _ _ hf23, _, f, rfl, S23.F.mono c25, z.ln, fun H26 e26 => ⟨_, rfl, ?_⟩⟩
        refine ⟨f, rfl, O, z, fun vr H27 e27 F27 => ?_⟩
        have c27 := c25.trans (e26.trans e27)
        obtain ⟨ar, dxr, tr, wr, ear, hdr, htr, hmr⟩ := id F27
        subst ear
        refine ⟨_, rfl, ar, dxr, _, xf, _, _, rfl, rfl, hdr, c27 _ _ hf23, _, _, f, f, rfl, F27, S23.F.mono c27, _, rfl, ?_⟩
        rw [decide_eq_true (rfl : f = f)]
        refine ⟨_, rfl, iteF ?_⟩
        -- frame == str(frame)
        refine ⟨_, rfl, _, rfl, xf, _, _, rfl, c27 _ _ hf23, _, f, rfl, S23.F.mono c27, z.ln, fun H28 e28 => ⟨_, rfl, ?_⟩⟩
        have c28 := c27.trans e28
        refine ⟨xf, _, _, _, rfl, rfl, c28 _ _ hf23, _, f, _, rfl, S23.F.mono c28, _, rfl, ?_⟩
        refine ⟨_, rfl, itFB rfl ?_⟩
        have S28 := S23.mono c28
        have hf28 := c28 _ _ hf23
        clear c27 c25 e28 e27 e26 e25 e24 c28 hf23 htf23 rf23 S23 F27 hdr htr hmr
        rcases S28.bv with rfl | ⟨g, Fb, zb⟩
        · refine ⟨_, rfl, _, rfl, ?_⟩
          refine iteF ?_
          exact ⟨_, rfl, _, _, _, _, _, _, _, _, _, _, rfl, S28.f, S28.bx, .inr ⟨f, S28.F, z⟩⟩
        · obtain ⟨ab, dxb, tb, wb, rfl, hdb, htb, hmb⟩ := id Fb
          refine ⟨_, rfl, _, rfl, ?_⟩
          refine iteT ?_
          refine ⟨_, rfl, _, rfl, ab, dxb, _, xf, _, _, rfl, rfl, hdb, hf28, _, _, g, f, rfl, Fb, S28.F, _, rfl, ?_⟩
          refine ⟨_, rfl, ab, dxb, _, rfl, hdb, _, g, rfl, Fb, zb.ln, fun H29 e29 => ⟨_, rfl, ?_⟩⟩
          refine ⟨_, rfl, xf, _, _, rfl, e29 _ _ hf28, _, f, rfl, S28.F.mono e29, z.ln, fun H30 e30 => ⟨_, rfl, rfl, rfl, _, rfl, ?_⟩⟩
          refine iteNS (congrArg V.bl (frame_eq zb z)) ?_
          have S30 := S28.mono (e29.trans e30)
          exact ⟨_, rfl, _, _, _, _, _, _, _, _, _, _, rfl, S30.f, S30.bx, .inr ⟨f, S30.F, z⟩⟩
      · rintro σ H4 ⟨s1, s2, s5, s6, s7, s8, s9, s10, s11, bv, rfl, f4, bx4, hbv⟩
        exact ⟨_, _, _, _, _, _, _, _, _, _, _, rfl, f4⟩
    · rintro σ H2 ⟨s1, s2, s3, s4, s5, s6, s7, s8, s9, s10, s11, rfl, e2⟩
      refine fun xa dxa nxa ndxa nea => made12 T nxa ndxa nea fun Ha ea Fa => ⟨rfl, ?_⟩
      obtain ⟨aa, dxa', ta, va, eaa, hfa, hta, ra⟩ := id Fa
      cases eaa
      refine ⟨xa, _, _, rfl, hfa, _, f12, rfl, Fa, z12.ln, fun Hb eb => ⟨_, rfl, rfl, _, rfl, ?_⟩⟩
      rw [show frameText f12 = ("length 12 shortest 1" : Str) from by decide +kernel, decide_eq_true rfl]
      refine iteT ?_
      refine fun xc dxc nxc ndxc nec => made12 T nxc ndxc nec fun Hc ec Fc => ⟨rfl, ?_⟩
      obtain ⟨ac, dxc', tc, vc, eac, hfc, htc, rc⟩ := id Fc
      cases eac
      refine ⟨xc, _, _, _, _, rfl, hfc, T.cl_Frame, T.na_Frame_most, lkF_most, _, rfl, iteT ?_⟩
      refine fun xe dxe nxe ndxe nee => made12 T nxe ndxe nee fun He ee Fe => ⟨rfl, ?_⟩
      obtain ⟨ae, dxe', te, ve, eae, hfe, hte, re⟩ := id Fe
      cases eae
      refine ⟨xe, _, _, _, _, rfl, hfe, T.cl_Frame, T.na_Frame_known, lkF_known, (by show 0 ≤ sizeLine; decide), fun p9 n9 => ?_⟩
      have s9 := Same.new (o := .tup []) n9
      refine ⟨ksD [], ksD [], .tup (Same.tup s9 hte) (dp_kns (re.mono s9)), .tup (.inl (.inl upd_same)) .nil, shaped_kns, shaped_kns, ?_⟩
      rw [eqv_ks]
      exact q _
end
end DD

set_option Elab.async false
set_option linter.all false
set_option maxRecDepth 100000
set_option maxHeartbeats 4000000
namespace DD
open PySem PySem.Spec PyProof.Rows L2 StX
theorem kit_str {K : PySem.W.Frag} {C : Addr} (h1 : PySem.W.isClsIn K C = true) (h2 : PySem.W.typeIn K (.ref C) = some (.type "type")) (h3 : PySem.W.subIn K (.type "str") (.ref C) = some false) : PySem.W.kitOne K (.type "str") (.ref C) = some false := by
  have h4 : (PySem.W.clsIn K C).isSome = true := h1
  simp [PySem.W.kitOne, PySem.W.kitCls, h4, h2, h3]
theorem all_mk {l : PySem.W.OpenLaw} {w : World} {K : PySem.W.Frag} {h : Heap} {mg : Str → Option Value} {fa : Addr} (X : K.In h) (G : h.Ns mainGlobals mg) (hfa : mg "law" = some (.ref fa))
    {f_is_integer f_is_number f_is_positive f_is_sequence f_is_numeral f_read_number f__is_known f__are_known f__wrong_argument f__pair_words f__frame_words f__read_most f__read_private f__read_pair f__read_known f__law_seed f__law_choose f__law_one_of f__law_frame f__law_frame_text f_law f_Frame___init__ f_Frame_read q_Frame_read f_Frame_knowing f_Frame___eq__ f_Frame___str__ C_Frame : Addr}
     (a_Frame : PySem.W.nsIn K mainGlobals "Frame" = some (some (.ref C_Frame)))
    {oc_is_integer kV_is_integer do_is_integer pm_is_integer cd_is_integer ct_is_integer : Value} {od_is_integer an_is_integer : Option Addr} {sl_is_integer : Array (Option Value)} (a_is_integer : PySem.W.nsIn K mainGlobals "is_integer" = some (some (.ref f_is_integer)))
     (l_is_integer : K.lookup f_is_integer = some ⟨oc_is_integer, od_is_integer, .func (PySem.W.fnOf "is_integer" "is_integer" (defArgs s_is_integer) (defBody s_is_integer) (defScope s_is_integer) .none kV_is_integer do_is_integer pm_is_integer an_is_integer cd_is_integer ct_is_integer), sl_is_integer⟩)
     (c_is_integer : PySem.W.codeIn K cd_is_integer "is_integer" = true)
     (k_is_integer : PySem.W.keepIn K (.ref f_is_integer) = true)
    {oc_is_number kV_is_number do_is_number pm_is_number cd_is_number ct_is_number : Value} {od_is_number an_is_number : Option Addr} {sl_is_number : Array (Option Value)} (a_is_number : PySem.W.nsIn K mainGlobals "is_number" = some (some (.ref f_is_number)))
     (l_is_number : K.lookup f_is_number = some ⟨oc_is_number, od_is_number, .func (PySem.W.fnOf "is_number" "is_number" (defArgs s_is_number) (defBody s_is_number) (defScope s_is_number) .none kV_is_number do_is_number pm_is_number an_is_number cd_is_number ct_is_number), sl_is_number⟩)
     (c_is_number : PySem.W.codeIn K cd_is_number "is_number" = true)
     (k_is_number : PySem.W.keepIn K (.ref f_is_number) = true)
    {oc_is_positive kV_is_positive do_is_positive pm_is_positive cd_is_positive ct_is_positive : Value} {od_is_positive an_is_positive : Option Addr} {sl_is_positive : Array (Option Value)} (a_is_positive : PySem.W.nsIn K mainGlobals "is_positive" = some (some (.ref f_is_positive)))
     (l_is_positive : K.lookup f_is_positive = some ⟨oc_is_positive, od_is_positive, .func (PySem.W.fnOf "is_positive" "is_positive" (defArgs s_is_positive) (defBody s_is_positive) (defScope s_is_positive) .none kV_is_positive do_is_positive pm_is_positive an_is_positive cd_is_positive ct_is_positive), sl_is_positive⟩)
     (c_is_positive : PySem.W.codeIn K cd_is_positive "is_positive" = true)
     (k_is_positive : PySem.W.keepIn K (.ref f_is_positive) = true)
    {oc_is_sequence kV_is_sequence do_is_sequence pm_is_sequence cd_is_sequence ct_is_sequence : Value} {od_is_sequence an_is_sequence : Option Addr} {sl_is_sequence : Array (Option Value)} (a_is_sequence : PySem.W.nsIn K mainGlobals "is_sequence" = some (some (.ref f_is_sequence)))
     (l_is_sequence : K.lookup f_is_sequence = some ⟨oc_is_sequence, od_is_sequence, .func (PySem.W.fnOf "is_sequence" "is_sequence" (defArgs s_is_sequence) (defBody s_is_sequence) (defScope s_is_sequence) .none kV_is_sequence do_is_sequence pm_is_sequence an_is_sequence cd_is_sequence ct_is_sequence), sl_is_sequence⟩)
     (c_is_sequence : PySem.W.codeIn K cd_is_sequence "is_sequence" = true)
     (k_is_sequence : PySem.W.keepIn K (.ref f_is_sequence) = true)
    {oc_is_numeral kV_is_numeral do_is_numeral pm_is_numeral cd_is_numeral ct_is_numeral : Value} {od_is_numeral an_is_numeral : Option Addr} {sl_is_numeral : Array (Option Value)} (a_is_numeral : PySem.W.nsIn K mainGlobals "is_numeral" = some (some (.ref f_is_numeral)))
     (l_is_numeral : K.lookup f_is_numeral = some ⟨oc_is_numeral, od_is_numeral, .func (PySem.W.fnOf "is_numeral" "is_numeral" (defArgs s_is_numeral) (defBody s_is_numeral) (defScope s_is_numeral) .none kV_is_numeral do_is_numeral pm_is_numeral an_is_numeral cd_is_numeral ct_is_numeral), sl_is_numeral⟩)
     (c_is_numeral : PySem.W.codeIn K cd_is_numeral "is_numeral" = true)
     (k_is_numeral : PySem.W.keepIn K (.ref f_is_numeral) = true)
    {oc_read_number kV_read_number do_read_number pm_read_number cd_read_number ct_read_number : Value} {od_read_number an_read_number : Option Addr} {sl_read_number : Array (Option Value)} (a_read_number : PySem.W.nsIn K mainGlobals "read_number" = some (some (.ref f_read_number)))
     (l_read_number : K.lookup f_read_number = some ⟨oc_read_number, od_read_number, .func (PySem.W.fnOf "read_number" "read_number" (defArgs s_read_number) (defBody s_read_number) (defScope s_read_number) .none kV_read_number do_read_number pm_read_number an_read_number cd_read_number ct_read_number), sl_read_number⟩)
     (c_read_number : PySem.W.codeIn K cd_read_number "read_number" = true)
     (k_read_number : PySem.W.keepIn K (.ref f_read_number) = true)
    {oc__is_known kV__is_known do__is_known pm__is_known cd__is_known ct__is_known : Value} {od__is_known an__is_known : Option Addr} {sl__is_known : Array (Option Value)} (a__is_known : PySem.W.nsIn K mainGlobals "_is_known" = some (some (.ref f__is_known)))
     (l__is_known : K.lookup f__is_known = some ⟨oc__is_known, od__is_known, .func (PySem.W.fnOf "_is_known" "_is_known" (defArgs s__is_known) (defBody s__is_known) (defScope s__is_known) .none kV__is_known do__is_known pm__is_known an__is_known cd__is_known ct__is_known), sl__is_known⟩)
     (c__is_known : PySem.W.codeIn K cd__is_known "_is_known" = true)
     (k__is_known : PySem.W.keepIn K (.ref f__is_known) = true)
    {oc__are_known kV__are_known do__are_known pm__are_known cd__are_known ct__are_known : Value} {od__are_known an__are_known : Option Addr} {sl__are_known : Array (Option Value)} (a__are_known : PySem.W.nsIn K mainGlobals "_are_known" = some (some (.ref f__are_known)))
     (l__are_known : K.lookup f__are_known = some ⟨oc__are_known, od__are_known, .func (PySem.W.fnOf "_are_known" "_are_known" (defArgs s__are_known) (defBody s__are_known) (defScope s__are_known) .none kV__are_known do__are_known pm__are_known an__are_known cd__are_known ct__are_known), sl__are_known⟩)
     (c__are_known : PySem.W.codeIn K cd__are_known "_are_known" = true)
     (k__are_known : PySem.W.keepIn K (.ref f__are_known) = true)
    {oc__wrong_argument kV__wrong_argument do__wrong_argument pm__wrong_argument cd__wrong_argument ct__wrong_argument : Value} {od__wrong_argument an__wrong_argument : Option Addr} {sl__wrong_argument : Array (Option Value)} (a__wrong_argument : PySem.W.nsIn K mainGlobals "_wrong_argument" = some (some (.ref f__wrong_argument)))
     (l__wrong_argument : K.lookup f__wrong_argument = some ⟨oc__wrong_argument, od__wrong_argument, .func (PySem.W.fnOf "_wrong_argument" "_wrong_argument" (defArgs s__wrong_argument) (defBody s__wrong_argument) (defScope s__wrong_argument) .none kV__wrong_argument do__wrong_argument pm__wrong_argument an__wrong_argument cd__wrong_argument ct__wrong_argument), sl__wrong_argument⟩)
     (c__wrong_argument : PySem.W.codeIn K cd__wrong_argument "_wrong_argument" = true)
     (k__wrong_argument : PySem.W.keepIn K (.ref f__wrong_argument) = true)
    {oc__pair_words kV__pair_words do__pair_words pm__pair_words cd__pair_words ct__pair_words : Value} {od__pair_words an__pair_words : Option Addr} {sl__pair_words : Array (Option Value)} (a__pair_words : PySem.W.nsIn K mainGlobals "_pair_words" = some (some (.ref f__pair_words)))
     (l__pair_words : K.lookup f__pair_words = some ⟨oc__pair_words, od__pair_words, .func (PySem.W.fnOf "_pair_words" "_pair_words" (defArgs s__pair_words) (defBody s__pair_words) (defScope s__pair_words) .none kV__pair_words do__pair_words pm__pair_words an__pair_words cd__pair_words ct__pair_words), sl__pair_words⟩)
     (c__pair_words : PySem.W.codeIn K cd__pair_words "_pair_words" = true)
     (k__pair_words : PySem.W.keepIn K (.ref f__pair_words) = true)
    {oc__frame_words kV__frame_words do__frame_words pm__frame_words cd__frame_words ct__frame_words : Value} {od__frame_words an__frame_words : Option Addr} {sl__frame_words : Array (Option Value)} (a__frame_words : PySem.W.nsIn K mainGlobals "_frame_words" = some (some (.ref f__frame_words)))
     (l__frame_words : K.lookup f__frame_words = some ⟨oc__frame_words, od__frame_words, .func (PySem.W.fnOf "_frame_words" "_frame_words" (defArgs s__frame_words) (defBody s__frame_words) (defScope s__frame_words) .none kV__frame_words do__frame_words pm__frame_words an__frame_words cd__frame_words ct__frame_words), sl__frame_words⟩)
     (c__frame_words : PySem.W.codeIn K cd__frame_words "_frame_words" = true)
     (k__frame_words : PySem.W.keepIn K (.ref f__frame_words) = true)
    {oc__read_most kV__read_most do__read_most pm__read_most cd__read_most ct__read_most : Value} {od__read_most an__read_most : Option Addr} {sl__read_most : Array (Option Value)} (a__read_most : PySem.W.nsIn K mainGlobals "_read_most" = some (some (.ref f__read_most)))
     (l__read_most : K.lookup f__read_most = some ⟨oc__read_most, od__read_most, .func (PySem.W.fnOf "_read_most" "_read_most" (defArgs s__read_most) (defBody s__read_most) (defScope s__read_most) .none kV__read_most do__read_most pm__read_most an__read_most cd__read_most ct__read_most), sl__read_most⟩)
     (c__read_most : PySem.W.codeIn K cd__read_most "_read_most" = true)
     (k__read_most : PySem.W.keepIn K (.ref f__read_most) = true)
    {oc__read_private kV__read_private do__read_private pm__read_private cd__read_private ct__read_private : Value} {od__read_private an__read_private : Option Addr} {sl__read_private : Array (Option Value)} (a__read_private : PySem.W.nsIn K mainGlobals "_read_private" = some (some (.ref f__read_private)))
     (l__read_private : K.lookup f__read_private = some ⟨oc__read_private, od__read_private, .func (PySem.W.fnOf "_read_private" "_read_private" (defArgs s__read_private) (defBody s__read_private) (defScope s__read_private) .none kV__read_private do__read_private pm__read_private an__read_private cd__read_private ct__read_private), sl__read_private⟩)
     (c__read_private : PySem.W.codeIn K cd__read_private "_read_private" = true)
     (k__read_private : PySem.W.keepIn K (.ref f__read_private) = true)
    {oc__read_pair kV__read_pair do__read_pair pm__read_pair cd__read_pair ct__read_pair : Value} {od__read_pair an__read_pair : Option Addr} {sl__read_pair : Array (Option Value)} (a__read_pair : PySem.W.nsIn K mainGlobals "_read_pair" = some (some (.ref f__read_pair)))
     (l__read_pair : K.lookup f__read_pair = some ⟨oc__read_pair, od__read_pair, .func (PySem.W.fnOf "_read_pair" "_read_pair" (defArgs s__read_pair) (defBody s__read_pair) (defScope s__read_pair) .none kV__read_pair do__read_pair pm__read_pair an__read_pair cd__read_pair ct__read_pair), sl__read_pair⟩)
     (c__read_pair : PySem.W.codeIn K cd__read_pair "_read_pair" = true)
     (k__read_pair : PySem.W.keepIn K (.ref f__read_pair) = true)
    {oc__read_known kV__read_known do__read_known pm__read_known cd__read_known ct__read_known : Value} {od__read_known an__read_known : Option Addr} {sl__read_known : Array (Option Value)} (a__read_known : PySem.W.nsIn K mainGlobals "_read_known" = some (some (.ref f__read_known)))
     (l__read_known : K.lookup f__read_known = some ⟨oc__read_known, od__read_known, .func (PySem.W.fnOf "_read_known" "_read_known" (defArgs s__read_known) (defBody s__read_known) (defScope s__read_known) .none kV__read_known do__read_known pm__read_known an__read_known cd__read_known ct__read_known), sl__read_known⟩)
     (c__read_known : PySem.W.codeIn K cd__read_known "_read_known" = true)
     (k__read_known : PySem.W.keepIn K (.ref f__read_known) = true)
    {oc__law_seed kV__law_seed do__law_seed pm__law_seed cd__law_seed ct__law_seed : Value} {od__law_seed an__law_seed : Option Addr} {sl__law_seed : Array (Option Value)} (a__law_seed : PySem.W.nsIn K mainGlobals "_law_seed" = some (some (.ref f__law_seed)))
     (l__law_seed : K.lookup f__law_seed = some ⟨oc__law_seed, od__law_seed, .func (PySem.W.fnOf "_law_seed" "_law_seed" (defArgs s__law_seed) (defBody s__law_seed) (defScope s__law_seed) .none kV__law_seed do__law_seed pm__law_seed an__law_seed cd__law_seed ct__law_seed), sl__law_seed⟩)
     (c__law_seed : PySem.W.codeIn K cd__law_seed "_law_seed" = true)
     (k__law_seed : PySem.W.keepIn K (.ref f__law_seed) = true)
    {oc__law_choose kV__law_choose do__law_choose pm__law_choose cd__law_choose ct__law_choose : Value} {od__law_choose an__law_choose : Option Addr} {sl__law_choose : Array (Option Value)} (a__law_choose : PySem.W.nsIn K mainGlobals "_law_choose" = some (some (.ref f__law_choose)))
     (l__law_choose : K.lookup f__law_choose = some ⟨oc__law_choose, od__law_choose, .func (PySem.W.fnOf "_law_choose" "_law_choose" (defArgs s__law_choose) (defBody s__law_choose) (defScope s__law_choose) .none kV__law_choose do__law_choose pm__law_choose an__law_choose cd__law_choose ct__law_choose), sl__law_choose⟩)
     (c__law_choose : PySem.W.codeIn K cd__law_choose "_law_choose" = true)
     (k__law_choose : PySem.W.keepIn K (.ref f__law_choose) = true)
    {oc__law_one_of kV__law_one_of do__law_one_of pm__law_one_of cd__law_one_of ct__law_one_of : Value} {od__law_one_of an__law_one_of : Option Addr} {sl__law_one_of : Array (Option Value)} (a__law_one_of : PySem.W.nsIn K mainGlobals "_law_one_of" = some (some (.ref f__law_one_of)))
     (l__law_one_of : K.lookup f__law_one_of = some ⟨oc__law_one_of, od__law_one_of, .func (PySem.W.fnOf "_law_one_of" "_law_one_of" (defArgs s__law_one_of) (defBody s__law_one_of) (defScope s__law_one_of) .none kV__law_one_of do__law_one_of pm__law_one_of an__law_one_of cd__law_one_of ct__law_one_of), sl__law_one_of⟩)
     (c__law_one_of : PySem.W.codeIn K cd__law_one_of "_law_one_of" = true)
     (k__law_one_of : PySem.W.keepIn K (.ref f__law_one_of) = true)
    {oc__law_frame kV__law_frame do__law_frame pm__law_frame cd__law_frame ct__law_frame : Value} {od__law_frame an__law_frame : Option Addr} {sl__law_frame : Array (Option Value)} (a__law_frame : PySem.W.nsIn K mainGlobals "_law_frame" = some (some (.ref f__law_frame)))
     (l__law_frame : K.lookup f__law_frame = some ⟨oc__law_frame, od__law_frame, .func (PySem.W.fnOf "_law_frame" "_law_frame" (defArgs s__law_frame) (defBody s__law_frame) (defScope s__law_frame) .none kV__law_frame do__law_frame pm__law_frame an__law_frame cd__law_frame ct__law_frame), sl__law_frame⟩)
     (c__law_frame : PySem.W.codeIn K cd__law_frame "_law_frame" = true)
     (k__law_frame : PySem.W.keepIn K (.ref f__law_frame) = true)
    {oc__law_frame_text kV__law_frame_text do__law_frame_text pm__law_frame_text cd__law_frame_text ct__law_frame_text : Value} {od__law_frame_text an__law_frame_text : Option Addr} {sl__law_frame_text : Array (Option Value)} (a__law_frame_text : PySem.W.nsIn K mainGlobals "_law_frame_text" = some (some (.ref f__law_frame_text)))
     (l__law_frame_text : K.lookup f__law_frame_text = some ⟨oc__law_frame_text, od__law_frame_text, .func (PySem.W.fnOf "_law_frame_text" "_law_frame_text" (defArgs s__law_frame_text) (defBody s__law_frame_text) (defScope s__law_frame_text) .none kV__law_frame_text do__law_frame_text pm__law_frame_text an__law_frame_text cd__law_frame_text ct__law_frame_text), sl__law_frame_text⟩)
     (c__law_frame_text : PySem.W.codeIn K cd__law_frame_text "_law_frame_text" = true)
     (k__law_frame_text : PySem.W.keepIn K (.ref f__law_frame_text) = true)
    {oc_law kV_law do_law pm_law cd_law ct_law : Value} {od_law an_law : Option Addr} {sl_law : Array (Option Value)} (a_law : PySem.W.nsIn K mainGlobals "law" = some (some (.ref f_law)))
     (l_law : K.lookup f_law = some ⟨oc_law, od_law, .func (PySem.W.fnOf "law" "law" (defArgs s_law) (defBody s_law) (defScope s_law) .none kV_law do_law pm_law an_law cd_law ct_law), sl_law⟩)
     (c_law : PySem.W.codeIn K cd_law "law" = true)
     (k_law : PySem.W.keepIn K (.ref f_law) = true)
    {oc_Frame___init__ kV_Frame___init__ do_Frame___init__ pm_Frame___init__ cd_Frame___init__ ct_Frame___init__ : Value} {od_Frame___init__ an_Frame___init__ : Option Addr} {sl_Frame___init__ : Array (Option Value)} (a_Frame___init__ : PySem.W.findIn K (.ref C_Frame) "__init__" = some (some (.ref f_Frame___init__)))
     (i_Frame___init__ : PySem.W.isFn K (.ref f_Frame___init__) = true)
    {T_Frame___init__ : Addr} (l_Frame___init__ : K.lookup f_Frame___init__ = some ⟨oc_Frame___init__, od_Frame___init__, .func (PySem.W.fnOf "__init__" "Frame.__init__" (defArgs s_Frame___init__) (defBody s_Frame___init__) (defScope s_Frame___init__) (.ref T_Frame___init__) kV_Frame___init__ do_Frame___init__ pm_Frame___init__ an_Frame___init__ cd_Frame___init__ ct_Frame___init__), sl_Frame___init__⟩)
    {tc_Frame___init__ : Value} {td_Frame___init__ : Option Addr} {it_Frame___init__ : Array Value} {tn_Frame___init__ : Nat} {ts_Frame___init__ : Array (Option Value)} (lt_Frame___init__ : K.lookup T_Frame___init__ = some ⟨tc_Frame___init__, td_Frame___init__, .seq it_Frame___init__ tn_Frame___init__, ts_Frame___init__⟩)
    {z_Frame : Addr} (lv_Frame___init__ : it_Frame___init__.toList.mapM absV = some [V.int 1, V.non, V.bl false, V.ref z_Frame])
    {td_zFrame : Option Addr} {it_zFrame : Array Value} {tn_zFrame : Nat} {ts_zFrame : Array (Option Value)} (l_zFrame : K.lookup z_Frame = some ⟨.type "tuple", td_zFrame, .seq it_zFrame tn_zFrame, ts_zFrame⟩)
     (lv_zFrame : it_zFrame.toList.mapM absV = some [])
     (c_Frame___init__ : PySem.W.codeIn K cd_Frame___init__ "Frame.__init__" = true)
     (k_Frame___init__ : PySem.W.keepIn K (.ref f_Frame___init__) = true)
    {oc_Frame_read kV_Frame_read do_Frame_read pm_Frame_read cd_Frame_read ct_Frame_read : Value} {od_Frame_read an_Frame_read : Option Addr} {sl_Frame_read : Array (Option Value)} (a_Frame_read : PySem.W.findCls K (.ref C_Frame) (.type "type") "read" = some (.get (.builtin "classmethod.__get__") (.ref q_Frame_read) .none (.ref C_Frame)))
    {rest_Frame_read : List Value} (pr_Frame_read : PySem.W.recIn K q_Frame_read "classmethod" = some (.ref f_Frame_read :: rest_Frame_read))
     (fi_Frame_read : PySem.W.fnIn K f_Frame_read = true)
     (rd_Frame : PySem.W.readsIn K C_Frame (.type "type") = true)
     (ga_Frame : PySem.W.specialIn K (.ref C_Frame) "__getattribute__" = some (some (.builtin "type.__getattribute__")))
     (l_Frame_read : K.lookup f_Frame_read = some ⟨oc_Frame_read, od_Frame_read, .func (PySem.W.fnOf "read" "Frame.read" (defArgs s_Frame_read) (defBody s_Frame_read) (defScope s_Frame_read) .none kV_Frame_read do_Frame_read pm_Frame_read an_Frame_read cd_Frame_read ct_Frame_read), sl_Frame_read⟩)
     (c_Frame_read : PySem.W.codeIn K cd_Frame_read "Frame.read" = true)
     (k_Frame_read : PySem.W.keepIn K (.ref f_Frame_read) = true)
    {oc_Frame_knowing kV_Frame_knowing do_Frame_knowing pm_Frame_knowing cd_Frame_knowing ct_Frame_knowing : Value} {od_Frame_knowing an_Frame_knowing : Option Addr} {sl_Frame_knowing : Array (Option Value)} (a_Frame_knowing : PySem.W.findIn K (.ref C_Frame) "knowing" = some (some (.ref f_Frame_knowing)))
     (i_Frame_knowing : PySem.W.isFn K (.ref f_Frame_knowing) = true)
     (l_Frame_knowing : K.lookup f_Frame_knowing = some ⟨oc_Frame_knowing, od_Frame_knowing, .func (PySem.W.fnOf "knowing" "Frame.knowing" (defArgs s_Frame_knowing) (defBody s_Frame_knowing) (defScope s_Frame_knowing) .none kV_Frame_knowing do_Frame_knowing pm_Frame_knowing an_Frame_knowing cd_Frame_knowing ct_Frame_knowing), sl_Frame_knowing⟩)
     (c_Frame_knowing : PySem.W.codeIn K cd_Frame_knowing "Frame.knowing" = true)
     (k_Frame_knowing : PySem.W.keepIn K (.ref f_Frame_knowing) = true)
    {oc_Frame___eq__ kV_Frame___eq__ do_Frame___eq__ pm_Frame___eq__ cd_Frame___eq__ ct_Frame___eq__ : Value} {od_Frame___eq__ an_Frame___eq__ : Option Addr} {sl_Frame___eq__ : Array (Option Value)} (a_Frame___eq__ : PySem.W.findIn K (.ref C_Frame) "__eq__" = some (some (.ref f_Frame___eq__)))
     (i_Frame___eq__ : PySem.W.isFn K (.ref f_Frame___eq__) = true)
     (l_Frame___eq__ : K.lookup f_Frame___eq__ = some ⟨oc_Frame___eq__, od_Frame___eq__, .func (PySem.W.fnOf "__eq__" "Frame.__eq__" (defArgs s_Frame___eq__) (defBody s_Frame___eq__) (defScope s_Frame___eq__) .none kV_Frame___eq__ do_Frame___eq__ pm_Frame___eq__ an_Frame___eq__ cd_Frame___eq__ ct_Frame___eq__), sl_Frame___eq__⟩)
     (c_Frame___eq__ : PySem.W.codeIn K cd_Frame___eq__ "Frame.__eq__" = true)
     (k_Frame___eq__ : PySem.W.keepIn K (.ref f_Frame___eq__) = true)
    {oc_Frame___str__ kV_Frame___str__ do_Frame___str__ pm_Frame___str__ cd_Frame___str__ ct_Frame___str__ : Value} {od_Frame___str__ an_Frame___str__ : Option Addr} {sl_Frame___str__ : Array (Option Value)} (a_Frame___str__ : PySem.W.findIn K (.ref C_Frame) "__str__" = some (some (.ref f_Frame___str__)))
     (i_Frame___str__ : PySem.W.isFn K (.ref f_Frame___str__) = true)
     (l_Frame___str__ : K.lookup f_Frame___str__ = some ⟨oc_Frame___str__, od_Frame___str__, .func (PySem.W.fnOf "__str__" "Frame.__str__" (defArgs s_Frame___str__) (defBody s_Frame___str__) (defScope s_Frame___str__) .none kV_Frame___str__ do_Frame___str__ pm_Frame___str__ an_Frame___str__ cd_Frame___str__ ct_Frame___str__), sl_Frame___str__⟩)
     (c_Frame___str__ : PySem.W.codeIn K cd_Frame___str__ "Frame.__str__" = true)
     (k_Frame___str__ : PySem.W.keepIn K (.ref f_Frame___str__) = true)
     (pg_Frame : PySem.W.plainGet K C_Frame Str.empty = true)
     (hd_Frame : PySem.W.hasDictIn K C_Frame = true)
     (po_Frame : PySem.W.plainOver K C_Frame = true)
     (sa_Frame : PySem.W.findIn K (.ref C_Frame) "__setattr__" = some (some (.builtin "object.__setattr__")))
     (mk_Frame : PySem.W.makesIn K C_Frame = true)
     (kc_Frame : PySem.W.keepIn K (.ref C_Frame) = true)
     (na_Frame_length : PySem.W.findIn K (.ref C_Frame) "length" = some none)
     (na_Frame_shortest : PySem.W.findIn K (.ref C_Frame) "shortest" = some none)
     (na_Frame_most : PySem.W.findIn K (.ref C_Frame) "most" = some none)
     (na_Frame_private : PySem.W.findIn K (.ref C_Frame) "private" = some none)
     (na_Frame_known : PySem.W.findIn K (.ref C_Frame) "known" = some none)
     (n_Frame : PySem.W.findIn K (.ref C_Frame) "__ne__" = some (some (.builtin "object.__ne__")))
     (isc_Frame : PySem.W.isClsIn K C_Frame = true)
     (tyc_Frame : PySem.W.typeIn K (.ref C_Frame) = some (.type "type"))
     (su_Frame : PySem.W.subIn K (.type "str") (.ref C_Frame) = some false)
     (o_Frame : PySem.W.mroIn K C_Frame (.type "object") = some true)
     (ic_Frame : PySem.W.findIn K (.ref C_Frame) "__class__" = some (some (.builtin "object.__class__")))
     (oc1 : PySem.W.specialIn K (.builtin "object.__class__") "__get__" = some (some (.builtin "getset_descriptor.__get__")))
     (oc2 : PySem.W.takesIn K (.builtin "object.__class__") = some true)
     (b_isinstance : PySem.W.nsIn K mainGlobals "isinstance" = some none)
     (b_int : PySem.W.nsIn K mainGlobals "int" = some none)
     (b_bool : PySem.W.nsIn K mainGlobals "bool" = some none)
     (b_list : PySem.W.nsIn K mainGlobals "list" = some none)
     (b_tuple : PySem.W.nsIn K mainGlobals "tuple" = some none)
     (b_len : PySem.W.nsIn K mainGlobals "len" = some none)
     (b_range : PySem.W.nsIn K mainGlobals "range" = some none)
     (b_abs : PySem.W.nsIn K mainGlobals "abs" = some none)
     (b_min : PySem.W.nsIn K mainGlobals "min" = some none)
     (b_max : PySem.W.nsIn K mainGlobals "max" = some none)
     (b_str : PySem.W.nsIn K mainGlobals "str" = some none)
     (b_repr : PySem.W.nsIn K mainGlobals "repr" = some none)
     (b_all : PySem.W.nsIn K mainGlobals "all" = some none)
    : ∃ fd : FuncData, (∀ (s : Shared) (v : Value), BindsTo s fd ⟨[v], []⟩ [("_law_script", v)]) ∧ ∀ base : Heap, K.In base → base.Ns mainGlobals mg → FnG l.prog w K mg base 14 fa fd ["_law_script"] (spLaw K) := by
  have e := hfa.symm.trans (PySem.W.mg_of X G a_law)
  cases e
  have T : Txt K mg { f_is_integer := f_is_integer, f_is_number := f_is_number, f_is_positive := f_is_positive, f_is_sequence := f_is_sequence, f_is_numeral := f_is_numeral, f_read_number := f_read_number, f__is_known := f__is_known, f__are_known := f__are_known, f__wrong_argument := f__wrong_argument, f__pair_words := f__pair_words, f__frame_words := f__frame_words, f__read_most := f__read_most, f__read_private := f__read_private, f__read_pair := f__read_pair, f__read_known := f__read_known, f__law_seed := f__law_seed, f__law_choose := f__law_choose, f__law_one_of := f__law_one_of, f__law_frame := f__law_frame, f__law_frame_text := f__law_frame_text, f_law := fa, f_Frame___init__ := f_Frame___init__, z_Frame := z_Frame, f_Frame_read := f_Frame_read, q_Frame_read := q_Frame_read, f_Frame_knowing := f_Frame_knowing, f_Frame___eq__ := f_Frame___eq__, f_Frame___str__ := f_Frame___str__, C_Frame := C_Frame } := { m_is_integer := PySem.W.mg_of X G a_is_integer, k_is_integer := k_is_integer, F_is_integer := ⟨_, fun_mk (st := s_is_integer) l_is_integer c_is_integer k_is_integer⟩, m_is_number := PySem.W.mg_of X G a_is_number, k_is_number := k_is_number, F_is_number := ⟨_, fun_mk (st := s_is_number) l_is_number c_is_number k_is_number⟩, m_is_positive := PySem.W.mg_of X G a_is_positive, k_is_positive := k_is_positive, F_is_positive := ⟨_, fun_mk (st := s_is_positive) l_is_positive c_is_positive k_is_positive⟩, m_is_sequence := PySem.W.mg_of X G a_is_sequence, k_is_sequence := k_is_sequence, F_is_sequence := ⟨_, fun_mk (st := s_is_sequence) l_is_sequence c_is_sequence k_is_sequence⟩, m_is_numeral := PySem.W.mg_of X G a_is_numeral, k_is_numeral := k_is_numeral, F_is_numeral := ⟨_, fun_mk (st := s_is_numeral) l_is_numeral c_is_numeral k_is_numeral⟩, m_read_number := PySem.W.mg_of X G a_read_number, k_read_number := k_read_number, F_read_number := ⟨_, fun_mk (st := s_read_number) l_read_number c_read_number k_read_number⟩, m__is_known := PySem.W.mg_of X G a__is_known, k__is_known := k__is_known, F__is_known := ⟨_, fun_mk (st := s__is_known) l__is_known c__is_known k__is_known⟩, m__are_known := PySem.W.mg_of X G a__are_known, k__are_known := k__are_known, F__are_known := ⟨_, fun_mk (st := s__are_known) l__are_known c__are_known k__are_known⟩, m__wrong_argument := PySem.W.mg_of X G a__wrong_argument, k__wrong_argument := k__wrong_argument, F__wrong_argument := ⟨_, fun_mk (st := s__wrong_argument) l__wrong_argument c__wrong_argument k__wrong_argument⟩, m__pair_words := PySem.W.mg_of X G a__pair_words, k__pair_words := k__pair_words, F__pair_words := ⟨_, fun_mk (st := s__pair_words) l__pair_words c__pair_words k__pair_words⟩, m__frame_words := PySem.W.mg_of X G a__frame_words, k__frame_words := k__frame_words, F__frame_words := ⟨_, fun_mk (st := s__frame_words) l__frame_words c__frame_words k__frame_words⟩, m__read_most := PySem.W.mg_of X G a__read_most, k__read_most := k__read_most, F__read_most := ⟨_, fun_mk (st := s__read_most) l__read_most c__read_most k__read_most⟩, m__read_private := PySem.W.mg_of X G a__read_private, k__read_private := k__read_private, F__read_private := ⟨_, fun_mk (st := s__read_private) l__read_private c__read_private k__read_private⟩, m__read_pair := PySem.W.mg_of X G a__read_pair, k__read_pair := k__read_pair, F__read_pair := ⟨_, fun_mk (st := s__read_pair) l__read_pair c__read_pair k__read_pair⟩, m__read_known := PySem.W.mg_of X G a__read_known, k__read_known := k__read_known, F__read_known := ⟨_, fun_mk (st := s__read_known) l__read_known c__read_known k__read_known⟩, m__law_seed := PySem.W.mg_of X G a__law_seed, k__law_seed := k__law_seed, F__law_seed := ⟨_, fun_mk (st := s__law_seed) l__law_seed c__law_seed k__law_seed⟩, m__law_choose := PySem.W.mg_of X G a__law_choose, k__law_choose := k__law_choose, F__law_choose := ⟨_, fun_mk (st := s__law_choose) l__law_choose c__law_choose k__law_choose⟩, m__law_one_of := PySem.W.mg_of X G a__law_one_of, k__law_one_of := k__law_one_of, F__law_one_of := ⟨_, fun_mk (st := s__law_one_of) l__law_one_of c__law_one_of k__law_one_of⟩, m__law_frame := PySem.W.mg_of X G a__law_frame, k__law_frame := k__law_frame, F__law_frame := ⟨_, fun_mk (st := s__law_frame) l__law_frame c__law_frame k__law_frame⟩, m__law_frame_text := PySem.W.mg_of X G a__law_frame_text, k__law_frame_text := k__law_frame_text, F__law_frame_text := ⟨_, fun_mk (st := s__law_frame_text) l__law_frame_text c__law_frame_text k__law_frame_text⟩, m_law := PySem.W.mg_of X G a_law, k_law := k_law, F_law := ⟨_, fun_mk (st := s_law) l_law c_law k_law⟩, w_zFrame := fun _ => sqt_mk l_zFrame lv_zFrame (by decide), F_Frame___init__ := ⟨_, fund_mk l_Frame___init__ lt_Frame___init__ lv_Frame___init__ (List.cons_ne_nil _ _) c_Frame___init__ k_Frame___init__⟩, cm_Frame_read := ⟨a_Frame_read, ⟨_, pr_Frame_read⟩, fi_Frame_read⟩, cr_Frame := ⟨rd_Frame, ga_Frame⟩, F_Frame_read := ⟨_, fun_mk (st := s_Frame_read) l_Frame_read c_Frame_read k_Frame_read⟩, F_Frame_knowing := ⟨_, fun_mk (st := s_Frame_knowing) l_Frame_knowing c_Frame_knowing k_Frame_knowing⟩, me_Frame_knowing := ⟨a_Frame_knowing, i_Frame_knowing, k_Frame_knowing⟩, F_Frame___eq__ := ⟨_, fun_mk (st := s_Frame___eq__) l_Frame___eq__ c_Frame___eq__ k_Frame___eq__⟩, e_Frame := a_Frame___eq__, ef_Frame := i_Frame___eq__, F_Frame___str__ := ⟨_, fun_mk (st := s_Frame___str__) l_Frame___str__ c_Frame___str__ k_Frame___str__⟩, s_Frame := a_Frame___str__, sf_Frame := i_Frame___str__, m_Frame := PySem.W.mg_of X G a_Frame, cl_Frame := ⟨pg_Frame, hd_Frame, po_Frame, sa_Frame⟩, mk_Frame := ⟨mk_Frame, a_Frame___init__, i_Frame___init__, kc_Frame⟩, na_Frame_length := na_Frame_length, na_Frame_shortest := na_Frame_shortest, na_Frame_most := na_Frame_most, na_Frame_private := na_Frame_private, na_Frame_known := na_Frame_known, n_Frame := n_Frame, ks_Frame := kit_str isc_Frame tyc_Frame su_Frame, su_Frame := su_Frame, o_Frame := o_Frame, ic_Frame := ic_Frame, oc1 := oc1, oc2 := oc2, b_isinstance := PySem.W.mg_none_of X G b_isinstance, b_int := PySem.W.mg_none_of X G b_int, b_bool := PySem.W.mg_none_of X G b_bool, b_list := PySem.W.mg_none_of X G b_list, b_tuple := PySem.W.mg_none_of X G b_tuple, b_len := PySem.W.mg_none_of X G b_len, b_range := PySem.W.mg_none_of X G b_range, b_abs := PySem.W.mg_none_of X G b_abs, b_min := PySem.W.mg_none_of X G b_min, b_max := PySem.W.mg_none_of X G b_max, b_str := PySem.W.mg_none_of X G b_str, b_repr := PySem.W.mg_none_of X G b_repr, b_all := PySem.W.mg_none_of X G b_all }
  exact ⟨PySem.W.fnOf "law" "law" (defArgs s_law) (defBody s_law) (defScope s_law) .none kV_law do_law pm_law an_law cd_law ct_law, fun s v => .of_eq rfl, fun base _ _ => ok_law T (fun_mk l_law c_law k_law)⟩
theorem walk {l : PySem.W.OpenLaw} {q : Program} {loose : List Str} {XP : (Str → Option Value) → Heap → Prop} {YP : World → Heap → Prop} {d : DefRec} {K : Params → PySem.W.Frag} (hn : l.most = some 63) (hdf : d.params.defaults = [])
    (hY : ∀ (w : World) (h : Heap), YP w h → (K w.params).In h)
    (F : ∀ (w : World) (mg : Str → Option Value) (fa : Addr) (h : Heap), (K w.params).In h → h.Ns mainGlobals mg → mg d.name = some (.ref fa) →
      ∃ fd : FuncData, (∀ (s : Shared) (u : Value), BindsTo s fd ⟨[u], []⟩ [("_law_script", u)]) ∧ ∀ base : Heap, (K w.params).In base → base.Ns mainGlobals mg → FnG l.prog w (K w.params) mg base 14 fa fd ["_law_script"] (spLaw (K w.params))) :
    PySem.W.WalkO q loose XP YP l.row.toRowW d [] (fun f vs => PySem.call f vs) :=
  walk_ofG (n := 63) (k := 14) (x := "_law_script") (sp := spLaw) hn (by decide) hdf ⟨rfl, by decide, by decide⟩ hY F (fun _ _ a ns hl _ hS => ⟨a, ns, rfl, hS, hl, fun _ => rfl⟩)
end DD
open PySem PySem.W PyProof.Rows
set_option maxRecDepth 100000 in
set_option maxHeartbeats 0 in
theorem PySem.Challenge.cw_dimdays_k17_frames_made_holds : PySem.Challenge.rw_dimdays_k17_frames_made.Holds := by
  w_on; o_law; k_head; (case hw => w_witness2)
  k_fill
  refine DD.walk (l := PySem.Challenge.rw_dimdays_k17_frames_made) rfl rfl (fun w h Y => PySem.W.kIn_of Y) ?F
  case F =>
    intro w mg fa h KX G hmg
    refine' DD.all_mk KX G hmg ?a_Frame ?a_is_integer ?l_is_integer ?c_is_integer ?k_is_integer ?a_is_number ?l_is_number ?c_is_number ?k_is_number ?a_is_positive ?l_is_positive ?c_is_positive ?k_is_positive ?a_is_sequence ?l_is_sequence ?c_is_sequence ?k_is_sequence ?a_is_numeral ?l_is_numeral ?c_is_numeral ?k_is_numeral ?a_read_number ?l_read_number ?c_read_number ?k_read_number ?a__is_known ?l__is_known ?c__is_known ?k__is_known ?a__are_known ?l__are_known ?c__are_known ?k__are_known ?a__wrong_argument ?l__wrong_argument ?c__wrong_argument ?k__wrong_argument ?a__pair_words ?l__pair_words ?c__pair_words ?k__pair_words ?a__frame_words ?l__frame_words ?c__frame_words ?k__frame_words ?a__read_most ?l__read_most ?c__read_most ?k__read_most ?a__read_private ?l__read_private ?c__read_private ?k__read_private ?a__read_pair ?l__read_pair ?c__read_pair ?k__read_pair ?a__read_known ?l__read_known ?c__read_known ?k__read_known ?a__law_seed ?l__law_seed ?c__law_seed ?k__law_seed ?a__law_choose ?l__law_choose ?c__law_choose ?k__law_choose ?a__law_one_of ?l__law_one_of ?c__law_one_of ?k__law_one_of ?a__law_frame ?l__law_frame ?c__law_frame ?k__law_frame ?a__law_frame_text ?l__law_frame_text ?c__law_frame_text ?k__law_frame_text ?a_law ?l_law ?c_law ?k_law ?a_Frame___init__ ?i_Frame___init__ ?l_Frame___init__ ?lt_Frame___init__ ?lv_Frame___init__ ?l_zFrame ?lv_zFrame ?c_Frame___init__ ?k_Frame___init__ ?a_Frame_read ?pr_Frame_read ?fi_Frame_read ?rd_Frame ?ga_Frame ?l_Frame_read ?c_Frame_read ?k_Frame_read ?a_Frame_knowing ?i_Frame_knowing ?l_Frame_knowing ?c_Frame_knowing ?k_Frame_knowing ?a_Frame___eq__ ?i_Frame___eq__ ?l_Frame___eq__ ?c_Frame___eq__ ?k_Frame___eq__ ?a_Frame___str__ ?i_Frame___str__ ?l_Frame___str__ ?c_Frame___str__ ?k_Frame___str__ ?pg_Frame ?hd_Frame ?po_Frame ?sa_Frame ?mk_Frame ?kc_Frame ?na_Frame_length ?na_Frame_shortest ?na_Frame_most ?na_Frame_private ?na_Frame_known ?n_Frame ?isc_Frame ?tyc_Frame ?su_Frame ?o_Frame ?ic_Frame ?oc1 ?oc2 ?b_isinstance ?b_int ?b_bool ?b_list ?b_tuple ?b_len ?b_range ?b_abs ?b_min ?b_max ?b_str ?b_repr ?b_all
    (case a_Frame => k_is)
    (case a_is_integer => k_is)
    (case l_is_integer => k_is)
    (case c_is_integer => k_is)
    (case k_is_integer => k_is)
    (case a_is_number => k_is)
    (case l_is_number => k_is)
    (case c_is_number => k_is)
    (case k_is_number => k_is)
    (case a_is_positive => k_is)
    (case l_is_positive => k_is)
    (case c_is_positive => k_is)
    (case k_is_positive => k_is)
    (case a_is_sequence => k_is)
    (case l_is_sequence => k_is)
    (case c_is_sequence => k_is)
    (case k_is_sequence => k_is)
    (case a_is_numeral => k_is)
    (case l_is_numeral => k_is)
    (case c_is_numeral => k_is)
    (case k_is_numeral => k_is)
    (case a_read_number => k_is)
    (case l_read_number => k_is)
    (case c_read_number => k_is)
    (case k_read_number => k_is)
    (case a__is_known => k_is)
    (case l__is_known => k_is)
    (case c__is_known => k_is)
    (case k__is_known => k_is)
    (case a__are_known => k_is)
    (case l__are_known => k_is)
    (case c__are_known => k_is)
    (case k__are_known => k_is)
    (case a__wrong_argument => k_is)
    (case l__wrong_argument => k_is)
    (case c__wrong_argument => k_is)
    (case k__wrong_argument => k_is)
    (case a__pair_words => k_is)
    (case l__pair_words => k_is)
    (case c__pair_words => k_is)
    (case k__pair_words => k_is)
    (case a__frame_words => k_is)
    (case l__frame_words => k_is)
    (case c__frame_words => k_is)
    (case k__frame_words => k_is)
    (case a__read_most => k_is)
    (case l__read_most => k_is)
    (case c__read_most => k_is)
    (case k__read_most => k_is)
    (case a__read_private => k_is)
    (case l__read_private => k_is)
    (case c__read_private => k_is)
    (case k__read_private => k_is)
    (case a__read_pair => k_is)
    (case l__read_pair => k_is)
    (case c__read_pair => k_is)
    (case k__read_pair => k_is)
    (case a__read_known => k_is)
    (case l__read_known => k_is)
    (case c__read_known => k_is)
    (case k__read_known => k_is)
    (case a__law_seed => k_is)
    (case l__law_seed => k_is)
    (case c__law_seed => k_is)
    (case k__law_seed => k_is)
    (case a__law_choose => k_is)
    (case l__law_choose => k_is)
    (case c__law_choose => k_is)
    (case k__law_choose => k_is)
    (case a__law_one_of => k_is)
    (case l__law_one_of => k_is)
    (case c__law_one_of => k_is)
    (case k__law_one_of => k_is)
    (case a__law_frame => k_is)
    (case l__law_frame => k_is)
    (case c__law_frame => k_is)
    (case k__law_frame => k_is)
    (case a__law_frame_text => k_is)
    (case l__law_frame_text => k_is)
    (case c__law_frame_text => k_is)
    (case k__law_frame_text => k_is)
    (case a_law => k_is)
    (case l_law => k_is)
    (case c_law => k_is)
    (case k_law => k_is)
    (case a_Frame___init__ => k_is)
    (case i_Frame___init__ => k_is)
    (case l_Frame___init__ => k_is)
    (case lt_Frame___init__ => k_is)
    (case lv_Frame___init__ => exact rfl)
    (case l_zFrame => k_is)
    (case lv_zFrame => exact rfl)
    (case c_Frame___init__ => k_is)
    (case k_Frame___init__ => k_is)
    (case a_Frame_read => k_is)
    (case pr_Frame_read => k_is)
    (case fi_Frame_read => k_is)
    (case rd_Frame => k_is)
    (case ga_Frame => k_is)
    (case l_Frame_read => k_is)
    (case c_Frame_read => k_is)
    (case k_Frame_read => k_is)
    (case a_Frame_knowing => k_is)
    (case i_Frame_knowing => k_is)
    (case l_Frame_knowing => k_is)
    (case c_Frame_knowing => k_is)
    (case k_Frame_knowing => k_is)
    (case a_Frame___eq__ => k_is)
    (case i_Frame___eq__ => k_is)
    (case l_Frame___eq__ => k_is)
    (case c_Frame___eq__ => k_is)
    (case k_Frame___eq__ => k_is)
    (case a_Frame___str__ => k_is)
    (case i_Frame___str__ => k_is)
    (case l_Frame___str__ => k_is)
    (case c_Frame___str__ => k_is)
    (case k_Frame___str__ => k_is)
    (case pg_Frame => k_is)
    (case hd_Frame => k_is)
    (case po_Frame => k_is)
    (case sa_Frame => k_is)
    (case mk_Frame => k_is)
    (case kc_Frame => k_is)
    (case na_Frame_length => k_is)
    (case na_Frame_shortest => k_is)
    (case na_Frame_most => k_is)
    (case na_Frame_private => k_is)
    (case na_Frame_known => k_is)
    (case n_Frame => k_is)
    (case isc_Frame => k_is)
    (case tyc_Frame => k_is)
    (case su_Frame => k_is)
    (case o_Frame => k_is)
    (case ic_Frame => k_is)
    (case oc1 => k_is)
    (case oc2 => k_is)
    (case b_isinstance => k_is)
    (case b_int => k_is)
    (case b_bool => k_is)
    (case b_list => k_is)
    (case b_tuple => k_is)
    (case b_len => k_is)
    (case b_range => k_is)
    (case b_abs => k_is)
    (case b_min => k_is)
    (case b_max => k_is)
    (case b_str => k_is)
    (case b_repr => k_is)
    (case b_all => k_is)
