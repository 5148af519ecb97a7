import PyProof.Rows.All
import Wide.All
import OpenK.AllK
import Wide.FinOn
import HandS.ForMost
import HandS.Defaults
import HandS.Property
import HandS.OwnEq
import HandS.FStr
import HandS.IsInst
import HandS.TupAny
import HandS.Evl
import HandS.Star
import HandS.SlotsOwn
import KE.KCallOwn
import HandS.Conv
import HandS.ClsMeth
import HandS.CallLocal
import HandS.Text
import HandS.StrMore
import HandS.Style
import PyProof.ReprRoads
import HandS.SortRule
import HandS.Iter
import KE.LtData
import KE.DataFind
import HandS.Deep
import HandS.RaiseMore
import HandS.SortInts
import HandS.NoneIn
import HandS.RevRange
import KE.SortData
import HandS.Ends
import HandS.Zip
import HandS.Dict
import KE.KStar
import KE.KParD
import HandS.Words
import HandS.TryOnly
import HandS.FStrTup
import PySem.Challenge.RW_dimdays_k14_what_is_a_view
set_option Elab.async false
set_option linter.all false
set_option maxRecDepth 100000
set_option maxHeartbeats 2000000
/-! rules that every law of this program wants -/
namespace DD
open PySem PySem.Spec PyProof.Rows L2

/-! ### calls by a positional promise -/
section
variable {X : Cx} {CX : CXT} {k : Nat} {f C p g : Addr} {sp : Sp} {E : XK} {x m : Str} {pp pos apos : Pos} {e o : Expr} {es : List Expr} {ta : TE} {t : TA}
def tCallR (sp : Sp) (E : XK) (t : TA) : TE := fun σ H Q => t σ H fun vs H1 => sp vs H1 Q E
theorem wp_fnR {pins : List (Addr × Obj)} {σ : L2.St} {H : Hp} {s : Shared} {Q : VK} {us : List Value} {vs : List V} (F : FnR X.prog X.w X.K X.mg X.base CX k f sp) (hr : Room k X.A) (hx : Passes CX X E) (I : Inv X pins σ H s) (r : Vals vs us) (h : sp vs H Q E) :
    wpAny (model X.prog X.w) X.A (call (.ref f) us) (EP X pins σ Q) X.xe s := wpAny_call (run_fnR F hr hx I r h)
theorem pe_callR (F : FnR X.prog X.w X.K X.mg X.base CX k f sp) (hr : Room k X.A) (hg : Gl X x) (hm : X.mg x = some (.ref f)) (hk : PySem.W.keepIn X.K (.ref f) = true) (hx : Passes CX X E)
    (ha : PA X (e :: es) t) (hdb : (x == ("__debug__" : Str)) = false := by decide) (he : starEach (e :: es) X.env = (false, eval e X.env) :: starEach es X.env := by rfl) (hpl : (backTo pos (starEach es X.env)).any (·.1) = false := by rfl) :
    PE X (.Call (.Name x pp) (e :: es) [] pos) (tCallR sp E t) := by
  refine ⟨fun pins s σ H Q I h => ?_⟩
  refine wpAny_Call_Name_kw (ld_glob I hg hm ?_ hdb)
  refine PySem.W.callWith_K (h₀ := X.base) I.ok.mod.kin hk (thn (ha.run pos pins s σ H _ I h) fun us s1 ⟨vs, H1, I1, r, q⟩ => ⟨I1.kIn, ?_⟩) he hpl
  exact wp_fnR F hr hx I1 r q
/-- o.m(..) of an instance of the class at C -/
def tMethR (C : Addr) (m : Str) (sp : Sp) (E : XK) (ta : TE) (t : TA) : TE := fun σ H Q => ta σ H fun x H1 => ∃ a dx fs, x = .ref a ∧ H1 a = some (.ins C dx fs) ∧ fs.lookup m = none ∧
  t σ H1 fun vs H2 => sp (x :: vs) H2 Q E
theorem pe_methR {pl : Sem Bool} (he : PE X o ta) (c : Cls X.K C) (hm : Meth X.K C m f) (F : FnR X.prog X.w X.K X.mg X.base CX k f sp) (hr : Room k X.A) (hx : Passes CX X E) (ha : PA X (e :: es) t)
    (hst : starEach (e :: es) X.env = (false, eval e X.env) :: starEach es X.env := by rfl) (hpl : (backTo pos (starEach es X.env)).any (·.1) = false := by rfl)
    (ht : eval (.Call (.Attribute o m apos) (e :: es) [] pos) X.env = (do
      let ov ← eval o X.env
      standAt apos.atName
      let (f, first) ← holding [ov] (getMethod ov m pl)
      callWith pos f first (backTo pos (starEach (e :: es) X.env)) (backToKw pos (keywordEach [] X.env))) := by rfl) :
    PE X (.Call (.Attribute o m apos) (e :: es) [] pos) (tMethR C m sp E ta t) := by
  refine ⟨fun pins s σ H Q I h => ?_⟩
  refine PySem.W.methodCall_KW (pl := pl) (thn (he.run pins s σ H _ I h) fun u s1 ⟨x, H1, I1, rx, a, dx, fs, ex, ea, l, q⟩ => ?_) ht
  subst ex
  obtain rfl : u = Value.ref a := rx
  refine getmeth_ok I1 ea c hm l ?_
  refine PySem.W.callWith_K (first := [.ref a]) (h₀ := X.base) I.ok.mod.kin hm.kp (thn (ha.run pos pins s1 σ H1 _ I1 q) fun us s2 ⟨vs, H2, I2, r, q2⟩ => ⟨I2.kIn, ?_⟩) hst hpl
  exact wp_fnR (us := .ref a :: us) (vs := .ref a :: vs) F hr hx I2 (.cons rfl r) q2
/-- e.f, a property -/
def tPropR (C : Addr) (sp : Sp) (E : XK) (ta : TE) : TE := fun σ H Q => ta σ H fun x H1 => ∃ a dx fs, x = .ref a ∧ H1 a = some (.ins C dx fs) ∧ sp [.ref a] H1 Q E
theorem pe_propR (he : PE X e ta) (c : Cls X.K C) (hp : PropOf X.K C m p g) (F : FnR X.prog X.w X.K X.mg X.base CX k g sp) (hr : Room (k + 1) X.A) (hx : Passes CX X.nox E)
    (hab : attributeBase e m X.env (eval e X.env) = eval e X.env := by rfl) : PE X (.Attribute e m pos) (tPropR C sp E ta) := by
  refine ⟨fun pins s σ H Q I h => ?_⟩
  refine attr_of hab (thn (he.run pins s σ H _ I h) fun u s1 ⟨x, H1, I1, rx, a, dx, fs, ex, ea, q⟩ => ?_)
  subst ex
  obtain rfl : u = Value.ref a := rx
  obtain ⟨mA, O, _, _, _, _⟩ := ins_get I1.hok ea
  obtain ⟨od, J, _⟩ := O.look
  obtain ⟨rest, hrec⟩ := hp.rec_
  have I2 := I1.tok (s1.toks + 1)
  have hc : (PySem.W.clsIn X.K C).isSome = true := by
    obtain ⟨cd, hc, _⟩ := PySem.W.any_some c.hd
    rw [hc]
    rfl
  refine PySem.W.get_bind I1.kIn J (PySem.W.plainGet_of (c.get m)).1 (PySem.W.findObj_data hc hp.at_ hp.get hp.tak) (PySem.W.plainGet_of (c.get m)).2 (wpAny_call (PySem.W.prop_get (s := { s1 with toks := s1.toks + 1 }) I1.kIn hrec ?_))
  refine codeAny_mono (F X.A.in1 X.stack { s1 with toks := s1.toks + 1 } H1 [.ref a] [.ref a] Q E hr.in1 I2.env0.in1 (.cons rfl .nil) q) fun r s' hq => ?_
  cases r with
  | error er => exact False.elim (hx pins σ H1 { s1 with toks := s1.toks + 1 } er s' (I2.wish _) hq)
  | ok fl =>
    cases fl with
    | ret u =>
      obtain ⟨v, H', I3, rv, q3⟩ := I2.after hq
      show wpAny _ _ (handedOut u) _ _ _
      rw [PySem.W.handedOut_of (handed_of rv)]
      exact wpAny_pure ⟨v, H', I3, rv, q3⟩
    | next => exact False.elim hq
    | brk => exact False.elim hq
    | cont => exact False.elim hq
/-- a statement that is never reached -/
theorem ps_dead {st : Stmt} : PS X st (fun _ _ _ => False) := ⟨fun _ _ _ _ _ _ h => h.elim⟩
theorem pss_dead {st : List Stmt} : PSs X st (fun _ _ _ => False) := ⟨fun _ _ _ _ _ _ h => h.elim⟩
end

/-! ### str(o), o == p, o != p of own classes -/
section
variable {X : Cx} {CX : CXT} {n : Nat} {f C : Addr} {sp : Sp} {E : XK}
theorem run_atR {pins : List (Addr × Obj)} {σ : L2.St} {H : Hp} {s : Shared} {A : Around} {Q : VK} {us : List Value} {ws : List V} (F : FnR X.prog X.w X.K X.mg X.base CX n f sp) (hr : Room n A) (e0 : Env0 X.prog X.w X.K X.mg X.base A X.stack s H) (hx : Passes CX X E) (I : Inv X pins σ H s) (r : Vals ws us) (h : sp ws H Q E) :
    wpAny (model X.prog X.w) A (call (.ref f) us) (EP X pins σ Q) X.xe s := wpAny_call (SlX.run_at F hr e0 hx I r h)
/-- str(o) by its own __str__ -/
def rStrO (C : Addr) (sp : Sp) (E : XK) : List V → Hp → VK → Prop := fun xs H Q => ∃ a dx fs, xs = [V.ref a] ∧ H a = some (.ins C dx fs) ∧ sp [.ref a] H (fun v H' => ∃ y, v = .str y ∧ Q v H') E
theorem call_strO (hs : PySem.W.findIn X.K (.ref C) "__str__" = some (some (.ref f))) (hf : PySem.W.isFn X.K (.ref f) = true) (F : FnR X.prog X.w X.K X.mg X.base CX n f sp) (hr : Room (n + 2) X.A) (hx : Passes CX X E) : CallR X (.type "str") (rStrO C sp E) := by
  intro pins s σ H xs us Q I r h
  obtain ⟨a, dx, fs, rfl, ea, q⟩ := h
  obtain ⟨u, rfl, ru⟩ := r.one
  cases (show u = Value.ref a from ru)
  obtain ⟨mA, O, _⟩ := ins_get I.hok ea
  obtain ⟨od, J, _⟩ := O.look
  have hr2 : Room n X.A.in1.in1 := (show Room (n + 1) X.A.in1 from Room.in1 hr).in1
  refine PySem.W.kso_call hr2.units0 I.kIn J hs hf (thn (run_atR (us := [.ref a]) (ws := [.ref a]) F hr2 I.env0.in1.in1 hx I (.cons rfl .nil) q) fun w s' z => ?_)
  obtain ⟨v, H', I', rv, y, ev, qv⟩ := z
  subst ev
  obtain ⟨t, rfl⟩ := rv
  exact ⟨.str y, H', I', ⟨t, rfl⟩, qv⟩
/-- x == y, both of the class at C -/
def rEqO (C : Addr) (sp : Sp) (E : XK) : R2 := fun x y H Q => ∃ a dx fs b dy gs, x = .ref a ∧ y = .ref b ∧ H a = some (.ins C dx fs) ∧ H b = some (.ins C dy gs) ∧ sp [.ref a, .ref b] H (fun v H' => ∃ c, v = .bl c ∧ Q v H') E
theorem op_eqO (hs : PySem.W.findIn X.K (.ref C) "__eq__" = some (some (.ref f))) (hf : PySem.W.isFn X.K (.ref f) = true) (F : FnR X.prog X.w X.K X.mg X.base CX n f sp) (hr : Room n X.A) (hx : Passes CX X E) : OpR X (compareOp .Eq) (rEqO C sp E) := by
  intro pins s σ H x y v u Q I rx ry h
  obtain ⟨a, dx, fs, b, dy, gs, rfl, rfl, ea, eb, q⟩ := h
  cases (show v = Value.ref a from rx)
  cases (show u = Value.ref b from ry)
  obtain ⟨mA, O, _⟩ := ins_get I.hok ea
  obtain ⟨od, J, _⟩ := O.look
  obtain ⟨mB, O', _⟩ := ins_get I.hok eb
  obtain ⟨od', J', _⟩ := O'.look
  obtain ⟨m, hF⟩ := I.fr
  show wpAny _ _ (richCompare .Eq _ _) _ _ _
  refine PySem.W.cmp_K (op := .Eq) (tb := .ref C) hr.units0 hF I.ok.mod.kin J J'.type (by simp [PySem.W.notFirst]) hs hf ?_
  refine thn (wpAny_call (run_fnR (us := [.ref a, .ref b]) (vs := [.ref a, .ref b]) F hr hx I (.cons rfl (.cons rfl .nil)) q)) fun w s' z => ?_
  obtain ⟨z', H', I', rz, c, ez, qz⟩ := z
  subst ez
  cases rz
  exact ⟨.bl c, H', I', rfl, qz⟩
theorem ifBound_B {M : Model} {A : Around} {E : Value → Shared → Prop} {s : Shared} {K : PySem.W.Frag} {x C : Addr} {ox : Obj} {od : Option Obj} {name : Str} {id : String} {args : List Value} {Q : Option Value → Shared → Prop} (Xk : K.In s.heap) (I : PySem.W.InstAt s.heap x ox C od)
    (hs : PySem.W.findIn K (.ref C) name = some (some (.builtin id))) (hb : ∀ self, bindSpecial (.builtin id) self = pure (.builtin id, [self]))
    (h : wpAny M A (call (.builtin id) (.ref x :: args)) (fun v => Q (some v)) E s) : wpAny M A (callSpecialIfBound? (.ref x) name args) Q E s := by
  simp only [callSpecialIfBound?, bindSpecialIfBound?]
  refine wpAny_holding (wpAny_bind (wpAny_bind (wpAny_bind (I.type.here ((PySem.W.looks_findIn Xk hs).here ?_)))))
  refine wpAny_bind (wpAny_askSetting (wpAny_ite ?_))
  have fin : wpAny M A (call (.builtin id) ([.ref x] ++ args) >>= fun v => pure (some v)) Q E s := wpAny_bind (wpAny_mono h (fun v s' h' => wpAny_pure h') fun _ _ h' => h')
  split
  · exact wpAny_bind ((PySem.W.Looks.of_pure (hb _)).here (wpAny_pure (by exact fin)))
  · exact wpAny_tryCatch (wpAny_bind ((PySem.W.Looks.of_pure (hb _)).here (wpAny_pure (by exact fin))))
/-- x != y by object.__ne__ over the own __eq__ -/
theorem objNe_K {prog : Program} {w : World} {A : Around} {E : Value → Shared → Prop} {s : Shared} {K : PySem.W.Frag} {x y C f : Addr} {ox : Obj} {od : Option Obj} {Q : Fin → Shared → Prop} (Xk : K.In s.heap) (I : PySem.W.InstAt s.heap x ox C od)
    (hs : PySem.W.findIn K (.ref C) "__eq__" = some (some (.ref f))) (hf : PySem.W.isFn K (.ref f) = true) (hu : A.units < cLine)
    (hcall : wpAny (model prog w) A (call (.ref f) [.ref x, .ref y]) (fun v s' => ∃ b, v = .bool b ∧ Q (.done (.ret (.bool (!b)))) s') E s) :
    wpAny (model prog w) A (Builtin.«object.__ne__» ⟨[.ref x, .ref y], []⟩) Q E s := by
  unfold Builtin.«object.__ne__»
  repeat (first
    | with_reducible refine wpAny_cRoomFor hu ?_
    | (refine wpAny_bind (m := callSpecialIfBound? (.ref x) (Str.ofString "__eq__") [.ref y])
        (PySem.W.ifBound_K Xk I hs hf (wpAny_mono hcall (fun r s' hr => by
          obtain ⟨b, rfl, hq⟩ := hr
          repeat (first | exact hq | exact wpAny_pure hq | exact wpAny_truthy_bool hq | (refine wpAny_bind (m := truthy (.bool _)) (wpAny_truthy_bool ?_)) | wp_step)) fun _ _ e => e)))
    | wp_step)
theorem ne_K {prog : Program} {w : World} {A : Around} {E : Value → Shared → Prop} {s : Shared} {K : PySem.W.Frag} {x y C f : Addr} {ox : Obj} {od : Option Obj} {Q : Value → Shared → Prop} (Xk : K.In s.heap) (I : PySem.W.InstAt s.heap x ox C od)
    (hb : PySem.W.Looks (model prog w) s.heap (typeOf (.ref y)) (.ref C))
    (hn : PySem.W.findIn K (.ref C) "__ne__" = some (some (.builtin "object.__ne__"))) (hm : PySem.W.mroIn K C (.type "object") = some true)
    (hs : PySem.W.findIn K (.ref C) "__eq__" = some (some (.ref f))) (hf : PySem.W.isFn K (.ref f) = true) (hu : A.units + 1 < cLine)
    (hcall : wpAny (model prog w) A.in1 (call (.ref f) [.ref x, .ref y]) (fun v s' => ∃ b, v = .bool b ∧ Q (.bool (!b)) s') E s) :
    wpAny (model prog w) A (richCompare .NotEq (.ref x) (.ref y)) Q E s := by
  unfold richCompare
  simp only [oneThing_ref]
  refine wpAny_holding (wpAny_bind (wpAny_cRoomFor (Nat.lt_of_succ_lt hu) ?_))
  rw [cmpInfo_NotEq]
  dsimp only
  refine wpAny_bind (I.type.here (wpAny_bind (hb.here ?_)))
  rw [show (Value.ref C != Value.ref C) = false from by simp]
  simp only [Bool.false_eq_true, if_false]
  refine wpAny_bind (wpAny_pure ?_)
  simp only [Bool.false_eq_true, if_false]
  simp only [tryCompare]
  refine wpAny_bind (wpAny_bind (ifBound_B Xk I hn (fun _ => rfl) (wpAny_call (codeAny_call_builtin (by decide +kernel) F.cmpEntry_ne (PySem.W.check_slot (i := "object.__ne__") (owner := "object") (n := "__ne__") F.cmpKind_ne F.cmpSplit_ne (I.type.andThen (PySem.W.looks_mroIn Xk hm)) (F.cmpArgs_ne _ _)
    (objNe_K (A := A.in1) Xk I hs hf (by exact hu) (wpAny_mono hcall (fun v s' hv => ?_) fun _ _ e => e)))))))
  obtain ⟨b, rfl, hq⟩ := hv
  first | exact ⟨b, rfl, wpAny_pure (wpAny_pure hq)⟩ | exact ⟨b, rfl, wpAny_pure hq⟩ | exact ⟨b, rfl, hq⟩
def rNeO (C : Addr) (sp : Sp) (E : XK) : R2 := fun x y H Q => ∃ a dx fs b dy gs, x = .ref a ∧ y = .ref b ∧ H a = some (.ins C dx fs) ∧ H b = some (.ins C dy gs) ∧ sp [.ref a, .ref b] H (fun v H' => ∃ c, v = .bl c ∧ Q (.bl (!c)) H') E
theorem op_neO (hn : PySem.W.findIn X.K (.ref C) "__ne__" = some (some (.builtin "object.__ne__"))) (hm : PySem.W.mroIn X.K C (.type "object") = some true) (hs : PySem.W.findIn X.K (.ref C) "__eq__" = some (some (.ref f))) (hf : PySem.W.isFn X.K (.ref f) = true) (F : FnR X.prog X.w X.K X.mg X.base CX n f sp) (hr : Room (n + 1) X.A) (hx : Passes CX X E) : OpR X (compareOp .NotEq) (rNeO C sp E) := by
  intro pins s σ H x y v u Q I rx ry h
  obtain ⟨a, dx, fs, b, dy, gs, rfl, rfl, ea, eb, q⟩ := h
  cases (show v = Value.ref a from rx)
  cases (show u = Value.ref b from ry)
  obtain ⟨mA, O, _⟩ := ins_get I.hok ea
  obtain ⟨od, J, _⟩ := O.look
  obtain ⟨mB, O', _⟩ := ins_get I.hok eb
  obtain ⟨od', J', _⟩ := O'.look
  show wpAny _ _ (richCompare .NotEq _ _) _ _ _
  refine ne_K I.kIn J J'.type hn hm hs hf (hu_of hr) (thn (run_atR (us := [.ref a, .ref b]) (ws := [.ref a, .ref b]) F hr.in1 I.env0.in1 hx I (.cons rfl (.cons rfl .nil)) q) fun w s' z => ?_)
  obtain ⟨z', H', I', rz, c, ez, qz⟩ := z
  subst ez
  cases rz
  exact ⟨c, rfl, .bl (!c), H', I', rfl, qz⟩
end
end DD

set_option Elab.async false
set_option linter.all false
set_option maxRecDepth 100000
set_option maxHeartbeats 2000000
namespace DD
open PySem PySem.Spec PyProof.Rows L2
section
variable {X : Cx} {CX : CXT} {n : Nat} {f C : Addr} {sp : Sp} {E : XK}
/-- len(o) by its own __len__ -/
def rLenO (C : Addr) (sp : Sp) (E : XK) : List V → Hp → VK → Prop := fun xs H Q => ∃ a dx fs, xs = [V.ref a] ∧ H a = some (.ins C dx fs) ∧ sp [.ref a] H (fun v H' => ∃ i : Int, v = .int i ∧ 0 ≤ i ∧ i < 2 ^ 63 ∧ Q v H') E
theorem call_lenO (hs : PySem.W.findIn X.K (.ref C) "__len__" = some (some (.ref f))) (hf : PySem.W.isFn X.K (.ref f) = true) (F : FnR X.prog X.w X.K X.mg X.base CX n f sp) (hr : Room (n + 1) X.A) (hx : Passes CX X E) : CallR X (.builtin "len") (rLenO C sp E) := by
  intro pins s σ H xs us Q I r h
  obtain ⟨a, dx, fs, rfl, ea, q⟩ := h
  obtain ⟨u, rfl, ru⟩ := r.one
  cases (show u = Value.ref a from ru)
  obtain ⟨mA, O, _⟩ := ins_get I.hok ea
  obtain ⟨od, J, _⟩ := O.look
  obtain ⟨m, hF⟩ := I.fr
  refine PySem.W.len_K hF I.ok.mod.kin J hs hf (thn (run_atR (us := [.ref a]) (ws := [.ref a]) F hr.in1 I.env0.in1 hx I (.cons rfl .nil) q) fun w s' z => ?_)
  obtain ⟨v, H', I', rv, i, ev, h0, h1, qv⟩ := z
  subst ev
  obtain ⟨t, rfl⟩ := rv
  exact ⟨⟨h0, h1⟩, .int i, H', I'.tok _, ⟨_, rfl⟩, qv⟩
/-- o[i] by its own __getitem__ -/
def rIxO (C : Addr) (sp : Sp) (E : XK) : R2 := fun x y H Q => ∃ a dx fs, x = .ref a ∧ H a = some (.ins C dx fs) ∧ sp [.ref a, y] H Q E
theorem pe_ixO {a b : Expr} {ta tb : TE} {pos : Pos} (hs : PySem.W.findIn X.K (.ref C) "__getitem__" = some (some (.ref f))) (hf : PySem.W.fnIn X.K f = true) (hfn : PySem.W.isFn X.K (.ref f) = true) (F : FnR X.prog X.w X.K X.mg X.base CX n f sp) (hr : Room (n + 1) X.A) (hx : Passes CX X E) (ha : PE X a ta) (hb : PE X b tb)
    (hsl : ∀ x i, subscripted b true (.ref x) i = runValue (.builtin "lifetime.subscript" ⟨[.ref x, i], []⟩) := by intro _ _; rfl) : PE X (.Subscript a b pos) (tOp (rIxO C sp E) ta tb) := by
  refine ⟨fun pins s σ H Q I h => ?_⟩
  refine Subscript_ (binT ha hb I h fun v u s2 x y H2 I2 rx ry q => ?_)
  obtain ⟨p, dx, fs, rfl, ea, q⟩ := q
  cases (show v = Value.ref p from rx)
  obtain ⟨mA, O, _⟩ := ins_get I2.hok ea
  obtain ⟨od, J, _⟩ := O.look
  obtain ⟨m, hF⟩ := I2.fr
  exact PySem.W.sub_K hF I2.ok.mod.kin J hs hf hfn (run_atR (us := [.ref p, u]) (ws := [.ref p, y]) F hr.in1 I2.env0.in1 hx I2 (.cons rfl (.cons ry .nil)) q) (hsl p u)
end
/-! ### rules whose reading names K itself -/
theorem inK {X : Cx} {K : PySem.W.Frag} (h : X.K = K := by rfl) : OpR X (compareOp .In) (rIn K false) := h ▸ op_in_seq
theorem eqDK {X : Cx} {K : PySem.W.Frag} (hu : X.A.units + 64 < cLine) (h : X.K = K := by rfl) : OpR X (compareOp .Eq) (rEqD K) := h ▸ op_eqD hu
theorem neDK {X : Cx} {K : PySem.W.Frag} (hu : X.A.units + 64 < cLine) (h : X.K = K := by rfl) : OpR X (compareOp .NotEq) (rNeD K) := h ▸ op_neD hu
/-! ### x, y = a, b -/
theorem sw2 {x y : Str} {a b : Expr} {px py pt pv : Pos} {kt kv} {env : Env} (hk : (env.blockKind != .function) = false) (lx : env.scope.names.lookup x = some .local) (ly : env.scope.names.lookup y = some .local)
    (hl : (py.line == px.line) = true := by rfl) (hxy : ((y == x) = false) := by decide +kernel) (h1 : ([a, b].any fun | .Starred .. => true | _ => false) = false := by rfl) (h2 : [a, b].all (foldedForSure 8) = false := by rfl) (h3 : [a, b].all (constantsAlone 8) = false := by rfl) :
    swappedStores [.Tuple [.Name x px, .Name y py] kt pt] (.Tuple [a, b] kv pv) env = pure (some [x, y]) := by
  have kx : (env.kindOf x == some .local) = true := by rw [show env.kindOf x = some .local from lx]; rfl
  have ky : (env.kindOf y == some .local) = true := by rw [show env.kindOf y = some .local from ly]; rfl
  unfold swappedStores
  simp only [pure_bind, List.head?_cons, Option.map_some, Option.getD_some, Expr.pos]
  have e : (px.line == px.line) = true := by simp
  simp only [List.filterMap_cons, List.filterMap_nil, Expr.pos, kx, ky, hl, e, Bool.and_self, if_true, h1, h2, h3, hk, List.length_cons, List.length_nil]
  have ed : ([x, y] : List Str).eraseDups = [x, y] := by
    simp [List.eraseDups_cons, hxy]
  rw [ed]
  refine (if_neg (by decide)).trans ((if_neg ?_).trans ((if_neg (by show ¬ ((2 != 2 || 2 != 2) = true); decide)).trans ((if_neg (by decide)).trans (if_neg (by decide)))))
  rw [Bool.not_eq_true]
  exact h1
/-! ### cls(..), the class in a local name -/
section
variable {X : Cx} {CX : CXT} {k i : Nat} {f C : Addr} {sp : Sp} {E : XK} {x : Str} {p pos : Pos} {e : Expr} {es : List Expr} {t : TA}
def tMakeL (i : Nat) (C : Addr) (sp : Sp) (E : XK) (t : TA) : TE := fun σ H Q => σ[i]? = some (some (.ref C)) ∧ StX.tMakeR C sp E t σ H Q
theorem pe_makeL (i : Nat) (M : Mk X.K C f) (F : FnR X.prog X.w X.K X.mg X.base CX k f sp) (hr : Room (k + 1) X.A) (hx : Passes CX X E) (ha : PA X (e :: es) t) (hN : X.N[i]? = some x := by rfl) (hv : Vis X.env.scope x := by first | exact Or.inl rfl | exact Or.inr (Or.inl rfl) | exact Or.inr (Or.inr rfl))
    (hdb : (x == ("__debug__" : Str)) = false := by decide) (hcd : (x == ("__classdict__" : Str)) = false := by decide)
    (he : starEach (e :: es) X.env = (false, eval e X.env) :: starEach es X.env := by rfl) (hpl : (backTo pos (starEach es X.env)).any (·.1) = false := by rfl) : PE X (.Call (.Name x p) (e :: es) [] pos) (tMakeL i C sp E t) := by
  refine ⟨fun pins s σ H Q I h => ?_⟩
  obtain ⟨hs, ht⟩ := h
  refine wpAny_Call_Name_kw (thn ((pe_var (pos := p) hN hv hdb hcd).run pins s σ H (fun v H1 => v = .ref C ∧ H1 = H) I ⟨.ref C, hs, rfl, rfl⟩) fun u s1 ⟨v, H1, I1, r1, q1⟩ => ?_)
  obtain ⟨rfl, rfl⟩ := q1
  cases r1
  refine PySem.W.callWith_K (h₀ := X.base) I.ok.mod.kin M.kp (thn (ha.run pos pins s1 σ _ _ I1 ht) fun us s2 ⟨vs, H2, I2, r, q⟩ => ⟨I2.kIn, ?_⟩) he hpl
  exact StX.run_makeR M F hr hx I2 r q
end
end DD

set_option Elab.async false
set_option linter.all false
set_option maxRecDepth 100000
set_option maxHeartbeats 2000000
/-! rows of tuples, rows of values -/
namespace DD
open PySem PySem.Spec PyProof.Rows L2
theorem pi_listK {X : Cx} {K : PySem.W.Frag} {tg l : Expr} {tl : TE} (hl : PE X l tl) (h : X.K = K := by rfl) : PI X tg l (iList K tl) := h ▸ pi_list hl
theorem pi_tupK {X : Cx} {K : PySem.W.Frag} {tg l : Expr} {tl : TE} (hl : PE X l tl) (h : X.K = K := by rfl) : PI X tg l (iTup K tl) := h ▸ pi_tup hl
theorem Same.mut {H H' : Hp} {p : Addr} {o : HO} (e : Same H H') (h : H p = none) : Same H (upd H' p o) := fun a u ha => by
  rw [upd_ne (ne_of_none ha h)]
  exact e a u ha
theorem sz1000 {n : Nat} (h : n ≤ 1000) : n < sizeLine := Nat.lt_of_le_of_lt h (by decide)
theorem ixN_last {ws : List V} {x : V} : ixN (ws ++ [x]).length (-1) = some ws.length := by
  unfold ixN
  rw [if_neg (by decide), if_pos (by rw [List.length_append, List.length_singleton]; omega), List.length_append, List.length_singleton]
  congr 1
  omega
theorem set_last {ws : List V} {x y : V} : (ws ++ [x]).set ws.length y = ws ++ [y] := by
  rw [List.set_append_right _ _ (Nat.le_refl _)]
  simp
/-! ### rows of tuples -/
def IsRw {α : Type} (f : α → List V) (H : Hp) (v : V) (m : α) : Prop := ∃ a, v = .ref a ∧ H a = some (.tup (f m))
def IsRs {α : Type} (f : α → List V) (H : Hp) (vs : List V) (ms : List α) : Prop := vs.length = ms.length ∧ ∀ (i : Nat) v m, vs[i]? = some v → ms[i]? = some m → IsRw f H v m
section
variable {α : Type} {f : α → List V}
theorem IsRw.on {H H' : Hp} {v : V} {m : α} (e : ∀ a xs, H a = some (.tup xs) → H' a = some (.tup xs)) (x : IsRw f H v m) : IsRw f H' v m := by
  obtain ⟨a, e1, e2⟩ := x
  exact ⟨a, e1, e _ _ e2⟩
theorem IsRs.on {H H' : Hp} {vs : List V} {ms : List α} (e : ∀ a xs, H a = some (.tup xs) → H' a = some (.tup xs)) (x : IsRs f H vs ms) : IsRs f H' vs ms := ⟨x.1, fun i v m h1 h2 => (x.2 i v m h1 h2).on e⟩
theorem IsRs.mono {H H' : Hp} {vs : List V} {ms : List α} (e : Same H H') (x : IsRs f H vs ms) : IsRs f H' vs ms := x.on fun a xs h => e a _ h
theorem tup_upd {H : Hp} {l : Addr} {ys : List V} {o : HO} (hl : H l = some (.lst ys)) : ∀ a xs, H a = some (.tup xs) → upd H l o a = some (.tup xs) := fun a xs h => by
  rw [upd_ne (ne_of h hl (by intro z; cases z))]
  exact h
theorem IsRs.nil {H : Hp} : IsRs f H [] [] := ⟨rfl, fun i v m h => by simp at h⟩
theorem IsRs.get {H : Hp} {vs : List V} {ms : List α} (x : IsRs f H vs ms) {i : Nat} {v : V} (h : vs[i]? = some v) : ∃ m, ms[i]? = some m ∧ IsRw f H v m := by
  have hi : i < ms.length := by rw [← x.1]; exact (List.getElem?_eq_some_iff.mp h).1
  exact ⟨ms[i], List.getElem?_eq_getElem hi, x.2 i v _ h (List.getElem?_eq_getElem hi)⟩
theorem IsRs.cons {H : Hp} {v : V} {m : α} {vs : List V} {ms : List α} (x : IsRw f H v m) (xs : IsRs f H vs ms) : IsRs f H (v :: vs) (m :: ms) := by
  refine ⟨by simp [xs.1], fun i v' m' h1 h2 => ?_⟩
  cases i with
  | zero =>
    simp at h1 h2
    subst h1 h2
    exact x
  | succ i =>
    simp at h1 h2
    exact xs.2 i v' m' h1 h2
theorem IsRs.append {H : Hp} {vs ws : List V} {ms ns : List α} (x : IsRs f H vs ms) (y : IsRs f H ws ns) : IsRs f H (vs ++ ws) (ms ++ ns) := by
  refine ⟨by simp [x.1, y.1], fun i v m h1 h2 => ?_⟩
  by_cases hi : i < vs.length
  · rw [List.getElem?_append_left hi] at h1
    rw [List.getElem?_append_left (by rw [← x.1]; exact hi)] at h2
    exact x.2 i v m h1 h2
  · rw [List.getElem?_append_right (by omega)] at h1
    rw [List.getElem?_append_right (by rw [← x.1]; omega), ← x.1] at h2
    exact y.2 _ v m h1 h2
theorem IsRs.one {H : Hp} {v : V} {m : α} (x : IsRw f H v m) : IsRs f H [v] [m] := .cons x .nil
theorem IsRs.take {H : Hp} {vs : List V} {ms : List α} (x : IsRs f H vs ms) (n : Nat) : IsRs f H (vs.take n) (ms.take n) := by
  refine ⟨by simp [x.1], fun i v m h1 h2 => ?_⟩
  rw [List.getElem?_take] at h1 h2
  split at h1
  · rename_i hi
    rw [if_pos hi] at h2
    exact x.2 i v m h1 h2
  · cases h1
/-- the last one: what is ahead of it, and it -/
theorem IsRs.last {H : Hp} {vs : List V} {ms : List α} {m : α} (x : IsRs f H vs (ms ++ [m])) : ∃ ws v, vs = ws ++ [v] ∧ IsRs f H ws ms ∧ IsRw f H v m := by
  have hl := x.1
  rw [List.length_append, List.length_singleton] at hl
  have hi : ms.length < vs.length := by omega
  refine ⟨vs.take ms.length, vs[ms.length], ?_, ?_, ?_⟩
  · rw [List.take_append_getElem hi, List.take_of_length_le (by omega)]
  · have y := x.take ms.length
    rw [List.take_left] at y
    exact y
  · exact x.2 ms.length _ _ (List.getElem?_eq_getElem hi) (by simp)
end
/-- rows of values, each as told -/
structure AllR {α : Type} (R : V → α → Prop) (vs : List V) (ms : List α) : Prop where
  len : vs.length = ms.length
  at_ : ∀ (i : Nat) v m, vs[i]? = some v → ms[i]? = some m → R v m
theorem AllR.nil {α : Type} {R : V → α → Prop} : AllR R [] [] := ⟨rfl, fun i v m h => by simp at h⟩
theorem AllR.imp {α : Type} {R S : V → α → Prop} {vs : List V} {ms : List α} (h : ∀ v m, R v m → S v m) (x : AllR R vs ms) : AllR S vs ms := ⟨x.len, fun i v m h1 h2 => h v m (x.at_ i v m h1 h2)⟩
theorem AllR.snoc {α : Type} {R : V → α → Prop} {vs : List V} {ms : List α} {v : V} {m : α} (x : AllR R vs ms) (y : R v m) : AllR R (vs ++ [v]) (ms ++ [m]) := by
  refine ⟨by simp [x.len], fun i v' m' h1 h2 => ?_⟩
  by_cases hi : i < vs.length
  · rw [List.getElem?_append_left hi] at h1
    rw [List.getElem?_append_left (by rw [← x.len]; exact hi)] at h2
    exact x.at_ i v' m' h1 h2
  · rw [List.getElem?_append_right (by omega)] at h1
    rw [List.getElem?_append_right (by rw [← x.len]; omega), ← x.len] at h2
    cases e : i - vs.length with
    | zero =>
      rw [e] at h1 h2
      simp at h1 h2
      subst h1 h2
      exact y
    | succ k =>
      rw [e] at h1
      simp at h1
theorem AllR.get {α : Type} {R : V → α → Prop} {vs : List V} {ms : List α} (x : AllR R vs ms) {i : Nat} {v : V} (h : vs[i]? = some v) : ∃ m, ms[i]? = some m ∧ R v m := by
  have hi : i < ms.length := by rw [← x.len]; exact (List.getElem?_eq_some_iff.mp h).1
  exact ⟨ms[i], List.getElem?_eq_getElem hi, x.at_ i v _ h (List.getElem?_eq_getElem hi)⟩
theorem none_of {H H' : Hp} {a : Addr} (e : Same H H') (h : H' a = none) : H a = none := by
  cases z : H a with
  | none => rfl
  | some o => rw [e a o z] at h; cases h
/-- a sequence is not the instance that changes -/
theorem offL {K : PySem.W.Frag} {H1 H2 : Hp} {x a C dx : Addr} {fs : List (Str × V)} {ws : List V} (h : SqL K H1 a ws) (hx : H1 x = some (.ins C dx fs)) (k : ∀ b u, H1 b = some u → b ≠ x → H2 b = some u) : SqL K H2 a ws := by
  rcases h with (h | ⟨o, h⟩) | h
  · exact .inl (.inl (k _ _ h (ne_of h hx (by intro z; cases z))))
  · exact .inl (.inr ⟨o, k _ _ h (ne_of h hx (by intro z; cases z))⟩)
  · exact .inr h
theorem offT {K : PySem.W.Frag} {H1 H2 : Hp} {x a C dx : Addr} {fs : List (Str × V)} {ws : List V} (h : SqT K H1 a ws) (hx : H1 x = some (.ins C dx fs)) (k : ∀ b u, H1 b = some u → b ≠ x → H2 b = some u) : SqT K H2 a ws := by
  rcases h with (h | ⟨o, h⟩) | h
  · exact .inl (.inl (k _ _ h (ne_of h hx (by intro z; cases z))))
  · exact .inl (.inr ⟨o, k _ _ h (ne_of h hx (by intro z; cases z))⟩)
  · exact .inr h
theorem takeSnoc {α : Type} {xs : List α} {i : Nat} {x : α} (h : xs[i]? = some x) : xs.take (i + 1) = xs.take i ++ [x] := by
  rw [List.take_add_one, h]
  rfl
end DD

set_option Elab.async false
set_option linter.all false
set_option maxRecDepth 100000
set_option maxHeartbeats 2000000
/-! the data layer: what stands in the slots as data, what is frozen, what is owned -/
namespace DL
open PySem PySem.Spec PyProof.Rows L2 DD
abbrev Fg := PySem.W.Frag
/-- data -/
inductive D where
  | non | bl (b : Bool) | int (i : Int) | str (x : Str)
  | tup (ds : List D) | lst (ds : List D) | scr (ds : List D) | ins (C : Addr) (ks : List Str) (ds : List D) | cls (C : Addr)
  deriving Inhabited
/-- what is owned: its content -/
inductive O where
  | lst (ds : List D) | ins (C : Addr) (ks : List Str) (ds : List D)
@[simp] def O.d : O → D
  | .lst ds => .lst ds
  | .ins C ks ds => .ins C ks ds
inductive Slot where
  | none | val (d : D) | own (o : O) | bor (o : O) | lck (o : O)
abbrev En := List Slot
mutual
/-- v stands for d, in the frozen part G -/
inductive Rep (K : Fg) (G : Hp) : V → D → Prop
  | non : Rep K G .non .non
  | bl (b : Bool) : Rep K G (.bl b) (.bl b)
  | int (i : Int) : Rep K G (.int i) (.int i)
  | str (x : Str) : Rep K G (.str x) (.str x)
  | tup {a : Addr} {vs : List V} {ds : List D} : SqT K G a vs → RepA K G vs ds → Rep K G (.ref a) (.tup ds)
  | lst {a : Addr} {vs : List V} {ds : List D} : G a = some (.lst vs) → RepA K G vs ds → Rep K G (.ref a) (.lst ds)
  | scr {a : Addr} {vs : List V} {ds : List D} : SqL K G a vs → RepA K G vs ds → Rep K G (.ref a) (.scr ds)
  | ins {a C dx : Addr} {fs : List (Str × V)} {ks : List Str} {ds : List D} : G a = some (.ins C dx fs) → fs.map (·.1) = ks → RepA K G (fs.map (·.2)) ds → Rep K G (.ref a) (.ins C ks ds)
  | cls (C : Addr) : Rep K G (.ref C) (.cls C)
inductive RepA (K : Fg) (G : Hp) : List V → List D → Prop
  | nil : RepA K G [] []
  | cons {v : V} {vs : List V} {d : D} {ds : List D} : Rep K G v d → RepA K G vs ds → RepA K G (v :: vs) (d :: ds)
end
theorem smNew {H : Hp} {p : Addr} {o : HO} (h : H p = none) : Same H (upd H p o) := fun a u e => by
  rw [upd_ne (ne_of_none e h)]
  exact e
theorem smTup {K : Fg} {H H' : Hp} {a : Addr} {xs : List V} (e : Same H H') (h : SqT K H a xs) : SqT K H' a xs := by
  rcases h with (h | ⟨o, h⟩) | h
  · exact .inl (.inl (e _ _ h))
  · exact .inl (.inr ⟨o, e _ _ h⟩)
  · exact .inr h
theorem smLst {K : Fg} {H H' : Hp} {a : Addr} {xs : List V} (e : Same H H') (h : SqL K H a xs) : SqL K H' a xs := by
  rcases h with (h | ⟨o, h⟩) | h
  · exact .inl (.inl (e _ _ h))
  · exact .inl (.inr ⟨o, e _ _ h⟩)
  · exact .inr h
section
variable {K : Fg} {G G' : Hp}
mutual
theorem Rep.mono (e : Same G G') : ∀ {v : V} {d : D}, Rep K G v d → Rep K G' v d
  | _, _, .non => .non
  | _, _, .bl b => .bl b
  | _, _, .int i => .int i
  | _, _, .str x => .str x
  | _, _, .tup h r => .tup (smTup e h) (RepA.mono e r)
  | _, _, .lst h r => .lst (e _ _ h) (RepA.mono e r)
  | _, _, .scr h r => .scr (smLst e h) (RepA.mono e r)
  | _, _, .ins h k r => .ins (e _ _ h) k (RepA.mono e r)
  | _, _, .cls C => .cls C
theorem RepA.mono (e : Same G G') : ∀ {vs : List V} {ds : List D}, RepA K G vs ds → RepA K G' vs ds
  | _, _, .nil => .nil
  | _, _, .cons h r => .cons (Rep.mono e h) (RepA.mono e r)
end
theorem RepA.len : ∀ {vs : List V} {ds : List D}, RepA K G vs ds → vs.length = ds.length
  | _, _, .nil => rfl
  | _, _, .cons _ r => by rw [List.length_cons, List.length_cons, r.len]
theorem RepA.get : ∀ {vs : List V} {ds : List D} {i : Nat} {d : D}, RepA K G vs ds → ds[i]? = some d → ∃ v, vs[i]? = some v ∧ Rep K G v d
  | _, _, _, _, .nil, h => by simp at h
  | _, _, 0, _, .cons h r, e => by simp at e; subst e; exact ⟨_, rfl, h⟩
  | _, _, i + 1, _, .cons h r, e => by
    obtain ⟨v, h1, h2⟩ := r.get (i := i) (by simpa using e)
    exact ⟨v, by simpa using h1, h2⟩
theorem RepA.get' : ∀ {vs : List V} {ds : List D} {i : Nat} {v : V}, RepA K G vs ds → vs[i]? = some v → ∃ d, ds[i]? = some d ∧ Rep K G v d
  | _, _, _, _, .nil, h => by simp at h
  | _, _, 0, _, .cons h r, e => by simp at e; subst e; exact ⟨_, rfl, h⟩
  | _, _, i + 1, _, .cons h r, e => by
    obtain ⟨d, h1, h2⟩ := r.get' (i := i) (by simpa using e)
    exact ⟨d, by simpa using h1, h2⟩
theorem RepA.app : ∀ {vs ws : List V} {ds es : List D}, RepA K G vs ds → RepA K G ws es → RepA K G (vs ++ ws) (ds ++ es)
  | _, _, _, _, .nil, r => r
  | _, _, _, _, .cons h r, s => .cons h (r.app s)
theorem RepA.take : ∀ {vs : List V} {ds : List D} (n : Nat), RepA K G vs ds → RepA K G (vs.take n) (ds.take n)
  | _, _, 0, _ => .nil
  | _, _, _ + 1, .nil => .nil
  | _, _, n + 1, .cons h r => .cons h (r.take n)
theorem RepA.drop : ∀ {vs : List V} {ds : List D} (n : Nat), RepA K G vs ds → RepA K G (vs.drop n) (ds.drop n)
  | _, _, 0, r => r
  | _, _, _ + 1, .nil => .nil
  | _, _, n + 1, .cons h r => r.drop n
theorem RepA.set : ∀ {vs : List V} {ds : List D} {v : V} {d : D} (i : Nat), RepA K G vs ds → Rep K G v d → RepA K G (vs.set i v) (ds.set i d)
  | _, _, _, _, _, .nil, _ => .nil
  | _, _, _, _, 0, .cons h r, s => .cons s r
  | _, _, _, _, i + 1, .cons h r, s => .cons h (r.set i s)
theorem RepA.erase : ∀ {vs : List V} {ds : List D} (i : Nat), RepA K G vs ds → RepA K G (vs.eraseIdx i) (ds.eraseIdx i)
  | _, _, _, .nil => .nil
  | _, _, 0, .cons h r => r
  | _, _, i + 1, .cons h r => .cons h (r.erase i)
theorem RepA.rev {vs : List V} {ds : List D} (r : RepA K G vs ds) : RepA K G vs.reverse ds.reverse := by
  induction vs generalizing ds with
  | nil => cases r; exact .nil
  | cons v vs ih =>
    cases r with
    | cons h r =>
      rw [List.reverse_cons, List.reverse_cons]
      exact (ih r).app (.cons h .nil)
theorem RepA.one {v : V} {d : D} (h : Rep K G v d) : RepA K G [v] [d] := .cons h .nil
theorem RepA.ints : ∀ {vs : List V} {ns : List Int}, RepA K G vs (ns.map D.int) → vs = ns.map V.int
  | [], [], _ => rfl
  | v :: vs, n :: ns, .cons h r => by
    cases h
    rw [List.map_cons, r.ints]
  | [], _ :: _, r => by cases r
  | _ :: _, [], r => by cases r
theorem RepA.ofInts : ∀ {ns : List Int}, RepA K G (ns.map V.int) (ns.map D.int)
  | [] => .nil
  | n :: ns => .cons (.int n) RepA.ofInts
end

/-! ### the frame of a def, the relation -/
structure Fm where
  H0 : Hp
  G0 : Hp
  M : Nat → Option Addr
  L : Nat → Option Addr
def ObjO (K : Fg) (G H : Hp) (a : Addr) : O → Prop
  | .lst ds => ∃ vs, H a = some (.lst vs) ∧ RepA K G vs ds
  | .ins C ks ds => ∃ dx fs, H a = some (.ins C dx fs) ∧ fs.map (·.1) = ks ∧ RepA K G (fs.map (·.2)) ds
theorem ObjO.mono {K : Fg} {G G' H H' : Hp} {a : Addr} {o : O} (e : Same G G') (k : ∀ u, H a = some u → H' a = some u) (h : ObjO K G H a o) : ObjO K G' H' a o := by
  cases o with
  | lst ds =>
    obtain ⟨vs, h1, h2⟩ := h
    exact ⟨vs, k _ h1, h2.mono e⟩
  | ins C ks ds =>
    obtain ⟨dx, fs, h1, h2, h3⟩ := h
    exact ⟨dx, fs, k _ h1, h2, h3.mono e⟩
theorem ObjO.ex {K : Fg} {G H : Hp} {a : Addr} {o : O} (h : ObjO K G H a o) : ∃ u, H a = some u := by
  cases o with
  | lst ds => exact ⟨_, h.choose_spec.1⟩
  | ins C ks ds =>
    obtain ⟨dx, fs, h1, _⟩ := h
    exact ⟨_, h1⟩
def SlotR (K : Fg) (F : Fm) (G H : Hp) (i : Nat) (x : Option V) : Slot → Prop
  | .none => True
  | .val d => ∃ v, x = some v ∧ Rep K G v d
  | .own o => ∃ a, x = some (.ref a) ∧ F.H0 a = none ∧ G a = none ∧ ObjO K G H a o
  | .bor o => ∃ a, x = some (.ref a) ∧ F.M i = some a ∧ G a = none ∧ ObjO K G H a o
  | .lck o => ∃ a u, x = some (.ref a) ∧ F.L i = some a ∧ G a = none ∧ F.H0 a = some u ∧ (∀ j, F.M j ≠ some a) ∧ ObjO K G H a o
structure Rl (K : Fg) (F : Fm) (G H : Hp) (σ : L2.St) (ρ : En) : Prop where
  gh : Same G H
  g0 : Same F.G0 G
  gn : ∀ a o, G a = some o → F.G0 a = none → F.H0 a = none
  hk : ∀ a o, F.H0 a = some o → (∀ i, F.M i ≠ some a) → H a = some o
  hm : ∀ i a, F.M i = some a → H a ≠ none ∧ F.H0 a ≠ none ∧ ∃ o, ρ[i]? = some (.bor o)
  hl : ∀ i a, F.L i = some a → ∃ o, ρ[i]? = some (.lck o)
  sl : ∀ i s, ρ[i]? = some s → ∃ x, σ[i]? = some x ∧ SlotR K F G H i x s
  di : ∀ (i j : Nat) (o o' : O) (a : Addr), ρ[i]? = some (.own o) → ρ[j]? = some (.own o') → σ[i]? = some (some (.ref a)) → σ[j]? = some (some (.ref a)) → i = j
  mi : ∀ i j a, F.M i = some a → F.M j = some a → i = j
section
variable {K : Fg} {F : Fm} {G G' H H' : Hp} {σ σ' : L2.St} {ρ ρ' : En} {a p : Addr}
theorem Rl.fresh (R : Rl K F G H σ ρ) (h : H p = none) : F.H0 p = none := by
  cases e : F.H0 p with
  | none => rfl
  | some o =>
    by_cases q : ∃ i, F.M i = some p
    · obtain ⟨i, q⟩ := q
      exact absurd h (R.hm i p q).1
    · have := R.hk p o e fun i z => q ⟨i, z⟩
      rw [h] at this
      cases this
theorem Rl.freshG (R : Rl K F G H σ ρ) (h : H p = none) : G p = none := none_of R.gh h
theorem Rl.freshM (R : Rl K F G H σ ρ) (h : H p = none) (i : Nat) : F.M i ≠ some p := fun z => (R.hm i p z).1 h
/-- the owner's address -/
theorem Rl.own {i : Nat} {o : O} (R : Rl K F G H σ ρ) (h : ρ[i]? = some (.own o)) : ∃ a, σ[i]? = some (some (.ref a)) ∧ F.H0 a = none ∧ G a = none ∧ ObjO K G H a o := by
  obtain ⟨x, h1, a, rfl, h2, h3, h4⟩ := R.sl i _ h
  exact ⟨a, h1, h2, h3, h4⟩
theorem Rl.bor {i : Nat} {o : O} (R : Rl K F G H σ ρ) (h : ρ[i]? = some (.bor o)) : ∃ a, σ[i]? = some (some (.ref a)) ∧ F.M i = some a ∧ G a = none ∧ ObjO K G H a o := by
  obtain ⟨x, h1, a, rfl, h2, h3, h4⟩ := R.sl i _ h
  exact ⟨a, h1, h2, h3, h4⟩
theorem Rl.val {i : Nat} {d : D} (R : Rl K F G H σ ρ) (h : ρ[i]? = some (.val d)) : ∃ v, σ[i]? = some (some v) ∧ Rep K G v d := by
  obtain ⟨x, h1, v, rfl, h2⟩ := R.sl i _ h
  exact ⟨v, h1, h2⟩
/-- a slot whose object stands as before -/
theorem SlotR.mono {i : Nat} {x : Option V} {s : Slot} (e : Same G G') (n : ∀ a, x = some (.ref a) → G a = none → (∃ u, H a = some u) → G' a = none) (k : ∀ a u, x = some (.ref a) → H a = some u → H' a = some u) (h : SlotR K F G H i x s) : SlotR K F G' H' i x s := by
  cases s with
  | none => trivial
  | val d =>
    obtain ⟨v, e1, e2⟩ := h
    exact ⟨v, e1, e2.mono e⟩
  | own o =>
    obtain ⟨a, e1, e2, e3, e4⟩ := h
    exact ⟨a, e1, e2, n a e1 e3 e4.ex, e4.mono e fun u => k a u e1⟩
  | bor o =>
    obtain ⟨a, e1, e2, e3, e4⟩ := h
    exact ⟨a, e1, e2, n a e1 e3 e4.ex, e4.mono e fun u => k a u e1⟩
  | lck o =>
    obtain ⟨a, u, e1, e2, e3, e5, e6, e4⟩ := h
    exact ⟨a, u, e1, e2, n a e1 e3 e4.ex, e5, e6, e4.mono e fun u => k a u e1⟩
theorem smNewG {o : HO} (h : G a = none) : Same G (upd G a o) := smNew h
/-- the heap grows, nothing that stood changes -/
theorem Rl.grow (R : Rl K F G H σ ρ) (k : Same H H') : Rl K F G H' σ ρ where
  gh := R.gh.trans k
  g0 := R.g0
  gn := R.gn
  hk := fun a o h n => k _ _ (R.hk a o h n)
  hm := fun i a h => by
    obtain ⟨h1, h2, h3⟩ := R.hm i a h
    refine ⟨fun z => ?_, h2, h3⟩
    cases e : H a with
    | none => exact h1 e
    | some u => rw [k a u e] at z; cases z
  hl := R.hl
  sl := fun i s h => by
    obtain ⟨x, h1, h2⟩ := R.sl i s h
    exact ⟨x, h1, h2.mono (Same.refl G) (fun _ _ g _ => g) fun a u _ e => k a u e⟩
  di := R.di
  mi := R.mi
theorem Rl.laid {o : HO} (R : Rl K F G H σ ρ) (h : H p = none) : Rl K F G (upd H p o) σ ρ := R.grow (smNew h)
/-- what no slot owns is frozen -/
theorem Rl.frz {o : HO} (R : Rl K F G H σ ρ) (h : H a = some o) (h0 : F.H0 a = none) (hg : G a = none) (n : ∀ (j : Nat) (u : O), ρ[j]? = some (.own u) → σ[j]? ≠ some (some (.ref a))) : Rl K F (upd G a o) H σ ρ where
  gh := fun b u e => by
    by_cases q : b = a
    · subst q
      rw [upd_same] at e
      cases e
      exact h
    · rw [upd_ne q] at e
      exact R.gh b u e
  g0 := R.g0.trans (smNew hg)
  gn := fun b u e g => by
    by_cases q : b = a
    · subst q; exact h0
    · rw [upd_ne q] at e
      exact R.gn b u e g
  hk := R.hk
  hm := R.hm
  hl := R.hl
  sl := fun i s hs => by
    obtain ⟨x, h1, h2⟩ := R.sl i s hs
    refine ⟨x, h1, ?_⟩
    have ne : ∀ b, b ≠ a → G b = none → upd G a o b = none := fun b q g => by rw [upd_ne q]; exact g
    have M := smNewG (o := o) hg
    cases s with
    | none => trivial
    | val d =>
      obtain ⟨v, e1, e2⟩ := h2
      exact ⟨v, e1, e2.mono M⟩
    | own u =>
      obtain ⟨b, rfl, e2, e3, e4⟩ := h2
      exact ⟨b, rfl, e2, ne b (fun q => n i u hs (by rw [h1, q])) e3, e4.mono M fun _ z => z⟩
    | bor u =>
      obtain ⟨b, rfl, e2, e3, e4⟩ := h2
      exact ⟨b, rfl, e2, ne b (fun q => (R.hm i b e2).2.1 (by rw [q]; exact h0)) e3, e4.mono M fun _ z => z⟩
    | lck u =>
      obtain ⟨b, u', rfl, e2, e3, e5, e6, e4⟩ := h2
      exact ⟨b, u', rfl, e2, ne b (fun q => by rw [q, h0] at e5; cases e5) e3, e5, e6, e4.mono M fun _ z => z⟩
  di := R.di
  mi := R.mi
/-- a new frozen object -/
theorem Rl.add {o : HO} (R : Rl K F G H σ ρ) (h : H p = none) : Rl K F (upd G p o) (upd H p o) σ ρ := by
  refine (R.laid (o := o) h).frz upd_same (R.fresh h) (R.freshG h) fun j u hj z => ?_
  obtain ⟨b, h1, _, _, h4⟩ := R.own hj
  rw [h1] at z
  cases z
  obtain ⟨u, e⟩ := h4.ex
  rw [h] at e
  cases e
theorem getset {α : Type} {l : List α} {i j : Nat} {x y : α} (h : (l.set i x)[j]? = some y) : (i = j ∧ x = y ∧ i < l.length) ∨ (i ≠ j ∧ l[j]? = some y) := by
  by_cases e : i = j
  · subst e
    by_cases q : i < l.length
    · rw [List.getElem?_set_self q] at h
      exact .inl ⟨rfl, Option.some.inj h, q⟩
    · rw [List.getElem?_eq_none (by simpa using q)] at h
      cases h
  · rw [List.getElem?_set_ne e] at h
    exact .inr ⟨e, h⟩
theorem Rl.lt {i : Nat} (R : Rl K F G H σ ρ) (h : i < ρ.length) : i < σ.length := by
  obtain ⟨x, h1, _⟩ := R.sl i _ (List.getElem?_eq_getElem h)
  exact (List.getElem?_eq_some_iff.mp h1).1
/-- may a name be stored to -/
def Slot.free : Slot → Bool
  | .bor _ | .lck _ => false
  | _ => true
@[simp] def freeAt (ρ : En) (i : Nat) : Bool := match ρ[i]? with
  | some s => s.free
  | none => false
theorem freeAt_lt {i : Nat} (h : freeAt ρ i = true) : i < ρ.length := by
  unfold freeAt at h
  cases e : ρ[i]? with
  | none => rw [e] at h; cases h
  | some s => exact (List.getElem?_eq_some_iff.mp e).1
/-- a slot is stored to -/
theorem Rl.put {i : Nat} {v : V} {s : Slot} (R : Rl K F G H σ ρ) (hf : freeAt ρ i = true) (hs : SlotR K F G H i (some v) s) (hn : s.free = true) (hd : ∀ (o : O), s = .own o → ∀ (j : Nat) (o' : O), j ≠ i → ρ[j]? = some (.own o') → σ[j]? ≠ some (some v)) : Rl K F G H (σ.set i (some v)) (ρ.set i s) where
  gh := R.gh
  g0 := R.g0
  gn := R.gn
  hk := R.hk
  hm := fun j a h => by
    obtain ⟨h1, h2, o, h3⟩ := R.hm j a h
    refine ⟨h1, h2, o, ?_⟩
    by_cases e : i = j
    · subst e
      unfold freeAt at hf
      rw [h3] at hf
      cases hf
    · rw [List.getElem?_set_ne e]; exact h3
  hl := fun j a h => by
    obtain ⟨o, h3⟩ := R.hl j a h
    refine ⟨o, ?_⟩
    by_cases e : i = j
    · subst e
      unfold freeAt at hf
      rw [h3] at hf
      cases hf
    · rw [List.getElem?_set_ne e]; exact h3
  sl := fun j t h => by
    rcases getset h with ⟨rfl, rfl, hl⟩ | ⟨ne, h⟩
    · exact ⟨some v, by rw [List.getElem?_set_self (R.lt hl)], hs⟩
    · obtain ⟨x, h1, h2⟩ := R.sl j t h
      exact ⟨x, by rw [List.getElem?_set_ne ne]; exact h1, h2⟩
  di := fun j k o o' a h1 h2 h3 h4 => by
    have hil : i < ρ.length := freeAt_lt hf
    rcases getset h1 with ⟨rfl, rfl, _⟩ | ⟨n1, h1⟩
    · rcases getset h2 with ⟨rfl, _, _⟩ | ⟨n2, h2⟩
      · rfl
      · rw [List.getElem?_set_self (R.lt hil)] at h3
        rw [List.getElem?_set_ne n2] at h4
        cases h3
        exact absurd h4 (hd o rfl k o' (Ne.symm n2) h2)
    · have h1x := h1
      rw [List.getElem?_set_ne n1] at h3
      rcases getset h2 with ⟨rfl, rfl, _⟩ | ⟨n2, h2⟩
      · rw [List.getElem?_set_self (R.lt hil)] at h4
        cases h4
        exact absurd h3 (hd o' rfl j o (Ne.symm n1) h1x)
      · rw [List.getElem?_set_ne n2] at h4
        exact R.di j k o o' a h1 h2 h3 h4
  mi := R.mi
/-- a slot is forgotten -/
theorem Rl.forget {i : Nat} {x : Option V} (R : Rl K F G H σ ρ) (hf : freeAt ρ i = true) : Rl K F G H (σ.set i x) (ρ.set i .none) where
  gh := R.gh
  g0 := R.g0
  gn := R.gn
  hk := R.hk
  hm := fun j a h => by
    obtain ⟨h1, h2, o, h3⟩ := R.hm j a h
    refine ⟨h1, h2, o, ?_⟩
    by_cases e : i = j
    · subst e
      unfold freeAt at hf
      rw [h3] at hf
      cases hf
    · rw [List.getElem?_set_ne e]; exact h3
  hl := fun j a h => by
    obtain ⟨o, h3⟩ := R.hl j a h
    refine ⟨o, ?_⟩
    by_cases e : i = j
    · subst e
      unfold freeAt at hf
      rw [h3] at hf
      cases hf
    · rw [List.getElem?_set_ne e]; exact h3
  sl := fun j t h => by
    rcases getset h with ⟨rfl, rfl, hl⟩ | ⟨ne, h⟩
    · exact ⟨x, by rw [List.getElem?_set_self (R.lt hl)], trivial⟩
    · obtain ⟨x, h1, h2⟩ := R.sl j t h
      exact ⟨x, by rw [List.getElem?_set_ne ne]; exact h1, h2⟩
  di := fun j k o o' a h1 h2 h3 h4 => by
    rcases getset h1 with ⟨rfl, e, _⟩ | ⟨n1, h1⟩
    · cases e
    · rcases getset h2 with ⟨rfl, e, _⟩ | ⟨n2, h2⟩
      · cases e
      · rw [List.getElem?_set_ne n1] at h3
        rw [List.getElem?_set_ne n2] at h4
        exact R.di j k o o' a h1 h2 h3 h4
  mi := R.mi
/-- what is owned changes -/
def Slot.re : Slot → O → Option Slot
  | .own _, o => some (.own o)
  | .bor _, o => some (.bor o)
  | _, _ => Option.none
def Slot.co : Slot → Option O
  | .own o | .bor o => some o
  | _ => Option.none
theorem re_cases {s s' : Slot} {o : O} (h : s.re o = some s') : (∃ u, s = .own u ∧ s' = .own o) ∨ (∃ u, s = .bor u ∧ s' = .bor o) := by
  cases s <;> simp [Slot.re] at h
  · exact .inl ⟨_, rfl, h.symm⟩
  · exact .inr ⟨_, rfl, h.symm⟩
theorem co_cases {s : Slot} {o : O} (h : s.co = some o) : s = .own o ∨ s = .bor o := by
  cases s <;> simp [Slot.co] at h
  · exact .inl (by rw [h])
  · exact .inr (by rw [h])
theorem Rl.holder {i : Nat} {s : Slot} {o : O} (R : Rl K F G H σ ρ) (h : ρ[i]? = some s) (hc : s.co = some o) : ∃ a, σ[i]? = some (some (.ref a)) ∧ G a = none ∧ ObjO K G H a o := by
  rcases co_cases hc with rfl | rfl
  · obtain ⟨a, h1, _, h2, h3⟩ := R.own h
    exact ⟨a, h1, h2, h3⟩
  · obtain ⟨a, h1, _, h2, h3⟩ := R.bor h
    exact ⟨a, h1, h2, h3⟩
theorem Rl.mut {i : Nat} {s s' : Slot} {o : O} {u : HO} (R : Rl K F G H σ ρ) (h : ρ[i]? = some s) (hs : s.re o = some s') (hv : σ[i]? = some (some (.ref a))) (ho : ObjO K G (upd H a u) a o) : Rl K F G (upd H a u) σ (ρ.set i s') := by
  have hil : i < ρ.length := (List.getElem?_eq_some_iff.mp h).1
  have hg : G a = none := by
    rcases re_cases hs with ⟨u0, rfl, rfl⟩ | ⟨u0, rfl, rfl⟩
    · obtain ⟨b, h1, _, h2, _⟩ := R.own h
      rw [hv] at h1; cases h1; exact h2
    · obtain ⟨b, h1, _, h2, _⟩ := R.bor h
      rw [hv] at h1; cases h1; exact h2
  have hc : ∀ x, F.H0 a = some x → ∃ j, F.M j = some a := fun x e => by
    rcases re_cases hs with ⟨u0, rfl, rfl⟩ | ⟨u0, rfl, rfl⟩
    · obtain ⟨b, h1, h2, _⟩ := R.own h
      rw [hv] at h1; cases h1; rw [h2] at e; cases e
    · obtain ⟨b, h1, h2, _⟩ := R.bor h
      rw [hv] at h1; cases h1; exact ⟨i, h2⟩
  refine ⟨fun b x e => ?_, R.g0, R.gn, fun b x e n => ?_, fun j b e => ?_, fun j b e => ?_, fun j t e => ?_, fun j k w w' b h1 h2 h3 h4 => ?_, R.mi⟩
  · rw [upd_ne (ne_of_none e hg)]
    exact R.gh b x e
  · by_cases q : b = a
    · subst q
      obtain ⟨j, z⟩ := hc x e
      exact absurd z (n j)
    · rw [upd_ne q]
      exact R.hk b x e n
  · obtain ⟨h1, h2, w, h3⟩ := R.hm j b e
    refine ⟨fun z => ?_, h2, ?_⟩
    · by_cases q : b = a
      · rw [q, upd_same] at z; cases z
      · rw [upd_ne q] at z; exact h1 z
    · by_cases q : i = j
      · subst q
        rw [h] at h3
        rcases re_cases hs with ⟨u0, rfl, rfl⟩ | ⟨u0, rfl, rfl⟩
        · cases h3
        · exact ⟨o, List.getElem?_set_self hil⟩
      · rw [List.getElem?_set_ne q]
        exact ⟨w, h3⟩
  · obtain ⟨w, h3⟩ := R.hl j b e
    by_cases q : i = j
    · subst q
      rw [h] at h3
      rcases re_cases hs with ⟨u0, rfl, rfl⟩ | ⟨u0, rfl, rfl⟩ <;> cases h3
    · rw [List.getElem?_set_ne q]
      exact ⟨w, h3⟩
  · rcases getset e with ⟨rfl, rfl, _⟩ | ⟨ne, e'⟩
    · refine ⟨_, hv, ?_⟩
      rcases re_cases hs with ⟨u0, rfl, rfl⟩ | ⟨u0, rfl, rfl⟩
      · obtain ⟨b, h1, h2, h3, _⟩ := R.own h
        rw [hv] at h1; cases h1
        exact ⟨_, rfl, h2, h3, ho⟩
      · obtain ⟨b, h1, h2, h3, _⟩ := R.bor h
        rw [hv] at h1; cases h1
        exact ⟨_, rfl, h2, h3, ho⟩
    · obtain ⟨x, h1, h2⟩ := R.sl j t e'
      refine ⟨x, h1, ?_⟩
      have far : ∀ {b w}, b ≠ a → ObjO K G H b w → ObjO K G (upd H a u) b w := fun {b w} q z => z.mono (Same.refl G) fun y e => by rw [upd_ne q]; exact e
      cases t with
      | none => trivial
      | val d => exact h2
      | own w =>
        obtain ⟨b, rfl, e2, e3, e4⟩ := h2
        refine ⟨b, rfl, e2, e3, far (fun q => ?_) e4⟩
        subst q
        rcases re_cases hs with ⟨u0, rfl, rfl⟩ | ⟨u0, rfl, rfl⟩
        · exact ne (R.di i j _ _ b h e' hv h1)
        · obtain ⟨c, h1, h2, _⟩ := R.bor h
          rw [hv] at h1; cases h1
          exact (R.hm i _ h2).2.1 e2
      | bor w =>
        obtain ⟨b, rfl, e2, e3, e4⟩ := h2
        refine ⟨b, rfl, e2, e3, far (fun q => ?_) e4⟩
        subst q
        rcases re_cases hs with ⟨u0, rfl, rfl⟩ | ⟨u0, rfl, rfl⟩
        · obtain ⟨c, h1, h2, _⟩ := R.own h
          rw [hv] at h1; cases h1
          exact (R.hm j _ e2).2.1 h2
        · obtain ⟨c, h1, h2, _⟩ := R.bor h
          rw [hv] at h1; cases h1
          exact ne (R.mi i j b h2 e2)
      | lck w =>
        obtain ⟨b, y, rfl, e2, e3, e5, e6, e4⟩ := h2
        refine ⟨b, y, rfl, e2, e3, e5, e6, far (fun q => ?_) e4⟩
        subst q
        obtain ⟨j, z⟩ := hc y e5
        exact e6 j z
  · rcases getset h1 with ⟨rfl, e1, _⟩ | ⟨n1, h1'⟩
    · rcases getset h2 with ⟨rfl, _, _⟩ | ⟨n2, h2'⟩
      · rfl
      · rcases re_cases hs with ⟨u0, rfl, rfl⟩ | ⟨u0, rfl, rfl⟩
        · exact R.di _ _ _ _ b h h2' h3 h4
        · cases e1
    · rcases getset h2 with ⟨rfl, e2, _⟩ | ⟨n2, h2'⟩
      · rcases re_cases hs with ⟨u0, rfl, rfl⟩ | ⟨u0, rfl, rfl⟩
        · exact R.di _ _ _ _ b h1' h h3 h4
        · cases e2
      · exact R.di j k w w' b h1' h2' h3 h4
end
end DL

set_option Elab.async false
set_option linter.all false
set_option maxRecDepth 100000
set_option maxHeartbeats 2000000
/-! where the guards are known: repr of data; a def run there -/
namespace DD
open PySem PySem.Spec PyProof.Rows L2
section
variable {X : Cx}
/-- repr(x), x a list, tuple or dict of data -/
def rReprD (K : PySem.W.Frag) : List V → Hp → VK → Prop := fun xs H Q => ∃ a d, xs = [.ref a] ∧ Dp K H (.ref a) d ∧ d.showable = true ∧ d.hasDict = false ∧ d.depth ≤ 60 ∧ d.shown.length ≤ sizeLine ∧ Q (.str d.shown) H
theorem call_reprD (hg : X.A.guards = some []) (hu : X.A.units + 64 < cLine) : CallR X (.builtin "repr") (rReprD X.K) := by
  intro pins s σ H xs us Q I r h
  obtain ⟨a, d, rfl, hd, hs, hn, hp, hz, q⟩ := h
  obtain ⟨u, rfl, ru⟩ := r.one
  obtain ⟨as, rd⟩ := Dp.reads I d _ u hd ru
  obtain rfl : u = Value.ref a := ru
  exact repr_of_reads' rd hs (fun e => by rw [hn] at e; cases e) hg (by omega) (fun _ _ e => e) (fun h' u tk hk => ⟨.str d.shown, H, I.kept hk, ⟨u, rfl⟩, q⟩) hz
end
section
variable {P : Program} {w : World} {K : PySem.W.Frag} {mg : Str → Option Value} {base : Heap}
/-- a def's promise where the guards are known -/
def FnG (P : Program) (w : World) (K : PySem.W.Frag) (mg : Str → Option Value) (base : Heap) (k : Nat) (f : Addr) (fd : FuncData) (ps : List Str) (sp : Sp) : Prop :=
  ∀ (A : Around) (outer : List Env) (s : Shared) (H : Hp) (args : Args) (us : List Value) (vs : List V) (Q : VK) (E : XK), Room k A → A.guards = some [] → Env0 P w K mg base A outer s H → BindsTo s fd args (ps.zip us) → Vals vs us → sp vs H Q E →
    codeAny (model P w) A (.call (.ref f) args) (CR CX0 outer P w H s Q E) s
theorem fnG_of {name qual : Str} {params : Arguments} {body : List Stmt} {scope : Scope} {dV kV doc pm cdv ct oc : Value} {an od : Option Addr} {f : Addr} {k : Nat} {osl : Array (Option Value)} {N ps : List Str} {sp : Sp}
    (lk : K.lookup f = some ⟨oc, od, .func (PySem.W.fnOf name qual params body scope dV kV doc pm an cdv ct), osl⟩) (hcd : PySem.W.codeIn K cdv qual = true) (S : FnScope N ps scope) (len : ∀ vs H Q E, sp vs H Q E → vs.length = ps.length)
    (hbody : ∀ (A : Around) (outer : List Env) (s : Shared) (H : Hp) (vs : List V) (Q : VK) (E : XK), Room k (A.deeper (envOfC qual scope s.heap.objs.size f cdv)) → (A.deeper (envOfC qual scope s.heap.objs.size f cdv)).guards = some [] → sp vs H Q E →
      ∃ t, PSs (cxOf CX0 P w K mg base N qual scope f cdv A outer s H E).nox body t ∧ t { nx := fun _ H' => Q .non H', rt := Q } (start N vs) H) :
    FnG P w K mg base (k + 1) f (PySem.W.fnOf name qual params body scope dV kV doc pm an cdv ct) ps sp := by
  intro A outer s H args us vs Q E room hg e0 binds vals h
  have inS : ∀ {b : Addr} {o : Obj}, base.get? b = some o → s.heap.get? b = some o := fun e => (e0.bs _ _ e).1
  have kinS : K.In s.heap := e0.mod.kin.keeps fun _ _ => inS
  refine codeAny_call_function room.depth (kinS _ _ lk) rfl S.co S.gen rfl (PySem.W.codeRec_of kinS hcd) (binds _ _ _ _ (wpAny_newFunctionEnv_cells S.kind (fun y hy => ?_) fun env he s1 x => ?_))
  · have hp := S.par y.1 (List.of_mem_zip (show (y.1, y.2) ∈ ps.zip us from hy)).1
    exact hp.imp id fun c => ⟨c, PySem.W.cellsFrom_some _ _ _ (.inl c)⟩
  · cases he
    refine ⟨(e0.mod.nolimit.keeps fun _ _ => inS).keeps x.toInCall.keep, codeAny_func ?_⟩
    obtain ⟨t, run, start_⟩ := hbody A outer s H vs Q E (room.deeper _) (by exact hg) h
    have I : Inv (cxOf CX0 P w K mg base N qual scope f cdv A outer s H E) [] (start N vs) H s1 := inv_start S room.hd e0 (len _ _ _ _ h) vals x
    refine wpAny_mono (run.nox.run [] s1 (start N vs) H _ I start_) (fun fl s2 z => ?_) fun _ _ z => z
    cases fl with
    | ret u =>
      obtain ⟨v, σ', H', J, rv, qv⟩ := z
      exact ⟨v, H', J.os, J.bare, J.base, J.hok, rv, qv⟩
    | next =>
      obtain ⟨σ', H', J, qv⟩ := z
      exact ⟨.non, H', J.os, J.bare, J.base, J.hok, rfl, qv⟩
    | brk => exact z.choose_spec.choose_spec.2.elim
    | cont => exact z.choose_spec.choose_spec.2.elim
end
end DD

set_option Elab.async false
set_option linter.all false
set_option maxRecDepth 100000
set_option maxHeartbeats 2000000
/-! sorted of triples (int, int, one of two words) -/
namespace DD
open PySem PySem.Spec PyProof.Rows L2
abbrev Blk := Int × Int × Bool
/-- the word of a block: private or busy -/
def wd (b : Bool) : Str := if b = true then "private" else "busy"
def blkV (m : Blk) : List V := [.int m.1, .int m.2.1, .str (wd m.2.2)]
def lexT (p q : Blk) : Bool := if p.1 = q.1 then (if p.2.1 = q.2.1 then !p.2.2 && q.2.2 else decide (p.2.1 < q.2.1)) else decide (p.1 < q.1)
def bI (b : Bool) : Int := if b = true then 1 else 0
theorem lexT_iff {p q : Blk} : lexT p q = true ↔ p.1 < q.1 ∨ (p.1 = q.1 ∧ (p.2.1 < q.2.1 ∨ (p.2.1 = q.2.1 ∧ bI p.2.2 < bI q.2.2))) := by
  obtain ⟨a, b, c⟩ := p
  obtain ⟨a', b', c'⟩ := q
  unfold lexT
  by_cases e : a = a'
  · rw [if_pos e]
    by_cases e2 : b = b'
    · rw [if_pos e2]
      subst e e2
      cases c <;> cases c' <;> simp [bI]
    · rw [if_neg e2, decide_eq_true_eq]
      dsimp only at *
      omega
  · rw [if_neg e, decide_eq_true_eq]
    dsimp only at *
    omega
theorem lexT_no {p q : Blk} : lexT p q = false ↔ ¬ (p.1 < q.1 ∨ (p.1 = q.1 ∧ (p.2.1 < q.2.1 ∨ (p.2.1 = q.2.1 ∧ bI p.2.2 < bI q.2.2)))) := by
  rw [← lexT_iff]
  cases lexT p q <;> simp
theorem swo_blk {α : Type} (k : α → Blk) : SrtO.Swo fun v u => lexT (k v) (k u) := by
  refine ⟨fun x y h => ?_, fun x y z h1 h2 => ?_⟩
  · have a := lexT_iff.mp h
    refine lexT_no.mpr ?_
    omega
  · have a := lexT_no.mp h1
    have b := lexT_no.mp h2
    refine lexT_no.mpr ?_
    omega
def IsBk (h : Heap) (v : Value) (m : Blk) : Prop := ∃ a o t u z n, v = .ref a ∧ h.get? a = some o ∧ o.cls = .type "tuple" ∧ o.data = .seq #[.int m.1 t, .int m.2.1 u, .str (wd m.2.2) z] n
theorem IsBk.keeps {h h' : Heap} {v : Value} {m : Blk} (p : IsBk h v m) (k : ∀ b o, h.get? b = some o → o.cls = .type "tuple" → h'.get? b = some o) : IsBk h' v m := by
  obtain ⟨a, o, t, u, z, n, e, ho, hc, hd⟩ := p
  exact ⟨a, o, t, u, z, n, e, k _ _ ho hc, hc, hd⟩
theorem wd_eq {b c : Bool} : (wd b == wd c) = (b == c) := by cases b <;> cases c <;> decide +kernel
theorem wd_lt {b c : Bool} (h : ¬ b = c) : decide ((wd b).cps.toList < (wd c).cps.toList) = (!b && c) := by cases b <;> cases c <;> first | exact absurd rfl h | decide +kernel
section
variable {prog : Program} {w : World} {A : Around} {E : Value → Shared → Prop} {s : Shared}
theorem blk_cmp {vs : List Value} {k : Value → Blk} (hp : ∀ v ∈ vs, IsBk s.heap v (k v)) : SrtO.Cmp prog w A s (tuples' true) (fun p => p.1 ∈ vs) (SrtO.lt2 fun v u => lexT (k v) (k u)) := by
  intro p q hm hm'
  have h1 := hp _ hm
  have h2 := hp _ hm'
  show wpAny (model prog w) A (keyLt' (tuples' true) p.1 q.1) (fun r s' => s' = s ∧ r = lexT (k p.1) (k q.1)) (fun _ _ => False) s
  generalize k p.1 = m at h1 ⊢
  generalize k q.1 = m' at h2 ⊢
  obtain ⟨x, y, c⟩ := m
  obtain ⟨x', y', c'⟩ := m'
  obtain ⟨a, o, t, u, z, n, e, ho, hc, hd⟩ := h1
  obtain ⟨a', o', t', u', z', n', e', ho', hc', hd'⟩ := h2
  rw [e, e']
  refine PySem.W.kat_lt ho hd ho' hd' ?_
  show PySem.W.KatLex prog w A true (decide (3 < 3)) _ [(.int x t, .int x' t'), (.int y u, .int y' u'), (.str (wd c) z, .str (wd c') z')] 0 s
  refine PySem.W.kat_cons (SeqAt.EqAt.int_int x t x' t' prog w _ _ ?_)
  unfold lexT
  refine PySem.W.kat_go (fun e1 => ?_) (fun e1 => ?_)
  · have ex : x = x' := by simpa using e1
    refine PySem.W.kat_yes (PySem.W.kat_cons (SeqAt.EqAt.int_int y u y' u' prog w _ _ ?_))
    refine PySem.W.kat_go (fun e2 => ?_) (fun e2 => ?_)
    · have ey : y = y' := by simpa using e2
      refine PySem.W.kat_yes (PySem.W.kat_cons (SeqAt.EqAt.str_str (wd c) z (wd c') z' prog w _ _ ?_))
      rw [wd_eq]
      refine PySem.W.kat_go (fun e3 => ?_) (fun e3 => ?_)
      · have ec : c = c' := by simpa using e3
        refine PySem.W.kat_yes (PySem.W.kat_nil ⟨rfl, ?_⟩)
        dsimp only
        rw [if_pos ex, if_pos ey, ec]
        cases c' <;> rfl
      · have ec : ¬ c = c' := by simpa using e3
        refine PySem.W.kat_no (PySem.W.kat_one _ _ (PySem.P.lt_str ?_))
        refine ⟨rfl, ?_⟩
        dsimp only
        rw [if_pos ex, if_pos ey, ← wd_lt ec]
    · have ey : ¬ y = y' := by simpa using e2
      refine PySem.W.kat_no (PySem.W.kat_one _ _ (PyProof.Rows.lt_int ?_))
      refine ⟨rfl, ?_⟩
      dsimp only
      rw [if_pos ex, if_neg ey]
  · have ex : ¬ x = x' := by simpa using e1
    refine PySem.W.kat_no (oneLt_int ⟨rfl, ?_⟩)
    dsimp only
    rw [if_neg ex]
theorem blk_firsts {h : Heap} : ∀ {vs : List Value}, (∀ v ∈ vs, ∃ m, IsBk h v m) → ∃ fs : List Value, PySem.W.KatTups h vs fs ∧ fs.length = vs.length ∧ ∀ f ∈ fs, ∃ x t, f = Value.int x t
  | [], _ => ⟨[], PySem.W.KatTups.nil, rfl, fun _ hm => by simp at hm⟩
  | v :: vs, hp => by
    obtain ⟨fs, h1, h2, h3⟩ := blk_firsts (vs := vs) fun v' hm => hp v' (List.mem_cons_of_mem _ hm)
    obtain ⟨m, a, o, t, u, z, n, e, ho, hc, hd⟩ := hp v (List.mem_cons_self ..)
    subst e
    refine ⟨.int m.1 t :: fs, PySem.W.KatTups.cons ho hc hd rfl h1, by rw [List.length_cons, List.length_cons, h2], fun f hm => ?_⟩
    rcases List.mem_cons.mp hm with rfl | hm
    · exact ⟨_, t, rfl⟩
    · exact h3 f hm
theorem blk_sortable {a : Addr} {vs : List Value} {k : Value → Blk} (h0 : 0 < vs.length) (hp : ∀ v ∈ vs, IsBk s.heap v (k v)) (ha : ∀ o, s.heap.get? a = some o → o.cls ≠ .type "tuple") : SrtO.SortableO prog w A s a vs fun v u => lexT (k v) (k u) := by
  intro h' keep
  have hp' : ∀ v ∈ vs, IsBk h' v (k v) := fun v hm => (hp v hm).keeps fun b o e c => keep b o (fun z => by subst z; exact ha o e c) e
  obtain ⟨fs, h1, h2, h3⟩ := blk_firsts fun v hm => ⟨_, hp' v hm⟩
  refine ⟨tuples' true, fun Q E hq => ?_, blk_cmp hp'⟩
  refine PySem.W.kat_kind (T := .type "int") h1 (by omega) (fun f hm => ?_) (by rfl) ?_
  · obtain ⟨x, t, rfl⟩ := h3 f hm
    exact PySem.W.Looks.now
  · have e : (Value.type "int" != Value.type "tuple") = true := by first | decide +kernel | rfl | decide
    rw [e]
    exact hq
theorem sorted_blks {l : Addr} {vs : List Value} {k : Value → Blk} {Q : Value → Shared → Prop} (hl : s.heap.IsList l vs.toArray) (hz : vs.length ≤ sizeLine) (hp : ∀ v ∈ vs, IsBk s.heap v (k v))
    (h : ∀ (h' : Heap) (d : Addr) (out : List Value), SrtO.Srtd (fun v u => lexT (k v) (k u)) out → SrtO.Stb (fun v u => lexT (k v) (k u)) out vs → (∀ b o, s.heap.get? b = some o → h'.get? b = some o) → s.heap.objs.size ≤ d → (∃ n, h'.get? d = some (seqObj "list" out.toArray n)) → Q (.ref d) { s with heap := h' }) :
    wpAny (model prog w) A (call (.builtin "sorted") [.ref l]) Q E s := by
  refine SrtO.sorted_ord (swo_blk k) hl hz (fun h2 h₁ a ha kk => ?_) fun out hs hb => ?_
  · refine blk_sortable (s := { s with heap := h₁ }) (by omega) (fun v hm => (hp v hm).keeps fun b o e _ => (kk b o e).2) fun o e => ?_
    have e' : some o = some (seqObj "list" vs.toArray 0) := e.symm.trans ha
    cases e'
    intro c
    exact absurd (Value.type.inj c) (by decide)
  · exact h _ _ out hs hb (fun b o e => PyProof.Rows.sortedAll_old e) (Nat.le_succ _) (PyProof.Rows.sortedAll_at s.heap vs out.toArray)
end
/-- sorted(xs), xs a list of blocks (k says which): a new list, sorted, equal ones in their order -/
def rSortedB (K : PySem.W.Frag) : List V → Hp → VK → Prop := fun vs H Q => ∃ (a : Addr) (xs : List V) (k : V → Blk), vs = [V.ref a] ∧ SqL K H a xs ∧ (∀ x ∈ xs, ∃ t, x = V.ref t ∧ H t = some (.tup (blkV (k x)))) ∧
  ∀ ys p, SrtO.Srtd (fun x y => lexT (k x) (k y)) ys → ys.Perm xs → H p = none → Q (.ref p) (upd H p (.lst ys))
section
variable {X : Cx}
theorem cr_sortedB : CallR X (.builtin "sorted") (rSortedB X.K) := by
  intro pins s σ H vs us Q I r h
  obtain ⟨a, xs, k, rfl, hs, hx, q⟩ := h
  obtain ⟨its, rv, hl, hz⟩ := I.list hs
  obtain ⟨u, rfl, ru⟩ := vals1 r
  obtain rfl : u = Value.ref a := ru
  obtain ⟨e1, e2⟩ := refs_back rv fun x m => by
    obtain ⟨t, e, _⟩ := hx x m
    exact ⟨t, e⟩
  refine sorted_blks (k := fun u => k (backV u)) hl.isList (by rw [← rv.length]; exact hz) (fun v hv => ?_) fun h' d out h1 h2 kp hd hn => ?_
  · obtain ⟨t, rfl⟩ := e2 v hv
    have hm : V.ref t ∈ xs := by rw [e1]; exact List.mem_map.mpr ⟨_, hv, rfl⟩
    obtain ⟨t', e, ht⟩ := hx _ hm
    cases e
    obtain ⟨_, its2, r2, o, ho, hc, n, hd⟩ := I.hok _ _ ht
    show IsBk s.heap (Value.ref t) (k (V.ref t))
    generalize k (V.ref t) = m at r2 ⊢
    cases r2 with
    | cons r0 r2 =>
      cases r2 with
      | cons r1 r2 =>
        cases r2 with
        | cons r3 r2 =>
          cases r2
          obtain ⟨t1, rfl⟩ := r0
          obtain ⟨t2, rfl⟩ := r1
          obtain ⟨t3, rfl⟩ := r3
          exact ⟨t, o, t1, t2, t3, n, rfl, ho, hc, hd⟩
  · have h3 : ∀ u ∈ out, ∃ a, u = Value.ref a := fun u hu => e2 u (h2.perm.mem_iff.mp hu)
    obtain ⟨n, hn⟩ := hn
    have hb : (out.map backV).Perm xs := by
      rw [e1]
      exact h2.perm.map _
    refine ⟨.ref d, upd H d (.lst (out.map backV)), I.laid (t' := s.toks) kp hd ⟨?_, out, n, vals_back h3, hn⟩, rfl, q _ d (SrtO.srtd_map (lt := fun x y => lexT (k x) (k y)) h1) hb (I.hok.fresh hd)⟩
    rw [hb.length_eq]
    exact hz
end
section
variable {X : Cx} {CX : CXT} {k : Nat} {f : Addr} {sp : Sp} {E : XK} {x : Str} {pp pos : Pos}
/-- f(), a def without arguments -/
theorem pe_callR0 (F : FnR X.prog X.w X.K X.mg X.base CX k f sp) (hr : Room k X.A) (hg : Gl X x) (hm : X.mg x = some (.ref f)) (hk : PySem.W.keepIn X.K (.ref f) = true) (hx : Passes CX X E)
    (hdb : (x == ("__debug__" : Str)) = false := by decide) : PE X (.Call (.Name x pp) [] [] pos) (fun σ H Q => sp [] H Q E) := by
  refine ⟨fun pins s σ H Q I h => ?_⟩
  refine wpAny_Call_Name_kw (ld_glob I hg hm ?_ hdb)
  exact PySem.W.callWith_K0 I.kIn hk (wp_fnR F hr hx I .nil h)
end
end DD

set_option Elab.async false
set_option linter.all false
set_option maxRecDepth 100000
set_option maxHeartbeats 2000000
/-! xs[lo:hi:step] of a list -/
namespace DD
open PySem PySem.Spec PyProof.Rows L2
/-- the items of xs[lo:hi:st] -/
def pickV (xs : List V) (lo hi : Option Int) (st : Int) : List V :=
  (sliceRange (sliceBounds lo hi (some st) xs.length).1 (sliceBounds lo hi (some st) xs.length).2.1 (sliceBounds lo hi (some st) xs.length).2.2).filterMap (xs[·]?)
theorem vals_pick {xs : List V} {us : List Value} (r : Vals xs us) : ∀ is : List Nat, Vals (is.filterMap (xs[·]?)) (is.filterMap (us[·]?))
  | [] => .nil
  | i :: is => by
    have ih := vals_pick r is
    cases e : xs[i]? with
    | none =>
      have e2 : us[i]? = none := by
        rw [List.getElem?_eq_none_iff] at e ⊢
        rw [← r.length]
        exact e
      rw [List.filterMap_cons_none e, List.filterMap_cons_none e2]
      exact ih
    | some x =>
      obtain ⟨u, h1, h2⟩ := r.get e
      rw [List.filterMap_cons_some e, List.filterMap_cons_some h1]
      exact .cons h2 ih
/-- xs[lo:hi:st] of a list: a new list -/
def tSl3 (K : PySem.W.Frag) (st : Int) (te : TE) (tl th : TO) : TE := fun σ H Q => te σ H fun x H1 => tl σ H1 fun lo H2 => th σ H2 fun hi H3 => ∃ a xs, x = .ref a ∧ SqL K H3 a xs ∧ (pickV xs lo hi st).length ≤ sizeLine ∧ ∀ p, H3 p = none → Q (.ref p) (upd H3 p (.lst (pickV xs lo hi st)))
theorem pe_slice3 {X : Cx} {e : Expr} {lo hi : Option Expr} {te : TE} {tl th : TO} {st : Int} {k : Nat} {p1 p2 pos : Pos} (hst : st ≠ 0) (he : PE X e te) (hl : PO X lo tl) (hu : PO X hi th) :
    PE X (.Subscript e (.Slice lo hi (some (.Constant (.int st) k p1)) p2) pos) (tSl3 X.K st te tl th) := by
  refine ⟨fun pins s σ H Q I h => ?_⟩
  refine Subscript_ (thn (he.run pins s σ H _ I h) fun v s1 ⟨x, H1, I1, r1, q1⟩ => ?_)
  have hs : PO X (some (.Constant (.int st) k p1)) (tPart (tC (.int st))) := po_some pe_int
  refine wpAny_Slice (thn (hl.run pins s1 σ H1 _ I1 q1) fun vl s2 ⟨l, H2, I2, pl, q2⟩ => thn (hu.run pins s2 σ H2 _ I2 q2) fun vu s3 ⟨u, H3, I3, pu, q3⟩ => ?_)
  refine thn (hs.run pins s3 σ H3 (fun o H4 => o = some st ∧ H4 = H3) I3 ⟨st, rfl, rfl, rfl⟩) fun vs s4 ⟨o, H4, I4, ps, eo, e4⟩ => ?_
  subst eo e4
  obtain ⟨a, xs, ex, hx, hz2, q⟩ := q3
  subst ex
  cases r1
  have I5 : Inv X pins σ H4 { s4 with heap := s4.heap.push { cls := .type "slice", data := .fields #[vl, vu, vs] } } := I4.kept (t' := s4.toks) fun b ob q => Heap.get?_push_of_some _ q
  obtain ⟨its, r, ht, hz⟩ := I5.list hx
  have hlen := r.length
  show wpAny (model X.prog X.w) X.A (subscriptTail e (.Slice lo hi (some (.Constant (.int st) k p1)) p2) (.ref a) (.ref s4.heap.objs.size)) (EP X pins σ Q) X.xe { s4 with heap := s4.heap.push { cls := .type "slice", data := .fields #[vl, vu, vs] } }
  refine tail_any (ops := [.ref a, .ref s4.heap.objs.size]) ht.isList.typeIs (PySem.slot_list_getitem.lookup) ?_ (by with_unfolding_all rfl)
  refine wpAny_getItem_list_slice ht.isList (Heap.IsSliceOf.new _ vl vu vs) pl pu ps (by simpa using hst) ?_ (by rw [List.size_toArray]; omega)
  have e : slicePick its.toArray l u (some st) = ((sliceRange (sliceBounds l u (some st) xs.length).1 (sliceBounds l u (some st) xs.length).2.1 (sliceBounds l u (some st) xs.length).2.2).filterMap (its[·]?)).toArray := by
    unfold slicePick
    rw [List.size_toArray, ← hlen]
    simp
  rw [e]
  refine ⟨.ref _, _, I5.laid (t' := s4.toks) (o := .lst (pickV xs l u st)) (fun b ob q => Heap.get?_push_of_some _ q) (Nat.le_refl _) ?_, rfl, q _ (I5.hok.fresh (Nat.le_refl _))⟩
  exact ⟨hz2, _, 0, vals_pick r _, Heap.get?_push_size _ rfl⟩
end DD

set_option Elab.async false
set_option linter.all false
set_option maxRecDepth 100000
set_option maxHeartbeats 2000000
/-! texts of numbers -/
namespace DD
open PySem PySem.Spec PyProof.Rows L2
abbrev intT (i : Int) : Str := Str.ofString (toString i)
theorem len_app {x y : Str} {n m : Nat} (hx : x.length ≤ n) (hy : y.length ≤ m) : (x ++ y).length ≤ n + m := by
  rw [Str.length_append]
  omega
theorem len_int {i : Int} (h0 : 0 ≤ i) (h : i ≤ 1000) : (intT i).length ≤ 5 := by
  have e := int_text_length_le10 (a := i) (k := 4) (by decide) (by omega)
  show (Str.ofString (toString i)).length ≤ 5
  rw [PySem.ofString_length]
  omega
theorem log_int {i : Int} (h0 : 0 ≤ i) (h : i ≤ 1000) : i.natAbs.log2 < 1920 := by
  have := Nat.log2_le_self i.natAbs
  omega
theorem le0 : Str.empty.length ≤ 0 := by decide
theorem sum_le {α : Type} {f : α → Nat} {k : Nat} : ∀ {xs : List α}, (∀ x ∈ xs, f x ≤ k) → (xs.map f).sum ≤ xs.length * k
  | [], _ => by simp
  | x :: xs, h => by
    have h1 := h x (List.mem_cons_self ..)
    have h2 := sum_le (xs := xs) fun y hy => h y (List.mem_cons_of_mem _ hy)
    simp only [List.map_cons, List.sum_cons, List.length_cons, Nat.add_mul]
    omega
theorem join_len {s : Str} {xs : List Str} : (Txt.join s xs).length ≤ (xs.map (·.length)).sum + xs.length * s.length := by
  rw [show Txt.join s xs = Str.join s xs from StrLaws.glued_eq_join s xs]
  exact StrLaws.join_length_le s xs
theorem num_ok : ∀ n : Fin 100, (Txt.isascii (intT (n.val : Int)) && Txt.isdecimal (intT (n.val : Int)) && !decide ((intT (n.val : Int)).length > 2) &&
    (decide ((intT (n.val : Int)).length = 1) || match (intT (n.val : Int)).cps.toList with | c :: _ => !decide (c = 48) | [] => false)) = true := by decide +kernel
theorem num_facts {n : Nat} (h : n ≤ 99) : Txt.isascii (intT (n : Int)) = true ∧ Txt.isdecimal (intT (n : Int)) = true ∧ (intT (n : Int)).length ≤ 2 ∧ ((intT (n : Int)).length = 1 ∨ ∃ c l, (intT (n : Int)).cps.toList = c :: l ∧ c ≠ 48) := by
  have z := num_ok ⟨n, by omega⟩
  simp only [Bool.and_eq_true, Bool.not_eq_true', decide_eq_false_iff_not, Bool.or_eq_true, decide_eq_true_eq] at z
  obtain ⟨⟨⟨z1, z2⟩, z3⟩, z4⟩ := z
  refine ⟨z1, z2, by omega, z4.imp id fun z4 => ?_⟩
  revert z4
  generalize (intT (n : Int)).cps.toList = L
  intro z4
  cases L with
  | nil => exact absurd z4 (by simp)
  | cons c l => exact ⟨c, l, rfl, by simpa using z4⟩
theorem nat_of {i : Int} (h0 : 0 ≤ i) (h1 : i ≤ 99) : ∃ n : Nat, i = (n : Int) ∧ n ≤ 99 := ⟨i.toNat, by omega, by omega⟩
theorem tl_int {i : Int} (h : 0 ≤ i) : TL.tl (intT i) = TL.numL i.toNat := by
  have e : i = ((i.toNat : Nat) : Int) := by omega
  conv => lhs; rw [e]
  exact TL.tl_num _
end DD

set_option Elab.async false
set_option linter.all false
set_option maxRecDepth 100000
set_option maxHeartbeats 2000000
/-! lists of texts, slices, a walk by steps -/
namespace DD
open PySem PySem.Spec PyProof.Rows L2
theorem cutTo {xs : List V} {k : Nat} : cutV xs none (some (k : Int)) = xs.take k := by
  unfold cutV
  rw [HT.sIx_none, HT.sIx_nat, Nat.sub_zero, List.drop_zero]
  by_cases h : k ≤ xs.length
  · rw [Nat.min_eq_left h]
  · rw [Nat.min_eq_right (by omega), List.take_length, List.take_of_length_le (by omega)]
theorem cutFrom {xs : List V} {k : Nat} : cutV xs (some (k : Int)) none = xs.drop k := by
  unfold cutV
  rw [HT.sIx_none, HT.sIx_nat]
  by_cases h : k ≤ xs.length
  · rw [Nat.min_eq_left h, List.take_of_length_le (by rw [List.length_drop] <;> omega)]
  · rw [Nat.min_eq_right (by omega), List.drop_length, List.drop_of_length_le (by omega)]
    simp
def strsD (l : List Str) : PyData := .list (l.map PyData.str)
theorem dpStrs {K : PySem.W.Frag} : ∀ {H : Hp} {l : List Str}, DpAll K H (l.map V.str) (l.map PyData.str)
  | _, [] => .nil
  | _, i :: l => .cons (.str i) dpStrs
theorem okStr {x : Str} (h : ∀ c ∈ TL.tl x, c < 0x110000) : PyData.strOk x = true := by
  unfold PyData.strOk
  rw [← Array.all_toList]
  exact List.all_eq_true.mpr fun c hc => decide_eq_true (h c hc)
theorem okInt {i : Int} (h : 0 ≤ i) : PyData.strOk (intT i) = true := okStr fun z hz => by
  rw [tl_int h] at hz
  by_cases h2 : 57 < z
  · exact absurd hz (TL.numL_free (by omega))
  · omega
theorem layStrs : ∀ {l : List Str}, (∀ x ∈ l, PyData.strOk x = true) → PyData.canLayAll0 (l.map PyData.str) = true
  | [], _ => rfl
  | i :: l, h => by
    show (PyData.strOk i && PyData.canLayAll0 (l.map PyData.str)) = true
    rw [layStrs (l := l) fun x hx => h x (List.mem_cons_of_mem _ hx), h i (List.mem_cons_self ..)]
    rfl
theorem depthStrs : ∀ {l : List Str}, PyData.depthAll (l.map PyData.str) = 0
  | [] => rfl
  | i :: l => by
    show max (PyData.depth (.str i)) (PyData.depthAll (l.map PyData.str)) = 0
    rw [depthStrs (l := l)]
    rfl
theorem shapedStrs {l : List Str} (h : ∀ x ∈ l, PyData.strOk x = true) : SeqAt.shaped (strsD l) = true := by
  unfold SeqAt.shaped
  rw [Bool.and_eq_true_iff]
  refine ⟨layStrs h, decide_eq_true ?_⟩
  show PyData.depthAll (l.map PyData.str) + 1 ≤ 64
  rw [depthStrs]
  decide
theorem eqvStrs : ∀ {l l' : List Str}, PyData.eqvAll (l.map PyData.str) (l'.map PyData.str) = decide (l = l')
  | [], [] => by simp [PyData.eqvAll]
  | [], c :: cs => by simp [PyData.eqvAll]
  | b :: bs, [] => by simp [PyData.eqvAll]
  | b :: bs, c :: cs => by
    show (PyData.eqv (.str b) (.str c) && PyData.eqvAll (bs.map PyData.str) (cs.map PyData.str)) = _
    rw [eqvStrs, Bool.eq_iff_iff]
    simp [PyData.eqv]
theorem ne_strs {K : PySem.W.Frag} {H : Hp} {p q : Addr} {l l' : List Str} {Q : VK} (hp : SqL K H p (l.map V.str)) (hq : SqL K H q (l'.map V.str)) (o : ∀ x ∈ l, PyData.strOk x = true) (o' : ∀ x ∈ l', PyData.strOk x = true) (h : Q (.bl (!decide (l = l'))) H) : rNeD K (.ref p) (.ref q) H Q := by
  refine ⟨strsD l, strsD l', .lst hp dpStrs, .lst hq dpStrs, shapedStrs o, shapedStrs o', ?_⟩
  rw [show PyData.eqv (strsD l) (strsD l') = decide (l = l') from eqvStrs]
  exact h
/-- a walk over a range by steps -/
theorem lc_rngC {lo c : Int} {n : Nat} {g : TG} {tt : TT} {te : TE} {vs : List Nat} {σ : L2.St} {H1 : Hp} {D : Addr} {Qd : Hp → Prop} (Pv : Nat → Hp → Prop) (h0 : Pv 0 (upd H1 D (.lst [])))
    (hs : ∀ i H, i < n → Pv i H → g (.int (lo + (i : Int) * c)) (wipe σ vs) H fun σ2 H2 => wipe σ2 vs = wipe σ vs ∧ tt σ2 H2 fun b H3 =>
      if b = true then te σ2 H3 fun y H4 => ∃ acc, H4 D = some (.lst acc) ∧ acc.length < sizeLine ∧ Pv (i + 1) (upd H4 D (.lst (acc ++ [y]))) else Pv (i + 1) H3) (hd : ∀ H, Pv n H → Qd H) :
    ∃ W : Nat → Nat → Hp → Prop, (∃ m, W 0 m (upd H1 D (.lst []))) ∧ ∀ i m H, W i m H →
      ((Itc lo c n).stop i H ∧ Qd H) ∨ ((Itc lo c n).go i H ∧ ∃ Nx : Hp → Prop, (∀ H', Nx H' → ∃ m', m' < m ∧ W (i + 1) m' H') ∧ ∀ x H', (Itc lo c n).yld i H x H' → g x (wipe σ vs) H' fun σ2 H2 => wipe σ2 vs = wipe σ vs ∧ tt σ2 H2 fun b H3 =>
        if b = true then te σ2 H3 fun y H4 => ∃ acc, H4 D = some (.lst acc) ∧ acc.length < sizeLine ∧ Nx (upd H4 D (.lst (acc ++ [y]))) else Nx H3) := by
  refine ⟨fun i m H => m = n - i ∧ i ≤ n ∧ Pv i H, ⟨n, by simp, Nat.zero_le _, h0⟩, ?_⟩
  rintro i m H ⟨rfl, hi, p⟩
  by_cases hlt : i < n
  · refine .inr ⟨hlt, Pv (i + 1), fun H' p' => ⟨n - (i + 1), by omega, rfl, hlt, p'⟩, fun x H' y => ?_⟩
    obtain ⟨e, y⟩ := y
    subst e y
    exact hs i _ hlt p
  · have e : i = n := by omega
    subst e
    exact .inl ⟨Nat.le_refl _, hd H p⟩
end DD

set_option Elab.async false
set_option linter.all false
set_option maxRecDepth 100000
set_option maxHeartbeats 2000000
/-! x < y of data that are alike; xs.remove(x) of data -/
namespace DD
open PySem PySem.Spec PyProof.Rows L2
theorem vals_erase : ∀ {xs : List V} {us : List Value} (j : Nat), Vals xs us → Vals (xs.eraseIdx j) (us.eraseIdx j)
  | _, _, _, .nil => .nil
  | _, _, 0, .cons _ r => r
  | _, _, j + 1, .cons a r => .cons a (vals_erase j r)
theorem notInK {X : Cx} {K : PySem.W.Frag} (h : X.K = K := by rfl) : OpR X (compareOp .NotIn) (rIn K true) := h ▸ op_notIn_seq
section
variable {X : Cx}
def rLtD (K : PySem.W.Frag) : R2 := fun x y H Q => ∃ d e, Dp K H x d ∧ Dp K H y e ∧ PySem.W.alike d e = true ∧ d ≠ .none ∧ min d.depth e.depth ≤ 60 ∧ Q (.bl (PySem.W.dataLt d e)) H
theorem op_ltD (hu : X.A.units + 64 < cLine) : OpR X (compareOp .Lt) (rLtD X.K) := by
  intro pins s σ H x y v u Q I rx ry h
  obtain ⟨d, e, hd, he, ha, hn, hp, q⟩ := h
  obtain ⟨as, r1⟩ := Dp.reads I d x v hd rx
  obtain ⟨bs, r2⟩ := Dp.reads I e y u he ry
  show wpAny _ _ (richCompare .Lt v u) _ _ _
  exact PySem.W.rcLt_alike d e X.A s v u as bs r1 r2 ha hn (by omega) X.prog X.w _ _ ⟨.bl _, H, I, rfl, q⟩
def rRemD (K : PySem.W.Frag) : V → List V → Hp → VK → Prop := fun x vs H Q => ∃ l xs y ds d j, x = .ref l ∧ vs = [y] ∧ H l = some (.lst xs) ∧ DpAll K H xs ds ∧ Dp K H y d ∧ PyData.plainAll ds = true ∧ d.plain = true ∧ min (PyData.depthAll ds) d.depth ≤ 60 ∧ PySem.SeqAt.dataPlace ds d = some j ∧
  Q .non (upd H l (.lst (xs.eraseIdx j)))
theorem mt_removeD (hu : X.A.units + 64 < cLine) : MtM X "list.remove" (rRemD X.K) := by
  intro pins s σ H x vs v us Q I rx rv h
  obtain ⟨l, xs, y, ds, d, j, rfl, rfl, hH, hds, hd, p1, p2, hp, hj, q⟩ := h
  cases rx
  obtain ⟨u, rfl, ru⟩ := rv.one
  obtain ⟨z, its, n, r, hl, e⟩ := I.lstM hH
  obtain ⟨as, r1⟩ := Dp.readsAll I ds xs its hds r
  obtain ⟨bs, r2⟩ := Dp.reads I d y u hd ru
  refine PySem.SeqAt.remove_list_data (vs := its.toArray) ⟨_, e, rfl, _, rfl⟩ (by simpa using r1) r2 p1 p2 (by omega) hj (by rw [List.size_toArray]; omega) ?_
  refine ⟨.non, _, I.lset (its' := its.eraseIdx j) hH e (by simp) (vals_erase j r) ?_, rfl, q⟩
  exact Nat.le_trans (List.length_eraseIdx_le ..) z
end
end DD

set_option Elab.async false
set_option linter.all false
set_option maxRecDepth 100000
set_option maxHeartbeats 2000000
/-! the data layer: what an expression does to data -/
namespace DL
open PySem PySem.Spec PyProof.Rows L2 DD
/-- what an expression hands on: data, an owner's slot, a new owned thing -/
inductive X where
  | val (d : D) | own (i : Nat) | new (o : O)
def X.settle : X → X
  | .new o => .val o.d
  | x => x
def Slot.dd : Slot → Option D
  | .val d => some d
  | .own o | .bor o | .lck o => some o.d
  | .none => Option.none
def deref (ρ : En) : X → Option D
  | .val d => some d
  | .new o => some o.d
  | .own i => ρ[i]?.bind Slot.dd
/-- as frozen data -/
def toVal (ρ : En) : X → Option (D × En)
  | .val d => some (d, ρ)
  | .new o => some (o.d, ρ)
  | .own i => match ρ[i]? with
    | some (.val d) => some (d, ρ)
    | some (.own o) => some (o.d, ρ.set i (.val o.d))
    | _ => none
structure Xc where
  cls : Value
  ks : List Str
  ds : List D
inductive Res (α : Type) where
  | ok (a : α) (ρ : En) | err (x : Xc) (ρ : En) | stuck
def Res.bind {α β : Type} : Res α → (α → En → Res β) → Res β
  | .ok a ρ, U => U a ρ
  | .err x ρ, _ => .err x ρ
  | .stuck, _ => .stuck
def lift {α : Type} (o : Option α) (ρ : En) : Res α := match o with
  | some a => .ok a ρ
  | none => .stuck
def RepX (K : Fg) (F : Fm) (G H : Hp) (σ : L2.St) (ρ : En) (v : V) : X → Prop
  | .val d => Rep K G v d
  | .own i => σ[i]? = some (some v)
  | .new o => ∃ a, v = .ref a ∧ F.H0 a = none ∧ G a = none ∧ ObjO K G H a o ∧ ∀ (j : Nat) (u : O), ρ[j]? = some (.own u) → σ[j]? ≠ some (some (.ref a))
/-- a value that is read: frozen, or owned by someone -/
def DRep (K : Fg) (G H : Hp) (v : V) (d : D) : Prop := Rep K G v d ∨ ∃ a o, v = .ref a ∧ d = O.d o ∧ ObjO K G H a o
inductive DRepA (K : Fg) (G H : Hp) : List V → List D → Prop
  | nil : DRepA K G H [] []
  | cons {v : V} {vs : List V} {d : D} {ds : List D} : DRep K G H v d → DRepA K G H vs ds → DRepA K G H (v :: vs) (d :: ds)
inductive RepXs (K : Fg) (F : Fm) (G H : Hp) (σ : L2.St) (ρ : En) : List V → List X → Prop
  | nil : RepXs K F G H σ ρ [] []
  | cons {v : V} {vs : List V} {x : X} {xs : List X} : RepX K F G H σ ρ v x → (∀ o, x ≠ .new o) → RepXs K F G H σ ρ vs xs → RepXs K F G H σ ρ (v :: vs) (x :: xs)
def XRep (K : Fg) (G H : Hp) (c : Value) (od : Option Addr) (x : Xc) : Prop := c = x.cls ∧ ((od = none ∧ x.ks = []) ∨ ∃ e fs, od = some e ∧ H e = some (.xd fs) ∧ fs.map (·.1) = x.ks ∧ RepA K G (fs.map (·.2)) x.ds)
section
variable {K : Fg} {F : Fm} {G G' H H' : Hp} {σ σ' : L2.St} {ρ ρ' : En} {v : V} {x : X} {d : D}
/-- a settled thing stays -/
theorem RepX.keep (h : RepX K F G H σ ρ v x) (n : ∀ o, x ≠ .new o) (e : Same G G') : RepX K F G' H' σ ρ' v x := by
  cases x with
  | val d => exact Rep.mono e h
  | own i => exact h
  | new o => exact absurd rfl (n o)
theorem settle_no : ∀ o, x.settle ≠ .new o := by
  intro o
  cases x <;> intro z <;> cases z
theorem ObjO.rep {a : Addr} {o : O} (h : ObjO K G H a o) : ∃ u, H a = some u ∧ ∀ G', Same G G' → G' a = some u → Rep K G' (.ref a) o.d := by
  cases o with
  | lst ds =>
    obtain ⟨vs, h1, h2⟩ := h
    exact ⟨_, h1, fun G' e g => .lst g (h2.mono e)⟩
  | ins C ks ds =>
    obtain ⟨dx, fs, h1, h2, h3⟩ := h
    exact ⟨_, h1, fun G' e g => .ins g h2 (h3.mono e)⟩
theorem Rl.settle (R : Rl K F G H σ ρ) (h : RepX K F G H σ ρ v x) : ∃ G', Rl K F G' H σ ρ ∧ Same G G' ∧ RepX K F G' H σ ρ v x.settle := by
  cases x with
  | val d => exact ⟨G, R, Same.refl G, h⟩
  | own i => exact ⟨G, R, Same.refl G, h⟩
  | new o =>
    obtain ⟨a, rfl, h0, hg, ho, n⟩ := h
    obtain ⟨u, hu, r⟩ := ho.rep
    exact ⟨upd G a u, R.frz hu h0 hg n, smNew hg, r _ (smNew hg) upd_same⟩
/-- the owner of slot i gives its thing up -/
theorem Rl.give {i : Nat} {o : O} (R : Rl K F G H σ ρ) (h : ρ[i]? = some (.own o)) : ∃ G' a, σ[i]? = some (some (.ref a)) ∧ Rl K F G' H σ (ρ.set i (.val o.d)) ∧ Same G G' ∧ Rep K G' (.ref a) o.d := by
  obtain ⟨a, hv, h0, hg, ho⟩ := R.own h
  obtain ⟨u, hu, r⟩ := ho.rep
  have hil : i < ρ.length := (List.getElem?_eq_some_iff.mp h).1
  have hf : freeAt ρ i = true := by unfold freeAt; rw [h]; rfl
  have R1 : Rl K F G H (σ.set i (some (.ref a))) (ρ.set i .none) := R.forget hf
  have eσ : σ.set i (some (.ref a)) = σ := by
    apply List.ext_getElem?
    intro j
    by_cases e : i = j
    · subst e
      rw [List.getElem?_set_self (R.lt hil), hv]
    · rw [List.getElem?_set_ne e]
  rw [eσ] at R1
  have n : ∀ (j : Nat) (u : O), (ρ.set i Slot.none)[j]? = some (.own u) → σ[j]? ≠ some (some (.ref a)) := fun j u hj z => by
    rcases getset hj with ⟨_, e, _⟩ | ⟨ne, hj⟩
    · cases e
    · exact ne (R.di i j _ _ a h hj hv z)
  have R2 := R1.frz hu h0 hg n
  have rp := r _ (smNew (o := u) hg) upd_same
  have R3 := R2.put (i := i) (v := .ref a) (s := .val o.d) (by unfold freeAt; rw [List.getElem?_set_self hil]; rfl) ⟨_, rfl, rp⟩ rfl (fun o e => by cases e)
  rw [eσ, List.set_set] at R3
  exact ⟨_, a, hv, R3, smNew hg, rp⟩
theorem Rl.toVal (R : Rl K F G H σ ρ) (h : RepX K F G H σ ρ v x) (e : toVal ρ x = some (d, ρ')) : ∃ G', Rl K F G' H σ ρ' ∧ Same G G' ∧ Rep K G' v d := by
  cases x with
  | val d' =>
    cases e
    exact ⟨G, R, Same.refl G, h⟩
  | new o =>
    cases e
    obtain ⟨G', R', s, r⟩ := R.settle h
    exact ⟨G', R', s, r⟩
  | own i =>
    simp only [DL.toVal] at e
    cases e2 : ρ[i]? with
    | none => rw [e2] at e; cases e
    | some s =>
      rw [e2] at e
      cases s with
      | val d' =>
        cases e
        obtain ⟨v', h1, h2⟩ := R.val e2
        rw [show σ[i]? = some (some v) from h] at h1
        cases h1
        exact ⟨G, R, Same.refl G, h2⟩
      | own o =>
        cases e
        obtain ⟨G', a, h1, R', s, r⟩ := R.give e2
        rw [show σ[i]? = some (some v) from h] at h1
        cases h1
        exact ⟨G', R', s, r⟩
      | none => cases e
      | bor o => cases e
      | lck o => cases e
theorem Rl.deref (R : Rl K F G H σ ρ) (h : RepX K F G H σ ρ v x) (e : deref ρ x = some d) : DRep K G H v d := by
  cases x with
  | val d' => cases e; exact .inl h
  | new o =>
    cases e
    obtain ⟨a, rfl, _, _, ho, _⟩ := h
    exact .inr ⟨a, o, rfl, rfl, ho⟩
  | own i =>
    simp only [DL.deref] at e
    cases e2 : ρ[i]? with
    | none => rw [e2] at e; cases e
    | some s =>
      rw [e2] at e
      obtain ⟨x, h1, h2⟩ := R.sl i s e2
      rw [show σ[i]? = some (some v) from h] at h1
      cases h1
      cases s with
      | none => cases e
      | val d' =>
        cases e
        obtain ⟨v', e3, h3⟩ := h2
        cases e3
        exact .inl h3
      | own o =>
        cases e
        obtain ⟨a, e3, _, _, h3⟩ := h2
        cases e3
        exact .inr ⟨a, o, rfl, rfl, h3⟩
      | bor o =>
        cases e
        obtain ⟨a, e3, _, _, h3⟩ := h2
        cases e3
        exact .inr ⟨a, o, rfl, rfl, h3⟩
      | lck o =>
        cases e
        obtain ⟨a, u, e3, _, _, _, _, h3⟩ := h2
        cases e3
        exact .inr ⟨a, o, rfl, rfl, h3⟩
theorem DRep.rep (e : Same G H) (h : DRep K G H v d) : Rep K H v d := by
  rcases h with h | ⟨a, o, rfl, rfl, h⟩
  · exact h.mono e
  · obtain ⟨u, hu, r⟩ := h.rep
    exact r H e hu
theorem DRep.non (h : DRep K G H v .non) : v = .non := by
  rcases h with h | ⟨a, o, rfl, e, _⟩
  · cases h; rfl
  · cases o <;> cases e
theorem DRep.bl {b : Bool} (h : DRep K G H v (.bl b)) : v = .bl b := by
  rcases h with h | ⟨a, o, rfl, e, _⟩
  · cases h; rfl
  · cases o <;> cases e
theorem DRep.int {i : Int} (h : DRep K G H v (.int i)) : v = .int i := by
  rcases h with h | ⟨a, o, rfl, e, _⟩
  · cases h; rfl
  · cases o <;> cases e
theorem DRep.str {z : Str} (h : DRep K G H v (.str z)) : v = .str z := by
  rcases h with h | ⟨a, o, rfl, e, _⟩
  · cases h; rfl
  · cases o <;> cases e
theorem DRep.tup {ds : List D} (e : Same G H) (h : DRep K G H v (.tup ds)) : ∃ a vs, v = .ref a ∧ SqT K G a vs ∧ SqT K H a vs ∧ RepA K G vs ds := by
  rcases h with h | ⟨a, o, rfl, e, _⟩
  · cases h with
    | tup h1 h2 => exact ⟨_, _, rfl, h1, smTup e h1, h2⟩
  · cases o <;> cases e
theorem DRep.lst {ds : List D} (e : Same G H) (h : DRep K G H v (.lst ds)) : ∃ a vs, v = .ref a ∧ H a = some (.lst vs) ∧ RepA K G vs ds := by
  rcases h with h | ⟨a, o, rfl, e2, h⟩
  · cases h with
    | lst h1 h2 => exact ⟨_, _, rfl, e _ _ h1, h2⟩
  · cases o with
    | lst ds' =>
      cases e2
      obtain ⟨vs, h1, h2⟩ := h
      exact ⟨a, vs, rfl, h1, h2⟩
    | ins C ks ds' => cases e2
theorem DRep.scr {ds : List D} (e : Same G H) (h : DRep K G H v (.scr ds)) : ∃ a vs, v = .ref a ∧ SqL K H a vs ∧ RepA K G vs ds := by
  rcases h with h | ⟨a, o, rfl, e2, h⟩
  · cases h with
    | scr h1 h2 => exact ⟨_, _, rfl, smLst e h1, h2⟩
  · cases o <;> cases e2
theorem DRep.ins {C : Addr} {ks : List Str} {ds : List D} (e : Same G H) (h : DRep K G H v (.ins C ks ds)) : ∃ a dx fs, v = .ref a ∧ H a = some (.ins C dx fs) ∧ fs.map (·.1) = ks ∧ RepA K G (fs.map (·.2)) ds := by
  rcases h with h | ⟨a, o, rfl, e2, h⟩
  · cases h with
    | ins h1 h2 h3 => exact ⟨_, _, _, rfl, e _ _ h1, h2, h3⟩
  · cases o with
    | lst ds' => cases e2
    | ins C' ks' ds' =>
      cases e2
      obtain ⟨dx, fs, h1, h2, h3⟩ := h
      exact ⟨a, dx, fs, rfl, h1, h2, h3⟩
end

/-! ### readings and what they mean to data -/
abbrev Rel (β α : Type) := Fm → Hp → Hp → L2.St → En → β → α → Prop
def Wants {α β : Type} (K : Fg) (E : XK) (rel : Rel β α) (F : Fm) (G : Hp) (σ : L2.St) (Q : β → Hp → Prop) : Res α → Prop
  | .ok a ρ' => ∀ b G' H', Rl K F G' H' σ ρ' → Same G G' → rel F G' H' σ ρ' b a → Q b H'
  | .err x ρ' => ∀ c od G' H', Rl K F G' H' σ ρ' → Same G G' → XRep K G' H' c od x → E c od H'
  | .stuck => False
def LG {α β : Type} (K : Fg) (E : XK) (rel : Rel β α) (t : L2.St → Hp → (β → Hp → Prop) → Prop) (T : En → Res α) : Prop :=
  ∀ (F : Fm) (G H : Hp) (σ : L2.St) (ρ : En) (Q : β → Hp → Prop), Rl K F G H σ ρ → Wants K E rel F G σ Q (T ρ) → t σ H Q
abbrev LE (K : Fg) (E : XK) (t : TE) (T : En → Res X) : Prop := LG K E (RepX K) t T
abbrev LA (K : Fg) (E : XK) (t : TA) (T : En → Res (List X)) : Prop := LG K E (RepXs K) t T
abbrev LT (K : Fg) (E : XK) (t : TT) (T : En → Res Bool) : Prop := LG K E (fun _ _ _ _ _ b a => b = a) t T
section
variable {α β γ δ : Type} {K : Fg} {E : XK} {F : Fm} {G G' H H' : Hp} {σ : L2.St} {ρ ρ' : En}
theorem Wants.mono {rel : Rel β α} {Q : β → Hp → Prop} {r : Res α} (e : Same G G') (h : Wants K E rel F G σ Q r) : Wants K E rel F G' σ Q r := by
  cases r with
  | ok a ρ' => exact fun b G2 H2 R s q => h b G2 H2 R (e.trans s) q
  | err x ρ' => exact fun c od G2 H2 R s q => h c od G2 H2 R (e.trans s) q
  | stuck => exact h
theorem Wants.bind {rel : Rel β α} {rel2 : Rel δ γ} {Q : δ → Hp → Prop} {Q1 : β → Hp → Prop} {r : Res α} {U : α → En → Res γ} (h : Wants K E rel2 F G σ Q (r.bind U))
    (k : ∀ b a G' H' ρ', Rl K F G' H' σ ρ' → Same G G' → rel F G' H' σ ρ' b a → Wants K E rel2 F G' σ Q (U a ρ') → Q1 b H') : Wants K E rel F G σ Q1 r := by
  cases r with
  | ok a ρ' => exact fun b G2 H2 R s q => k b a G2 H2 ρ' R s q (Wants.mono s h)
  | err x ρ' => exact h
  | stuck => exact h
theorem LG.bind {rel : Rel β α} {rel2 : Rel δ γ} {t : L2.St → Hp → (β → Hp → Prop) → Prop} {T : En → Res α} {k : β → L2.St → Hp → (δ → Hp → Prop) → Prop} {U : α → En → Res γ} (h : LG K E rel t T)
    (h2 : ∀ F G H σ ρ b a Q, Rl K F G H σ ρ → rel F G H σ ρ b a → Wants K E rel2 F G σ Q (U a ρ) → k b σ H Q) : LG K E rel2 (fun σ H Q => t σ H fun b H1 => k b σ H1 Q) (fun ρ => (T ρ).bind U) := by
  intro F G H σ ρ Q R w
  exact h F G H σ ρ _ R (w.bind fun b a G' H' ρ' R' s q w' => h2 F G' H' σ ρ' b a Q R' q w')
/-- what ends here -/
theorem Wants.lift {rel : Rel β α} {Q : β → Hp → Prop} {o : Option α} (h : Wants K E rel F G σ Q (lift o ρ)) : ∃ a, o = some a ∧ ∀ b G' H', Rl K F G' H' σ ρ → Same G G' → rel F G' H' σ ρ b a → Q b H' := by
  cases o with
  | none => exact h.elim
  | some a => exact ⟨a, rfl, h⟩
end

/-! ### names, constants -/
def dVar (i : Nat) : En → Res X := fun ρ => match ρ[i]? with
  | some (.val d) => .ok (.val d) ρ
  | some (.own _) | some (.bor _) | some (.lck _) => .ok (.own i) ρ
  | _ => .stuck
def dC (d : D) : En → Res X := fun ρ => .ok (.val d) ρ
section
variable {K : Fg} {E : XK}
theorem L_var {i : Nat} : LE K E (tVar i) (dVar i) := by
  intro F G H σ ρ Q R w
  unfold dVar at w
  cases e : ρ[i]? with
  | none => rw [e] at w; exact w.elim
  | some s =>
    rw [e] at w
    cases s with
    | none => exact w.elim
    | val d =>
      obtain ⟨v, h1, h2⟩ := R.val e
      exact ⟨v, h1, w v G H R (Same.refl G) h2⟩
    | own o =>
      obtain ⟨a, h1, _⟩ := R.own e
      exact ⟨_, h1, w _ G H R (Same.refl G) h1⟩
    | bor o =>
      obtain ⟨a, h1, _⟩ := R.bor e
      exact ⟨_, h1, w _ G H R (Same.refl G) h1⟩
    | lck o =>
      obtain ⟨x, h1, a, u, rfl, _⟩ := R.sl i _ e
      exact ⟨_, h1, w _ G H R (Same.refl G) h1⟩
theorem L_c {v : V} {d : D} (h : ∀ G, Rep K G v d) : LE K E (tC v) (dC d) := fun F G H σ ρ Q R w => w v G H R (Same.refl G) (h G)
theorem L_int {i : Int} : LE K E (tC (.int i)) (dC (.int i)) := L_c fun _ => .int i
theorem L_bl {b : Bool} : LE K E (tC (.bl b)) (dC (.bl b)) := L_c fun _ => .bl b
theorem L_str {z : Str} : LE K E (tC (.str z)) (dC (.str z)) := L_c fun _ => .str z
theorem L_non : LE K E (tC .non) (dC .non) := L_c fun _ => .non
end

/-! ### operators -/
abbrev D2 := D → D → Option X
def OpS (K : Fg) (r : R2) (op : D2) : Prop := ∀ (F : Fm) (G H : Hp) (σ : L2.St) (ρ : En) (x y : V) (d e : D) (z : X) (Q : VK), Rl K F G H σ ρ → DRep K G H x d → DRep K G H y e → op d e = some z →
  (∀ v G' H', Rl K F G' H' σ ρ → Same G G' → RepX K F G' H' σ ρ v z → Q v H') → r x y H Q
@[simp] def ap2 (op : D2) (a b : X) (ρ : En) : Res X := match deref ρ a, deref ρ b with
  | some d, some e => lift (op d e) ρ
  | _, _ => .stuck
def dBin (op : D2) (A B : En → Res X) : En → Res X := fun ρ => (A ρ).bind fun a ρ1 => (B ρ1).bind fun b ρ2 => ap2 op a.settle b ρ2
section
variable {K : Fg} {E : XK} {r r' : R2} {op op' : D2} {ta tb tc : TE} {A B C : En → Res X}
theorem ap2_run {F : Fm} {G H : Hp} {σ : L2.St} {ρ : En} {Q : VK} {x y : V} {a b : X} (hr : OpS K r op) (R : Rl K F G H σ ρ) (hx : RepX K F G H σ ρ x a) (hy : RepX K F G H σ ρ y b) (w : Wants K E (RepX K) F G σ Q (ap2 op a b ρ)) : r x y H Q := by
  unfold ap2 at w
  cases e1 : deref ρ a with
  | none => rw [e1] at w; exact w.elim
  | some d =>
    cases e2 : deref ρ b with
    | none => rw [e1, e2] at w; exact w.elim
    | some e =>
      rw [e1, e2] at w
      obtain ⟨z, ez, q⟩ := w.lift
      exact hr F G H σ ρ x y d e z Q R (R.deref hx e1) (R.deref hy e2) ez q
theorem L_bin (hr : OpS K r op) (ha : LE K E ta A) (hb : LE K E tb B) : LE K E (tOp r ta tb) (dBin op A B) := by
  refine LG.bind (k := fun x σ H Q => tb σ H fun y H2 => r x y H2 Q) ha fun F G H σ ρ x a Q R hx w => ?_
  obtain ⟨G1, R1, s1, hx1⟩ := R.settle hx
  refine hb F G1 H σ ρ _ R1 ((w.mono s1).bind fun y b G2 H2 ρ2 R2 s2 hy w2 => ?_)
  exact ap2_run hr R2 (hx1.keep settle_no s2) hy w2
theorem OpS.or {op1 op2 : D2} (h1 : OpS K r op1) (h2 : OpS K r' op2) : OpS K (fun x y H Q => r x y H Q ∨ r' x y H Q) fun d e => (op1 d e).orElse fun _ => op2 d e := by
  intro F G H σ ρ x y d e z Q R hx hy ez q
  have ez : (op1 d e).orElse (fun _ => op2 d e) = some z := ez
  cases e1 : op1 d e with
  | some z' =>
    rw [e1] at ez
    cases ez
    exact .inl (h1 F G H σ ρ x y d e _ Q R hx hy e1 q)
  | none =>
    rw [e1] at ez
    exact .inr (h2 F G H σ ρ x y d e z Q R hx hy ez q)
@[simp] def opI (g : Int → Int → D) : D2
  | .int i, .int j => some (.val (g i j))
  | _, _ => none
open Classical in
@[simp] noncomputable def opIC (C : Int → Int → Prop) (g : Int → Int → D) : D2
  | .int i, .int j => if C i j then some (.val (g i j)) else none
  | _, _ => none
theorem S_I0 {g : Int → Int → V} {g' : Int → Int → D} (hg : ∀ i j G, Rep K G (g i j) (g' i j)) : OpS K (rI0 g) (opI g') := by
  intro F G H σ ρ x y d e z Q R hx hy ez q
  cases d <;> cases e <;> first | cases ez | skip
  exact ⟨_, _, hx.int, hy.int, q _ G H R (Same.refl G) (hg _ _ G)⟩
theorem S_IC {C : Int → Int → Prop} {g : Int → Int → V} {g' : Int → Int → D} (hg : ∀ i j G, Rep K G (g i j) (g' i j)) : OpS K (rI C g) (opIC C g') := by
  intro F G H σ ρ x y d e z Q R hx hy ez q
  cases d <;> cases e <;> first | cases ez | skip
  simp only [opIC] at ez
  split at ez
  · rename_i hc
    cases ez
    exact ⟨_, _, hx.int, hy.int, hc, q _ G H R (Same.refl G) (hg _ _ G)⟩
  · cases ez
end
end DL

set_option Elab.async false
set_option linter.all false
set_option maxRecDepth 100000
set_option maxHeartbeats 2000000
/-! the data layer: operators, subscripts, built-in functions -/
namespace DL
open PySem PySem.Spec PyProof.Rows L2 DD
/-! ### as the library's data -/
mutual
def D.py : D → Option PyData
  | .non => some .none
  | .bl b => some (.bool b)
  | .int i => some (.int i)
  | .str x => some (.str x)
  | .tup ds => (D.pyA ds).map PyData.tuple
  | .lst ds => (D.pyA ds).map PyData.list
  | .scr ds => (D.pyA ds).map PyData.list
  | .ins .. | .cls _ => none
def D.pyA : List D → Option (List PyData)
  | [] => some []
  | d :: ds => match D.py d, D.pyA ds with
    | some p, some ps => some (p :: ps)
    | _, _ => none
end
theorem pyA_cons {d : D} {ds : List D} {ps : List PyData} (h : D.pyA (d :: ds) = some ps) : ∃ p r, ps = p :: r ∧ d.py = some p ∧ D.pyA ds = some r := by
  simp only [D.pyA] at h
  cases e1 : d.py with
  | none => rw [e1] at h; cases h
  | some p =>
    cases e2 : D.pyA ds with
    | none => rw [e1, e2] at h; cases h
    | some r => rw [e1, e2] at h; cases h; exact ⟨p, r, rfl, rfl, rfl⟩
section
variable {K : Fg} {H : Hp}
mutual
theorem Rep.dp : ∀ {v : V} {d : D} {p : PyData}, Rep K H v d → d.py = some p → Dp K H v p
  | _, _, _, .non, e => by cases e; exact .non
  | _, _, _, .bl b, e => by cases e; exact .bl b
  | _, _, _, .int i, e => by cases e; exact .int i
  | _, _, _, .str x, e => by cases e; exact .str x
  | _, .tup ds, _, .tup h r, e => by
    simp only [D.py] at e
    cases e2 : D.pyA ds with
    | none => rw [e2] at e; cases e
    | some ps => rw [e2] at e; cases e; exact .tup h (RepA.dp r e2)
  | _, .lst ds, _, .lst h r, e => by
    simp only [D.py] at e
    cases e2 : D.pyA ds with
    | none => rw [e2] at e; cases e
    | some ps => rw [e2] at e; cases e; exact .lst (.inl (.inl h)) (RepA.dp r e2)
  | _, .scr ds, _, .scr h r, e => by
    simp only [D.py] at e
    cases e2 : D.pyA ds with
    | none => rw [e2] at e; cases e
    | some ps => rw [e2] at e; cases e; exact .lst h (RepA.dp r e2)
  | _, _, _, .ins _ _ _, e => by cases e
  | _, _, _, .cls _, e => by cases e
theorem RepA.dp : ∀ {vs : List V} {ds : List D} {ps : List PyData}, RepA K H vs ds → D.pyA ds = some ps → DpAll K H vs ps
  | _, _, _, .nil, e => by cases e; exact .nil
  | _, d :: ds, _, .cons h r, e => by
    obtain ⟨p, r', rfl, e1, e2⟩ := pyA_cons e
    exact .cons (Rep.dp h e1) (RepA.dp r e2)
end
end
/-! ### + - * // % ** -/
section
variable {K : Fg}
theorem S_add : OpS K (rI0 fun i j => .int (i + j)) (opI fun i j => .int (i + j)) := S_I0 fun _ _ _ => .int _
theorem S_sub : OpS K (rI0 fun i j => .int (i - j)) (opI fun i j => .int (i - j)) := S_I0 fun _ _ _ => .int _
theorem S_mul : OpS K (rI CMul fun i j => .int (i * j)) (opIC CMul fun i j => .int (i * j)) := S_IC fun _ _ _ => .int _
theorem S_fdiv : OpS K (rI CDiv fun i j => .int (i / j)) (opIC CDiv fun i j => .int (i / j)) := S_IC fun _ _ _ => .int _
theorem S_mod : OpS K (rI (fun _ j => 0 < j) fun i j => .int (i % j)) (opIC (fun _ j => 0 < j) fun i j => .int (i % j)) := S_IC fun _ _ _ => .int _
theorem S_pow : OpS K (rI CPow fun i j => .int (i ^ j.toNat)) (opIC CPow fun i j => .int (i ^ j.toNat)) := S_IC fun _ _ _ => .int _
theorem S_lt : OpS K (rI0 fun i j => .bl (decide (i < j))) (opI fun i j => .bl (decide (i < j))) := S_I0 fun _ _ _ => .bl _
theorem S_le : OpS K (rI0 fun i j => .bl (decide (i ≤ j))) (opI fun i j => .bl (decide (i ≤ j))) := S_I0 fun _ _ _ => .bl _
theorem S_gt : OpS K (rI0 fun i j => .bl (decide (j < i))) (opI fun i j => .bl (decide (j < i))) := S_I0 fun _ _ _ => .bl _
theorem S_ge : OpS K (rI0 fun i j => .bl (decide (j ≤ i))) (opI fun i j => .bl (decide (j ≤ i))) := S_I0 fun _ _ _ => .bl _
def rAddS : R2 := fun x y H Q => ∃ i j, x = .str i ∧ y = .str j ∧ i.length + j.length ≤ sizeLine ∧ Q (.str (i ++ j)) H
def opAddS : D2
  | .str i, .str j => if i.length + j.length ≤ sizeLine then some (.val (.str (i ++ j))) else none
  | _, _ => none
theorem S_addS : OpS K rAddS opAddS := by
  intro F G H σ ρ x y d e z Q R hx hy ez q
  cases d <;> cases e <;> first | cases ez | skip
  simp only [opAddS] at ez
  split at ez
  · rename_i hc
    cases ez
    exact ⟨_, _, hx.str, hy.str, hc, q _ G H R (Same.refl G) (.str _)⟩
  · cases ez
def opAddT : D2
  | .tup ds, .tup es => if ds.length + es.length ≤ sizeLine then some (.val (.tup (ds ++ es))) else none
  | _, _ => none
theorem S_addT : OpS K (rCatA K) opAddT := by
  intro F G H σ ρ x y d e z Q R hx hy ez q
  cases d <;> cases e <;> first | cases ez | skip
  rename_i ds es
  simp only [opAddT] at ez
  split at ez
  · rename_i hc
    cases ez
    obtain ⟨a, xs, rfl, g1, h1, r1⟩ := hx.tup R.gh
    obtain ⟨b, ys, rfl, g2, h2, r2⟩ := hy.tup R.gh
    refine ⟨a, b, xs, ys, rfl, rfl, h1, h2, by rw [r1.len, r2.len]; exact hc, fun e => ?_, fun _ e => ?_, fun _ _ p np => ?_⟩
    · subst e
      cases r1
      exact q _ G H R (Same.refl G) (.tup g2 r2)
    · subst e
      cases r2
      rw [List.append_nil] at q
      exact q _ G H R (Same.refl G) (.tup g1 r1)
    · have gp := R.freshG np
      exact q _ _ _ (R.add np) (smNew gp) (.tup (.inl (.inl upd_same)) ((r1.app r2).mono (smNew gp)))
  · cases ez
/-- a new list -/
theorem newL {F : Fm} {G H : Hp} {σ : L2.St} {ρ : En} {p : Addr} {vs : List V} {ds : List D} (R : Rl K F G H σ ρ) (np : H p = none) (r : RepA K G vs ds) : Rl K F G (upd H p (.lst vs)) σ ρ ∧ RepX K F G (upd H p (.lst vs)) σ ρ (.ref p) (.new (.lst ds)) := by
  refine ⟨R.laid np, p, rfl, R.fresh np, R.freshG np, ⟨vs, upd_same, r⟩, fun j u hj z => ?_⟩
  obtain ⟨b, h1, _, _, h4⟩ := R.own hj
  rw [h1] at z
  cases z
  obtain ⟨u, e⟩ := h4.ex
  rw [np] at e
  cases e
theorem newT {F : Fm} {G H : Hp} {σ : L2.St} {ρ : En} {p : Addr} {vs : List V} {ds : List D} (R : Rl K F G H σ ρ) (np : H p = none) (r : RepA K G vs ds) : Rl K F (upd G p (.tup vs)) (upd H p (.tup vs)) σ ρ ∧ Same G (upd G p (.tup vs)) ∧ Rep K (upd G p (.tup vs)) (.ref p) (.tup ds) :=
  ⟨R.add np, smNew (R.freshG np), .tup (.inl (.inl upd_same)) (r.mono (smNew (R.freshG np)))⟩
def opAddL : D2
  | .lst ds, .lst es => if ds.length + es.length ≤ sizeLine then some (.new (.lst (ds ++ es))) else none
  | _, _ => none
theorem S_addL : OpS K rCat opAddL := by
  intro F G H σ ρ x y d e z Q R hx hy ez q
  cases d <;> cases e <;> first | cases ez | skip
  rename_i ds es
  simp only [opAddL] at ez
  split at ez
  · rename_i hc
    cases ez
    obtain ⟨a, xs, rfl, h1, r1⟩ := hx.lst R.gh
    obtain ⟨b, ys, rfl, h2, r2⟩ := hy.lst R.gh
    refine ⟨a, b, xs, ys, rfl, rfl, h1, h2, by rw [r1.len, r2.len]; exact hc, fun p np => ?_⟩
    obtain ⟨R', x'⟩ := newL R np (r1.app r2)
    exact q _ _ _ R' (Same.refl G) x'
  · cases ez
def rAdd4 (K : Fg) : R2 := fun x y H Q => rI0 (fun i j => .int (i + j)) x y H Q ∨ rAddS x y H Q ∨ rCatA K x y H Q ∨ rCat x y H Q
@[simp] def opAdd : D2
  | .int i, .int j => some (.val (.int (i + j)))
  | .str i, .str j => if i.length + j.length ≤ sizeLine then some (.val (.str (i ++ j))) else none
  | .tup ds, .tup es => if ds.length + es.length ≤ sizeLine then some (.val (.tup (ds ++ es))) else none
  | .lst ds, .lst es => if ds.length + es.length ≤ sizeLine then some (.new (.lst (ds ++ es))) else none
  | _, _ => none
theorem S_add4 : OpS K (rAdd4 K) opAdd := by
  intro F G H σ ρ x y d e z Q R hx hy ez q
  cases d <;> cases e <;> first | cases ez | skip
  · exact .inl (S_add F G H σ ρ x y _ _ _ Q R hx hy rfl q)
  · exact .inr (.inl (S_addS F G H σ ρ x y _ _ _ Q R hx hy ez q))
  · exact .inr (.inr (.inl (S_addT F G H σ ρ x y _ _ _ Q R hx hy ez q)))
  · exact .inr (.inr (.inr (S_addL F G H σ ρ x y _ _ _ Q R hx hy ez q)))
end
theorem OpRor {X : Cx} {f : Value → Value → Sem Value} {r r' : R2} (h : OpR X f r) (h' : OpR X f r') : OpR X f (fun x y H Q => r x y H Q ∨ r' x y H Q) := by
  intro pins s σ H x y v u Q I rx ry q
  rcases q with q | q
  · exact h pins s σ H x y v u Q I rx ry q
  · exact h' pins s σ H x y v u Q I rx ry q
theorem op_add4 {X : Cx} {K : Fg} (h : X.K = K := by rfl) : OpR X (binaryOp .Add) (rAdd4 K) := h ▸ OpRor op_add (OpRor op_add_str (OpRor op_catA op_cat))

/-! ### == != < in is -/
section
variable {K : Fg}
/-- == -/
def eqB : D → D → Option Bool
  | .str x, .str y => some (decide (x = y))
  | .int x, .int y => some (decide (x = y))
  | .bl x, .bl y => some (decide (x = y))
  | .non, .non => some true
  | d, e => match d.py, e.py with
    | some p, some q => if SeqAt.shaped p = true ∧ SeqAt.shaped q = true then some (PyData.eqv p q) else none
    | _, _ => match d, e with
      | .lst ds, .lst es => if ds.length = es.length then none else some false
      | _, _ => none
@[simp] def opEq : D2 := fun d e => (eqB d e).map fun b => .val (.bl b)
@[simp] def opNe : D2 := fun d e => (eqB d e).map fun b => .val (.bl !b)
def rEqL (K : Fg) : R2 := fun x y H Q => ∃ a b xs ys, x = .ref a ∧ y = .ref b ∧ SqL K H a xs ∧ SqL K H b ys ∧ xs.length ≠ ys.length ∧ Q (.bl false) H
def rNeL (K : Fg) : R2 := fun x y H Q => ∃ a b xs ys, x = .ref a ∧ y = .ref b ∧ SqL K H a xs ∧ SqL K H b ys ∧ xs.length ≠ ys.length ∧ Q (.bl true) H
theorem isL_of {h : Heap} {a : Addr} {vs : Array Value} (p : PlainL h a vs) : h.IsList a vs := by
  obtain ⟨o, n, h1, h2, h3, h4⟩ := p
  exact ⟨o, h1, h2, n, h4⟩
theorem op_eqL {X : Cx} (hu : X.A.units + 64 < cLine) : OpR X (compareOp .Eq) (rEqL X.K) := by
  intro pins s σ H x y v u Q I rx ry h
  obtain ⟨a, b, xs, ys, rfl, rfl, ha, hb, hn, q⟩ := h
  cases (show v = Value.ref a from rx)
  cases (show u = Value.ref b from ry)
  obtain ⟨is, ra, pa, _⟩ := I.list ha
  obtain ⟨js, rb, pb, _⟩ := I.list hb
  have l1 := ra.length
  have l2 := rb.length
  exact SeqAt.eq_list_lengthsAt (isL_of pa) (isL_of pb) (by simp; omega) (by omega) ⟨.bl false, H, I, rfl, q⟩
theorem op_neL {X : Cx} (hu : X.A.units + 64 < cLine) : OpR X (compareOp .NotEq) (rNeL X.K) := by
  intro pins s σ H x y v u Q I rx ry h
  obtain ⟨a, b, xs, ys, rfl, rfl, ha, hb, hn, q⟩ := h
  cases (show v = Value.ref a from rx)
  cases (show u = Value.ref b from ry)
  obtain ⟨is, ra, pa, _⟩ := I.list ha
  obtain ⟨js, rb, pb, _⟩ := I.list hb
  have l1 := ra.length
  have l2 := rb.length
  exact SeqAt.RcNeAt.lists_lengths (isL_of pa) (isL_of pb) (by simp; omega) (by omega) _ _ _ _ ⟨.bl true, H, I, rfl, q⟩
def rEq2 (K : Fg) : R2 := fun x y H Q => rEq x y H Q ∨ rEqD K x y H Q ∨ rEqL K x y H Q
def rNe2 (K : Fg) : R2 := fun x y H Q => rNe x y H Q ∨ rNeD K x y H Q ∨ rNeL K x y H Q
theorem S_eqB {F : Fm} {G H : Hp} {σ : L2.St} {ρ : En} {x y : V} {d e : D} {b : Bool} (R : Rl K F G H σ ρ) (hx : DRep K G H x d) (hy : DRep K G H y e) (ez : eqB d e = some b) :
    (scal x y = true ∧ decide (x = y) = b) ∨ (∃ p q, Dp K H x p ∧ Dp K H y q ∧ SeqAt.shaped p = true ∧ SeqAt.shaped q = true ∧ PyData.eqv p q = b) ∨ ∃ a b' xs ys, x = .ref a ∧ y = .ref b' ∧ SqL K H a xs ∧ SqL K H b' ys ∧ xs.length ≠ ys.length ∧ b = false := by
  unfold eqB at ez
  split at ez
  · cases ez
    obtain rfl := hx.str
    obtain rfl := hy.str
    exact .inl ⟨rfl, by simp⟩
  · cases ez
    obtain rfl := hx.int
    obtain rfl := hy.int
    exact .inl ⟨rfl, by simp⟩
  · cases ez
    obtain rfl := hx.bl
    obtain rfl := hy.bl
    exact .inl ⟨rfl, by simp⟩
  · cases ez
    obtain rfl := hx.non
    obtain rfl := hy.non
    exact .inl ⟨rfl, rfl⟩
  · split at ez
    · rename_i p q' e1 e2
      split at ez
      · rename_i hc
        cases ez
        exact .inr (.inl ⟨p, q', (hx.rep R.gh).dp e1, (hy.rep R.gh).dp e2, hc.1, hc.2, rfl⟩)
      · cases ez
    · split at ez
      · split at ez
        · cases ez
        · rename_i hl
          cases ez
          obtain ⟨a, xs, rfl, ha, ra⟩ := hx.lst R.gh
          obtain ⟨b', ys, rfl, hb, rb⟩ := hy.lst R.gh
          exact .inr (.inr ⟨a, b', xs, ys, rfl, rfl, .inl (.inl ha), .inl (.inl hb), by rw [ra.len, rb.len]; exact hl, rfl⟩)
      · cases ez
theorem S_eq : OpS K (rEq2 K) opEq := by
  intro F G H σ ρ x y d e z Q R hx hy ez q
  simp only [opEq, Option.map_eq_some_iff] at ez
  obtain ⟨b, eb, rfl⟩ := ez
  rcases S_eqB R hx hy eb with ⟨h1, rfl⟩ | ⟨p, q', h1, h2, h3, h4, rfl⟩ | ⟨a, b', xs, ys, h1, h2, h3, h4, h5, rfl⟩
  · exact .inl ⟨h1, q _ G H R (Same.refl G) (.bl _)⟩
  · exact .inr (.inl ⟨p, q', h1, h2, h3, h4, q _ G H R (Same.refl G) (.bl _)⟩)
  · exact .inr (.inr ⟨a, b', xs, ys, h1, h2, h3, h4, h5, q _ G H R (Same.refl G) (.bl _)⟩)
theorem S_ne : OpS K (rNe2 K) opNe := by
  intro F G H σ ρ x y d e z Q R hx hy ez q
  simp only [opNe, Option.map_eq_some_iff] at ez
  obtain ⟨b, eb, rfl⟩ := ez
  rcases S_eqB R hx hy eb with ⟨h1, rfl⟩ | ⟨p, q', h1, h2, h3, h4, rfl⟩ | ⟨a, b', xs, ys, h1, h2, h3, h4, h5, rfl⟩
  · exact .inl ⟨h1, q _ G H R (Same.refl G) (.bl _)⟩
  · exact .inr (.inl ⟨p, q', h1, h2, h3, h4, q _ G H R (Same.refl G) (.bl _)⟩)
  · exact .inr (.inr ⟨a, b', xs, ys, h1, h2, h3, h4, h5, q _ G H R (Same.refl G) (.bl _)⟩)
def opLtD : D2 := fun d e => match d.py, e.py with
  | some p, some q => if PySem.W.alike p q = true ∧ p.depth ≤ 60 then some (.val (.bl (PySem.W.dataLt p q))) else none
  | _, _ => none
def rLt2 (K : Fg) : R2 := fun x y H Q => rI0 (fun i j => .bl (decide (i < j))) x y H Q ∨ rLtD K x y H Q
@[simp] def opLt : D2
  | .int i, .int j => some (.val (.bl (decide (i < j))))
  | .tup ds, .tup es => opLtD (.tup ds) (.tup es)
  | .str x, .str y => opLtD (.str x) (.str y)
  | _, _ => none
theorem S_ltD {ds es : D} (hn : ds.py ≠ some .none) {F : Fm} {G H : Hp} {σ : L2.St} {ρ : En} {x y : V} {z : X} {Q : VK} (R : Rl K F G H σ ρ) (hx : DRep K G H x ds) (hy : DRep K G H y es) (ez : opLtD ds es = some z)
    (q : ∀ v G' H', Rl K F G' H' σ ρ → Same G G' → RepX K F G' H' σ ρ v z → Q v H') : rLtD K x y H Q := by
  simp only [opLtD] at ez
  split at ez
  · rename_i p q' e1 e2
    split at ez
    · rename_i hc
      cases ez
      exact ⟨p, q', (hx.rep R.gh).dp e1, (hy.rep R.gh).dp e2, hc.1, fun z => hn (by rw [e1, z]), by omega, q _ G H R (Same.refl G) (.bl _)⟩
    · cases ez
  · cases ez
theorem S_lt2 : OpS K (rLt2 K) opLt := by
  intro F G H σ ρ x y d e z Q R hx hy ez q
  cases d <;> cases e <;> first | (cases ez; done) | skip
  · exact .inl (S_lt F G H σ ρ x y _ _ _ Q R hx hy ez q)
  · exact .inr (S_ltD (fun z => by cases z) R hx hy ez q)
  · refine .inr (S_ltD (fun z => ?_) R hx hy ez q)
    simp only [D.py] at z
    rename_i ds _
    cases e2 : D.pyA ds with
    | none => rw [e2] at z; cases z
    | some ps => rw [e2] at z; cases z
end
theorem op_eq2 {X : Cx} {K : Fg} (hu : X.A.units + 64 < cLine) (h : X.K = K := by rfl) : OpR X (compareOp .Eq) (rEq2 K) := h ▸ OpRor op_eq (OpRor (op_eqD hu) (op_eqL hu))
theorem op_ne2 {X : Cx} {K : Fg} (hu : X.A.units + 64 < cLine) (h : X.K = K := by rfl) : OpR X (compareOp .NotEq) (rNe2 K) := h ▸ OpRor op_ne (OpRor (op_neD hu) (op_neL hu))
theorem op_lt2 {X : Cx} {K : Fg} (hu : X.A.units + 64 < cLine) (h : X.K = K := by rfl) : OpR X (compareOp .Lt) (rLt2 K) := h ▸ OpRor op_lt (op_ltD hu)
/-! in -/
@[simp] def D.flat : D → Bool
  | .non | .bl _ | .int _ | .str _ => true
  | _ => false
@[simp] def D.items : D → Option (List D)
  | .tup ds | .lst ds | .scr ds => some ds
  | _ => none
def pyEq (d e : D) : Bool := match d.py, e.py with
  | some p, some q => PyData.eqv p q
  | _, _ => false
def inD (d : D) (es : List D) : Bool := es.any fun e => pyEq e d
section
variable {K : Fg} {G : Hp}
theorem flat_rep {v : V} {d : D} (h : Rep K G v d) (f : d.flat = true) : flatV v = true := by
  cases h <;> first | rfl | cases f
theorem flat_eq {v w : V} {d e : D} (h : Rep K G v d) (h' : Rep K G w e) (f : d.flat = true) (f' : e.flat = true) : eqV v w = pyEq d e := by
  cases h <;> first | (cases f; done) | skip
  all_goals (cases h' <;> first | (cases f'; done) | rfl)
theorem flat_all : ∀ {vs : List V} {ds : List D}, RepA K G vs ds → ds.all D.flat = true → vs.all flatV = true
  | _, _, .nil, _ => rfl
  | _, _, .cons h r, f => by
    rw [List.all_cons, Bool.and_eq_true] at f
    rw [List.all_cons, flat_rep h f.1, flat_all r f.2]
    rfl
theorem flat_in {w : V} {e : D} (h' : Rep K G w e) (f' : e.flat = true) : ∀ {vs : List V} {ds : List D}, RepA K G vs ds → ds.all D.flat = true → inV w vs = inD e ds
  | _, _, .nil, _ => rfl
  | _, _, .cons h r, f => by
    rw [List.all_cons, Bool.and_eq_true] at f
    have := flat_in h' f' r f.2
    unfold inV inD at this ⊢
    rw [List.any_cons, List.any_cons, flat_eq h h' f.1 f', this]
end
def opInB (d e : D) : Option Bool := match e.items with
  | some es => if d.flat = true ∧ es.all D.flat = true then some (inD d es) else
    match e, d.py, D.pyA es with
    | .lst _, some p, some ps => if SeqAt.shaped p = true ∧ SeqAt.shaped (.list ps) = true then some (ps.any fun z => PyData.eqv z p) else none
    | .tup _, some p, some ps => if SeqAt.shaped p = true ∧ SeqAt.shaped (.tuple ps) = true then some (ps.any fun z => PyData.eqv z p) else none
    | _, _, _ => none
  | none => none
@[simp] def opIn : D2 := fun d e => (opInB d e).map fun b => .val (.bl b)
@[simp] def opNotIn : D2 := fun d e => (opInB d e).map fun b => .val (.bl !b)
def rInDT (K : Fg) : R2 := fun x y H Q => ∃ d ds, Dp K H x d ∧ Dp K H y (.tuple ds) ∧ SeqAt.shaped d = true ∧ SeqAt.shaped (.tuple ds) = true ∧ Q (.bl (ds.any fun z => PyData.eqv z d)) H
def rNotInDT (K : Fg) : R2 := fun x y H Q => ∃ d ds, Dp K H x d ∧ Dp K H y (.tuple ds) ∧ SeqAt.shaped d = true ∧ SeqAt.shaped (.tuple ds) = true ∧ Q (.bl (!ds.any fun z => PyData.eqv z d)) H
theorem op_inDT {X : Cx} (hu : X.A.units + 65 < cLine) : OpR X (compareOp .In) (rInDT X.K) := by
  intro pins s σ H x y v u Q I rx ry h
  obtain ⟨d, ds, hd, he, sd, se, q⟩ := h
  obtain ⟨as, r1⟩ := Dp.reads I d x v hd rx
  obtain ⟨bs, r2⟩ := Dp.reads I (.tuple ds) y u he ry
  exact SeqAt.in_tuple_reads r2 r1 (SeqAt.canLay_of_shaped se) (SeqAt.canLay_of_shaped sd) (room_in_shaped sd hu) ⟨.bl _, H, I, rfl, q⟩
theorem op_notInDT {X : Cx} (hu : X.A.units + 65 < cLine) : OpR X (compareOp .NotIn) (rNotInDT X.K) := by
  intro pins s σ H x y v u Q I rx ry h
  obtain ⟨d, ds, hd, he, sd, se, q⟩ := h
  obtain ⟨as, r1⟩ := Dp.reads I d x v hd rx
  obtain ⟨bs, r2⟩ := Dp.reads I (.tuple ds) y u he ry
  exact SeqAt.notIn_tuple_reads r2 r1 (SeqAt.canLay_of_shaped se) (SeqAt.canLay_of_shaped sd) (room_in_shaped sd hu) ⟨.bl _, H, I, rfl, q⟩
def rIn2 (K : Fg) : R2 := fun x y H Q => rIn K false x y H Q ∨ rInD K x y H Q ∨ rInDT K x y H Q
def rNotIn2 (K : Fg) : R2 := fun x y H Q => rIn K true x y H Q ∨ rNotInD K x y H Q ∨ rNotInDT K x y H Q
section
variable {K : Fg}
theorem S_inB {F : Fm} {G H : Hp} {σ : L2.St} {ρ : En} {x y : V} {d e : D} {b : Bool} (R : Rl K F G H σ ρ) (hx : DRep K G H x d) (hy : DRep K G H y e) (ez : opInB d e = some b) :
    (∃ p xs, y = .ref p ∧ (SqL K H p xs ∨ SqT K H p xs) ∧ flatV x = true ∧ xs.all flatV = true ∧ inV x xs = b) ∨ (∃ p ps, Dp K H x p ∧ Dp K H y (.list ps) ∧ SeqAt.shaped p = true ∧ SeqAt.shaped (.list ps) = true ∧ (ps.any fun z => PyData.eqv z p) = b) ∨ ∃ p ps, Dp K H x p ∧ Dp K H y (.tuple ps) ∧ SeqAt.shaped p = true ∧ SeqAt.shaped (.tuple ps) = true ∧ (ps.any fun z => PyData.eqv z p) = b := by
  have hx' := hx.rep R.gh
  simp only [opInB] at ez
  split at ez
  · rename_i es he
    split at ez
    · rename_i hc
      cases ez
      left
      cases e <;> simp only [D.items] at he <;> cases he
      · obtain ⟨a, vs, rfl, g, h, r⟩ := hy.tup R.gh
        exact ⟨a, vs, rfl, .inr h, flat_rep hx' hc.1, flat_all r hc.2, flat_in hx' hc.1 (r.mono R.gh) hc.2⟩
      · obtain ⟨a, vs, rfl, h, r⟩ := hy.lst R.gh
        exact ⟨a, vs, rfl, .inl (.inl (.inl h)), flat_rep hx' hc.1, flat_all r hc.2, flat_in hx' hc.1 (r.mono R.gh) hc.2⟩
      · obtain ⟨a, vs, rfl, h, r⟩ := hy.scr R.gh
        exact ⟨a, vs, rfl, .inl h, flat_rep hx' hc.1, flat_all r hc.2, flat_in hx' hc.1 (r.mono R.gh) hc.2⟩
    · right
      split at ez
      · rename_i ds' p ps e1 e2
        split at ez
        · rename_i hc
          injection ez with ez
          subst ez
          obtain rfl : ds' = es := Option.some.inj he
          have e3 : (D.lst ds').py = some (.list ps) := by
            show (D.pyA ds').map PyData.list = _
            rw [e2]
            rfl
          exact .inl ⟨p, ps, hx'.dp e1, (hy.rep R.gh).dp e3, hc.1, hc.2, rfl⟩
        · cases ez
      · rename_i ds' p ps e1 e2
        split at ez
        · rename_i hc
          injection ez with ez
          subst ez
          obtain rfl : ds' = es := Option.some.inj he
          have e3 : (D.tup ds').py = some (.tuple ps) := by
            show (D.pyA ds').map PyData.tuple = _
            rw [e2]
            rfl
          exact .inr ⟨p, ps, hx'.dp e1, (hy.rep R.gh).dp e3, hc.1, hc.2, rfl⟩
        · cases ez
      · cases ez
  · cases ez
theorem S_in : OpS K (rIn2 K) opIn := by
  intro F G H σ ρ x y d e z Q R hx hy ez q
  simp only [opIn, Option.map_eq_some_iff] at ez
  obtain ⟨b, eb, rfl⟩ := ez
  rcases S_inB R hx hy eb with ⟨p, xs, e1, e2, e3, e4, rfl⟩ | ⟨p, ps, e1, e2, e3, e4, rfl⟩ | ⟨p, ps, e1, e2, e3, e4, rfl⟩
  · exact .inl ⟨p, xs, e1, e2, e3, e4, q _ G H R (Same.refl G) (.bl _)⟩
  · exact .inr (.inl ⟨p, ps, e1, e2, e3, e4, q _ G H R (Same.refl G) (.bl _)⟩)
  · exact .inr (.inr ⟨p, ps, e1, e2, e3, e4, q _ G H R (Same.refl G) (.bl _)⟩)
theorem S_notIn : OpS K (rNotIn2 K) opNotIn := by
  intro F G H σ ρ x y d e z Q R hx hy ez q
  simp only [opNotIn, Option.map_eq_some_iff] at ez
  obtain ⟨b, eb, rfl⟩ := ez
  rcases S_inB R hx hy eb with ⟨p, xs, e1, e2, e3, e4, rfl⟩ | ⟨p, ps, e1, e2, e3, e4, rfl⟩ | ⟨p, ps, e1, e2, e3, e4, rfl⟩
  · exact .inl ⟨p, xs, e1, e2, e3, e4, q _ G H R (Same.refl G) (.bl _)⟩
  · exact .inr (.inl ⟨p, ps, e1, e2, e3, e4, q _ G H R (Same.refl G) (.bl _)⟩)
  · exact .inr (.inr ⟨p, ps, e1, e2, e3, e4, q _ G H R (Same.refl G) (.bl _)⟩)
@[simp] def opIsB : D2
  | .bl a, .bl b => some (.val (.bl (decide (a = b))))
  | _, _ => none
@[simp] def opNotB : D2
  | .bl a, .bl b => some (.val (.bl (!decide (a = b))))
  | _, _ => none
theorem S_isB : OpS K rIsB opIsB := by
  intro F G H σ ρ x y d e z Q R hx hy ez q
  cases d <;> cases e <;> first | cases ez | skip
  exact ⟨_, _, hx.bl, hy.bl, q _ G H R (Same.refl G) (.bl _)⟩
theorem S_notB : OpS K rNotB opNotB := by
  intro F G H σ ρ x y d e z Q R hx hy ez q
  cases d <;> cases e <;> first | cases ez | skip
  exact ⟨_, _, hx.bl, hy.bl, q _ G H R (Same.refl G) (.bl _)⟩
end
theorem op_in2 {X : Cx} {K : Fg} (hu : X.A.units + 65 < cLine) (h : X.K = K := by rfl) : OpR X (compareOp .In) (rIn2 K) := h ▸ OpRor op_in_seq (OpRor (op_inD hu) (op_inDT hu))
theorem op_notIn2 {X : Cx} {K : Fg} (hu : X.A.units + 65 < cLine) (h : X.K = K := by rfl) : OpR X (compareOp .NotIn) (rNotIn2 K) := h ▸ OpRor op_notIn_seq (OpRor (op_notInD hu) (op_notInDT hu))
/-! is None -/
@[simp] def D.isNon : D → Bool
  | .non => true
  | _ => false
def dIsN (A : En → Res X) : En → Res X := fun ρ => (A ρ).bind fun a ρ1 => match deref ρ1 a with
  | some d => .ok (.val (.bl d.isNon)) ρ1
  | none => .stuck
def dNotN (A : En → Res X) : En → Res X := fun ρ => (A ρ).bind fun a ρ1 => match deref ρ1 a with
  | some d => .ok (.val (.bl !d.isNon)) ρ1
  | none => .stuck
section
variable {K : Fg} {E : XK} {ta tb tc : TE} {A B C : En → Res X}
theorem isNon_of {G H : Hp} {v : V} {d : D} (h : DRep K G H v d) : decide (v = .non) = d.isNon := by
  rcases h with h | ⟨a, o, rfl, rfl, _⟩
  · cases h <;> rfl
  · cases o <;> rfl
theorem L_isN (ha : LE K E ta A) : LE K E (tIsN ta) (dIsN A) := by
  refine LG.bind (k := fun (x : V) σ H (Q : VK) => Q (.bl (decide (x = V.non))) H) ha fun F G H σ ρ x a Q R hx w => ?_
  cases e : deref ρ a with
  | none => rw [e] at w; exact w.elim
  | some d =>
    rw [e] at w
    rw [isNon_of (R.deref hx e)]
    exact w _ G H R (Same.refl G) (.bl _)
theorem L_notN (ha : LE K E ta A) : LE K E (tNotN ta) (dNotN A) := by
  refine LG.bind (k := fun (x : V) σ H (Q : VK) => Q (.bl (!decide (x = V.non))) H) ha fun F G H σ ρ x a Q R hx w => ?_
  cases e : deref ρ a with
  | none => rw [e] at w; exact w.elim
  | some d =>
    rw [e] at w
    rw [isNon_of (R.deref hx e)]
    exact w _ G H R (Same.refl G) (.bl _)

/-! ### tests, not, and, or, if -/
@[simp] def asB (ρ : En) (a : X) : Option Bool := match deref ρ a with
  | some (.bl b) => some b
  | _ => none
theorem Rl.asB {F : Fm} {G H : Hp} {σ : L2.St} {ρ : En} {v : V} {a : X} {b : Bool} (R : Rl K F G H σ ρ) (hx : RepX K F G H σ ρ v a) (e : asB ρ a = some b) : v = .bl b := by
  unfold DL.asB at e
  cases e2 : DL.deref ρ a with
  | none => rw [e2] at e; cases e
  | some d =>
    rw [e2] at e
    cases d <;> cases e
    exact (R.deref hx e2).bl
def dTest (A : En → Res X) : En → Res Bool := fun ρ => (A ρ).bind fun a ρ1 => lift (asB ρ1 a) ρ1
theorem L_test (ha : LE K E ta A) : LT K E (fun σ H Q => ta σ H fun x H' => ∃ k, x = .bl k ∧ Q k H') (dTest A) := by
  refine LG.bind (k := fun x σ H Q => ∃ k, x = .bl k ∧ Q k H) ha fun F G H σ ρ x a Q R hx w => ?_
  obtain ⟨b, e, q⟩ := w.lift
  exact ⟨b, R.asB hx e, q _ G H R (Same.refl G) rfl⟩
def dNot (A : En → Res X) : En → Res X := fun ρ => (A ρ).bind fun a ρ1 => lift ((asB ρ1 a).map fun b => X.val (.bl !b)) ρ1
theorem L_not (ha : LE K E ta A) : LE K E (tNotV ta) (dNot A) := by
  refine LG.bind (k := fun (x : V) σ H (Q : VK) => ∃ c, x = .bl c ∧ Q (.bl (!c)) H) ha fun F G H σ ρ x a Q R hx w => ?_
  obtain ⟨b, e, q⟩ := w.lift
  rw [Option.map_eq_some_iff] at e
  obtain ⟨c, e, rfl⟩ := e
  exact ⟨c, R.asB hx e, q _ G H R (Same.refl G) (.bl _)⟩
def dAnd (A B : En → Res X) : En → Res X := fun ρ => (A ρ).bind fun a ρ1 => match asB ρ1 a with
  | some true => B ρ1
  | some false => .ok (.val (.bl false)) ρ1
  | none => .stuck
def dOr (A B : En → Res X) : En → Res X := fun ρ => (A ρ).bind fun a ρ1 => match asB ρ1 a with
  | some false => B ρ1
  | some true => .ok (.val (.bl true)) ρ1
  | none => .stuck
theorem L_and (ha : LE K E ta A) (hb : LE K E tb B) : LE K E (tAndV ta tb) (dAnd A B) := by
  refine LG.bind (k := fun x σ H Q => ∃ c, x = .bl c ∧ if c = true then tb σ H Q else Q (.bl false) H) ha fun F G H σ ρ x a Q R hx w => ?_
  cases e : asB ρ a with
  | none => rw [e] at w; exact w.elim
  | some c =>
    rw [e] at w
    refine ⟨c, R.asB hx e, ?_⟩
    cases c with
    | true => exact iteT (hb F G H σ ρ Q R w)
    | false => exact iteF (w _ G H R (Same.refl G) (.bl _))
theorem L_or (ha : LE K E ta A) (hb : LE K E tb B) : LE K E (tOrV ta tb) (dOr A B) := by
  refine LG.bind (k := fun x σ H Q => ∃ c, x = .bl c ∧ if c = true then Q (.bl true) H else tb σ H Q) ha fun F G H σ ρ x a Q R hx w => ?_
  cases e : asB ρ a with
  | none => rw [e] at w; exact w.elim
  | some c =>
    rw [e] at w
    refine ⟨c, R.asB hx e, ?_⟩
    cases c with
    | true => exact iteT (w _ G H R (Same.refl G) (.bl _))
    | false => exact iteF (hb F G H σ ρ Q R w)
variable {t u : TT} {T U : En → Res Bool}
def tnd (T U : En → Res Bool) : En → Res Bool := fun ρ => (T ρ).bind fun a ρ1 => match a with
  | true => U ρ1
  | false => .ok false ρ1
def tor (T U : En → Res Bool) : En → Res Bool := fun ρ => (T ρ).bind fun a ρ1 => match a with
  | true => .ok true ρ1
  | false => U ρ1
def tnot (T : En → Res Bool) : En → Res Bool := fun ρ => (T ρ).bind fun a ρ1 => .ok (!a) ρ1
theorem L_tand (ha : LT K E t T) (hb : LT K E u U) : LT K E (tAnd t u) (tnd T U) := by
  refine LG.bind (k := fun c σ H Q => if c = true then u σ H Q else Q false H) ha fun F G H σ ρ x a Q R hx w => ?_
  subst hx
  cases x with
  | true => exact iteT (hb F G H σ ρ Q R w)
  | false => exact iteF (w _ G H R (Same.refl G) rfl)
theorem L_tor (ha : LT K E t T) (hb : LT K E u U) : LT K E (tOr t u) (tor T U) := by
  refine LG.bind (k := fun c σ H Q => if c = true then Q true H else u σ H Q) ha fun F G H σ ρ x a Q R hx w => ?_
  subst hx
  cases x with
  | true => exact iteT (w _ G H R (Same.refl G) rfl)
  | false => exact iteF (hb F G H σ ρ Q R w)
theorem L_tnot (ha : LT K E t T) : LT K E (tNot t) (tnot T) := by
  refine LG.bind (k := fun c σ H Q => Q (!c) H) ha fun F G H σ ρ x a Q R hx w => ?_
  subst hx
  exact w _ G H R (Same.refl G) rfl
def dIfE (T : En → Res Bool) (A B : En → Res X) : En → Res X := fun ρ => (T ρ).bind fun a ρ1 => match a with
  | true => A ρ1
  | false => B ρ1
theorem L_ifE (ht : LT K E t T) (ha : LE K E ta A) (hb : LE K E tb B) : LE K E (tIf t ta tb) (dIfE T A B) := by
  refine LG.bind (k := fun c σ H Q => if c = true then ta σ H Q else tb σ H Q) ht fun F G H σ ρ x a Q R hx w => ?_
  subst hx
  cases x with
  | true => exact iteT (ha F G H σ ρ Q R w)
  | false => exact iteF (hb F G H σ ρ Q R w)
/-- a op b op' c -/
def dChain (op op' : D2) (A B C : En → Res X) : En → Res X := fun ρ => (A ρ).bind fun a ρ1 => (B ρ1).bind fun b ρ2 => (ap2 op a.settle b.settle ρ2).bind fun z ρ3 => match asB ρ3 z with
  | some true => (C ρ3).bind fun c ρ4 => ap2 op' b.settle c ρ4
  | some false => .ok (.val (.bl false)) ρ3
  | none => .stuck
theorem L_chain {r r' : R2} {op op' : D2} (hr : OpS K r op) (hr' : OpS K r' op') (ha : LE K E ta A) (hb : LE K E tb B) (hc : LE K E tc C) : LE K E (tChain r r' ta tb tc) (dChain op op' A B C) := by
  refine LG.bind (k := fun x σ H Q => tb σ H fun y H2 => r x y H2 fun z H3 => ∃ k, z = .bl k ∧ (if k = true then tc σ H3 fun w' H4 => r' y w' H4 Q else Q (.bl false) H3)) ha fun F G H σ ρ x a Q R hx w => ?_
  obtain ⟨G1, R1, s1, hx1⟩ := R.settle hx
  refine hb F G1 H σ ρ _ R1 ((w.mono s1).bind fun y b G2 H2 ρ2 R2 s2 hy w2 => ?_)
  obtain ⟨G3, R3, s3, hy1⟩ := R2.settle hy
  refine ap2_run hr R3 (hx1.keep settle_no (s2.trans s3)) hy1 ((w2.mono s3).bind fun z c G4 H4 ρ4 R4 s4 hz w3 => ?_)
  cases e : asB ρ4 c with
  | none => rw [e] at w3; exact w3.elim
  | some k =>
    rw [e] at w3
    refine ⟨k, R4.asB hz e, ?_⟩
    cases k with
    | false => exact iteF (w3 _ G4 H4 R4 (Same.refl G4) (.bl _))
    | true =>
      refine iteT (hc F G4 H4 σ ρ4 _ R4 (w3.bind fun y' c' G5 H5 ρ5 R5 s5 hc' w4 => ?_))
      exact ap2_run hr' R5 (hy1.keep settle_no (s4.trans s5)) hc' w4
end
end DL

set_option Elab.async false
set_option linter.all false
set_option maxRecDepth 100000
set_option maxHeartbeats 2000000
/-! the data layer: argument lists, displays, subscripts, built-in functions and methods -/
namespace DL
open PySem PySem.Spec PyProof.Rows L2 DD
section
variable {K : Fg} {E : XK} {ta tb tc : TE} {A B C : En → Res X} {t : TA} {T : En → Res (List X)}
/-! ### argument lists -/
def aNil : En → Res (List X) := fun ρ => .ok [] ρ
def aCons (A : En → Res X) (T : En → Res (List X)) : En → Res (List X) := fun ρ => (A ρ).bind fun a ρ1 => (T ρ1).bind fun as ρ2 => .ok (a.settle :: as) ρ2
theorem A_nil : LA K E tNil aNil := fun F G H σ ρ Q R w => w [] G H R (Same.refl G) .nil
theorem RepXs.keep {F : Fm} {G G' H H' : Hp} {σ : L2.St} {ρ ρ' : En} : ∀ {vs : List V} {xs : List X}, RepXs K F G H σ ρ vs xs → Same G G' → RepXs K F G' H' σ ρ' vs xs
  | _, _, .nil, _ => .nil
  | _, _, .cons h n r, e => .cons (h.keep n e) n (r.keep e)
theorem A_cons (ha : LE K E ta A) (ht : LA K E t T) : LA K E (tCons ta t) (aCons A T) := by
  refine LG.bind (k := fun x σ H (Q : List V → Hp → Prop) => t σ H fun xs H2 => Q (x :: xs) H2) ha fun F G H σ ρ x a Q R hx w => ?_
  obtain ⟨G1, R1, s1, hx1⟩ := R.settle hx
  refine ht F G1 H σ ρ _ R1 ((w.mono s1).bind fun ys b G2 H2 ρ2 R2 s2 hy w2 => ?_)
  exact w2 _ G2 H2 R2 (Same.refl G2) (.cons (hx1.keep settle_no s2) settle_no hy)
@[simp] def derefs (ρ : En) : List X → Option (List D)
  | [] => some []
  | x :: xs => match deref ρ x, derefs ρ xs with
    | some d, some ds => some (d :: ds)
    | _, _ => none
theorem Rl.derefs {F : Fm} {G H : Hp} {σ : L2.St} {ρ : En} (R : Rl K F G H σ ρ) : ∀ {vs : List V} {xs : List X} {ds : List D}, RepXs K F G H σ ρ vs xs → derefs ρ xs = some ds → DRepA K G H vs ds
  | _, _, _, .nil, e => by cases e; exact .nil
  | _, x :: xs, _, .cons h n r, e => by
    simp only [DL.derefs] at e
    cases e1 : DL.deref ρ x with
    | none => rw [e1] at e; cases e
    | some d =>
      cases e2 : DL.derefs ρ xs with
      | none => rw [e1, e2] at e; cases e
      | some ds => rw [e1, e2] at e; cases e; exact .cons (R.deref h e1) (R.derefs r e2)
/-- as frozen data -/
@[simp] def toVals : En → List X → Option (List D × En)
  | ρ, [] => some ([], ρ)
  | ρ, x :: xs => match toVal ρ x with
    | some (d, ρ1) => match toVals ρ1 xs with
      | some (ds, ρ2) => some (d :: ds, ρ2)
      | none => none
    | none => none
theorem Rl.toVals {F : Fm} {H : Hp} {σ : L2.St} : ∀ {G : Hp} {ρ ρ' : En} {vs : List V} {xs : List X} {ds : List D}, Rl K F G H σ ρ → RepXs K F G H σ ρ vs xs → toVals ρ xs = some (ds, ρ') → ∃ G', Rl K F G' H σ ρ' ∧ Same G G' ∧ RepA K G' vs ds
  | G, ρ, _, _, _, _, R, .nil, e => by cases e; exact ⟨G, R, Same.refl G, .nil⟩
  | G, ρ, _, _, x :: xs, _, R, .cons h n r, e => by
    simp only [DL.toVals] at e
    cases e1 : DL.toVal ρ x with
    | none => rw [e1] at e; cases e
    | some p =>
      obtain ⟨d, ρ1⟩ := p
      rw [e1] at e
      dsimp only at e
      cases e2 : DL.toVals ρ1 xs with
      | none => rw [e2] at e; cases e
      | some p2 =>
        obtain ⟨ds, ρ2⟩ := p2
        rw [e2] at e
        cases e
        obtain ⟨G1, R1, s1, h1⟩ := R.toVal h e1
        obtain ⟨G2, R2, s2, h2⟩ := R1.toVals (r.keep s1) e2
        exact ⟨G2, R2, s1.trans s2, .cons (h1.mono s2) h2⟩
/-! ### displays -/
def dTup (T : En → Res (List X)) : En → Res X := fun ρ => (T ρ).bind fun xs ρ1 => match toVals ρ1 xs with
  | some (ds, ρ2) => if ds.length ≤ sizeLine then .ok (.val (.tup ds)) ρ2 else .stuck
  | none => .stuck
def dLst (T : En → Res (List X)) : En → Res X := fun ρ => (T ρ).bind fun xs ρ1 => match toVals ρ1 xs with
  | some (ds, ρ2) => if ds.length ≤ sizeLine then .ok (.new (.lst ds)) ρ2 else .stuck
  | none => .stuck
theorem L_tup (ht : LA K E t T) : LE K E (tTup t) (dTup T) := by
  refine LG.bind (k := fun xs σ H (Q : VK) => xs.length ≤ sizeLine ∧ ∀ p, H p = none → Q (.ref p) (upd H p (.tup xs))) ht fun F G H σ ρ vs xs Q R hx w => ?_
  cases e : toVals ρ xs with
  | none => rw [e] at w; exact w.elim
  | some p =>
    obtain ⟨ds, ρ2⟩ := p
    rw [e] at w
    dsimp only at w
    obtain ⟨G1, R1, s1, r1⟩ := R.toVals hx e
    split at w
    · rename_i hz
      refine ⟨by rw [r1.len]; exact hz, fun p np => ?_⟩
      obtain ⟨R2, s2, r2⟩ := newT R1 np r1
      exact w _ _ _ R2 (s1.trans s2) r2
    · exact w.elim
theorem L_lst (ht : LA K E t T) : LE K E (tLst t) (dLst T) := by
  refine LG.bind (k := fun xs σ H (Q : VK) => xs.length ≤ sizeLine ∧ ∀ p, H p = none → Q (.ref p) (upd H p (.lst xs))) ht fun F G H σ ρ vs xs Q R hx w => ?_
  cases e : toVals ρ xs with
  | none => rw [e] at w; exact w.elim
  | some p =>
    obtain ⟨ds, ρ2⟩ := p
    rw [e] at w
    dsimp only at w
    obtain ⟨G1, R1, s1, r1⟩ := R.toVals hx e
    split at w
    · rename_i hz
      refine ⟨by rw [r1.len]; exact hz, fun p np => ?_⟩
      obtain ⟨R2, r2⟩ := newL R1 np r1
      exact w _ _ _ R2 s1 r2
    · exact w.elim
/-! ### subscripts -/
@[simp] def opIx : D2
  | .tup ds, .int i | .lst ds, .int i | .scr ds, .int i => (atI ds i).map X.val
  | .str z, .int i => if z.length ≤ sizeLine then (atI z.cps.toList i).map fun c => X.val (.str ⟨#[c]⟩) else none
  | _, _ => none
theorem atI_rep {G : Hp} {vs : List V} {ds : List D} {i : Int} {d : D} (r : RepA K G vs ds) (e : atI ds i = some d) : ∃ v, atI vs i = some v ∧ Rep K G v d := by
  unfold atI at e ⊢
  rw [r.len]
  cases e1 : ixN ds.length i with
  | none => rw [e1] at e; cases e
  | some j =>
    rw [e1] at e
    exact r.get e
theorem S_ix : OpS K (rIx K) opIx := by
  intro F G H σ ρ x y d e z Q R hx hy ez q
  cases d <;> cases e <;> first | (cases ez; done) | skip
  · simp only [opIx] at ez
    split at ez
    · rename_i hc
      rw [Option.map_eq_some_iff] at ez
      obtain ⟨c, e1, rfl⟩ := ez
      exact .inr (.inr ⟨_, _, c, hx.str, hy.int, hc, e1, q _ G H R (Same.refl G) (.str _)⟩)
    · cases ez
  · simp only [opIx, Option.map_eq_some_iff] at ez
    obtain ⟨d, e1, rfl⟩ := ez
    obtain ⟨a, vs, rfl, g, h, r⟩ := hx.tup R.gh
    obtain ⟨v, e2, h2⟩ := atI_rep r e1
    exact .inr (.inl ⟨a, vs, _, v, rfl, hy.int, h, e2, q _ G H R (Same.refl G) h2⟩)
  · simp only [opIx, Option.map_eq_some_iff] at ez
    obtain ⟨d, e1, rfl⟩ := ez
    obtain ⟨a, vs, rfl, h, r⟩ := hx.lst R.gh
    obtain ⟨v, e2, h2⟩ := atI_rep r e1
    exact .inl ⟨a, vs, _, v, rfl, hy.int, .inl (.inl h), e2, q _ G H R (Same.refl G) h2⟩
  · simp only [opIx, Option.map_eq_some_iff] at ez
    obtain ⟨d, e1, rfl⟩ := ez
    obtain ⟨a, vs, rfl, h, r⟩ := hx.scr R.gh
    obtain ⟨v, e2, h2⟩ := atI_rep r e1
    exact .inl ⟨a, vs, _, v, rfl, hy.int, h, e2, q _ G H R (Same.refl G) h2⟩
/-! slices -/
def cutD (ds : List D) (lo hi : Option Int) : List D := (ds.drop (HT.sIx ds.length 0 lo)).take (HT.sIx ds.length ds.length hi - HT.sIx ds.length 0 lo)
theorem cut_rep {G : Hp} {vs : List V} {ds : List D} {lo hi : Option Int} (r : RepA K G vs ds) : RepA K G (cutV vs lo hi) (cutD ds lo hi) := by
  unfold cutV cutD
  rw [r.len]
  exact (r.drop _).take _
theorem cut_all {ds : List D} {lo hi : Option Int} (h : HT.sIx ds.length 0 lo = 0 ∧ HT.sIx ds.length ds.length hi = ds.length) : cutD ds lo hi = ds := by
  unfold cutD
  rw [h.1, h.2]
  simp
abbrev TOp := L2.St → Hp → (Option Int → Hp → Prop) → Prop
def oNone : En → Res (Option Int) := fun ρ => .ok none ρ
@[simp] def asI (ρ : En) (a : X) : Option Int := match deref ρ a with
  | some (.int i) => some i
  | _ => none
def oSome (A : En → Res X) : En → Res (Option Int) := fun ρ => (A ρ).bind fun a ρ1 => lift ((asI ρ1 a).map some) ρ1
theorem Rl.asI {F : Fm} {G H : Hp} {σ : L2.St} {ρ : En} {v : V} {a : X} {b : Int} (R : Rl K F G H σ ρ) (hx : RepX K F G H σ ρ v a) (e : asI ρ a = some b) : v = .int b := by
  unfold DL.asI at e
  cases e2 : DL.deref ρ a with
  | none => rw [e2] at e; cases e
  | some d =>
    rw [e2] at e
    cases d <;> cases e
    exact (R.deref hx e2).int
abbrev LO (K : Fg) (E : XK) (t : TOp) (T : En → Res (Option Int)) : Prop := LG K E (fun _ _ _ _ _ b a => b = a) t T
theorem O_none : LO K E tNoPart oNone := fun F G H σ ρ Q R w => w _ G H R (Same.refl G) rfl
theorem O_some (ha : LE K E ta A) : LO K E (tPart ta) (oSome A) := by
  refine LG.bind (k := fun x σ H (Q : Option Int → Hp → Prop) => ∃ i, x = .int i ∧ Q (some i) H) ha fun F G H σ ρ x a Q R hx w => ?_
  obtain ⟨b, e, q⟩ := w.lift
  rw [Option.map_eq_some_iff] at e
  obtain ⟨i, e, rfl⟩ := e
  exact ⟨i, R.asI hx e, q _ G H R (Same.refl G) rfl⟩
@[simp] def opSl (d : D) (lo hi : Option Int) : Option X := match d with
  | .tup ds => some (.val (.tup (cutD ds lo hi)))
  | .lst ds => some (.new (.lst (cutD ds lo hi)))
  | .str z => if z.length ≤ sizeLine then some (.val (.str (cutS z lo hi))) else none
  | _ => none
def rSl3 (K : Fg) : V → Option Int → Option Int → Hp → VK → Prop := fun x lo hi H Q => rSlA K x lo hi H Q ∨ rSlL K x lo hi H Q ∨ rSlS x lo hi H Q
def dSl (A : En → Res X) (L U : En → Res (Option Int)) : En → Res X := fun ρ => (A ρ).bind fun a ρ1 => (L ρ1).bind fun lo ρ2 => (U ρ2).bind fun hi ρ3 => match deref ρ3 a.settle with
  | some d => lift (opSl d lo hi) ρ3
  | none => .stuck
theorem L_sl {tl th : TOp} {L U : En → Res (Option Int)} (ha : LE K E ta A) (hl : LO K E tl L) (hu : LO K E th U) : LE K E (tSl (rSl3 K) ta tl th) (dSl A L U) := by
  refine LG.bind (k := fun x σ H (Q : VK) => tl σ H fun l H2 => th σ H2 fun u H3 => rSl3 K x l u H3 Q) ha fun F G H σ ρ x a Q R hx w => ?_
  obtain ⟨G1, R1, s1, hx1⟩ := R.settle hx
  refine hl F G1 H σ ρ _ R1 ((w.mono s1).bind fun lo lo' G2 H2 ρ2 R2 s2 el w2 => ?_)
  subst el
  refine hu F G2 H2 σ ρ2 _ R2 (w2.bind fun hi hi' G3 H3 ρ3 R3 s3 eu w3 => ?_)
  subst eu
  have hx3 := hx1.keep (H' := H3) (ρ' := ρ3) settle_no (s2.trans s3)
  cases e : deref ρ3 a.settle with
  | none => rw [e] at w3; exact w3.elim
  | some d =>
    rw [e] at w3
    obtain ⟨z, ez, q⟩ := w3.lift
    have hd := R3.deref hx3 e
    cases d <;> first | (cases ez; done) | skip
    · simp only [opSl] at ez
      split at ez
      · rename_i hc
        cases ez
        exact .inr (.inr ⟨_, hd.str, hc, q _ G3 H3 R3 (Same.refl G3) (.str _)⟩)
      · cases ez
    · cases ez
      obtain ⟨b, vs, rfl, g, h, r⟩ := hd.tup R3.gh
      refine .inl ⟨b, vs, rfl, h, fun hw => ?_, fun _ p np => ?_⟩
      · rw [r.len] at hw
        rw [cut_all hw] at q
        exact q _ G3 H3 R3 (Same.refl G3) (.tup g r)
      · obtain ⟨R4, s4, r4⟩ := newT R3 np (cut_rep (lo := lo) (hi := hi) r)
        exact q _ _ _ R4 s4 r4
    · cases ez
      obtain ⟨b, vs, rfl, h, r⟩ := hd.lst R3.gh
      refine .inr (.inl ⟨b, vs, rfl, .inl (.inl h), fun p np => ?_⟩)
      obtain ⟨R4, r4⟩ := newL R3 np (cut_rep (lo := lo) (hi := hi) r)
      exact q _ _ _ R4 (Same.refl G3) r4
end
theorem SlRor {X : Cx} {r r' : V → Option Int → Option Int → Hp → VK → Prop} (h : SlR X r) (h' : SlR X r') : SlR X (fun x lo hi H Q => r x lo hi H Q ∨ r' x lo hi H Q) := by
  intro pins s σ H x v vl vu lo hi sl Q I rx hs pl pu q
  rcases q with q | q
  · exact h pins s σ H x v vl vu lo hi sl Q I rx hs pl pu q
  · exact h' pins s σ H x v vl vu lo hi sl Q I rx hs pl pu q
theorem sl_3 {X : Cx} {K : Fg} (h : X.K = K := by rfl) : SlR X (rSl3 K) := h ▸ SlRor sl_tupA (SlRor sl_list sl_str)
theorem ix_3 {X : Cx} {K : Fg} (h : X.K = K := by rfl) : IxR X (rIx K) := h ▸ ix_seq

theorem CallRor {X : Cx} {f : Value} {r r' : List V → Hp → VK → Prop} (h : CallR X f r) (h' : CallR X f r') : CallR X f (fun xs H Q => r xs H Q ∨ r' xs H Q) := by
  intro pins s σ H xs us Q I rx q
  rcases q with q | q
  · exact h pins s σ H xs us Q I rx q
  · exact h' pins s σ H xs us Q I rx q
/-! ### built-in functions, by values -/
def CallS (K : Fg) (r : List V → Hp → VK → Prop) (f : List D → Option X) : Prop := ∀ (F : Fm) (G H : Hp) (σ : L2.St) (ρ : En) (vs : List V) (ds : List D) (z : X) (Q : VK), Rl K F G H σ ρ → DRepA K G H vs ds → f ds = some z →
  (∀ v G' H', Rl K F G' H' σ ρ → Same G G' → RepX K F G' H' σ ρ v z → Q v H') → r vs H Q
@[simp] def apN (f : List D → Option X) (xs : List X) (ρ : En) : Res X := match derefs ρ xs with
  | some ds => lift (f ds) ρ
  | none => .stuck
def dCB (f : List D → Option X) (T : En → Res (List X)) : En → Res X := fun ρ => (T ρ).bind (apN f)
section
variable {K : Fg} {E : XK} {ta tb tc : TE} {A B C : En → Res X} {t : TA} {T : En → Res (List X)} {r : List V → Hp → VK → Prop} {f : List D → Option X}
theorem L_cb (hr : CallS K r f) (ht : LA K E t T) : LE K E (tCB r t) (dCB f T) := by
  refine LG.bind (k := fun vs σ H (Q : VK) => r vs H Q) ht fun F G H σ ρ vs xs Q R hx w => ?_
  unfold apN at w
  cases e : derefs ρ xs with
  | none => rw [e] at w; exact w.elim
  | some ds =>
    rw [e] at w
    obtain ⟨z, ez, q⟩ := w.lift
    exact hr F G H σ ρ vs ds z Q R (R.derefs hx e) ez q
theorem DRepA.one {G H : Hp} {vs : List V} {d : D} (h : DRepA K G H vs [d]) : ∃ v, vs = [v] ∧ DRep K G H v d := by
  cases h with
  | cons h r => cases r; exact ⟨_, rfl, h⟩
theorem DRepA.two {G H : Hp} {vs : List V} {d e : D} (h : DRepA K G H vs [d, e]) : ∃ v w, vs = [v, w] ∧ DRep K G H v d ∧ DRep K G H w e := by
  cases h with
  | cons h r =>
    obtain ⟨w, rfl, h2⟩ := r.one
    exact ⟨_, w, rfl, h, h2⟩
@[simp] def fLen : List D → Option X
  | [.tup ds] | [.lst ds] | [.scr ds] => some (.val (.int ds.length))
  | [.str z] => if z.length ≤ sizeLine then some (.val (.int z.length)) else none
  | _ => none
def rLen2 (K : Fg) : List V → Hp → VK → Prop := fun xs H Q => (∃ p ys, xs = [.ref p] ∧ (SqL K H p ys ∨ SqT K H p ys) ∧ Q (.int ys.length) H) ∨ ∃ z, xs = [.str z] ∧ z.length ≤ sizeLine ∧ Q (.int z.length) H
theorem C_len : CallS K (rLen2 K) fLen := by
  intro F G H σ ρ vs ds z Q R hx ez q
  unfold fLen at ez
  split at ez
  · cases ez
    obtain ⟨v, rfl, h⟩ := hx.one
    obtain ⟨a, ws, rfl, g, h, r⟩ := h.tup R.gh
    exact .inl ⟨a, ws, rfl, .inr h, by rw [r.len]; exact q _ G H R (Same.refl G) (.int _)⟩
  · cases ez
    obtain ⟨v, rfl, h⟩ := hx.one
    obtain ⟨a, ws, rfl, h, r⟩ := h.lst R.gh
    exact .inl ⟨a, ws, rfl, .inl (.inl (.inl h)), by rw [r.len]; exact q _ G H R (Same.refl G) (.int _)⟩
  · cases ez
    obtain ⟨v, rfl, h⟩ := hx.one
    obtain ⟨a, ws, rfl, h, r⟩ := h.scr R.gh
    exact .inl ⟨a, ws, rfl, .inl h, by rw [r.len]; exact q _ G H R (Same.refl G) (.int _)⟩
  · split at ez
    · rename_i hc
      cases ez
      obtain ⟨v, rfl, h⟩ := hx.one
      obtain rfl := h.str
      exact .inr ⟨_, rfl, hc, q _ G H R (Same.refl G) (.int _)⟩
    · cases ez
  · cases ez
@[simp] def fAbs : List D → Option X
  | [.int i] => some (.val (.int (if i < 0 then -i else i)))
  | _ => none
theorem C_abs : CallS K (fun xs H Q => ∃ i, xs = [.int i] ∧ Q (.int (if i < 0 then -i else i)) H) fAbs := by
  intro F G H σ ρ vs ds z Q R hx ez q
  unfold fAbs at ez
  split at ez
  · cases ez
    obtain ⟨v, rfl, h⟩ := hx.one
    obtain rfl := h.int
    exact ⟨_, rfl, q _ G H R (Same.refl G) (.int _)⟩
  · cases ez
@[simp] def fMax : List D → Option X
  | [.int i, .int j] => some (.val (.int (if j > i then j else i)))
  | _ => none
theorem C_max : CallS K (fun xs H Q => ∃ i j, xs = [.int i, .int j] ∧ Q (.int (if j > i then j else i)) H) fMax := by
  intro F G H σ ρ vs ds z Q R hx ez q
  unfold fMax at ez
  split at ez
  · cases ez
    obtain ⟨v, w, rfl, h, h2⟩ := hx.two
    obtain rfl := h.int
    obtain rfl := h2.int
    exact ⟨_, _, rfl, q _ G H R (Same.refl G) (.int _)⟩
  · cases ez
@[simp] def fMin : List D → Option X
  | [.int i, .int j] => some (.val (.int (if j < i then j else i)))
  | _ => none
theorem C_min : CallS K (fun xs H Q => ∃ i j, xs = [.int i, .int j] ∧ Q (.int (if j < i then j else i)) H) fMin := by
  intro F G H σ ρ vs ds z Q R hx ez q
  unfold fMin at ez
  split at ez
  · cases ez
    obtain ⟨v, w, rfl, h, h2⟩ := hx.two
    obtain rfl := h.int
    obtain rfl := h2.int
    exact ⟨_, _, rfl, q _ G H R (Same.refl G) (.int _)⟩
  · cases ez
def rInt2 : List V → Hp → VK → Prop := fun xs H Q => ((∃ i, xs = [.int i] ∧ Q (.int i) H) ∨ ∃ k, xs = [.bl k] ∧ Q (.int (if k then 1 else 0)) H) ∨ ∃ a n, xs = [.str a] ∧ PySem.intText? a = some n ∧ a.length ≤ 640 ∧ Q (.int n) H
@[simp] def fInt : List D → Option X
  | [.int i] => some (.val (.int i))
  | [.bl k] => some (.val (.int (if k then 1 else 0)))
  | [.str a] => if a.length ≤ 640 then (PySem.intText? a).map fun n => .val (.int n) else none
  | _ => none
theorem C_int : CallS K rInt2 fInt := by
  intro F G H σ ρ vs ds z Q R hx ez q
  unfold fInt at ez
  split at ez
  · cases ez
    obtain ⟨v, rfl, h⟩ := hx.one
    obtain rfl := h.int
    exact .inl (.inl ⟨_, rfl, q _ G H R (Same.refl G) (.int _)⟩)
  · cases ez
    obtain ⟨v, rfl, h⟩ := hx.one
    obtain rfl := h.bl
    exact .inl (.inr ⟨_, rfl, q _ G H R (Same.refl G) (.int _)⟩)
  · split at ez
    · rename_i hc
      rw [Option.map_eq_some_iff] at ez
      obtain ⟨n, en, rfl⟩ := ez
      obtain ⟨v, rfl, h⟩ := hx.one
      obtain rfl := h.str
      exact .inr ⟨_, n, rfl, en, hc, q _ G H R (Same.refl G) (.int _)⟩
    · cases ez
  · cases ez
@[simp] def fStr : List D → Option X
  | [.int i] => if i.natAbs.log2 < 1920 then some (.val (.str (toString i))) else none
  | _ => none
theorem C_str : CallS K (fun xs H Q => ∃ i, xs = [.int i] ∧ i.natAbs.log2 < 1920 ∧ Q (.str (toString i)) H) fStr := by
  intro F G H σ ρ vs ds z Q R hx ez q
  unfold fStr at ez
  split at ez
  · split at ez
    · rename_i hc
      cases ez
      obtain ⟨v, rfl, h⟩ := hx.one
      obtain rfl := h.int
      exact ⟨_, rfl, hc, q _ G H R (Same.refl G) (.str _)⟩
    · cases ez
  · cases ez
@[simp] def fList : List D → Option X
  | [.tup ds] | [.lst ds] | [.scr ds] => some (.new (.lst ds))
  | _ => none
theorem C_list : CallS K (fun xs H Q => ∃ p ys, xs = [.ref p] ∧ (SqL K H p ys ∨ SqT K H p ys) ∧ ∀ l, H l = none → Q (.ref l) (upd H l (.lst ys))) fList := by
  intro F G H σ ρ vs ds z Q R hx ez q
  unfold fList at ez
  split at ez
  · cases ez
    obtain ⟨v, rfl, h⟩ := hx.one
    obtain ⟨a, ws, rfl, g, h, r⟩ := h.tup R.gh
    refine ⟨a, ws, rfl, .inr h, fun p np => ?_⟩
    obtain ⟨R2, r2⟩ := newL R np r
    exact q _ _ _ R2 (Same.refl G) r2
  · cases ez
    obtain ⟨v, rfl, h⟩ := hx.one
    obtain ⟨a, ws, rfl, h, r⟩ := h.lst R.gh
    refine ⟨a, ws, rfl, .inl (.inl (.inl h)), fun p np => ?_⟩
    obtain ⟨R2, r2⟩ := newL R np r
    exact q _ _ _ R2 (Same.refl G) r2
  · cases ez
    obtain ⟨v, rfl, h⟩ := hx.one
    obtain ⟨a, ws, rfl, h, r⟩ := h.scr R.gh
    refine ⟨a, ws, rfl, .inl h, fun p np => ?_⟩
    obtain ⟨R2, r2⟩ := newL R np r
    exact q _ _ _ R2 (Same.refl G) r2
  · cases ez
@[simp] def fTuple : List D → Option X
  | [.tup ds] | [.lst ds] | [.scr ds] => some (.val (.tup ds))
  | _ => none
theorem C_tuple : CallS K (fun xs H Q => ∃ p ys, xs = [.ref p] ∧ ((SqL K H p ys ∧ ∀ l, H l = none → Q (.ref l) (upd H l (.tup ys))) ∨ (SqT K H p ys ∧ Q (.ref p) H))) fTuple := by
  intro F G H σ ρ vs ds z Q R hx ez q
  unfold fTuple at ez
  split at ez
  · cases ez
    obtain ⟨v, rfl, h⟩ := hx.one
    obtain ⟨a, ws, rfl, g, h, r⟩ := h.tup R.gh
    exact ⟨a, ws, rfl, .inr ⟨h, q _ G H R (Same.refl G) (.tup g r)⟩⟩
  · cases ez
    obtain ⟨v, rfl, h⟩ := hx.one
    obtain ⟨a, ws, rfl, h, r⟩ := h.lst R.gh
    refine ⟨a, ws, rfl, .inl ⟨.inl (.inl h), fun p np => ?_⟩⟩
    obtain ⟨R2, s2, r2⟩ := newT R np r
    exact q _ _ _ R2 s2 r2
  · cases ez
    obtain ⟨v, rfl, h⟩ := hx.one
    obtain ⟨a, ws, rfl, h, r⟩ := h.scr R.gh
    refine ⟨a, ws, rfl, .inl ⟨h, fun p np => ?_⟩⟩
    obtain ⟨R2, s2, r2⟩ := newT R np r
    exact q _ _ _ R2 s2 r2
  · cases ez
@[simp] def allB : List D → Option (List Bool)
  | [] => some []
  | .bl b :: ds => (allB ds).map (b :: ·)
  | _ => none
theorem allB_rep {G : Hp} : ∀ {vs : List V} {ds : List D} {bs : List Bool}, RepA K G vs ds → allB ds = some bs → vs = bs.map V.bl
  | _, _, _, .nil, e => by cases e; rfl
  | _, .bl b :: ds, _, .cons h r, e => by
    simp only [allB, Option.map_eq_some_iff] at e
    obtain ⟨bs, e, rfl⟩ := e
    cases h
    rw [allB_rep r e]
    rfl
  | _, .int _ :: ds, _, .cons h r, e => by cases e
  | _, .non :: ds, _, .cons h r, e => by cases e
  | _, .str _ :: ds, _, .cons h r, e => by cases e
  | _, .tup _ :: ds, _, .cons h r, e => by cases e
  | _, .lst _ :: ds, _, .cons h r, e => by cases e
  | _, .scr _ :: ds, _, .cons h r, e => by cases e
  | _, .ins _ _ _ :: ds, _, .cons h r, e => by cases e
  | _, .cls _ :: ds, _, .cons h r, e => by cases e
@[simp] def fAll : List D → Option X
  | [.lst ds] => (allB ds).map fun bs => .val (.bl (bs.all id))
  | _ => none
theorem C_all : CallS K (rAll K) fAll := by
  intro F G H σ ρ vs ds z Q R hx ez q
  unfold fAll at ez
  split at ez
  · rw [Option.map_eq_some_iff] at ez
    obtain ⟨bs, e, rfl⟩ := ez
    obtain ⟨v, rfl, h⟩ := hx.one
    obtain ⟨a, ws, rfl, h, r⟩ := h.lst R.gh
    rw [allB_rep r e] at h
    exact ⟨a, bs, rfl, .inl (.inl h), q _ G H R (Same.refl G) (.bl _)⟩
  · cases ez
@[simp] def fAny : List D → Option X
  | [.lst ds] => (allB ds).map fun bs => .val (.bl (bs.any id))
  | _ => none
theorem C_any : CallS K (rAny K) fAny := by
  intro F G H σ ρ vs ds z Q R hx ez q
  unfold fAny at ez
  split at ez
  · rw [Option.map_eq_some_iff] at ez
    obtain ⟨bs, e, rfl⟩ := ez
    obtain ⟨v, rfl, h⟩ := hx.one
    obtain ⟨a, ws, rfl, h, r⟩ := h.lst R.gh
    rw [allB_rep r e] at h
    exact ⟨a, bs, rfl, .inl (.inl h), q _ G H R (Same.refl G) (.bl _)⟩
  · cases ez
@[simp] def allI : List D → Option (List Int)
  | [] => some []
  | .int b :: ds => (allI ds).map (b :: ·)
  | _ => none
theorem allI_rep {G : Hp} : ∀ {vs : List V} {ds : List D} {bs : List Int}, RepA K G vs ds → allI ds = some bs → vs = bs.map V.int
  | _, _, _, .nil, e => by cases e; rfl
  | _, .int b :: ds, _, .cons h r, e => by
    simp only [allI, Option.map_eq_some_iff] at e
    obtain ⟨bs, e, rfl⟩ := e
    cases h
    rw [allI_rep r e]
    rfl
  | _, .bl _ :: ds, _, .cons h r, e => by cases e
  | _, .non :: ds, _, .cons h r, e => by cases e
  | _, .str _ :: ds, _, .cons h r, e => by cases e
  | _, .tup _ :: ds, _, .cons h r, e => by cases e
  | _, .lst _ :: ds, _, .cons h r, e => by cases e
  | _, .scr _ :: ds, _, .cons h r, e => by cases e
  | _, .ins _ _ _ :: ds, _, .cons h r, e => by cases e
  | _, .cls _ :: ds, _, .cons h r, e => by cases e
@[simp] def fSum : List D → Option X
  | [.lst ds] => (allI ds).map fun bs => .val (.int bs.sum)
  | _ => none
theorem C_sum : CallS K (rSum K) fSum := by
  intro F G H σ ρ vs ds z Q R hx ez q
  unfold fSum at ez
  split at ez
  · rw [Option.map_eq_some_iff] at ez
    obtain ⟨bs, e, rfl⟩ := ez
    obtain ⟨v, rfl, h⟩ := hx.one
    obtain ⟨a, ws, rfl, h, r⟩ := h.lst R.gh
    rw [allI_rep r e] at h
    exact ⟨a, bs, rfl, .inl (.inl h), q _ G H R (Same.refl G) (.int _)⟩
  · cases ez
@[simp] def allS : List D → Option (List Str)
  | [] => some []
  | .str b :: ds => (allS ds).map (b :: ·)
  | _ => none
theorem allS_rep {G : Hp} : ∀ {vs : List V} {ds : List D} {bs : List Str}, RepA K G vs ds → allS ds = some bs → vs = bs.map V.str
  | _, _, _, .nil, e => by cases e; rfl
  | _, .str b :: ds, _, .cons h r, e => by
    simp only [allS, Option.map_eq_some_iff] at e
    obtain ⟨bs, e, rfl⟩ := e
    cases h
    rw [allS_rep r e]
    rfl
  | _, .int _ :: ds, _, .cons h r, e => by cases e
  | _, .bl _ :: ds, _, .cons h r, e => by cases e
  | _, .non :: ds, _, .cons h r, e => by cases e
  | _, .tup _ :: ds, _, .cons h r, e => by cases e
  | _, .lst _ :: ds, _, .cons h r, e => by cases e
  | _, .scr _ :: ds, _, .cons h r, e => by cases e
  | _, .ins _ _ _ :: ds, _, .cons h r, e => by cases e
  | _, .cls _ :: ds, _, .cons h r, e => by cases e
/-! ### repr -/
def fRepr : List D → Option X
  | [.int i] => if i.natAbs.log2 < 1920 then some (.val (.str (toString i))) else none
  | [.tup ds] => match (D.tup ds).py with
    | some p => if p.showable = true ∧ p.hasDict = false ∧ p.depth ≤ 60 ∧ p.shown.length ≤ sizeLine then some (.val (.str p.shown)) else none
    | none => none
  | [.lst ds] => match (D.lst ds).py with
    | some p => if p.showable = true ∧ p.hasDict = false ∧ p.depth ≤ 60 ∧ p.shown.length ≤ sizeLine then some (.val (.str p.shown)) else none
    | none => none
  | [.bl b] => some (.val (.str (if b then "True" else "False")))
  | _ => none
def rReprB : List V → Hp → VK → Prop := fun xs H Q => ∃ b : Bool, xs = [.bl b] ∧ Q (.str (if b then "True" else "False")) H
theorem call_reprB {X : Cx} : CallR X (.builtin "repr") rReprB := by
  intro pins s σ H xs us Q I r h
  obtain ⟨b, rfl, q⟩ := h
  obtain ⟨u, rfl, ru⟩ := r.one
  cases (show u = Value.bool b from ru)
  refine PySem.P.repr_of_bool ⟨.str (if b then "True" else "False"), H, I.tok _, ?_, q⟩
  cases b <;> exact ⟨_, rfl⟩
def rRepr2 (K : Fg) : List V → Hp → VK → Prop := fun xs H Q => (∃ i, xs = [.int i] ∧ i.natAbs.log2 < 1920 ∧ Q (.str (toString i)) H) ∨ rReprD K xs H Q ∨ rReprB xs H Q
theorem C_repr : CallS K (rRepr2 K) fRepr := by
  intro F G H σ ρ vs ds z Q R hx ez q
  unfold fRepr at ez
  split at ez
  · split at ez
    · rename_i hc
      cases ez
      obtain ⟨v, rfl, h⟩ := hx.one
      obtain rfl := h.int
      exact .inl ⟨_, rfl, hc, q _ G H R (Same.refl G) (.str _)⟩
    · cases ez
  · split at ez
    · rename_i p ep
      split at ez
      · rename_i hc
        cases ez
        obtain ⟨v, rfl, h⟩ := hx.one
        have h' := (h.rep R.gh).dp ep
        obtain ⟨a, ws, rfl, _⟩ := h.tup R.gh
        exact .inr (.inl ⟨a, p, rfl, h', hc.1, hc.2.1, hc.2.2.1, hc.2.2.2, q _ G H R (Same.refl G) (.str _)⟩)
      · cases ez
    · cases ez
  · split at ez
    · rename_i p ep
      split at ez
      · rename_i hc
        cases ez
        obtain ⟨v, rfl, h⟩ := hx.one
        have h' := (h.rep R.gh).dp ep
        obtain ⟨a, ws, rfl, _⟩ := h.lst R.gh
        exact .inr (.inl ⟨a, p, rfl, h', hc.1, hc.2.1, hc.2.2.1, hc.2.2.2, q _ G H R (Same.refl G) (.str _)⟩)
      · cases ez
    · cases ez
  · cases ez
    obtain ⟨v, rfl, h⟩ := hx.one
    obtain rfl := h.bl
    exact .inr (.inr ⟨_, rfl, q _ G H R (Same.refl G) (.str _)⟩)
  · cases ez
/-! ### list(range(..)) -/
def rgD (a b : Int) : List D := (List.range (b - a).toNat).map fun i => D.int (a + (i : Nat))
abbrev LRg (K : Fg) (E : XK) (t : L2.St → Hp → (Int → Int → Hp → Prop) → Prop) (T : En → Res (Int × Int)) : Prop := ∀ (F : Fm) (G H : Hp) (σ : L2.St) (ρ : En) (Q : Int → Int → Hp → Prop), Rl K F G H σ ρ →
  Wants K E (fun _ _ _ _ _ b a => b = a) F G σ (fun (p : Int × Int) H => Q p.1 p.2 H) (T ρ) → t σ H Q
def g1 (A : En → Res X) : En → Res (Int × Int) := fun ρ => (A ρ).bind fun a ρ1 => lift ((asI ρ1 a).map fun n => (0, n)) ρ1
def g2 (A B : En → Res X) : En → Res (Int × Int) := fun ρ => (A ρ).bind fun a ρ1 => (B ρ1).bind fun b ρ2 => match asI ρ2 a.settle, asI ρ2 b with
  | some i, some j => .ok (i, j) ρ2
  | _, _ => .stuck
theorem G_1 (ha : LE K E ta A) : LRg K E (tRg1 ta) (g1 A) := by
  intro F G H σ ρ Q R w
  refine ha F G H σ ρ _ R (w.bind fun x a G' H' ρ' R' s hx w' => ?_)
  obtain ⟨p, e, q⟩ := w'.lift
  rw [Option.map_eq_some_iff] at e
  obtain ⟨i, e, rfl⟩ := e
  exact ⟨i, R'.asI hx e, q (0, i) G' H' R' (Same.refl G') rfl⟩
theorem G_2 (ha : LE K E ta A) (hb : LE K E tb B) : LRg K E (tRg2 ta tb) (g2 A B) := by
  intro F G H σ ρ Q R w
  refine ha F G H σ ρ _ R (w.bind fun x a G' H' ρ' R' s hx w' => ?_)
  obtain ⟨G1, R1, s1, hx1⟩ := R'.settle hx
  refine hb F G1 H' σ ρ' _ R1 ((w'.mono s1).bind fun y b G2 H2 ρ2 R2 s2 hy w2 => ?_)
  cases e1 : asI ρ2 a.settle with
  | none => rw [e1] at w2; exact w2.elim
  | some i =>
    cases e2 : asI ρ2 b with
    | none => rw [e1, e2] at w2; exact w2.elim
    | some j =>
      rw [e1, e2] at w2
      exact ⟨i, j, R2.asI (hx1.keep settle_no s2) e1, R2.asI hy e2, w2 (i, j) G2 H2 R2 (Same.refl G2) rfl⟩
open Classical in
noncomputable def dLstRg (T : En → Res (Int × Int)) : En → Res X := fun ρ => (T ρ).bind fun p ρ1 => if RgOk p.1 p.2 then .ok (.new (.lst (rgD p.1 p.2))) ρ1 else .stuck
theorem rg_rep {G : Hp} {a b : Int} : RepA K G (rgV a b) (rgD a b) := by
  unfold rgV rgD
  induction (List.range (b - a).toNat) with
  | nil => exact .nil
  | cons i is ih => exact .cons (.int _) ih
theorem L_lstRg {te : L2.St → Hp → (Int → Int → Hp → Prop) → Prop} {T : En → Res (Int × Int)} (ht : LRg K E te T) : LE K E (tLstRg te) (dLstRg T) := by
  intro F G H σ ρ Q R w
  refine ht F G H σ ρ _ R (w.bind fun p p' G' H' ρ' R' s e w' => ?_)
  subst e
  split at w'
  · rename_i hc
    refine ⟨hc, fun q nq => ?_⟩
    obtain ⟨R2, r2⟩ := newL R' nq (rg_rep (K := K) (G := G') (a := p.1) (b := p.2))
    exact w' _ _ _ R2 (Same.refl G') r2
  · exact w'.elim
/-! ### f-strings -/
@[simp] def fmtD : D → Option Str
  | .str y => if y.length ≤ sizeLine then some y else none
  | .int i => if i.natAbs.log2 < 1920 then some (toString i) else none
  | _ => none
def dFmt (A : En → Res X) : En → Res X := fun ρ => (A ρ).bind fun a ρ1 => match deref ρ1 a with
  | some d => lift ((fmtD d).map fun s => X.val (.str s)) ρ1
  | none => .stuck
theorem L_fmt (ha : LE K E ta A) : LE K E (tFmt ta) (dFmt A) := by
  refine LG.bind (k := fun x σ H (Q : VK) => (∃ y : Str, x = .str y ∧ y.length ≤ sizeLine ∧ Q (.str y) H) ∨ ∃ i : Int, x = .int i ∧ i.natAbs.log2 < 1920 ∧ Q (.str (toString i)) H) ha fun F G H σ ρ x a Q R hx w => ?_
  cases e : deref ρ a with
  | none => rw [e] at w; exact w.elim
  | some d =>
    rw [e] at w
    obtain ⟨z, ez, q⟩ := w.lift
    rw [Option.map_eq_some_iff] at ez
    obtain ⟨s, ez, rfl⟩ := ez
    have hd := R.deref hx e
    cases d <;> simp only [fmtD] at ez <;> first | (cases ez; done) | skip
    · split at ez
      · rename_i hc
        cases ez
        exact .inr ⟨_, hd.int, hc, q _ G H R (Same.refl G) (.str _)⟩
      · cases ez
    · split at ez
      · rename_i hc
        cases ez
        exact .inl ⟨_, hd.str, hc, q _ G H R (Same.refl G) (.str _)⟩
      · cases ez
def jNil : Str → En → Res Str := fun acc ρ => .ok acc ρ
def jCons (A : En → Res X) (J : Str → En → Res Str) : Str → En → Res Str := fun acc ρ => (A ρ).bind fun a ρ1 => match deref ρ1 a with
  | some (.str y) => if (acc ++ y).length ≤ sizeLine then J (acc ++ y) ρ1 else .stuck
  | _ => .stuck
abbrev LJ (K : Fg) (E : XK) (ts : List TE) (J : Str → En → Res Str) : Prop := ∀ acc, LG K E (fun _ _ _ _ _ b a => b = a) (fun σ H Q => tJs ts acc σ H Q) (J acc)
theorem J_nil : LJ K E [] jNil := fun acc F G H σ ρ Q R w => w acc G H R (Same.refl G) rfl
theorem J_cons {ts : List TE} {J : Str → En → Res Str} (ha : LE K E ta A) (hj : LJ K E ts J) : LJ K E (ta :: ts) (jCons A J) := by
  intro acc F G H σ ρ Q R w
  refine ha F G H σ ρ _ R (Wants.bind w fun x a G' H' ρ' R' s hx w' => ?_)
  cases e : deref ρ' a with
  | none => rw [e] at w'; exact w'.elim
  | some d =>
    rw [e] at w'
    have hd := R'.deref hx e
    cases d <;> try exact w'.elim
    rename_i y
    dsimp only at w'
    split at w'
    · rename_i hc
      exact ⟨y, hd.str, hc, hj _ F G' H' σ ρ' Q R' w'⟩
    · exact w'.elim
def dJoin (J : Str → En → Res Str) : En → Res X := fun ρ => (J Str.empty ρ).bind fun s ρ1 => .ok (.val (.str s)) ρ1
theorem L_join {ts : List TE} {J : Str → En → Res Str} (hj : LJ K E ts J) : LE K E (fun σ H Q => tJs ts Str.empty σ H fun out H1 => Q (.str out) H1) (dJoin J) := by
  intro F G H σ ρ Q R w
  refine hj Str.empty F G H σ ρ _ R (Wants.bind w fun x a G' H' ρ' R' s hx w' => ?_)
  subst hx
  exact w' _ G' H' R' (Same.refl G') (.str _)
/-! ### methods of texts -/
def MtS (K : Fg) (r : V → List V → Hp → VK → Prop) (f : D → List D → Option X) : Prop := ∀ (F : Fm) (G H : Hp) (σ : L2.St) (ρ : En) (x : V) (d : D) (vs : List V) (ds : List D) (z : X) (Q : VK), Rl K F G H σ ρ → DRep K G H x d → DRepA K G H vs ds → f d ds = some z →
  (∀ v G' H', Rl K F G' H' σ ρ → Same G G' → RepX K F G' H' σ ρ v z → Q v H') → r x vs H Q
def dMt (f : D → List D → Option X) (A : En → Res X) (T : En → Res (List X)) : En → Res X := fun ρ => (A ρ).bind fun a ρ1 => match deref ρ1 a with
  | some (.str s) => (T ρ1).bind fun xs ρ2 => match derefs ρ2 xs with
    | some ds => lift (f (.str s) ds) ρ2
    | none => .stuck
  | _ => .stuck
theorem L_mt {m : V → List V → Hp → VK → Prop} {g : D → List D → Option X} (hm : MtS K m g) (ha : LE K E ta A) (ht : LA K E t T) : LE K E (tBM K "str" m ta t) (dMt g A T) := by
  refine LG.bind (k := fun x σ H (Q : VK) => tyV K "str" x H ∧ t σ H fun xs H2 => m x xs H2 Q) ha fun F G H σ ρ x a Q R hx w => ?_
  cases e : deref ρ a with
  | none => rw [e] at w; exact w.elim
  | some d =>
    rw [e] at w
    have hd := R.deref hx e
    cases d <;> try exact w.elim
    obtain rfl := hd.str
    refine ⟨rfl, ht F G H σ ρ _ R (w.bind fun ys b G2 H2 ρ2 R2 s2 hy w2 => ?_)⟩
    cases e2 : derefs ρ2 b with
    | none => rw [e2] at w2; exact w2.elim
    | some ds =>
      rw [e2] at w2
      obtain ⟨z, ez, q⟩ := w2.lift
      exact hm F G2 H2 σ ρ2 _ _ ys ds z Q R2 (.inl (.str _)) (R2.derefs hy e2) ez q
theorem L_m1 {m : V → List V → Hp → VK → Prop} {g : D → List D → Option X} (hm : MtS K m g) (ha : LE K E ta A) (hb : LE K E tb B) : LE K E (tM1 m ta tb) (dMt g A (aCons B aNil)) := by
  refine LG.bind (k := fun x σ H (Q : VK) => (∃ a, x = .str a) ∧ tb σ H fun y H2 => m x [y] H2 Q) ha fun F G H σ ρ x a Q R hx w => ?_
  cases e : deref ρ a with
  | none => rw [e] at w; exact w.elim
  | some d =>
    rw [e] at w
    have hd := R.deref hx e
    cases d <;> try exact w.elim
    obtain rfl := hd.str
    refine ⟨⟨_, rfl⟩, (A_cons hb A_nil) F G H σ ρ (fun ys H2 => m _ ys H2 Q) R (w.bind fun ys b G2 H2 ρ2 R2 s2 hy w2 => ?_)⟩
    cases e2 : derefs ρ2 b with
    | none => rw [e2] at w2; exact w2.elim
    | some ds =>
      rw [e2] at w2
      obtain ⟨z, ez, q⟩ := w2.lift
      exact hm F G2 H2 σ ρ2 _ _ ys ds z Q R2 (.inl (.str _)) (R2.derefs hy e2) ez q
theorem L_m0 {m : V → List V → Hp → VK → Prop} {g : D → List D → Option X} (hm : MtS K m g) (ha : LE K E ta A) : LE K E (tM0 m ta) (dMt g A aNil) := by
  refine LG.bind (k := fun x σ H (Q : VK) => (∃ a, x = .str a) ∧ m x [] H Q) ha fun F G H σ ρ x a Q R hx w => ?_
  cases e : deref ρ a with
  | none => rw [e] at w; exact w.elim
  | some d =>
    rw [e] at w
    have hd := R.deref hx e
    cases d <;> try exact w.elim
    obtain rfl := hd.str
    refine ⟨⟨_, rfl⟩, ?_⟩
    obtain ⟨z, ez, q⟩ := Wants.lift w
    exact hm F G H σ ρ _ _ [] [] z Q R (.inl (.str _)) .nil ez q
@[simp] def fJoin : D → List D → Option X
  | .str a, [.lst ds] | .str a, [.tup ds] => match allS ds with
    | some ys => if (ys.map (·.length)).sum + ys.length * a.length ≤ 16777216 then some (.val (.str (Txt.join a ys))) else none
    | none => none
  | _, _ => none
theorem M_join : MtS K (fun x xs H Q => ∃ a p, ∃ ys : List Str, x = .str a ∧ xs = [.ref p] ∧ (SqL K H p (ys.map V.str) ∨ SqT K H p (ys.map V.str)) ∧ (ys.map (·.length)).sum + ys.length * a.length ≤ 16777216 ∧ Q (.str (Txt.join a ys)) H) fJoin := by
  intro F G H σ ρ x d vs ds z Q R hx hv ez q
  unfold fJoin at ez
  split at ez
  · split at ez
    · rename_i ys ey
      split at ez
      · rename_i hc
        cases ez
        obtain rfl := hx.str
        obtain ⟨v, rfl, h⟩ := hv.one
        obtain ⟨a, ws, rfl, h, r⟩ := h.lst R.gh
        rw [allS_rep r ey] at h
        exact ⟨_, a, ys, rfl, rfl, .inl (.inl (.inl h)), hc, q _ G H R (Same.refl G) (.str _)⟩
      · cases ez
    · cases ez
  · split at ez
    · rename_i ys ey
      split at ez
      · rename_i hc
        cases ez
        obtain rfl := hx.str
        obtain ⟨v, rfl, h⟩ := hv.one
        obtain ⟨a, ws, rfl, g, h, r⟩ := h.tup R.gh
        rw [allS_rep r ey] at h
        exact ⟨_, a, ys, rfl, rfl, .inr h, hc, q _ G H R (Same.refl G) (.str _)⟩
      · cases ez
    · cases ez
  · cases ez
end
theorem call_len2 {X : Cx} {K : Fg} (h : X.K = K := by rfl) : CallR X (.builtin "len") (rLen2 K) := h ▸ CallRor call_len_seq call_len_str
theorem call_int2 {X : Cx} : CallR X (.type "int") rInt2 := CallRor call_int1 call_int_str
theorem call_repr2 {X : Cx} {K : Fg} (hg : X.A.guards = some []) (hu : X.A.units + 64 < cLine) (h : X.K = K := by rfl) : CallR X (.builtin "repr") (rRepr2 K) := h ▸ CallRor SkE.call_repr_int (CallRor (call_reprD hg hu) call_reprB)
end DL

set_option Elab.async false
set_option linter.all false
set_option maxRecDepth 100000
set_option maxHeartbeats 2000000
/-! the data layer: statements, targets, loops -/
namespace DL
open PySem PySem.Spec PyProof.Rows L2 DD
/-! ### frames that change -/
def Fm.at (F : Fm) (G : Hp) : Fm := { F with G0 := G }
def Fm.hold (F : Fm) (a : Addr) (o : HO) : Fm := { F with H0 := upd F.H0 a o }
section
variable {K : Fg} {F : Fm} {G G' H H' : Hp} {σ σ' : L2.St} {ρ ρ' : En} {a p : Addr}
theorem Rl.at (R : Rl K F G H σ ρ) : Rl K (F.at G) G H σ ρ :=
  ⟨R.gh, Same.refl G, fun a o h h' => (by rw [show G a = none from h'] at h; cases h), R.hk, R.hm, R.hl, R.sl, R.di, R.mi⟩
theorem Rl.back (R : Rl K F G H σ ρ) (R' : Rl K (F.at G) G' H' σ' ρ') : Rl K F G' H' σ' ρ' :=
  ⟨R'.gh, R.g0.trans R'.g0, fun a o h h' => (by
    cases e : G a with
    | some u => exact R.gn a u e h'
    | none => exact R'.gn a o h e), R'.hk, R'.hm, R'.hl, R'.sl, R'.di, R'.mi⟩
theorem RepX.at {v : V} {x : X} (h : RepX K (F.at G0) G H σ ρ v x) : RepX K F G H σ ρ v x := by cases x <;> exact h
/-- what no slot owns is held -/
theorem Rl.hold {o : HO} (R : Rl K F G H σ ρ) (h : H a = some o) (h0 : F.H0 a = none) (hg : G a = none) (n : ∀ (j : Nat) (u : O), ρ[j]? = some (.own u) → σ[j]? ≠ some (some (.ref a))) : Rl K (F.hold a o) G H σ ρ where
  gh := R.gh
  g0 := R.g0
  gn := fun b u hb hb' => by
    show upd F.H0 a o b = none
    rw [upd_ne (ne_of_none hb hg)]
    exact R.gn b u hb hb'
  hk := fun b u hb hb' => by
    by_cases q : b = a
    · subst q
      rw [show (F.hold b o).H0 b = some o from upd_same] at hb
      cases hb
      exact h
    · rw [show (F.hold a o).H0 b = F.H0 b from upd_ne q] at hb
      exact R.hk b u hb hb'
  hm := fun i b hb => by
    obtain ⟨h1, h2, h3⟩ := R.hm i b hb
    refine ⟨h1, ?_, h3⟩
    show upd F.H0 a o b ≠ none
    rw [upd_ne (fun q => h2 (by rw [q]; exact h0))]
    exact h2
  hl := R.hl
  sl := fun i s hs => by
    obtain ⟨x, h1, h2⟩ := R.sl i s hs
    refine ⟨x, h1, ?_⟩
    cases s with
    | none => trivial
    | val d => exact h2
    | own u =>
      obtain ⟨b, rfl, e2, e3, e4⟩ := h2
      refine ⟨b, rfl, ?_, e3, e4⟩
      show upd F.H0 a o b = none
      rw [upd_ne (fun q => n i u hs (by rw [h1, q]))]
      exact e2
    | bor u => exact h2
    | lck u =>
      obtain ⟨b, u', rfl, e2, e3, e5, e6, e4⟩ := h2
      refine ⟨b, u', rfl, e2, e3, ?_, e6, e4⟩
      show upd F.H0 a o b = some u'
      rw [upd_ne (fun q => by rw [q, h0] at e5; cases e5)]
      exact e5
  di := R.di
  mi := R.mi
theorem Rl.noM (R : Rl K F G H σ ρ) (h0 : F.H0 a = none) (i : Nat) : F.M i ≠ some a := fun z => (R.hm i a z).2.1 h0
theorem Rl.heldG {o : HO} (R : Rl K (F.hold a o) G H σ ρ) (hg : F.G0 a = none) : G a = none := by
  cases e : G a with
  | none => rfl
  | some u =>
    have := R.gn a u e hg
    rw [show (F.hold a o).H0 a = some o from upd_same] at this
    cases this
theorem Rl.heldH {o : HO} (R : Rl K (F.hold a o) G H σ ρ) (hm : ∀ i, F.M i ≠ some a) : H a = some o := R.hk a o upd_same hm
theorem Rl.heldN {o : HO} (R : Rl K (F.hold a o) G H σ ρ) : ∀ (j : Nat) (u : O), ρ[j]? = some (.own u) → σ[j]? ≠ some (some (.ref a)) := fun j u hj z => by
  obtain ⟨b, h1, h2, _⟩ := R.own hj
  rw [h1] at z
  cases z
  rw [show (F.hold a o).H0 a = some o from upd_same] at h2
  cases h2
/-- held no longer -/
theorem Rl.unhold {o : HO} (R : Rl K (F.hold a o) G H σ ρ) (h0 : F.H0 a = none) (hl : ∀ i, F.L i ≠ some a) (hm : ∀ i, F.M i ≠ some a) : Rl K F G H σ ρ where
  gh := R.gh
  g0 := R.g0
  gn := fun b u hb hb' => by
    by_cases q : b = a
    · rw [q]; exact h0
    · have := R.gn b u hb hb'
      rw [show (F.hold a o).H0 b = F.H0 b from upd_ne q] at this
      exact this
  hk := fun b u hb hb' => R.hk b u (by
    rw [show (F.hold a o).H0 b = F.H0 b from upd_ne (ne_of_none hb h0)]
    exact hb) hb'
  hm := fun i b hb => by
    obtain ⟨h1, h2, h3⟩ := R.hm i b hb
    refine ⟨h1, ?_, h3⟩
    rw [show (F.hold a o).H0 b = F.H0 b from upd_ne (fun q => hm i (by rw [← q]; exact hb))] at h2
    exact h2
  hl := R.hl
  sl := fun i s hs => by
    obtain ⟨x, h1, h2⟩ := R.sl i s hs
    refine ⟨x, h1, ?_⟩
    cases s with
    | none => trivial
    | val d => exact h2
    | own u =>
      obtain ⟨b, rfl, e2, e3, e4⟩ := h2
      refine ⟨b, rfl, ?_, e3, e4⟩
      by_cases q : b = a
      · rw [q]; exact h0
      · rw [show (F.hold a o).H0 b = F.H0 b from upd_ne q] at e2
        exact e2
    | bor u => exact h2
    | lck u =>
      obtain ⟨b, u', rfl, e2, e3, e5, e6, e4⟩ := h2
      refine ⟨b, u', rfl, e2, e3, ?_, e6, e4⟩
      rw [show (F.hold a o).H0 b = F.H0 b from upd_ne (fun q => hl i (by rw [← q]; exact e2))] at e5
      exact e5
  di := R.di
  mi := R.mi
theorem Rl.rehold {o o' : HO} (R : Rl K (F.hold a o) G H σ ρ) (h0 : F.H0 a = none) (hg : F.G0 a = none) (hl : ∀ i, F.L i ≠ some a) (hm : ∀ i, F.M i ≠ some a) : Rl K (F.hold a o') G (upd H a o') σ ρ := by
  have N := R.heldN
  have hG := R.heldG hg
  have R1 := R.unhold h0 hl hm
  have far : ∀ b, b ≠ a → upd H a o' b = H b := fun b q => upd_ne q
  have R2 : Rl K F G (upd H a o') σ ρ := by
    refine ⟨fun b u hb => by rw [far b (ne_of_none hb hG)]; exact R1.gh b u hb, R1.g0, R1.gn, fun b u hb hb' => by rw [far b (ne_of_none hb h0)]; exact R1.hk b u hb hb', fun i b hb => ?_, R1.hl, fun i s hs => ?_, R1.di, R1.mi⟩
    · obtain ⟨h1, h2, h3⟩ := R1.hm i b hb
      exact ⟨by rw [far b (fun q => hm i (by rw [← q]; exact hb))]; exact h1, h2, h3⟩
    · obtain ⟨x, h1, h2⟩ := R1.sl i s hs
      refine ⟨x, h1, ?_⟩
      have mv : ∀ b w, b ≠ a → ObjO K G H b w → ObjO K G (upd H a o') b w := fun b w q z => z.mono (Same.refl G) fun u e => by rw [far b q]; exact e
      cases s with
      | none => trivial
      | val d => exact h2
      | own u =>
        obtain ⟨b, rfl, e2, e3, e4⟩ := h2
        exact ⟨b, rfl, e2, e3, mv b u (fun q => N i u hs (by rw [h1, q])) e4⟩
      | bor u =>
        obtain ⟨b, rfl, e2, e3, e4⟩ := h2
        exact ⟨b, rfl, e2, e3, mv b u (fun q => hm i (by rw [← q]; exact e2)) e4⟩
      | lck u =>
        obtain ⟨b, u', rfl, e2, e3, e5, e6, e4⟩ := h2
        exact ⟨b, u', rfl, e2, e3, e5, e6, mv b u (fun q => hl i (by rw [← q]; exact e2)) e4⟩
  exact R2.hold upd_same h0 hG N
theorem Rl.noL (R : Rl K F G H σ ρ) (h0 : F.H0 a = none) (i : Nat) : F.L i ≠ some a := fun z => by
  obtain ⟨o, h⟩ := R.hl i a z
  obtain ⟨x, _, b, u, _, e2, _, e5, _⟩ := R.sl i _ h
  rw [z] at e2
  cases e2
  rw [h0] at e5
  cases e5
theorem RepX.unhold {v : V} {x : X} {o : HO} (h : RepX K (F.hold a o) G H σ ρ v x) (h0 : F.H0 a = none) : RepX K F G H σ ρ v x := by
  cases x with
  | val d => exact h
  | own i => exact h
  | new u =>
    obtain ⟨b, rfl, e2, e3⟩ := h
    refine ⟨b, rfl, ?_, e3⟩
    by_cases q : b = a
    · rw [q]; exact h0
    · rw [show (F.hold a o).H0 b = F.H0 b from upd_ne q] at e2
      exact e2
end

/-! ### statements -/
inductive SR where
  | nx (ρ : En) | rt (x : X) (ρ : En) | bk (ρ : En) | ct (ρ : En) | err (x : Xc) (ρ : En) | stuck
def Res.sb {α : Type} : Res α → (α → En → SR) → SR
  | .ok a ρ, U => U a ρ
  | .err x ρ, _ => .err x ρ
  | .stuck, _ => .stuck
def WS (K : Fg) (E : XK) (F : Fm) (D : Ends) : SR → Prop
  | .nx ρ => ∀ σ G H, Rl K F G H σ ρ → D.nx σ H
  | .rt x ρ => ∀ v σ G H, Rl K F G H σ ρ → RepX K F G H σ ρ v x → D.rt v H
  | .bk ρ => ∀ σ G H, Rl K F G H σ ρ → D.bk σ H
  | .ct ρ => ∀ σ G H, Rl K F G H σ ρ → D.ct σ H
  | .err x ρ => ∀ c od σ G H, Rl K F G H σ ρ → XRep K G H c od x → E c od H
  | .stuck => False
def LS (K : Fg) (E : XK) (t : TS) (T : En → SR) : Prop := ∀ (F : Fm) (G H : Hp) (σ : L2.St) (ρ : En) (D : Ends), Rl K F G H σ ρ → WS K E F D (T ρ) → t D σ H
section
variable {α β : Type} {K : Fg} {E : XK} {F : Fm} {G G' H H' : Hp} {σ : L2.St} {ρ ρ' : En}
theorem WS.sb {rel : Rel β α} {D : Ends} {Q1 : β → Hp → Prop} {r : Res α} {U : α → En → SR} (h : WS K E F D (r.sb U))
    (k : ∀ b a G' H' ρ', Rl K F G' H' σ ρ' → Same G G' → rel F G' H' σ ρ' b a → WS K E F D (U a ρ') → Q1 b H') : Wants K E rel F G σ Q1 r := by
  cases r with
  | ok a ρ' => exact fun b G2 H2 R s q => k b a G2 H2 ρ' R s q h
  | err x ρ' => exact fun c od G2 H2 R _ x => h c od σ G2 H2 R x
  | stuck => exact h
variable {ta tb : TE} {A B : En → Res X} {tt : TT} {T : En → Res Bool} {s u : TS} {S U : En → SR}
def sNext : En → SR := fun ρ => .nx ρ
theorem L_next : LS K E tNext sNext := fun F G H σ ρ D R w => w σ G H R
def sSeq (S U : En → SR) : En → SR := fun ρ => match S ρ with
  | .nx ρ1 => U ρ1
  | r => r
theorem L_seq (h1 : LS K E s S) (h2 : LS K E u U) : LS K E (tSeq s u) (sSeq S U) := by
  intro F G H σ ρ D R w
  refine h1 F G H σ ρ _ R ?_
  unfold sSeq at w
  cases e : S ρ with
  | nx ρ1 =>
    rw [e] at w
    exact fun σ' G' H' R' => h2 F G' H' σ' ρ1 D R' w
  | rt x ρ1 => rw [e] at w; exact w
  | bk ρ1 => rw [e] at w; exact w
  | ct ρ1 => rw [e] at w; exact w
  | err x ρ1 => rw [e] at w; exact w
  | stuck => rw [e] at w; exact w
def sDrop (A : En → Res X) : En → SR := fun ρ => (A ρ).sb fun _ ρ1 => .nx ρ1
theorem L_drop (ha : LE K E ta A) : LS K E (tDrop ta) (sDrop A) := by
  intro F G H σ ρ D R w
  exact ha F G H σ ρ _ R (w.sb fun b a G' H' ρ' R' _ _ w' => w' σ G' H' R')
def sRet (A : En → Res X) : En → SR := fun ρ => (A ρ).sb fun a ρ1 => .rt a ρ1
theorem L_ret (ha : LE K E ta A) : LS K E (tRet ta) (sRet A) := by
  intro F G H σ ρ D R w
  exact ha F G H σ ρ _ R (w.sb fun b a G' H' ρ' R' _ hx w' => w' b σ G' H' R' hx)
def sRetN : En → SR := fun ρ => .rt (.val .non) ρ
theorem L_retN : LS K E tRetN sRetN := fun F G H σ ρ D R w => w .non σ G H R .non
def sBreak : En → SR := fun ρ => .bk ρ
theorem L_break : LS K E tBreak sBreak := fun F G H σ ρ D R w => w σ G H R
def sCont : En → SR := fun ρ => .ct ρ
theorem L_cont : LS K E tCont sCont := fun F G H σ ρ D R w => w σ G H R
def sIf (T : En → Res Bool) (S U : En → SR) : En → SR := fun ρ => (T ρ).sb fun b ρ1 => match b with
  | true => S ρ1
  | false => U ρ1
theorem L_if (ht : LT K E tt T) (h1 : LS K E s S) (h2 : LS K E u U) : LS K E (tIfS tt s u) (sIf T S U) := by
  intro F G H σ ρ D R w
  refine ht F G H σ ρ _ R (w.sb fun b a G' H' ρ' R' _ e w' => ?_)
  subst e
  cases b with
  | true => exact iteT (h1 F G' H' σ ρ' D R' w')
  | false => exact iteF (h2 F G' H' σ ρ' D R' w')
/-! stores to names -/
@[simp] def putX (i : Nat) (x : X) (ρ : En) : SR := match x with
  | .val d => if freeAt ρ i then .nx (ρ.set i (.val d)) else .stuck
  | .new o => if freeAt ρ i then .nx (ρ.set i (.own o)) else .stuck
  | .own j => match toVal ρ (.own j) with
    | some (d, ρ1) => if freeAt ρ1 i then .nx (ρ1.set i (.val d)) else .stuck
    | none => .stuck
theorem put_run {i : Nat} {x : X} {v : V} {D : Ends} (R : Rl K F G H σ ρ) (hx : RepX K F G H σ ρ v x) (w : WS K E F D (putX i x ρ)) : D.nx (σ.set i (some v)) H := by
  unfold putX at w
  cases x with
  | val d =>
    dsimp only at w
    split at w
    · rename_i hf
      exact w _ G H (R.put hf ⟨v, rfl, hx⟩ rfl fun o e => by cases e)
    · exact w.elim
  | new o =>
    dsimp only at w
    split at w
    · rename_i hf
      obtain ⟨a, rfl, h0, hg, ho, n⟩ := hx
      exact w _ G H (R.put hf ⟨a, rfl, h0, hg, ho⟩ rfl fun o e j o' hj hr => n j o' hr)
    · exact w.elim
  | own j =>
    dsimp only at w
    split at w
    · rename_i d ρ1 e
      obtain ⟨G', R', s, r⟩ := R.toVal hx e
      split at w
      · rename_i hf
        exact w _ G' H (R'.put hf ⟨v, rfl, r⟩ rfl fun o e => by cases e)
      · exact w.elim
    · exact w.elim
def sSet (i : Nat) (A : En → Res X) : En → SR := fun ρ => (A ρ).sb fun a ρ1 => putX i a ρ1
theorem L_set {i : Nat} (ha : LE K E ta A) : LS K E (tAsg ta (gName i)) (sSet i A) := by
  intro F G H σ ρ D R w
  exact ha F G H σ ρ _ R (w.sb fun b a G' H' ρ' R' _ hx w' => put_run R' hx w')
/-! targets -/
abbrev Tg := D → En → Option En
def LTg (K : Fg) (vs : List Nat) (g : TG) (U : Tg) : Prop := ∀ (F : Fm) (G H : Hp) (σ : L2.St) (ρ ρ' : En) (v : V) (d : D) (Q : L2.St → Hp → Prop), Rl K F G H σ ρ → Rep K G v d → U d ρ = some ρ' →
  (∀ σ', Rl K F G H σ' ρ' → wipe σ' vs = wipe σ vs → Q σ' H) → g v σ H Q
@[simp] def uName (i : Nat) : Tg := fun d ρ => if freeAt ρ i then some (ρ.set i (.val d)) else none
theorem wipe_set : ∀ {vs : List Nat} {i : Nat} {σ : L2.St} {x : Option V}, i ∈ vs → wipe (σ.set i x) vs = wipe σ vs
  | v :: vs, i, σ, x, h => by
    by_cases q : i ∈ vs
    · show (wipe (σ.set i x) vs).set v none = (wipe σ vs).set v none
      rw [wipe_set q]
    · have e : i = v := by
        rcases List.mem_cons.mp h with h | h
        · exact h
        · exact absurd h q
      subst e
      show (wipe (σ.set i x) vs).set i none = (wipe σ vs).set i none
      apply List.ext_getElem?
      intro j
      by_cases e : i = j
      · subst e
        by_cases hl : i < (wipe σ vs).length
        · rw [List.getElem?_set_self hl, List.getElem?_set_self (by rw [wipe_length] at hl ⊢; simpa using hl)]
        · rw [List.getElem?_eq_none (by rw [List.length_set, wipe_length, List.length_set]; rw [wipe_length] at hl; omega), List.getElem?_eq_none (by rw [List.length_set]; omega)]
      · rw [List.getElem?_set_ne e, List.getElem?_set_ne e]
        have : ∀ (ws : List Nat) (τ : L2.St), i ∉ ws → (wipe (τ.set i x) ws)[j]? = (wipe τ ws)[j]? := by
          intro ws
          induction ws with
          | nil => intro τ _; show (τ.set i x)[j]? = τ[j]?; rw [List.getElem?_set_ne e]
          | cons w ws ih =>
            intro τ hn
            show ((wipe (τ.set i x) ws).set w none)[j]? = ((wipe τ ws).set w none)[j]?
            by_cases q2 : w = j
            · subst q2
              by_cases hl : w < τ.length
              · rw [List.getElem?_set_self (by rw [wipe_length]; simpa using hl), List.getElem?_set_self (by rw [wipe_length]; exact hl)]
              · rw [List.getElem?_eq_none (by rw [List.length_set, wipe_length, List.length_set]; omega), List.getElem?_eq_none (by rw [List.length_set, wipe_length]; omega)]
            · rw [List.getElem?_set_ne q2, List.getElem?_set_ne q2]
              exact ih τ fun z => hn (List.mem_cons_of_mem _ z)
        exact this vs σ q
theorem U_name {vs : List Nat} {i : Nat} (hi : i ∈ vs) : LTg K vs (gName i) (uName i) := by
  intro F G H σ ρ ρ' v d Q R hr e q
  unfold uName at e
  split at e
  · rename_i hf
    cases e
    exact q _ (R.put hf ⟨v, rfl, hr⟩ rfl fun o e => by cases e) (wipe_set hi)
  · cases e
abbrev Tgs := List D → En → Option En
def LTgs (K : Fg) (vs : List Nat) (g : TGs) (U : Tgs) : Prop := ∀ (F : Fm) (G H : Hp) (σ : L2.St) (ρ ρ' : En) (ws : List V) (ds : List D) (Q : L2.St → Hp → Prop), Rl K F G H σ ρ → RepA K G ws ds → U ds ρ = some ρ' →
  (∀ σ', Rl K F G H σ' ρ' → wipe σ' vs = wipe σ vs → Q σ' H) → g ws σ H Q
@[simp] def usNil : Tgs := fun ds ρ => match ds with
  | [] => some ρ
  | _ => none
@[simp] def usCons (U : Tg) (Us : Tgs) : Tgs := fun ds ρ => match ds with
  | d :: ds => (U d ρ).bind fun ρ1 => Us ds ρ1
  | [] => none
theorem Us_nil {vs : List Nat} : LTgs K vs gNil usNil := by
  intro F G H σ ρ ρ' ws ds Q R hr e q
  cases ds with
  | nil =>
    cases e
    cases hr
    exact ⟨rfl, q σ R rfl⟩
  | cons d ds => cases e
theorem Us_cons {vs : List Nat} {g : TG} {gs : TGs} {U : Tg} {Us : Tgs} (h : LTg K vs g U) (hs : LTgs K vs gs Us) : LTgs K vs (gCons g gs) (usCons U Us) := by
  intro F G H σ ρ ρ' ws ds Q R hr e q
  cases ds with
  | nil => cases e
  | cons d ds =>
    cases hr with
    | cons r rs =>
      simp only [usCons] at e
      cases e1 : U d ρ with
      | none => rw [e1] at e; cases e
      | some ρ1 =>
        rw [e1] at e
        exact ⟨_, _, rfl, h F G H σ ρ ρ1 _ d _ R r e1 fun σ1 R1 w1 => hs F G H σ1 ρ1 ρ' _ ds Q R1 rs e fun σ2 R2 w2 => q σ2 R2 (w2.trans w1)⟩
@[simp] def uTup (n : Nat) (Us : Tgs) : Tg := fun d ρ => match d with
  | .tup ds => if ds.length = n then Us ds ρ else none
  | _ => none
theorem U_tup {vs : List Nat} {gs : TGs} {Us : Tgs} {n : Nat} (hs : LTgs K vs gs Us) : LTg K vs (gTup K n gs) (uTup n Us) := by
  intro F G H σ ρ ρ' v d Q R hr e q
  cases d <;> first | (cases e; done) | skip
  rename_i ds
  simp only [uTup] at e
  split at e
  · rename_i hn
    cases hr with
    | tup h r => exact ⟨_, _, rfl, smTup R.gh h, by rw [r.len, hn], hs F G H σ ρ ρ' _ ds Q R r e q⟩
  · cases e
def sTgt (U : Tg) (A : En → Res X) : En → SR := fun ρ => (A ρ).sb fun a ρ1 => match toVal ρ1 a with
  | some (d, ρ2) => match U d ρ2 with
    | some ρ3 => .nx ρ3
    | none => .stuck
  | none => .stuck
theorem L_tgt {vs : List Nat} {g : TG} {U : Tg} (ha : LE K E ta A) (hg : LTg K vs g U) : LS K E (tAsg ta g) (sTgt U A) := by
  intro F G H σ ρ D R w
  refine ha F G H σ ρ _ R (w.sb fun b a G' H' ρ' R' _ hx w' => ?_)
  cases e : toVal ρ' a with
  | none => rw [e] at w'; exact w'.elim
  | some p =>
    obtain ⟨d, ρ2⟩ := p
    rw [e] at w'
    obtain ⟨G2, R2, s2, r2⟩ := R'.toVal hx e
    dsimp only at w'
    cases e2 : U d ρ2 with
    | none => rw [e2] at w'; exact w'.elim
    | some ρ3 =>
      rw [e2] at w'
      exact hg F G2 H' σ ρ2 ρ3 b d _ R2 r2 e2 fun σ' R3 _ => w' σ' G2 H' R3
end
end DL

set_option Elab.async false
set_option linter.all false
set_option maxRecDepth 100000
set_option maxHeartbeats 2000000
/-! the data layer: what changes things; several names at once; attributes -/
namespace DL
open PySem PySem.Spec PyProof.Rows L2 DD
section
variable {K : Fg} {E : XK} {F : Fm} {G G' H H' : Hp} {σ : L2.St} {ρ ρ' : En} {ta tb : TE} {A B : En → Res X} {t : TA} {T : En → Res (List X)}
/-! ### methods that change a list in slot i -/
abbrev Mu := List D → List D → Option (D × List D)
@[simp] def lstAt (ρ : En) (i : Nat) : Option (List D) := match ρ[i]? with
  | some (.own (.lst ds)) | some (.bor (.lst ds)) => some ds
  | _ => none
@[simp] def setAt (ρ : En) (i : Nat) (ds : List D) : En := match ρ[i]? with
  | some (.own _) => ρ.set i (.own (.lst ds))
  | some (.bor _) => ρ.set i (.bor (.lst ds))
  | _ => ρ
theorem Rl.lstAt {i : Nat} {ds : List D} (R : Rl K F G H σ ρ) (h : lstAt ρ i = some ds) : ∃ s a vs, ρ[i]? = some s ∧ s.co = some (.lst ds) ∧ σ[i]? = some (some (.ref a)) ∧ G a = none ∧ H a = some (.lst vs) ∧ RepA K G vs ds := by
  unfold DL.lstAt at h
  split at h
  · rename_i ds' e
    cases h
    obtain ⟨a, h1, _, h2, vs, h3, h4⟩ := R.own e
    exact ⟨_, a, vs, e, rfl, h1, h2, h3, h4⟩
  · rename_i ds' e
    cases h
    obtain ⟨a, h1, _, h2, vs, h3, h4⟩ := R.bor e
    exact ⟨_, a, vs, e, rfl, h1, h2, h3, h4⟩
  · cases h
theorem Rl.setAt {i : Nat} {ds ds' : List D} {a : Addr} {ws : List V} (R : Rl K F G H σ ρ) (h : DL.lstAt ρ i = some ds) (ha : σ[i]? = some (some (.ref a))) (r : RepA K G ws ds') : Rl K F G (upd H a (.lst ws)) σ (DL.setAt ρ i ds') := by
  obtain ⟨s, b, vs, h1, h2, h3, h4, h5, h6⟩ := R.lstAt h
  rw [ha] at h3
  cases h3
  rcases co_cases h2 with rfl | rfl
  · have R' := R.mut h1 (s' := .own (.lst ds')) rfl ha ⟨ws, upd_same, r⟩
    have e : DL.setAt ρ i ds' = ρ.set i (.own (.lst ds')) := by
      unfold DL.setAt
      rw [h1]
    rw [e]
    exact R'
  · have R' := R.mut h1 (s' := .bor (.lst ds')) rfl ha ⟨ws, upd_same, r⟩
    have e : DL.setAt ρ i ds' = ρ.set i (.bor (.lst ds')) := by
      unfold DL.setAt
      rw [h1]
    rw [e]
    exact R'
def MuS (K : Fg) (r : V → List V → Hp → VK → Prop) (f : Mu) : Prop := ∀ (G H : Hp) (a : Addr) (ws vs : List V) (ds as ds' : List D) (z : D) (Q : VK), Same G H → H a = some (.lst ws) → RepA K G ws ds → RepA K G vs as → f ds as = some (z, ds') →
  (∀ ws' v, RepA K G ws' ds' → Rep K G v z → Q v (upd H a (.lst ws'))) → r (.ref a) vs H Q
def eMut (i : Nat) (f : Mu) (T : En → Res (List X)) : En → Res X := fun ρ => match lstAt ρ i with
  | none => .stuck
  | some _ => (T ρ).bind fun xs ρ1 => match toVals ρ1 xs with
    | none => .stuck
    | some (as, ρ2) => match lstAt ρ2 i with
      | none => .stuck
      | some ds => match f ds as with
        | none => .stuck
        | some (z, ds') => .ok (.val z) (setAt ρ2 i ds')
theorem L_mut {m : V → List V → Hp → VK → Prop} {f : Mu} {i : Nat} (hm : MuS K m f) (ht : LA K E t T) : LE K E (tBM K "list" m (tVar i) t) (eMut i f T) := by
  intro F G H σ ρ Q R w
  unfold eMut at w
  cases e0 : lstAt ρ i with
  | none => rw [e0] at w; exact w.elim
  | some ds0 =>
    rw [e0] at w
    obtain ⟨s, a, vs, h1, h2, h3, h4, h5, h6⟩ := R.lstAt e0
    refine ⟨_, h3, .inl ⟨rfl, vs, .inl (.inl h5)⟩, ht F G H σ ρ _ R (w.bind fun ys xs G1 H1 ρ1 R1 s1 hy w1 => ?_)⟩
    cases e1 : toVals ρ1 xs with
    | none => rw [e1] at w1; exact w1.elim
    | some p =>
      obtain ⟨as, ρ2⟩ := p
      rw [e1] at w1
      dsimp only at w1
      obtain ⟨G2, R2, s2, r2⟩ := R1.toVals hy e1
      cases e2 : lstAt ρ2 i with
      | none => rw [e2] at w1; exact w1.elim
      | some ds =>
        rw [e2] at w1
        dsimp only at w1
        obtain ⟨s', b, ws, g1, g2, g3, g4, g5, g6⟩ := R2.lstAt e2
        rw [h3] at g3
        cases g3
        cases e3 : f ds as with
        | none => rw [e3] at w1; exact w1.elim
        | some p =>
          obtain ⟨z, ds'⟩ := p
          rw [e3] at w1
          dsimp only at w1
          exact hm G2 H1 a ws ys ds as ds' z Q R2.gh g5 g6 r2 e3 fun ws' v q1 q2 => w1 v G2 _ (R2.setAt e2 h3 q1) s2 q2
theorem L_mut0 {m : V → List V → Hp → VK → Prop} {f : Mu} {i : Nat} (hm : MuS K m f) : LE K E (tBM0 K "list" m (tVar i)) (eMut i f aNil) := by
  intro F G H σ ρ Q R w
  unfold eMut at w
  cases e0 : lstAt ρ i with
  | none => rw [e0] at w; exact w.elim
  | some ds0 =>
    rw [e0] at w
    obtain ⟨s, a, vs, h1, h2, h3, h4, h5, h6⟩ := R.lstAt e0
    refine ⟨_, h3, .inl ⟨rfl, vs, .inl (.inl h5)⟩, ?_⟩
    have w1 : Wants K E (RepX K) F G σ Q (match toVals ρ [] with
      | none => .stuck
      | some (as, ρ2) => match lstAt ρ2 i with
        | none => .stuck
        | some ds => match f ds as with
          | none => .stuck
          | some (z, ds') => .ok (.val z) (setAt ρ2 i ds')) := w
    simp only [toVals, e0] at w1
    cases e3 : f ds0 [] with
    | none => rw [e3] at w1; exact w1.elim
    | some p =>
      obtain ⟨z, ds'⟩ := p
      rw [e3] at w1
      exact hm G H a vs [] ds0 [] ds' z Q R.gh h5 h6 .nil e3 fun ws' v q1 q2 => w1 v G _ (R.setAt e0 h3 q1) (Same.refl G) q2
@[simp] def mAppend : Mu := fun ds as => match as with
  | [d] => if ds.length < sizeLine then some (.non, ds ++ [d]) else none
  | _ => none
theorem M_append : MuS K rAppend mAppend := by
  intro G H a ws vs ds as ds' z Q s h hw hv e q
  unfold mAppend at e
  split at e
  · split at e
    · rename_i hz
      cases e
      cases hv with
      | cons h1 r =>
        cases r
        exact ⟨a, ws, _, rfl, rfl, h, by rw [hw.len]; exact hz, q _ .non (hw.app (.one h1)) .non⟩
    · cases e
  · cases e
@[simp] def mExtend : Mu := fun ds as => match as with
  | [.lst es] => if ds.length + es.length ≤ sizeLine then some (.non, ds ++ es) else none
  | _ => none
theorem M_extend : MuS K rExtend mExtend := by
  intro G H a ws vs ds as ds' z Q s h hw hv e q
  unfold mExtend at e
  split at e
  · split at e
    · rename_i hz
      cases e
      cases hv with
      | cons h1 r =>
        cases r
        cases h1 with
        | lst g1 g2 => exact ⟨a, _, ws, _, rfl, rfl, h, s _ _ g1, by rw [hw.len, g2.len]; exact hz, q _ .non (hw.app g2) .non⟩
    · cases e
  · cases e
@[simp] def mPop : Mu := fun ds as => match as with
  | [.int i] => if -(2 ^ 63) ≤ i ∧ i < 2 ^ 63 then (seqIndex? i ds.length).bind fun k => (ds[k]?).map fun d => (d, ds.eraseIdx k) else none
  | _ => none
theorem M_pop : MuS K rPopAt mPop := by
  intro G H a ws vs ds as ds' z Q s h hw hv e q
  unfold mPop at e
  split at e
  · split at e
    · rename_i hz
      cases hv with
      | cons h1 r =>
        cases r
        cases h1
        rename_i i
        cases e1 : seqIndex? i ds.length with
        | none => rw [e1] at e; cases e
        | some k =>
          rw [e1] at e
          simp only [Option.bind_some, Option.map_eq_some_iff] at e
          obtain ⟨d, e2, e3⟩ := e
          cases e3
          obtain ⟨v, e4, r4⟩ := hw.get e2
          exact ⟨a, ws, i, k, v, rfl, rfl, h, hz.1, hz.2, by rw [hw.len]; exact e1, e4, q _ v (hw.erase k) r4⟩
    · cases e
  · cases e
@[simp] def mPop0 : Mu := fun ds as => match as with
  | [] => (ds[ds.length - 1]?).map fun d => (d, ds.dropLast)
  | _ => none
theorem RepA.dl : ∀ {vs : List V} {ds : List D}, RepA K G vs ds → RepA K G vs.dropLast ds.dropLast
  | _, _, .nil => .nil
  | _, _, .cons h .nil => .nil
  | _, _, .cons h (.cons h2 r) => .cons h (RepA.dl (.cons h2 r))
theorem M_pop0 : MuS K rPop mPop0 := by
  intro G H a ws vs ds as ds' z Q s h hw hv e q
  unfold mPop0 at e
  split at e
  · rw [Option.map_eq_some_iff] at e
    obtain ⟨d, e2, e3⟩ := e
    cases e3
    cases hv
    obtain ⟨v, e4, r4⟩ := hw.get e2
    exact ⟨a, ws, v, rfl, rfl, h, by rw [hw.len]; exact e4, q _ v hw.dl r4⟩
  · cases e
def mRemove : Mu := fun ds as => match as with
  | [d] => match D.pyA ds, d.py with
    | some ps, some p => if PyData.plainAll ps = true ∧ p.plain = true ∧ min (PyData.depthAll ps) p.depth ≤ 60 then (PySem.SeqAt.dataPlace ps p).map fun j => (.non, ds.eraseIdx j) else none
    | _, _ => none
  | _ => none
theorem M_remove : MuS K (rRemD K) mRemove := by
  intro G H a ws vs ds as ds' z Q s h hw hv e q
  unfold mRemove at e
  split at e
  · split at e
    · rename_i ps p e1 e2
      split at e
      · rename_i hc
        rw [Option.map_eq_some_iff] at e
        obtain ⟨j, e3, e4⟩ := e
        cases e4
        cases hv with
        | cons h1 r =>
          cases r
          exact ⟨a, ws, _, ps, p, j, rfl, rfl, h, (hw.mono s).dp e1, (h1.mono s).dp e2, hc.1, hc.2.1, hc.2.2, e3, q _ .non (hw.erase j) .non⟩
      · cases e
    · cases e
  · cases e
/-! ### xs[k] = e, xs in slot i -/
def sPut (i : Nat) (A B : En → Res X) : En → SR := fun ρ => (A ρ).sb fun a ρ1 => match toVal ρ1 a with
  | none => .stuck
  | some (d, ρ2) => match lstAt ρ2 i with
    | none => .stuck
    | some _ => (B ρ2).sb fun b ρ3 => match asI ρ3 b, lstAt ρ3 i with
      | some k, some ds => match ixN ds.length k with
        | some j => .nx (setAt ρ3 i (ds.set j d))
        | none => .stuck
      | _, _ => .stuck
theorem L_put {i : Nat} (ha : LE K E ta A) (hb : LE K E tb B) : LS K E (tAsg ta (gSub (tVar i) tb rSetL)) (sPut i A B) := by
  intro F G H σ ρ D R w
  refine ha F G H σ ρ _ R (w.sb fun v a G1 H1 ρ1 R1 s1 hx w1 => ?_)
  cases e : toVal ρ1 a with
  | none => rw [e] at w1; exact w1.elim
  | some p =>
    obtain ⟨d, ρ2⟩ := p
    rw [e] at w1
    dsimp only at w1
    obtain ⟨G2, R2, s2, r2⟩ := R1.toVal hx e
    cases e0 : lstAt ρ2 i with
    | none => rw [e0] at w1; exact w1.elim
    | some ds0 =>
      rw [e0] at w1
      dsimp only at w1
      obtain ⟨s, b, vs, h1, h2, h3, h4, h5, h6⟩ := R2.lstAt e0
      refine ⟨_, h3, hb F G2 H1 σ ρ2 _ R2 (w1.sb fun y k G3 H3 ρ3 R3 s3 hy w3 => ?_)⟩
      cases e1 : asI ρ3 k with
      | none => rw [e1] at w3; exact w3.elim
      | some n =>
        cases e2 : lstAt ρ3 i with
        | none => rw [e1, e2] at w3; exact w3.elim
        | some ds =>
          rw [e1, e2] at w3
          dsimp only at w3
          cases e3 : ixN ds.length n with
          | none => rw [e3] at w3; exact w3.elim
          | some j =>
            rw [e3] at w3
            obtain ⟨s', c, ws, g1, g2, g3, g4, g5, g6⟩ := R3.lstAt e2
            rw [h3] at g3
            cases g3
            exact ⟨b, ws, n, j, rfl, R3.asI hy e1, g5, by rw [g6.len]; exact e3, w3 _ _ _ (R3.setAt e2 h3 (g6.set j (r2.mono s3)))⟩
/-! ### o.f, o.f = e -/
@[simp] def getF (f : Str) : List Str → List D → Option D
  | k :: ks, d :: ds => if k = f then some d else getF f ks ds
  | _, _ => none
theorem getF_rep {f : Str} {d : D} : ∀ {fs : List (Str × V)} {ks : List Str} {ds : List D}, fs.map (·.1) = ks → RepA K G (fs.map (·.2)) ds → getF f ks ds = some d → ∃ v, fs.lookup f = some v ∧ Rep K G v d
  | [], _, _, rfl, r, e => by cases e
  | (k, x) :: fs, _, _, rfl, r, e => by
    rw [List.map_cons] at r
    cases r with
    | cons h r =>
      simp only [List.map_cons, getF] at e
      by_cases q : k = f
      · rw [if_pos q] at e
        cases e
        exact ⟨x, by simp [List.lookup, q], h⟩
      · rw [if_neg q] at e
        obtain ⟨v, h1, h2⟩ := getF_rep (fs := fs) rfl r e
        refine ⟨v, ?_, h2⟩
        have : (f == k) = false := by rw [beq_eq_false_iff_ne]; exact fun z => q z.symm
        simp only [List.lookup, this]
        exact h1
def dFld (Cs : List Addr) (f : Str) (A : En → Res X) : En → Res X := fun ρ => (A ρ).bind fun a ρ1 => match deref ρ1 a with
  | some (.ins C ks ds) => if C ∈ Cs then lift ((getF f ks ds).map X.val) ρ1 else .stuck
  | _ => .stuck
theorem L_fld {Cs : List Addr} {f : Str} (hc : ∀ C ∈ Cs, Cls K C ∧ NoAttr K C f) (ha : LE K E ta A) : LE K E (tFld K ta f) (dFld Cs f A) := by
  refine LG.bind (k := fun x σ H (Q : VK) => ∃ a C dx fs v, x = .ref a ∧ H a = some (.ins C dx fs) ∧ Cls K C ∧ NoAttr K C f ∧ fs.lookup f = some v ∧ Q v H) ha fun F G H σ ρ x a Q R hx w => ?_
  cases e : deref ρ a with
  | none => rw [e] at w; exact w.elim
  | some d =>
    rw [e] at w
    have hd := R.deref hx e
    cases d <;> try exact w.elim
    rename_i C ks ds
    dsimp only at w
    split at w
    · rename_i hC
      obtain ⟨z, ez, q⟩ := w.lift
      rw [Option.map_eq_some_iff] at ez
      obtain ⟨d, ez, rfl⟩ := ez
      obtain ⟨b, dx, fs, rfl, h1, h2, h3⟩ := hd.ins R.gh
      obtain ⟨v, h4, h5⟩ := getF_rep h2 h3 ez
      exact ⟨b, C, dx, fs, v, rfl, h1, (hc C hC).1, (hc C hC).2, h4, q _ G H R (Same.refl G) h5⟩
    · exact w.elim
@[simp] def putFD (f : Str) (d : D) : List Str → List D → List Str × List D
  | k :: ks, e :: ds => if k = f then (k :: ks, d :: ds) else ((k :: (putFD f d ks ds).1), (e :: (putFD f d ks ds).2))
  | _, _ => ([f], [d])
theorem putF_rep {f : Str} {v : V} {d : D} (h : Rep K G v d) : ∀ {fs : List (Str × V)} {ks : List Str} {ds : List D}, fs.map (·.1) = ks → RepA K G (fs.map (·.2)) ds → (putF f v fs).map (·.1) = (putFD f d ks ds).1 ∧ RepA K G ((putF f v fs).map (·.2)) (putFD f d ks ds).2
  | [], _, _, rfl, r => by
    cases r
    exact ⟨rfl, .cons h .nil⟩
  | (k, x) :: fs, _, _, rfl, r => by
    rw [List.map_cons] at r
    cases r with
    | cons h0 r =>
      obtain ⟨h1, h2⟩ := putF_rep h (fs := fs) rfl r
      rw [show putF f v ((k, x) :: fs) = (if k = f then (k, v) :: fs else (k, x) :: putF f v fs) from rfl]
      simp only [List.map_cons, putFD]
      by_cases q : k = f
      · rw [if_pos q, if_pos q]
        exact ⟨rfl, .cons h r⟩
      · rw [if_neg q, if_neg q]
        exact ⟨by rw [List.map_cons, h1], .cons h0 h2⟩
@[simp] def insAt (ρ : En) (i : Nat) : Option (Addr × List Str × List D) := match ρ[i]? with
  | some (.own (.ins C ks ds)) | some (.bor (.ins C ks ds)) => some (C, ks, ds)
  | _ => none
@[simp] def setIns (ρ : En) (i : Nat) (o : O) : En := match ρ[i]? with
  | some (.own _) => ρ.set i (.own o)
  | some (.bor _) => ρ.set i (.bor o)
  | _ => ρ
def sFldD (Cs : List Addr) (i : Nat) (f : Str) (A : En → Res X) : En → SR := fun ρ => (A ρ).sb fun a ρ1 => match toVal ρ1 a with
  | none => .stuck
  | some (d, ρ2) => match insAt ρ2 i with
    | some (C, ks, ds) => if C ∈ Cs ∧ ks.length < 1000 then .nx (setIns ρ2 i (.ins C (putFD f d ks ds).1 (putFD f d ks ds).2)) else .stuck
    | none => .stuck
theorem L_sfld {Cs : List Addr} {i : Nat} {f : Str} (hc : ∀ C ∈ Cs, Cls K C ∧ NoAttr K C f) (ha : LE K E ta A) : LS K E (sFld K (tVar i) ta f) (sFldD Cs i f A) := by
  intro F G H σ ρ D R w
  refine ha F G H σ ρ _ R (w.sb fun v a G1 H1 ρ1 R1 s1 hx w1 => ?_)
  cases e : toVal ρ1 a with
  | none => rw [e] at w1; exact w1.elim
  | some p =>
    obtain ⟨d, ρ2⟩ := p
    rw [e] at w1
    dsimp only at w1
    obtain ⟨G2, R2, s2, r2⟩ := R1.toVal hx e
    cases e0 : insAt ρ2 i with
    | none => rw [e0] at w1; exact w1.elim
    | some q =>
      obtain ⟨C, ks, ds⟩ := q
      rw [e0] at w1
      dsimp only at w1
      split at w1
      · rename_i hC
        obtain ⟨s, hs, hco⟩ : ∃ s, ρ2[i]? = some s ∧ s.co = some (.ins C ks ds) := by
          unfold insAt at e0
          split at e0
          · rename_i e; cases e0; exact ⟨_, e, rfl⟩
          · rename_i e; cases e0; exact ⟨_, e, rfl⟩
          · cases e0
        obtain ⟨b, h1, h2, dx, fs, h3, h4, h5⟩ := R2.holder hs hco
        obtain ⟨p1, p2⟩ := putF_rep (f := f) r2 h4 h5
        refine ⟨_, h1, b, C, dx, fs, rfl, h3, (hc C hC.1).1, (hc C hC.1).2, by rw [← h4, List.length_map] at hC; exact hC.2, ?_⟩
        rcases co_cases hco with rfl | rfl
        · have R3 := R2.mut hs (s' := .own (.ins C (putFD f d ks ds).1 (putFD f d ks ds).2)) rfl h1 (u := .ins C dx (putF f v fs)) ⟨dx, _, upd_same, p1, p2⟩
          have e : setIns ρ2 i (.ins C (putFD f d ks ds).1 (putFD f d ks ds).2) = ρ2.set i (.own (.ins C (putFD f d ks ds).1 (putFD f d ks ds).2)) := by
            unfold setIns
            rw [hs]
          rw [e] at w1
          exact w1 _ _ _ R3
        · have R3 := R2.mut hs (s' := .bor (.ins C (putFD f d ks ds).1 (putFD f d ks ds).2)) rfl h1 (u := .ins C dx (putF f v fs)) ⟨dx, _, upd_same, p1, p2⟩
          have e : setIns ρ2 i (.ins C (putFD f d ks ds).1 (putFD f d ks ds).2) = ρ2.set i (.bor (.ins C (putFD f d ks ds).1 (putFD f d ks ds).2)) := by
            unfold setIns
            rw [hs]
          rw [e] at w1
          exact w1 _ _ _ R3
      · exact w1.elim
/-! ### several names at once -/
def newAt (x : X) : Bool := match x with
  | .new _ => true
  | _ => false
/-- values one beside the other, new ones among them -/
inductive RepXn (K : Fg) (F : Fm) (G H : Hp) (σ : L2.St) (ρ : En) : List V → List X → Prop
  | nil : RepXn K F G H σ ρ [] []
  | cons {v : V} {vs : List V} {x : X} {xs : List X} : RepX K F G H σ ρ v x → (newAt x = true → ∀ (j : Nat) (y : X), xs[j]? = some y → newAt y = true → vs[j]? ≠ some v) → RepXn K F G H σ ρ vs xs → RepXn K F G H σ ρ (v :: vs) (x :: xs)
theorem RepXn.get : ∀ {vs : List V} {xs : List X} {j : Nat} {y : X}, RepXn K F G H σ ρ vs xs → xs[j]? = some y → ∃ v, vs[j]? = some v ∧ RepX K F G H σ ρ v y
  | _, _, _, _, .nil, e => by simp at e
  | _, _, 0, _, .cons h _ _, e => by simp at e; subst e; exact ⟨_, rfl, h⟩
  | _, _, j + 1, _, .cons _ _ r, e => by
    obtain ⟨v, h1, h2⟩ := r.get (j := j) (by simpa using e)
    exact ⟨v, by simpa using h1, h2⟩
abbrev LN (K : Fg) (E : XK) (t : TA) (T : En → Res (List X)) : Prop := LG K E (RepXn K) t T
def nCons (A : En → Res X) (T : En → Res (List X)) : En → Res (List X) := fun ρ => (A ρ).bind fun a ρ1 => match a with
  | .own j => match toVal ρ1 (.own j) with
    | some (d, ρ2) => (T ρ2).bind fun as ρ3 => .ok (.val d :: as) ρ3
    | none => .stuck
  | a => (T ρ1).bind fun as ρ2 => .ok (a :: as) ρ2
theorem N_nil : LN K E tNil aNil := fun F G H σ ρ Q R w => w [] G H R (Same.refl G) .nil
theorem RepXn.unhold {a : Addr} {o : HO} (h0 : F.H0 a = none) : ∀ {vs : List V} {xs : List X}, RepXn K (F.hold a o) G H σ ρ vs xs → RepXn K F G H σ ρ vs xs
  | _, _, .nil => .nil
  | _, _, .cons h n r => .cons (h.unhold h0) n (r.unhold h0)
theorem N_cons (ha : LE K E ta A) (ht : LN K E t T) : LN K E (tCons ta t) (nCons A T) := by
  refine LG.bind (k := fun x σ H (Q : List V → Hp → Prop) => t σ H fun xs H2 => Q (x :: xs) H2) ha fun F G H σ ρ x a Q R hx w => ?_
  cases a with
  | val d =>
    exact ht F G H σ ρ _ R (w.bind fun ys b G2 H2 ρ2 R2 s2 hy w2 => w2 _ G2 H2 R2 (Same.refl G2) (.cons (Rep.mono s2 hx) (fun z => by cases z) hy))
  | own i =>
    have w' : Wants K E (RepXn K) F G σ Q (match toVal ρ (.own i) with
      | some (d, ρ2) => (T ρ2).bind fun as ρ3 => .ok (.val d :: as) ρ3
      | none => .stuck) := w
    cases e : toVal ρ (.own i) with
    | none => rw [e] at w'; exact w'.elim
    | some p =>
      obtain ⟨d, ρ2⟩ := p
      rw [e] at w'
      dsimp only at w'
      obtain ⟨G1, R1, s1, r1⟩ := R.toVal hx e
      exact ht F G1 H σ ρ2 _ R1 ((w'.mono s1).bind fun ys b G2 H2 ρ2 R2 s2 hy w2 => w2 _ G2 H2 R2 (Same.refl G2) (.cons (Rep.mono s2 r1) (fun z => by cases z) hy))
  | new o =>
    obtain ⟨p, rfl, h0, hg, ho, n⟩ := hx
    obtain ⟨u, hu⟩ := ho.ex
    have R1 := R.hold hu h0 hg n
    have hg0 : F.G0 p = none := none_of R.g0 hg
    have hl := R.noL h0
    have hm := R.noM h0
    have back : ∀ {G2 H2 : Hp} {ρ2 : En}, Rl K (F.hold p u) G2 H2 σ ρ2 → Rl K F G2 H2 σ ρ2 := fun R2 => R2.unhold h0 hl hm
    refine ht (F.hold p u) G H σ ρ _ R1 ?_
    -- what is wanted in the frame in which p is held
    have w' : Wants K E (RepXn K) F G σ Q ((T ρ).bind fun as ρ2 => .ok (.new o :: as) ρ2) := w
    cases e : T ρ with
    | ok b ρ2 =>
      rw [e] at w'
      intro ys G2 H2 R2 s2 hy
      have hH := R2.heldH hm
      refine w' _ G2 H2 (back R2) s2 (.cons ⟨p, rfl, h0, R2.heldG hg0, ho.mono s2 (fun x ex => by rw [hu] at ex; cases ex; exact hH), R2.heldN⟩ (fun _ j y hj hn => ?_) (hy.unhold h0))
      obtain ⟨v, h1, h2⟩ := hy.get hj
      cases y with
      | new o' =>
        obtain ⟨q, rfl, g0, _⟩ := h2
        rw [h1]
        intro z
        cases z
        rw [show (F.hold p u).H0 p = some u from upd_same] at g0
        cases g0
      | val d => cases hn
      | own i => cases hn
    | err x ρ2 =>
      rw [e] at w'
      exact fun c od G2 H2 R2 s2 hx => w' c od G2 H2 (back R2) s2 hx
    | stuck =>
      rw [e] at w'
      exact w'
@[simp] def puts : List Nat → List X → En → SR
  | [], [], ρ => .nx ρ
  | i :: is, .val d :: xs, ρ => if freeAt ρ i then puts is xs (ρ.set i (.val d)) else .stuck
  | i :: is, .new o :: xs, ρ => if freeAt ρ i then puts is xs (ρ.set i (.own o)) else .stuck
  | _, _, _ => .stuck
def setsV : L2.St → List Nat → List V → L2.St
  | σ, i :: is, v :: vs => setsV (σ.set i (some v)) is vs
  | σ, _, _ => σ
theorem getset' {α : Type} {l : List α} {i j : Nat} {x : α} (h : j ≠ i) : (l.set i x)[j]? = l[j]? := List.getElem?_set_ne (fun e => h e.symm)
theorem RepXn.put {i : Nat} {v : V} {s : Slot} (hs : ∀ o, s = .own o → ∃ a, v = .ref a) (hv : ∀ o, s = .own o → True) (hl : i < ρ.length) (hl' : i < σ.length) : ∀ {vs : List V} {xs : List X}, RepXn K F G H σ ρ vs xs → (∀ o, s = .own o → ∀ (j : Nat) (y : X), xs[j]? = some y → newAt y = true → vs[j]? ≠ some v) → (∀ (j : Nat) (y : X), xs[j]? = some y → ∀ k, y ≠ .own k) → RepXn K F G H (σ.set i (some v)) (ρ.set i s) vs xs
  | _, _, .nil, _, _ => .nil
  | w :: vs, x :: xs, .cons h n r, q, no => by
    refine .cons ?_ n (r.put hs hv hl hl' (fun o e j y hj hn => q o e (j + 1) y (by simpa using hj) hn) (fun j y hj => no (j + 1) y (by simpa using hj)))
    cases x with
    | val d => exact h
    | own k => exact absurd rfl (no 0 _ rfl k)
    | new o =>
      obtain ⟨a, rfl, h0, hg, ho, nn⟩ := h
      refine ⟨a, rfl, h0, hg, ho, fun j u hj z => ?_⟩
      rcases getset hj with ⟨rfl, e, _⟩ | ⟨ne, hj⟩
      · rw [List.getElem?_set_self hl'] at z
        cases z
        exact q u e 0 _ rfl rfl rfl
      · rw [List.getElem?_set_ne ne] at z
        exact nn j u hj z
theorem puts_no {D : Ends} : ∀ {is : List Nat} {xs : List X} {ρ : En}, WS K E F D (puts is xs ρ) → ∀ (j : Nat) (y : X), xs[j]? = some y → ∀ k, y ≠ .own k
  | _, [], _, _ => fun j y hj => by simp at hj
  | [], _ :: _, _, w => by unfold puts at w; exact w.elim
  | _ :: _, .own _ :: _, _, w => by unfold puts at w; exact w.elim
  | i :: is, .val d :: xs, ρ, w => by
    unfold puts at w
    split at w
    · intro j y hj k e
      cases j with
      | zero => simp at hj; rw [← hj] at e; cases e
      | succ j => exact puts_no w j y (by simpa using hj) k e
    · exact w.elim
  | i :: is, .new o :: xs, ρ, w => by
    unfold puts at w
    split at w
    · intro j y hj k e
      cases j with
      | zero => simp at hj; rw [← hj] at e; cases e
      | succ j => exact puts_no w j y (by simpa using hj) k e
    · exact w.elim
theorem puts_run {D : Ends} : ∀ {is : List Nat} {vs : List V} {xs : List X} {σ : L2.St} {ρ : En}, Rl K F G H σ ρ → RepXn K F G H σ ρ vs xs → WS K E F D (puts is xs ρ) → D.nx (setsV σ is vs) H
  | [], [], [], σ, ρ, R, .nil, w => w σ G H R
  | [], _ :: _, _ :: _, σ, ρ, R, .cons .., w => by unfold puts at w; exact w.elim
  | _ :: _, [], [], σ, ρ, R, .nil, w => by unfold puts at w; exact w.elim
  | i :: is, v :: vs, .own k :: xs, σ, ρ, R, .cons .., w => by unfold puts at w; exact w.elim
  | i :: is, v :: vs, .val d :: xs, σ, ρ, R, .cons h n r, w => by
    unfold puts at w
    split at w
    · rename_i hf
      have hl := freeAt_lt hf
      show D.nx (setsV (σ.set i (some v)) is vs) H
      exact puts_run (R.put (s := .val d) hf ⟨v, rfl, h⟩ rfl fun o e => nomatch e) (r.put (s := .val d) (fun o e => nomatch e) (fun o e => trivial) hl (R.lt hl) (fun o e => nomatch e) (puts_no w)) w
    · exact w.elim
  | i :: is, v :: vs, .new o :: xs, σ, ρ, R, .cons h n r, w => by
    unfold puts at w
    split at w
    · rename_i hf
      have hl := freeAt_lt hf
      obtain ⟨a, rfl, h0, hg, ho, nn⟩ := h
      show D.nx (setsV (σ.set i (some (V.ref a))) is vs) H
      exact puts_run (R.put (s := .own o) hf ⟨a, rfl, h0, hg, ho⟩ rfl fun o e j o' hj hr => nn j o' hr) (r.put (s := .own o) (fun o e => ⟨a, rfl⟩) (fun o e => trivial) hl (R.lt hl) (fun _ _ j y hj hn => n rfl j y hj hn) (puts_no w)) w
    · exact w.elim
def sMulti (is : List Nat) (T : En → Res (List X)) : En → SR := fun ρ => (T ρ).sb fun xs ρ1 => puts is xs ρ1
theorem puts_len {D : Ends} : ∀ {is : List Nat} {xs : List X} {ρ : En}, WS K E F D (puts is xs ρ) → xs.length = is.length
  | [], [], _, _ => rfl
  | [], _ :: _, _, w => by unfold puts at w; exact w.elim
  | _ :: _, [], _, w => by unfold puts at w; exact w.elim
  | _ :: _, .own _ :: _, _, w => by unfold puts at w; exact w.elim
  | i :: is, .val d :: xs, ρ, w => by
    unfold puts at w
    split at w
    · rw [List.length_cons, List.length_cons, puts_len w]
    · exact w.elim
  | i :: is, .new d :: xs, ρ, w => by
    unfold puts at w
    split at w
    · rw [List.length_cons, List.length_cons, puts_len w]
    · exact w.elim
theorem RepXn.len : ∀ {vs : List V} {xs : List X}, RepXn K F G H σ ρ vs xs → vs.length = xs.length
  | _, _, .nil => rfl
  | _, _, .cons _ _ r => by rw [List.length_cons, List.length_cons, r.len]
theorem len2 {α : Type} {l : List α} (h : l.length = 2) : ∃ a b, l = [a, b] := by
  match l, h with
  | [a, b], _ => exact ⟨a, b, rfl⟩
theorem len3 {α : Type} {l : List α} (h : l.length = 3) : ∃ a b c, l = [a, b, c] := by
  match l, h with
  | [a, b, c], _ => exact ⟨a, b, c, rfl⟩
theorem L_par {i j : Nat} (ht : LN K E t T) : LS K E (tPar i j t) (sMulti [i, j] T) := by
  intro F G H σ ρ D R w
  refine ht F G H σ ρ _ R (w.sb fun vs xs G1 H1 ρ1 R1 s1 hx w1 => ?_)
  obtain ⟨v, u, rfl⟩ := len2 (hx.len.trans (puts_len w1))
  exact ⟨v, u, rfl, puts_run R1 hx w1⟩
theorem L_par3 {i j k : Nat} (ht : LN K E t T) : LS K E (tPar3 i j k t) (sMulti [i, j, k] T) := by
  intro F G H σ ρ D R w
  refine ht F G H σ ρ _ R (w.sb fun vs xs G1 H1 ρ1 R1 s1 hx w1 => ?_)
  obtain ⟨v, u, z, rfl⟩ := len3 (hx.len.trans (puts_len w1))
  exact ⟨v, u, z, rfl, puts_run R1 hx w1⟩
def gNames : List Nat → TGs
  | [] => gNil
  | i :: is => gCons (gName i) (gNames is)
theorem gNames_run {Q : L2.St → Hp → Prop} : ∀ {is : List Nat} {vs : List V} {σ : L2.St}, vs.length = is.length → Q (setsV σ is vs) H → gNames is vs σ H Q
  | [], [], σ, _, q => ⟨rfl, q⟩
  | i :: is, v :: vs, σ, h, q => ⟨v, vs, rfl, gNames_run (by simpa using h) q⟩
theorem L_tupN {is : List Nat} {n : Nat} (ht : LN K E t T) (hn : is.length = n) (hz : n ≤ sizeLine) : LS K E (tAsg (tTup t) (gTup K n (gNames is))) (sMulti is T) := by
  intro F G H σ ρ D R w
  refine ht F G H σ ρ _ R (w.sb fun vs xs G1 H1 ρ1 R1 s1 hx w1 => ?_)
  have hl := hx.len.trans (puts_len w1)
  refine ⟨by rw [hl, hn]; exact hz, fun p np => ⟨p, vs, rfl, .inl (.inl upd_same), by rw [hl, hn], gNames_run hl ?_⟩⟩
  have R2 := R1.laid (o := .tup vs) np
  refine puts_run R2 ?_ w1
  -- what was told stands
  have mv : ∀ {vs : List V} {xs : List X}, RepXn K F G1 H1 σ ρ1 vs xs → ∀ o, RepXn K F G1 (upd H1 p o) σ ρ1 vs xs := by
    intro vs xs h o
    induction h with
    | nil => exact .nil
    | @cons v vs x xs h n r ih =>
      refine .cons ?_ n ih
      cases x with
      | val d => exact h
      | own k => exact h
      | new u =>
        obtain ⟨a, rfl, h0, hg, ho, nn⟩ := h
        refine ⟨a, rfl, h0, hg, ho.mono (Same.refl G1) fun y e => ?_, nn⟩
        rw [upd_ne (ne_of_none e np)]
        exact e
  exact mv hx _
end
end DL

set_option Elab.async false
set_option linter.all false
set_option maxRecDepth 100000
set_option maxHeartbeats 2000000
/-! the data layer: loops, comprehensions -/
namespace DL
open PySem PySem.Spec PyProof.Rows L2 DD
section
variable {K : Fg} {E : XK} {F : Fm} {G G' H H' : Hp} {σ σ' : L2.St} {ρ ρ' : En} {ta tb : TE} {A B : En → Res X} {t : TA} {T : En → Res (List X)}
/-! ### what is walked -/
/-- what an iterator hands on, turn by turn, while P holds of the heap -/
structure Its (K : Fg) (P : Hp → Prop) (G1 : Hp) (J : It) (ds : List D) : Prop where
  go : ∀ G H, Same G1 G → Same G H → P H → ∀ i, i < ds.length → J.go i H
  stop : ∀ G H, Same G1 G → Same G H → P H → ∀ i, ds.length ≤ i → J.stop i H
  yld : ∀ F G H σ ρ, Rl K F G H σ ρ → Same G1 G → P H → ∀ i x H', i < ds.length → J.yld i H x H' → ∃ G', Rl K F G' H' σ ρ ∧ Same G G' ∧ (∀ u, Same H u → Same H H' ∨ True) ∧ Same H H' ∧ ∃ d, ds[i]? = some d ∧ Rep K G' x d
abbrev LI (K : Fg) (E : XK) (wi : TI) (S : En → Res (List D)) : Prop := LG K E (fun _ G _ _ _ J ds => Its K (fun _ => True) G J ds) wi S
theorem its_list {G1 : Hp} {a : Addr} {vs : List V} {ds : List D} {P : Hp → Prop} (h : ∀ G H, Same G1 G → Same G H → P H → SqL K H a vs) (r : RepA K G1 vs ds) : Its K P G1 (Itl K a) ds where
  go := fun G H e k p i hi => by
    have hi' : i < vs.length := by rw [r.len]; exact hi
    exact ⟨vs, _, h G H e k p, List.getElem?_eq_getElem hi'⟩
  stop := fun G H e k p i hi => ⟨vs, h G H e k p, by rw [r.len]; exact hi⟩
  yld := fun F G H σ ρ R e p i x H' hi hy => by
    obtain ⟨rfl, hy⟩ := hy
    have hv := hy vs (h G H' e R.gh p)
    obtain ⟨d, h1, h2⟩ := r.get' hv
    exact ⟨G, R, Same.refl G, fun _ _ => .inr trivial, Same.refl _, d, h1, h2.mono e⟩
theorem its_tup {a : Addr} {vs : List V} {ds : List D} {G1 : Hp} (h : SqT K G1 a vs) (r : RepA K G1 vs ds) : Its K (fun _ => True) G1 (Itt K a) ds where
  go := fun G H e k p i hi => by
    have hi' : i < vs.length := by rw [r.len]; exact hi
    exact ⟨vs, _, smTup (e.trans k) h, List.getElem?_eq_getElem hi'⟩
  stop := fun G H e k p i hi => ⟨vs, smTup (e.trans k) h, by rw [r.len]; exact hi⟩
  yld := fun F G H σ ρ R e p i x H' hi hy => by
    obtain ⟨rfl, hy⟩ := hy
    have hv := hy vs (smTup (e.trans R.gh) h)
    obtain ⟨d, h1, h2⟩ := r.get' hv
    exact ⟨G, R, Same.refl G, fun _ _ => .inr trivial, Same.refl _, d, h1, h2.mono e⟩
theorem its_rng {lo : Int} {n : Nat} {G1 : Hp} : Its K (fun _ => True) G1 (Itr lo n) ((List.range n).map fun i => D.int (lo + (i : Nat))) where
  go := fun G H e k p i hi => by
    rw [List.length_map, List.length_range] at hi
    exact hi
  stop := fun G H e k p i hi => by
    rw [List.length_map, List.length_range] at hi
    exact hi
  yld := fun F G H σ ρ R e p i x H' hi hy => by
    obtain ⟨rfl, rfl⟩ := hy
    rw [List.length_map, List.length_range] at hi
    refine ⟨G, R, Same.refl G, fun _ _ => .inr trivial, Same.refl _, D.int (lo + i), ?_, .int _⟩
    rw [List.getElem?_map, List.getElem?_range hi]
    rfl
/-- a list or a tuple, frozen -/
def iSeq (K : Fg) (tl : TE) : TI := fun σ H R => tl σ H fun x H1 => ∃ a, x = .ref a ∧ (((∃ xs, SqL K H1 a xs) ∧ R (Itl K a) H1) ∨ ((∃ xs, SqT K H1 a xs) ∧ R (Itt K a) H1))
theorem pi_seq {X : Cx} {K : Fg} {tg l : Expr} {tl : TE} (hl : PE X l tl) (h : X.K = K := by rfl) : PI X tg l (iSeq K tl) := by
  subst h
  refine ⟨fun pins s σ H R I h => ?_⟩
  refine thn (hl.run pins s σ H _ I h) fun v s1 ⟨x, H1, I1, r1, q1⟩ => ?_
  obtain ⟨a, e, q⟩ := q1
  subst e
  rcases q with ⟨⟨xs, hq⟩, q⟩ | ⟨⟨xs, hq⟩, q⟩
  · cases r1
    obtain ⟨its, rv, p, hz⟩ := I1.list hq
    refine wpAny_pyIter_list p.isList ?_
    refine ⟨s1.heap.objs.size, [s1.heap.objs.size], _, _, H1, rfl, I1.kept (t' := s1.toks) fun b o e => Heap.get?_push_of_some _ e, turn_list a _, ⟨_, Heap.get?_push_size _ rfl, rfl, rfl⟩, fun b hb => ?_, q⟩
    have e : b = s1.heap.objs.size := by simpa using hb
    subst e
    exact I1.fpOk (Nat.le_refl _) (I1.hok.fresh (Nat.le_refl _))
  · cases r1
    obtain ⟨its, rv, p, hz⟩ := I1.tuple hq
    refine wpAny_pyIter_tuple (show s1.heap.IsTuple a its.toArray from p) ?_
    refine ⟨s1.heap.objs.size, [s1.heap.objs.size], _, _, H1, rfl, I1.kept (t' := s1.toks) fun b o e => Heap.get?_push_of_some _ e, turn_tuple a _, ⟨_, Heap.get?_push_size _ rfl, rfl, rfl⟩, fun b hb => ?_, q⟩
    have e : b = s1.heap.objs.size := by simpa using hb
    subst e
    exact I1.fpOk (Nat.le_refl _) (I1.hok.fresh (Nat.le_refl _))
def dRng1 (A : En → Res X) : En → Res (List D) := fun ρ => (A ρ).bind fun a ρ1 => match asI ρ1 a with
  | some j => if -(2 ^ 62) ≤ j ∧ j < 2 ^ 62 then .ok ((List.range j.toNat).map fun i => D.int (0 + (i : Nat))) ρ1 else .stuck
  | none => .stuck
def dRng2 (A B : En → Res X) : En → Res (List D) := fun ρ => (A ρ).bind fun a ρ1 => (B ρ1).bind fun b ρ2 => match asI ρ2 a.settle, asI ρ2 b with
  | some i, some j => if -(2 ^ 62) ≤ i ∧ i < 2 ^ 62 ∧ -(2 ^ 62) ≤ j ∧ j < 2 ^ 62 then .ok ((List.range (j - i).toNat).map fun n => D.int (i + (n : Nat))) ρ2 else .stuck
  | _, _ => .stuck
theorem I_rng1 (ha : LE K E ta A) : LI K E (iRng1 (tCons ta tNil)) (dRng1 A) := by
  intro F G H σ ρ Q R w
  refine ha F G H σ ρ _ R (Wants.bind w fun x a G1 H1 ρ1 R1 s1 hx w1 => ?_)
  cases e : asI ρ1 a with
  | none => rw [e] at w1; exact w1.elim
  | some j =>
    rw [e] at w1
    dsimp only at w1
    split at w1
    · rename_i hc
      exact ⟨j, by rw [R1.asI hx e], hc.1, hc.2, w1 _ G1 H1 R1 (Same.refl G1) its_rng⟩
    · exact w1.elim
theorem I_rng2 (ha : LE K E ta A) (hb : LE K E tb B) : LI K E (iRng2 (tCons ta (tCons tb tNil))) (dRng2 A B) := by
  intro F G H σ ρ Q R w
  refine ha F G H σ ρ _ R (Wants.bind w fun x a G0 H0 ρ0 R0 s0 hx w0 => ?_)
  obtain ⟨G1, R1, s1, hx1⟩ := R0.settle hx
  refine hb F G1 H0 σ ρ0 _ R1 (Wants.bind (w0.mono s1) fun y b G2 H2 ρ2 R2 s2 hy w2 => ?_)
  cases e1 : asI ρ2 a.settle with
  | none => rw [e1] at w2; exact w2.elim
  | some i =>
    cases e2 : asI ρ2 b with
    | none => rw [e1, e2] at w2; exact w2.elim
    | some j =>
      rw [e1, e2] at w2
      dsimp only at w2
      split at w2
      · rename_i hc
        exact ⟨i, j, by rw [R2.asI (hx1.keep settle_no s2) e1, R2.asI hy e2], hc, w2 _ G2 H2 R2 (Same.refl G2) its_rng⟩
      · exact w2.elim
/-! ### for -/
def forL (U : Tg) (B : En → SR) : List D → En → SR
  | [], ρ => .nx ρ
  | d :: ds, ρ => match U d ρ with
    | none => .stuck
    | some ρ1 => match B ρ1 with
      | .nx ρ2 => forL U B ds ρ2
      | .ct ρ2 => forL U B ds ρ2
      | .bk ρ2 => .nx ρ2
      | r => r
theorem WS.back {D : Ends} (R : Rl K F G H σ ρ) : ∀ {r : SR}, WS K E F D r → WS K E (F.at G) D r
  | .nx ρ', w => fun σ' G' H' R' => w σ' G' H' (R.back R')
  | .bk ρ', w => fun σ' G' H' R' => w σ' G' H' (R.back R')
  | .ct ρ', w => fun σ' G' H' R' => w σ' G' H' (R.back R')
  | .rt x ρ', w => fun v σ' G' H' R' hx => w v σ' G' H' (R.back R') hx.at
  | .err x ρ', w => fun c od σ' G' H' R' hx => w c od σ' G' H' (R.back R') hx
  | .stuck, w => w
theorem for_core {u : TS} {U : Tg} {B : En → SR} {g : TG} {vs : List Nat} {D : Ends} {J : It} {ds : List DL.D} {P : Hp → Prop} (hb : LS K E u B) (hg : LTg K vs g U) (R : Rl K F G H σ ρ) (hI : Its K P G J ds)
    (hP : ∀ G' H' σ' ρ', Rl K (F.at G) G' H' σ' ρ' → P H') (w : WS K E F D (forL U B ds ρ)) :
    ∃ W : Nat → Nat → L2.St → Hp → Prop, (∃ m, W 0 m σ H) ∧ ∀ i m σ H, W i m σ H →
      (J.stop i H ∧ D.nx σ H) ∨ (J.go i H ∧ ∃ N : L2.St → Hp → Prop, (∀ σ' H', N σ' H' → ∃ m', m' < m ∧ W (i + 1) m' σ' H') ∧ ∀ x H', J.yld i H x H' → g x σ H' fun σ2 H2 => u { D with nx := N, ct := N, bk := D.nx } σ2 H2) := by
  refine ⟨fun i m σ' H' => ∃ G' ρ', Rl K (F.at G) G' H' σ' ρ' ∧ i + m = ds.length ∧ WS K E (F.at G) D (forL U B (ds.drop i) ρ'), ⟨ds.length, G, ρ, R.at, by omega, w.back R⟩, ?_⟩
  rintro i m σ' H' ⟨G', ρ', R', hm, w'⟩
  cases m with
  | zero =>
    rw [List.drop_eq_nil_of_le (by omega)] at w'
    exact .inl ⟨hI.stop G' H' R'.g0 R'.gh (hP _ _ _ _ R') i (by omega), w' σ' G' H' R'⟩
  | succ m =>
    have hi : i < ds.length := by omega
    rw [List.drop_eq_getElem_cons hi] at w'
    refine .inr ⟨hI.go G' H' R'.g0 R'.gh (hP _ _ _ _ R') i hi, fun σ2 H2 => ∃ G2 ρ2, Rl K (F.at G) G2 H2 σ2 ρ2 ∧ WS K E (F.at G) D (forL U B (ds.drop (i + 1)) ρ2), fun σ2 H2 ⟨G2, ρ2, R2, w2⟩ => ⟨m, by omega, G2, ρ2, R2, by omega, w2⟩, fun x H3 hy => ?_⟩
    obtain ⟨G3, R3, s3, _, k3, d, hd, hr⟩ := hI.yld _ _ _ _ _ R' R'.g0 (hP _ _ _ _ R') i x H3 hi hy
    rw [List.getElem?_eq_getElem hi] at hd
    cases hd
    unfold forL at w'
    cases e : U ds[i] ρ' with
    | none => rw [e] at w'; exact w'.elim
    | some ρ1 =>
      rw [e] at w'
      dsimp only at w'
      refine hg _ _ _ _ _ ρ1 x _ _ R3 hr e fun σ4 R4 _ => hb _ _ _ _ ρ1 _ R4 ?_
      cases e2 : B ρ1 with
      | nx ρ2 => rw [e2] at w'; exact fun σ5 G5 H5 R5 => ⟨G5, ρ2, R5, w'⟩
      | ct ρ2 => rw [e2] at w'; exact fun σ5 G5 H5 R5 => ⟨G5, ρ2, R5, w'⟩
      | bk ρ2 => rw [e2] at w'; exact w'
      | rt y ρ2 => rw [e2] at w'; exact w'
      | err y ρ2 => rw [e2] at w'; exact w'
      | stuck => rw [e2] at w'; exact w'
def sFor (S : En → Res (List D)) (U : Tg) (B : En → SR) : En → SR := fun ρ => (S ρ).sb fun ds ρ1 => forL U B ds ρ1
theorem L_for {wi : TI} {S : En → Res (List D)} {u : TS} {U : Tg} {B : En → SR} {g : TG} {vs : List Nat} (hi : LI K E wi S) (hg : LTg K vs g U) (hb : LS K E u B) : LS K E (tFor wi g u) (sFor S U B) := by
  intro F G H σ ρ D R w
  exact hi F G H σ ρ _ R (w.sb fun J ds G1 H1 ρ1 R1 s1 hI w1 => for_core hb hg R1 hI (fun _ _ _ _ _ => trivial) w1)
/-! a list, a tuple; a list that a slot owns is locked meanwhile -/
def lockE (ρ : En) (i : Nat) : En := match ρ[i]? with
  | some (.own o) => ρ.set i (.lck o)
  | _ => ρ
@[simp] def unlockE (ρ : En) (i : Nat) : En := match ρ[i]? with
  | some (.lck o) => ρ.set i (.own o)
  | _ => ρ
@[simp] def SR.unlock (i : Nat) : SR → SR
  | .nx ρ => .nx (unlockE ρ i)
  | .bk ρ => .bk (unlockE ρ i)
  | .ct ρ => .ct (unlockE ρ i)
  | .rt x ρ => .rt x (unlockE ρ i)
  | .err x ρ => .err x (unlockE ρ i)
  | .stuck => .stuck
def Fm.lock (F : Fm) (i : Nat) (a : Addr) (o : HO) : Fm := { F with H0 := upd F.H0 a o, L := fun j => if j = i then some a else F.L j }
theorem Rl.lock {i : Nat} {o : O} {u : HO} {a : Addr} (R : Rl K F G H σ ρ) (h : ρ[i]? = some (.own o)) (ha : σ[i]? = some (some (.ref a))) (hu : H a = some u) : Rl K (F.lock i a u) G H σ (ρ.set i (.lck o)) := by
  obtain ⟨b, h1, h0, hg, ho⟩ := R.own h
  rw [ha] at h1
  cases h1
  have hil : i < ρ.length := (List.getElem?_eq_some_iff.mp h).1
  have n : ∀ (j : Nat) (w : O), (ρ.set i (.lck o))[j]? = some (.own w) → σ[j]? ≠ some (some (.ref a)) := fun j w hj z => by
    rcases getset hj with ⟨_, e, _⟩ | ⟨ne, hj⟩
    · cases e
    · exact ne (R.di i j _ _ a h hj ha z)
  have hf : freeAt ρ i = true := by unfold freeAt; rw [h]; rfl
  have eσ : σ.set i (some (.ref a)) = σ := by
    apply List.ext_getElem?
    intro j
    by_cases e : i = j
    · subst e
      rw [List.getElem?_set_self (R.lt hil), ha]
    · rw [List.getElem?_set_ne e]
  have R1 : Rl K F G H σ (ρ.set i .none) := by
    have := R.forget (i := i) (x := some (.ref a)) hf
    rw [eσ] at this
    exact this
  have n1 : ∀ (j : Nat) (w : O), (ρ.set i Slot.none)[j]? = some (.own w) → σ[j]? ≠ some (some (.ref a)) := fun j w hj z => by
    rcases getset hj with ⟨_, e, _⟩ | ⟨ne, hj⟩
    · cases e
    · exact ne (R.di i j _ _ a h hj ha z)
  have R2 := R1.hold hu h0 hg n1
  refine ⟨R2.gh, R2.g0, R2.gn, R2.hk, fun j b hb => ?_, fun j b hb => ?_, fun j s hs => ?_, fun j k w w' b h1 h2 h3 h4 => ?_, R2.mi⟩
  · obtain ⟨g1, g2, w, g3⟩ := R2.hm j b hb
    refine ⟨g1, g2, w, ?_⟩
    by_cases q : i = j
    · subst q
      rw [List.getElem?_set_self hil] at g3
      cases g3
    · rw [List.getElem?_set_ne q] at g3 ⊢
      exact g3
  · by_cases q : j = i
    · subst q
      exact ⟨o, List.getElem?_set_self hil⟩
    · have hb' : F.L j = some b := by
        rw [show (F.lock i a u).L j = if j = i then some a else F.L j from rfl, if_neg q] at hb
        exact hb
      obtain ⟨w, g3⟩ := R.hl j b hb'
      exact ⟨w, by rw [List.getElem?_set_ne (Ne.symm q)]; exact g3⟩
  · rcases getset hs with ⟨rfl, rfl, _⟩ | ⟨ne, hs⟩
    · refine ⟨_, ha, a, u, rfl, ?_, hg, upd_same, R.noM h0, ho⟩
      show (if i = i then some a else F.L i) = some a
      rw [if_pos rfl]
    · obtain ⟨x, g1, g2⟩ := R2.sl j s (by rw [List.getElem?_set_ne ne]; exact hs)
      refine ⟨x, g1, ?_⟩
      cases s with
      | none => trivial
      | val d => exact g2
      | own w => exact g2
      | bor w => exact g2
      | lck w =>
        obtain ⟨b, u', rfl, e2, e3, e5, e6, e4⟩ := g2
        refine ⟨b, u', rfl, ?_, e3, e5, e6, e4⟩
        show (if j = i then some a else F.L j) = some b
        rw [if_neg (Ne.symm ne)]
        exact e2
  · rcases getset h1 with ⟨_, e, _⟩ | ⟨n1, h1'⟩
    · cases e
    · rcases getset h2 with ⟨_, e, _⟩ | ⟨n2, h2'⟩
      · cases e
      · exact R.di j k w w' b h1' h2' h3 h4
theorem Rl.unlock {i : Nat} {u : HO} {a : Addr} (R : Rl K (F.lock i a u) G H σ ρ) (h0 : F.H0 a = none) (hL : F.L i = none) (hl : ∀ j, F.L j ≠ some a) (hm : ∀ j, F.M j ≠ some a) : Rl K F G H σ (unlockE ρ i) ∧ ∃ o, ρ[i]? = some (.lck o) := by
  obtain ⟨o, ho⟩ := R.hl i a (by show (if i = i then some a else F.L i) = some a; rw [if_pos rfl])
  refine ⟨?_, o, ho⟩
  have hil : i < ρ.length := (List.getElem?_eq_some_iff.mp ho).1
  have e : unlockE ρ i = ρ.set i (.own o) := by unfold unlockE; rw [ho]
  rw [e]
  obtain ⟨x, hx, b, u', rfl, hb, hg, hu', hM, hO⟩ := R.sl i _ ho
  have hba : b = a := by
    have : (if i = i then some a else F.L i) = some b := hb
    rw [if_pos rfl] at this
    exact (Option.some.inj this).symm
  subst hba
  have up : ∀ c, c ≠ b → (F.lock i b u).H0 c = F.H0 c := fun c q => upd_ne q
  have nown : ∀ (j : Nat) (w : O), ρ[j]? = some (.own w) → σ[j]? ≠ some (some (.ref b)) := fun j w hj z => by
    obtain ⟨c, g1, g2, _⟩ := R.own hj
    rw [g1] at z
    cases z
    rw [show (F.lock i b u).H0 b = some u from upd_same] at g2
    cases g2
  refine ⟨R.gh, R.g0, fun c w hc hc' => ?_, fun c w hc hc' => R.hk c w (by rw [up c (ne_of_none hc h0)]; exact hc) hc', fun j c hc => ?_, fun j c hc => ?_, fun j s hs => ?_, fun j k w w' c h1 h2 h3 h4 => ?_, R.mi⟩
  · by_cases q : c = b
    · rw [q]; exact h0
    · have := R.gn c w hc hc'
      rw [up c q] at this
      exact this
  · obtain ⟨g1, g2, w, g3⟩ := R.hm j c hc
    refine ⟨g1, ?_, w, ?_⟩
    · rw [up c (fun q => hm j (by rw [← q]; exact hc))] at g2
      exact g2
    · rw [List.getElem?_set_ne (fun q => by rw [← q, ho] at g3; cases g3)]
      exact g3
  · have ne : j ≠ i := fun q => by rw [q, hL] at hc; cases hc
    obtain ⟨w, g⟩ := R.hl j c (by show (if j = i then some b else F.L j) = some c; rw [if_neg ne]; exact hc)
    exact ⟨w, by rw [List.getElem?_set_ne (Ne.symm ne)]; exact g⟩
  · rcases getset hs with ⟨rfl, rfl, _⟩ | ⟨ne, hs⟩
    · exact ⟨_, hx, b, rfl, h0, hg, hO⟩
    · obtain ⟨x, g1, g2⟩ := R.sl j s hs
      refine ⟨x, g1, ?_⟩
      cases s with
      | none => trivial
      | val d => exact g2
      | own w =>
        obtain ⟨c, rfl, e2, e3, e4⟩ := g2
        refine ⟨c, rfl, ?_, e3, e4⟩
        rw [up c (fun q => nown j w hs (by rw [g1, q]))] at e2
        exact e2
      | bor w => exact g2
      | lck w =>
        obtain ⟨c, y, rfl, e2, e3, e5, e6, e4⟩ := g2
        have e2' : F.L j = some c := by
          have : (if j = i then some b else F.L j) = some c := e2
          rw [if_neg (Ne.symm ne)] at this
          exact this
        refine ⟨c, y, rfl, e2', e3, ?_, e6, e4⟩
        rw [up c (fun q => hl j (by rw [← q]; exact e2'))] at e5
        exact e5
  · rcases getset h1 with ⟨rfl, _, _⟩ | ⟨n1, h1'⟩
    · rcases getset h2 with ⟨rfl, _, _⟩ | ⟨n2, h2'⟩
      · rfl
      · rw [hx] at h3
        cases h3
        exact absurd h4 (nown k w' h2')
    · rcases getset h2 with ⟨rfl, _, _⟩ | ⟨n2, h2'⟩
      · rw [hx] at h4
        cases h4
        exact absurd h3 (nown j w h1')
      · exact R.di j k w w' c h1' h2' h3 h4
theorem RepX.unlock {i : Nat} {u : HO} {a : Addr} {v : V} {x : X} (h : RepX K (F.lock i a u) G H σ ρ v x) (h0 : F.H0 a = none) (hx : ∀ o, ρ[i]? = some (.lck o) → ∃ b, σ[i]? = some (some (.ref b)) ∧ b = a) (ho : ∃ o, ρ[i]? = some (.lck o)) : RepX K F G H σ (unlockE ρ i) v x := by
  cases x with
  | val d => exact h
  | own j => exact h
  | new o =>
    obtain ⟨b, rfl, e2, e3, e4, e5⟩ := h
    have q : b ≠ a := fun q => by
      rw [q, show (F.lock i a u).H0 a = some u from upd_same] at e2
      cases e2
    refine ⟨b, rfl, ?_, e3, e4, fun j w hj z => ?_⟩
    · rw [show (F.lock i a u).H0 b = F.H0 b from upd_ne q] at e2
      exact e2
    · obtain ⟨o', ho'⟩ := ho
      have : unlockE ρ i = ρ.set i (.own o') := by unfold unlockE; rw [ho']
      rw [this] at hj
      rcases getset hj with ⟨rfl, _, _⟩ | ⟨ne, hj⟩
      · obtain ⟨c, g1, g2⟩ := hx o' ho'
        rw [g1] at z
        cases z
        exact q g2
      · exact e5 j w hj z
@[simp] def seqOf (A : En → Res X) : En → Res (Option Nat × List D) := fun ρ => (A ρ).bind fun a ρ1 => match a with
  | .val d => lift (d.items.map fun ds => (none, ds)) ρ1
  | .new o => lift (o.d.items.map fun ds => (none, ds)) ρ1
  | .own i => match ρ1[i]? with
    | some (.val d) => lift (d.items.map fun ds => (none, ds)) ρ1
    | some (.own (.lst ds)) => .ok (some i, ds) (ρ1.set i (.lck (.lst ds)))
    | _ => .stuck
def sForS (A : En → Res X) (U : Tg) (B : En → SR) : En → SR := fun ρ => (seqOf A ρ).sb fun p ρ1 => match p.1 with
  | none => forL U B p.2 ρ1
  | some i => (forL U B p.2 ρ1).unlock i
theorem its_rep {v : V} {d : D} {ds : List D} (R : Rl K F G H σ ρ) (h : Rep K G v d) (e : d.items = some ds) : ∃ a, v = .ref a ∧ (((∃ xs, SqL K H a xs) ∧ Its K (fun _ => True) G (Itl K a) ds) ∨ ((∃ xs, SqT K H a xs) ∧ Its K (fun _ => True) G (Itt K a) ds)) := by
  cases h with
  | tup g r => cases e; exact ⟨_, rfl, .inr ⟨⟨_, smTup R.gh g⟩, its_tup g r⟩⟩
  | lst g r =>
    cases e
    exact ⟨_, rfl, .inl ⟨⟨_, .inl (.inl (R.gh _ _ g))⟩, its_list (fun G' H' e k _ => .inl (.inl (k _ _ (e _ _ g)))) r⟩⟩
  | scr g r =>
    cases e
    exact ⟨_, rfl, .inl ⟨⟨_, smLst R.gh g⟩, its_list (fun G' H' e k _ => smLst (e.trans k) g) r⟩⟩
  | _ => cases e
theorem WS.unlock {i : Nat} {u : HO} {a : Addr} {D : Ends} (h0 : F.H0 a = none) (hL : F.L i = none) (hl : ∀ j, F.L j ≠ some a) (hm : ∀ j, F.M j ≠ some a) : ∀ {r : SR}, WS K E F D (r.unlock i) → WS K E (F.lock i a u) D r
  | .nx ρ', w => fun σ' G' H' R' => w σ' G' H' (R'.unlock h0 hL hl hm).1
  | .bk ρ', w => fun σ' G' H' R' => w σ' G' H' (R'.unlock h0 hL hl hm).1
  | .ct ρ', w => fun σ' G' H' R' => w σ' G' H' (R'.unlock h0 hL hl hm).1
  | .rt x ρ', w => fun v σ' G' H' R' hx => w v σ' G' H' (R'.unlock h0 hL hl hm).1 (hx.unlock h0 (fun o ho => by
      obtain ⟨x, g, b, u', rfl, hb, _⟩ := R'.sl i _ ho
      refine ⟨b, g, ?_⟩
      have : (if i = i then some a else F.L i) = some b := hb
      rw [if_pos rfl] at this
      exact (Option.some.inj this).symm) (R'.unlock h0 hL hl hm).2)
  | .err x ρ', w => fun c od σ' G' H' R' hx => w c od σ' G' H' (R'.unlock h0 hL hl hm).1 hx
  | .stuck, w => w
theorem L_forS {u : TS} {U : Tg} {B : En → SR} {g : TG} {vs : List Nat} (ha : LE K E ta A) (hg : LTg K vs g U) (hb : LS K E u B) : LS K E (tFor (iSeq K ta) g u) (sForS A U B) := by
  intro F G H σ ρ D R w
  unfold sForS seqOf at w
  refine ha F G H σ ρ _ R ?_
  -- one source
  have frozen : ∀ {v : V} {d : DL.D} {G1 H1 : Hp} {ρ1 : En}, Rl K F G1 H1 σ ρ1 → Rep K G1 v d → WS K E F D (((lift (d.items.map fun ds => ((none : Option Nat), ds)) ρ1)).sb fun p ρ1 => match p.1 with
      | none => forL U B p.2 ρ1
      | some i => (forL U B p.2 ρ1).unlock i) → ∃ a, v = .ref a ∧ (((∃ xs, SqL K H1 a xs) ∧ ∃ W : Nat → Nat → L2.St → Hp → Prop, (∃ m, W 0 m σ H1) ∧ ∀ i m σ H, W i m σ H → ((Itl K a).stop i H ∧ D.nx σ H) ∨ ((Itl K a).go i H ∧ ∃ N : L2.St → Hp → Prop, (∀ σ' H', N σ' H' → ∃ m', m' < m ∧ W (i + 1) m' σ' H') ∧ ∀ x H', (Itl K a).yld i H x H' → g x σ H' fun σ2 H2 => u { D with nx := N, ct := N, bk := D.nx } σ2 H2)) ∨
        ((∃ xs, SqT K H1 a xs) ∧ ∃ W : Nat → Nat → L2.St → Hp → Prop, (∃ m, W 0 m σ H1) ∧ ∀ i m σ H, W i m σ H → ((Itt K a).stop i H ∧ D.nx σ H) ∨ ((Itt K a).go i H ∧ ∃ N : L2.St → Hp → Prop, (∀ σ' H', N σ' H' → ∃ m', m' < m ∧ W (i + 1) m' σ' H') ∧ ∀ x H', (Itt K a).yld i H x H' → g x σ H' fun σ2 H2 => u { D with nx := N, ct := N, bk := D.nx } σ2 H2))) := by
    intro v d G1 H1 ρ1 R1 hr w1
    cases e : d.items with
    | none => rw [e] at w1; exact w1.elim
    | some ds =>
      rw [e] at w1
      obtain ⟨a, rfl, q⟩ := its_rep R1 hr e
      rcases q with ⟨q1, q2⟩ | ⟨q1, q2⟩
      · exact ⟨a, rfl, .inl ⟨q1, for_core hb hg R1 q2 (fun _ _ _ _ _ => trivial) w1⟩⟩
      · exact ⟨a, rfl, .inr ⟨q1, for_core hb hg R1 q2 (fun _ _ _ _ _ => trivial) w1⟩⟩
  cases e : A ρ with
  | stuck => rw [e] at w; exact w
  | err x ρ1 => rw [e] at w; exact fun c od G2 H2 R2 _ hx => w c od σ G2 H2 R2 hx
  | ok x ρ1 =>
    rw [e] at w
    intro v G1 H1 R1 s1 hx
    have w1 := w
    dsimp only [Res.bind] at w1
    cases x with
    | val d => exact frozen R1 hx w1
    | new o =>
      obtain ⟨G2, R2, s2, r2⟩ := R1.settle hx
      exact frozen R2 r2 w1
    | own i =>
      dsimp only at w1
      cases e2 : ρ1[i]? with
      | none => rw [e2] at w1; exact w1.elim
      | some s =>
        rw [e2] at w1
        cases s with
        | none => exact w1.elim
        | bor o => exact w1.elim
        | lck o => exact w1.elim
        | val d =>
          obtain ⟨v', h1, h2⟩ := R1.val e2
          rw [show σ[i]? = some (some v) from hx] at h1
          cases h1
          exact frozen R1 h2 w1
        | own o =>
          cases o with
          | ins C ks ds => exact w1.elim
          | lst ds =>
            dsimp only at w1
            obtain ⟨a, h1, h0, hg1, ws, h3, h4⟩ := R1.own e2
            rw [show σ[i]? = some (some v) from hx] at h1
            cases h1
            have hL : F.L i = none := by
              cases q : F.L i with
              | none => rfl
              | some b =>
                obtain ⟨o, ho⟩ := R1.hl i b q
                rw [e2] at ho
                cases ho
            have hl := R1.noL h0
            have hm := R1.noM h0
            have R2 := R1.lock e2 hx h3
            have P0 : ∀ G' H' σ' ρ', Rl K ((F.lock i a (.lst ws)).at G1) G' H' σ' ρ' → H' a = some (.lst ws) := fun G' H' σ' ρ' R' => R'.hk a _ upd_same hm
            exact ⟨a, rfl, .inl ⟨⟨ws, .inl (.inl h3)⟩, for_core (P := fun H => H a = some (.lst ws)) hb hg R2 (its_list (fun G' H' _ _ p => .inl (.inl p)) h4) P0 (WS.unlock h0 hL hl hm w1)⟩⟩
/-! ### while -/
def whl (T : En → Res Bool) (B : En → SR) : Nat → En → SR
  | 0, _ => .stuck
  | n + 1, ρ => match T ρ with
    | .ok true ρ1 => match B ρ1 with
      | .nx ρ2 => whl T B n ρ2
      | .ct ρ2 => whl T B n ρ2
      | .bk ρ2 => .nx ρ2
      | r => r
    | .ok false ρ1 => .nx ρ1
    | .err x ρ1 => .err x ρ1
    | .stuck => .stuck
def sWhile (n : Nat) (T : En → Res Bool) (B : En → SR) : En → SR := whl T B n
theorem L_while {tt : TT} {T : En → Res Bool} {u : TS} {B : En → SR} (n : Nat) (ht : LT K E tt T) (hb : LS K E u B) : LS K E (tWhile tt u) (sWhile n T B) := by
  intro F G H σ ρ D R w
  refine ⟨fun m σ' H' => ∃ G' ρ', Rl K F G' H' σ' ρ' ∧ WS K E F D (whl T B m ρ'), ⟨n, G, ρ, R, w⟩, ?_⟩
  rintro m σ' H' ⟨G', ρ', R', w'⟩
  cases m with
  | zero => exact w'.elim
  | succ m =>
    unfold whl at w'
    refine ht F G' H' σ' ρ' _ R' ?_
    cases e : T ρ' with
    | stuck => rw [e] at w'; exact w'
    | err x ρ1 => rw [e] at w'; exact fun c od G2 H2 R2 _ hx => w' c od σ' G2 H2 R2 hx
    | ok b ρ1 =>
      rw [e] at w'
      intro b' G1 H1 R1 s1 eb
      subst eb
      cases b' with
      | false => exact iteF (w' σ' G1 H1 R1)
      | true =>
        refine iteT ⟨fun σ2 H2 => ∃ G2 ρ2, Rl K F G2 H2 σ2 ρ2 ∧ WS K E F D (whl T B m ρ2), fun σ2 H2 ⟨G2, ρ2, R2, w2⟩ => ⟨m, by omega, G2, ρ2, R2, w2⟩, ?_⟩
        dsimp only at w'
        refine hb F G1 H1 σ' ρ1 _ R1 ?_
        cases e2 : B ρ1 with
        | nx ρ2 => rw [e2] at w'; exact fun σ5 G5 H5 R5 => ⟨G5, ρ2, R5, w'⟩
        | ct ρ2 => rw [e2] at w'; exact fun σ5 G5 H5 R5 => ⟨G5, ρ2, R5, w'⟩
        | bk ρ2 => rw [e2] at w'; exact w'
        | rt y ρ2 => rw [e2] at w'; exact w'
        | err y ρ2 => rw [e2] at w'; exact w'
        | stuck => rw [e2] at w'; exact w'
end
end DL

set_option Elab.async false
set_option linter.all false
set_option maxRecDepth 100000
set_option maxHeartbeats 2000000
/-! the data layer: comprehensions -/
namespace DL
open PySem PySem.Spec PyProof.Rows L2 DD
@[simp] def wipeN (ρ : En) : List Nat → En
  | [] => ρ
  | v :: vs => (wipeN ρ vs).set v .none
section
variable {K : Fg} {E Et Ea : XK} {F : Fm} {G G' G1 H H' : Hp} {σ σ' : L2.St} {ρ ρ' : En}
theorem wipeN_length (ρ : En) : ∀ vs : List Nat, (wipeN ρ vs).length = ρ.length
  | [] => rfl
  | v :: vs => by unfold wipeN; rw [List.length_set, wipeN_length ρ vs]
theorem wipe_get {i : Nat} : ∀ {vs : List Nat}, i ∉ vs → (wipe σ vs)[i]? = σ[i]?
  | [], _ => rfl
  | v :: vs, h => by
    unfold wipe
    rw [List.getElem?_set_ne (fun e => h (by rw [e]; exact List.mem_cons_self ..))]
    exact wipe_get fun z => h (List.mem_cons_of_mem _ z)
theorem wipeN_get {i : Nat} : ∀ {vs : List Nat}, i ∉ vs → (wipeN ρ vs)[i]? = ρ[i]?
  | [], _ => rfl
  | v :: vs, h => by
    unfold wipeN
    rw [List.getElem?_set_ne (fun e => h (by rw [e]; exact List.mem_cons_self ..))]
    exact wipeN_get fun z => h (List.mem_cons_of_mem _ z)
def Wiped (ρ : En) (vs : List Nat) : Prop := ∀ v ∈ vs, ∀ s, ρ[v]? = some s → s = .none
theorem wiped_N : ∀ {vs : List Nat}, Wiped (wipeN ρ vs) vs
  | [] => fun v h => by cases h
  | w :: vs => fun v h s e => by
    unfold wipeN at e
    rcases getset e with ⟨_, e2, _⟩ | ⟨ne, e⟩
    · exact e2.symm
    · rcases List.mem_cons.mp h with rfl | h
      · exact absurd rfl ne
      · exact wiped_N v h s e
theorem wipe_wipe {vs : List Nat} : wipe (wipe σ vs) vs = wipe σ vs := by
  apply List.ext_getElem?
  intro i
  by_cases h : i ∈ vs
  · have z : ∀ (τ : L2.St) (ws : List Nat), i ∈ ws → (wipe τ ws)[i]? = if i < τ.length then some none else none := by
      intro τ ws
      induction ws with
      | nil => intro h; cases h
      | cons w ws ih =>
        intro h
        unfold wipe
        by_cases q : w = i
        · subst q
          by_cases hl : w < τ.length
          · rw [List.getElem?_set_self (by rw [wipe_length]; exact hl), if_pos hl]
          · rw [List.getElem?_eq_none (by rw [List.length_set, wipe_length]; omega), if_neg hl]
        · rw [List.getElem?_set_ne q]
          refine ih ?_
          rcases List.mem_cons.mp h with rfl | h
          · exact absurd rfl q
          · exact h
    rw [z _ _ h, z _ _ h, wipe_length]
  · rw [wipe_get h]
/-- slots that nobody asks of may hold anything -/
theorem Rl.any {vs : List Nat} (R : Rl K F G H σ ρ) (hw : Wiped ρ vs) (e : wipe σ' vs = wipe σ vs) : Rl K F G H σ' ρ := by
  have hl : σ'.length = σ.length := by
    have := congrArg List.length e
    rwa [wipe_length, wipe_length] at this
  have eq : ∀ i, i ∉ vs → σ'[i]? = σ[i]? := fun i h => by
    rw [← wipe_get (σ := σ') h, ← wipe_get (σ := σ) h, e]
  have own : ∀ (i : Nat) (o : O), ρ[i]? = some (.own o) → i ∉ vs := fun i o h z => by
    have := hw i z _ h
    cases this
  refine ⟨R.gh, R.g0, R.gn, R.hk, R.hm, R.hl, fun i s hs => ?_, fun i j o o' a h1 h2 h3 h4 => R.di i j o o' a h1 h2 (by rw [← eq i (own i o h1)]; exact h3) (by rw [← eq j (own j o' h2)]; exact h4), R.mi⟩
  obtain ⟨x, h1, h2⟩ := R.sl i s hs
  by_cases h : i ∈ vs
  · have := hw i h s hs
    subst this
    have hi : i < σ'.length := by rw [hl]; exact (List.getElem?_eq_some_iff.mp h1).1
    exact ⟨_, List.getElem?_eq_getElem hi, trivial⟩
  · exact ⟨x, by rw [eq i h]; exact h1, h2⟩
theorem Rl.wipeN {vs : List Nat} (R : Rl K F G H σ ρ) (hf : vs.all (freeAt ρ) = true) : Rl K F G H σ (wipeN ρ vs) := by
  have free : ∀ v ∈ vs, freeAt ρ v = true := List.all_eq_true.mp hf
  refine ⟨R.gh, R.g0, R.gn, R.hk, fun j a h => ?_, fun j a h => ?_, fun i s hs => ?_, fun i j o o' a h1 h2 h3 h4 => ?_, R.mi⟩
  · obtain ⟨h1, h2, o, h3⟩ := R.hm j a h
    refine ⟨h1, h2, o, ?_⟩
    rw [wipeN_get fun z => ?_]
    · exact h3
    · have := free j z
      unfold freeAt at this
      rw [h3] at this
      cases this
  · obtain ⟨o, h3⟩ := R.hl j a h
    refine ⟨o, ?_⟩
    rw [wipeN_get fun z => ?_]
    · exact h3
    · have := free j z
      unfold freeAt at this
      rw [h3] at this
      cases this
  · by_cases h : i ∈ vs
    · have := wiped_N i h s hs
      subst this
      have hi : i < ρ.length := by rw [← wipeN_length ρ vs]; exact (List.getElem?_eq_some_iff.mp hs).1
      exact ⟨_, List.getElem?_eq_getElem (R.lt hi), trivial⟩
    · rw [wipeN_get h] at hs
      exact R.sl i s hs
  · have n1 : i ∉ vs := fun z => by cases wiped_N i z _ h1
    have n2 : j ∉ vs := fun z => by cases wiped_N j z _ h2
    rw [wipeN_get n1] at h1
    rw [wipeN_get n2] at h2
    exact R.di i j o o' a h1 h2 h3 h4
def lcL (vs : List Nat) (U : Tg) (T : En → Res Bool) (A : En → Res X) : List D → En → List D → Res (List D)
  | [], ρ, acc => .ok acc ρ
  | d :: ds, ρ, acc => match U d ρ with
    | none => .stuck
    | some ρ1 => match T ρ1 with
      | .ok true ρ2 => match A ρ2 with
        | .ok x ρ3 => match toVal ρ3 x with
          | some (e, ρ4) => if acc.length < sizeLine ∧ vs.all (freeAt ρ4) = true then lcL vs U T A ds (wipeN ρ4 vs) (acc ++ [e]) else .stuck
          | none => .stuck
        | _ => .stuck
      | .ok false ρ2 => if vs.all (freeAt ρ2) = true then lcL vs U T A ds (wipeN ρ2 vs) acc else .stuck
      | _ => .stuck
theorem toVal_len {x : X} {d : D} (h : toVal ρ x = some (d, ρ')) : True := trivial
theorem lc_core_D {vs : List Nat} {U : Tg} {T : En → Res Bool} {A : En → Res X} {g : TG} {tt : TT} {te : TE} {J : It} {ds es : List DL.D} {P : Hp → Prop} {a : Addr} {ρe : En} {Nf : Hp → Prop}
    (hg : LTg K vs g U) (ht : LT K Et tt T) (ha : LE K Ea te A) (h0 : F.H0 a = none) (hg0 : F.G0 a = none) (hl : ∀ i, F.L i ≠ some a) (hm : ∀ i, F.M i ≠ some a)
    (hI : Its K P G1 J ds) (hP : ∀ G' H' acc ρ', Rl K (F.hold a (.lst acc)) G' H' σ ρ' → Same G1 G' → P H')
    (fin : ∀ G H acc, Rl K (F.hold a (.lst acc)) G H σ ρe → Same G1 G → RepA K G acc es → Nf H)
    {G H : Hp} {ρ : En} {acc : List V} {accd : List DL.D} (R : Rl K (F.hold a (.lst acc)) G H σ ρ) (sG : Same G1 G) (hw : Wiped ρ vs) (hr : RepA K G acc accd) (w : lcL vs U T A ds ρ accd = .ok es ρe) :
    ∃ W : Nat → Nat → Hp → Prop, (∃ m, W 0 m H) ∧ ∀ i m H, W i m H → (J.stop i H ∧ Nf H) ∨ (J.go i H ∧ ∃ Nx : Hp → Prop, (∀ H', Nx H' → ∃ m', m' < m ∧ W (i + 1) m' H') ∧ ∀ x H', J.yld i H x H' → g x (wipe σ vs) H' fun σ2 H2 => wipe σ2 vs = wipe σ vs ∧ tt σ2 H2 fun b H3 =>
      if b = true then te σ2 H3 fun y H4 => ∃ acc, H4 a = some (.lst acc) ∧ acc.length < sizeLine ∧ Nx (upd H4 a (.lst (acc ++ [y]))) else Nx H3) := by
  refine ⟨fun i m H' => ∃ G' ρ' acc' accd', Rl K (F.hold a (.lst acc')) G' H' σ ρ' ∧ Same G1 G' ∧ Wiped ρ' vs ∧ RepA K G' acc' accd' ∧ i + m = ds.length ∧ lcL vs U T A (ds.drop i) ρ' accd' = .ok es ρe, ⟨ds.length, G, ρ, acc, accd, R, sG, hw, hr, by omega, w⟩, ?_⟩
  rintro i m H' ⟨G', ρ', acc', accd', R', s', hw', hr', hmm, w'⟩
  cases m with
  | zero =>
    rw [List.drop_eq_nil_of_le (by omega)] at w'
    cases w'
    exact .inl ⟨hI.stop G' H' s' R'.gh (hP _ _ _ _ R' s') i (by omega), fin G' H' acc' R' s' hr'⟩
  | succ m =>
    have hi : i < ds.length := by omega
    rw [List.drop_eq_getElem_cons hi] at w'
    refine .inr ⟨hI.go G' H' s' R'.gh (hP _ _ _ _ R' s') i hi, fun H2 => ∃ G2 ρ2 acc2 accd2, Rl K (F.hold a (.lst acc2)) G2 H2 σ ρ2 ∧ Same G1 G2 ∧ Wiped ρ2 vs ∧ RepA K G2 acc2 accd2 ∧ lcL vs U T A (ds.drop (i + 1)) ρ2 accd2 = .ok es ρe,
      fun H2 ⟨G2, ρ2, acc2, accd2, R2, s2, q1, q2, q3⟩ => ⟨m, by omega, G2, ρ2, acc2, accd2, R2, s2, q1, q2, by omega, q3⟩, fun x H3 hy => ?_⟩
    have Rw : Rl K (F.hold a (.lst acc')) G' H' (wipe σ vs) ρ' := R'.any hw' wipe_wipe
    obtain ⟨G3, R3, s3, _, k3, d, hd, hrd⟩ := hI.yld _ _ _ _ _ Rw s' (hP _ _ _ _ R' s') i x H3 hi hy
    rw [List.getElem?_eq_getElem hi] at hd
    cases hd
    unfold lcL at w'
    cases e : U ds[i] ρ' with
    | none => rw [e] at w'; cases w'
    | some ρ1 =>
      rw [e] at w'
      dsimp only at w'
      refine hg _ _ _ _ _ ρ1 x _ _ R3 hrd e fun σ4 R4 w4 => ⟨w4.trans wipe_wipe, ?_⟩
      have w4' : wipe σ vs = wipe σ4 vs := (w4.trans wipe_wipe).symm
      refine ht _ G3 H3 σ4 ρ1 _ R4 ?_
      cases e2 : T ρ1 with
      | stuck => rw [e2] at w'; cases w'
      | err y ρ2 => rw [e2] at w'; cases w'
      | ok b ρ2 =>
        rw [e2] at w'
        intro b' G5 H5 R5 s5 eb
        subst eb
        cases b' with
        | false =>
          refine iteF ?_
          dsimp only at w'
          split at w'
          · rename_i hf
            exact ⟨G5, _, acc', accd', (R5.wipeN hf).any wiped_N w4', s'.trans (s3.trans s5), wiped_N, hr'.mono (s3.trans s5), w'⟩
          · cases w'
        | true =>
          refine iteT ?_
          dsimp only at w'
          refine ha _ G5 H5 σ4 ρ2 _ R5 ?_
          cases e3 : A ρ2 with
          | stuck => rw [e3] at w'; cases w'
          | err y ρ3 => rw [e3] at w'; cases w'
          | ok z ρ3 =>
            rw [e3] at w'
            intro y G6 H6 R6 s6 hz
            dsimp only at w'
            cases e4 : toVal ρ3 z with
            | none => rw [e4] at w'; cases w'
            | some p =>
              obtain ⟨ed, ρ4⟩ := p
              rw [e4] at w'
              dsimp only at w'
              split at w'
              · rename_i hc
                obtain ⟨G7, R7, s7, r7⟩ := R6.toVal hz e4
                have sAll := s3.trans (s5.trans (s6.trans s7))
                refine ⟨acc', R7.heldH hm, by rw [hr'.len]; exact hc.1, G7, _, acc' ++ [y], accd' ++ [ed], ((R7.wipeN hc.2).any wiped_N w4').rehold h0 hg0 hl hm, s'.trans sAll, wiped_N, (hr'.mono sAll).app (.one r7), w'⟩
              · cases w'
def lcAll (vs : List Nat) (U : Tg) (T : En → Res Bool) (A : En → Res X) (ds : List D) (ρ : En) : Res X := if vs.all (freeAt ρ) = true then
    match lcL vs U T A ds (wipeN ρ vs) [] with
    | .ok es ρ2 => .ok (.new (.lst es)) ρ2
    | _ => .stuck
  else .stuck
def dLc (S : En → Res (List D)) (vs : List Nat) (U : Tg) (T : En → Res Bool) (A : En → Res X) : En → Res X := fun ρ => (S ρ).bind fun ds ρ1 => lcAll vs U T A ds ρ1
def tdYes : En → Res Bool := fun ρ => .ok true ρ
theorem L_yes : LT K E tYes tdYes := fun F G H σ ρ Q R w => w true G H R (Same.refl G) rfl
theorem lcAll_run {vs : List Nat} {U : Tg} {T : En → Res Bool} {A : En → Res X} {g : TG} {tt : TT} {te : TE} {J : It} {ds : List DL.D} {P : Hp → Prop} {Q : VK} (hg : LTg K vs g U) (ht : LT K Et tt T) (ha : LE K Ea te A)
    (R : Rl K F G H σ ρ) (hI : Its K P G J ds) (hP : ∀ (F' : Fm) G' H' ρ', Rl K F' G' H' σ ρ' → (∀ b o, F.H0 b = some o → F'.H0 b = some o) → F'.M = F.M → P H') (w : Wants K E (RepX K) F G σ Q (lcAll vs U T A ds ρ)) :
    ∀ a, H a = none → ∃ W : Nat → Nat → Hp → Prop, (∃ m, W 0 m (upd H a (.lst []))) ∧ ∀ i m H, W i m H → (J.stop i H ∧ Q (.ref a) H) ∨ (J.go i H ∧ ∃ Nx : Hp → Prop, (∀ H', Nx H' → ∃ m', m' < m ∧ W (i + 1) m' H') ∧ ∀ x H', J.yld i H x H' → g x (wipe σ vs) H' fun σ2 H2 => wipe σ2 vs = wipe σ vs ∧ tt σ2 H2 fun b H3 =>
      if b = true then te σ2 H3 fun y H4 => ∃ acc, H4 a = some (.lst acc) ∧ acc.length < sizeLine ∧ Nx (upd H4 a (.lst (acc ++ [y]))) else Nx H3) := by
  intro a na
  unfold lcAll at w
  split at w
  · rename_i hf
    have h0 := R.fresh na
    have hgG := R.freshG na
    have hg0 : F.G0 a = none := none_of R.g0 hgG
    have hl := R.noL h0
    have hm := R.noM h0
    have n : ∀ (j : Nat) (u : O), (DL.wipeN ρ vs)[j]? = some (.own u) → σ[j]? ≠ some (some (.ref a)) := fun j u hj z => by
      obtain ⟨b, h1, _, _, h4⟩ := (R.wipeN hf).own hj
      rw [h1] at z
      cases z
      obtain ⟨u, e⟩ := h4.ex
      rw [na] at e
      cases e
    have R1 : Rl K (F.hold a (.lst [])) G (upd H a (.lst [])) σ (DL.wipeN ρ vs) := ((R.wipeN hf).laid na).hold upd_same h0 hgG n
    cases e : lcL vs U T A ds (DL.wipeN ρ vs) [] with
    | stuck => rw [e] at w; exact w.elim
    | err x ρ2 => rw [e] at w; exact w.elim
    | ok es ρe =>
      rw [e] at w
      refine lc_core_D hg ht ha h0 hg0 hl hm hI (fun G' H' acc ρ' R' _ => hP _ G' H' ρ' R' (fun b o hb => ?_) rfl) (fun G' H' acc R' s' r' => ?_) R1 (Same.refl G) wiped_N .nil e
      · show upd F.H0 a _ b = some o
        rw [upd_ne (ne_of_none hb h0)]
        exact hb
      · exact w _ G' H' (R'.unhold h0 hl hm) s' ⟨a, rfl, h0, R'.heldG hg0, ⟨acc, R'.heldH hm, r'⟩, R'.heldN⟩
  · exact w.elim
theorem L_lc {wi : TI} {S : En → Res (List D)} {vs : List Nat} {U : Tg} {T : En → Res Bool} {A : En → Res X} {g : TG} {tt : TT} {te : TE} (hi : LI K E wi S) (hg : LTg K vs g U) (ht : LT K Et tt T) (ha : LE K Ea te A) : LE K E (tLc wi g tt te vs) (dLc S vs U T A) := by
  intro F G H σ ρ Q R w
  exact hi F G H σ ρ _ R (Wants.bind w fun J ds G1 H1 ρ1 R1 s1 hI w1 => lcAll_run hg ht ha R1 hI (fun _ _ _ _ _ _ _ => trivial) w1)
/-! over a list, a tuple; one that a slot owns is locked meanwhile -/
@[simp] def Res.unlock {α : Type} (i : Nat) : Res α → Res α
  | .ok a ρ => .ok a (unlockE ρ i)
  | .err x ρ => .err x (unlockE ρ i)
  | .stuck => .stuck
def dLcS (A0 : En → Res X) (vs : List Nat) (U : Tg) (T : En → Res Bool) (A : En → Res X) : En → Res X := fun ρ => (seqOf A0 ρ).bind fun p ρ1 => match p.1 with
  | none => lcAll vs U T A p.2 ρ1
  | some i => (lcAll vs U T A p.2 ρ1).unlock i
theorem Wants.unlock {i : Nat} {u : HO} {a : Addr} {Q : VK} (h0 : F.H0 a = none) (hL : F.L i = none) (hl : ∀ j, F.L j ≠ some a) (hm : ∀ j, F.M j ≠ some a) : ∀ {r : Res X}, Wants K E (RepX K) F G σ Q (r.unlock i) → Wants K E (RepX K) (F.lock i a u) G σ Q r
  | .ok x ρ', w => fun v G' H' R' s' hx => w v G' H' (R'.unlock h0 hL hl hm).1 s' (hx.unlock h0 (fun o ho => by
      obtain ⟨x, g, b, u', rfl, hb, _⟩ := R'.sl i _ ho
      refine ⟨b, g, ?_⟩
      have : (if i = i then some a else F.L i) = some b := hb
      rw [if_pos rfl] at this
      exact (Option.some.inj this).symm) (R'.unlock h0 hL hl hm).2)
  | .err x ρ', w => fun c od G' H' R' s' hx => w c od G' H' (R'.unlock h0 hL hl hm).1 s' hx
  | .stuck, w => w
theorem L_lcS {ta : TE} {A0 : En → Res X} {vs : List Nat} {U : Tg} {T : En → Res Bool} {A : En → Res X} {g : TG} {tt : TT} {te : TE} (h : LE K E ta A0) (hg : LTg K vs g U) (ht : LT K Et tt T) (ha : LE K Ea te A) : LE K E (tLc (iSeq K ta) g tt te vs) (dLcS A0 vs U T A) := by
  intro F G H σ ρ Q R w
  unfold dLcS seqOf at w
  refine h F G H σ ρ _ R ?_
  have frozen : ∀ {v : V} {d : DL.D} {G1 H1 : Hp} {ρ1 : En}, Rl K F G1 H1 σ ρ1 → Rep K G1 v d → Wants K E (RepX K) F G1 σ Q (((lift (d.items.map fun ds => ((none : Option Nat), ds)) ρ1)).bind fun p ρ1 => match p.1 with
      | none => lcAll vs U T A p.2 ρ1
      | some i => (lcAll vs U T A p.2 ρ1).unlock i) → ∃ a, v = .ref a ∧ (((∃ xs, SqL K H1 a xs) ∧ ∀ D, H1 D = none → ∃ W : Nat → Nat → Hp → Prop, (∃ m, W 0 m (upd H1 D (.lst []))) ∧ ∀ i m H, W i m H → ((Itl K a).stop i H ∧ Q (.ref D) H) ∨ ((Itl K a).go i H ∧ ∃ Nx : Hp → Prop, (∀ H', Nx H' → ∃ m', m' < m ∧ W (i + 1) m' H') ∧ ∀ x H', (Itl K a).yld i H x H' → g x (wipe σ vs) H' fun σ2 H2 => wipe σ2 vs = wipe σ vs ∧ tt σ2 H2 fun b H3 =>
        if b = true then te σ2 H3 fun y H4 => ∃ acc, H4 D = some (.lst acc) ∧ acc.length < sizeLine ∧ Nx (upd H4 D (.lst (acc ++ [y]))) else Nx H3)) ∨
        ((∃ xs, SqT K H1 a xs) ∧ ∀ D, H1 D = none → ∃ W : Nat → Nat → Hp → Prop, (∃ m, W 0 m (upd H1 D (.lst []))) ∧ ∀ i m H, W i m H → ((Itt K a).stop i H ∧ Q (.ref D) H) ∨ ((Itt K a).go i H ∧ ∃ Nx : Hp → Prop, (∀ H', Nx H' → ∃ m', m' < m ∧ W (i + 1) m' H') ∧ ∀ x H', (Itt K a).yld i H x H' → g x (wipe σ vs) H' fun σ2 H2 => wipe σ2 vs = wipe σ vs ∧ tt σ2 H2 fun b H3 =>
        if b = true then te σ2 H3 fun y H4 => ∃ acc, H4 D = some (.lst acc) ∧ acc.length < sizeLine ∧ Nx (upd H4 D (.lst (acc ++ [y]))) else Nx H3))) := by
    intro v d G1 H1 ρ1 R1 hr w1
    cases e : d.items with
    | none => rw [e] at w1; exact w1.elim
    | some ds =>
      rw [e] at w1
      obtain ⟨a, rfl, q⟩ := its_rep R1 hr e
      rcases q with ⟨q1, q2⟩ | ⟨q1, q2⟩
      · exact ⟨a, rfl, .inl ⟨q1, lcAll_run hg ht ha R1 q2 (fun _ _ _ _ _ _ _ => trivial) w1⟩⟩
      · exact ⟨a, rfl, .inr ⟨q1, lcAll_run hg ht ha R1 q2 (fun _ _ _ _ _ _ _ => trivial) w1⟩⟩
  cases e : A0 ρ with
  | stuck => rw [e] at w; exact w
  | err x ρ1 => rw [e] at w; exact w
  | ok x ρ1 =>
    rw [e] at w
    intro v G1 H1 R1 s1 hx
    have w1 := w
    dsimp only [Res.bind] at w1
    have w1 := w1.mono s1
    cases x with
    | val d => exact frozen R1 hx w1
    | new o =>
      obtain ⟨G2, R2, s2, r2⟩ := R1.settle hx
      exact frozen R2 r2 (Wants.mono s2 w1)
    | own i =>
      dsimp only at w1
      cases e2 : ρ1[i]? with
      | none => rw [e2] at w1; exact w1.elim
      | some s =>
        rw [e2] at w1
        cases s with
        | none => exact w1.elim
        | bor o => exact w1.elim
        | lck o => exact w1.elim
        | val d =>
          obtain ⟨v', h1, h2⟩ := R1.val e2
          rw [show σ[i]? = some (some v) from hx] at h1
          cases h1
          exact frozen R1 h2 w1
        | own o =>
          cases o with
          | ins C ks ds => exact w1.elim
          | lst ds =>
            dsimp only at w1
            obtain ⟨a, h1, h0, hg1, ws, h3, h4⟩ := R1.own e2
            rw [show σ[i]? = some (some v) from hx] at h1
            cases h1
            have hL : F.L i = none := by
              cases q : F.L i with
              | none => rfl
              | some b =>
                obtain ⟨o, ho⟩ := R1.hl i b q
                rw [e2] at ho
                cases ho
            have hl := R1.noL h0
            have hm := R1.noM h0
            have R2 := R1.lock e2 hx h3
            refine ⟨a, rfl, .inl ⟨⟨ws, .inl (.inl h3)⟩, lcAll_run (P := fun H => H a = some (.lst ws)) hg ht ha R2 (its_list (fun G' H' _ _ p => .inl (.inl p)) h4) (fun F' G' H' ρ' R' k hM => R'.hk a _ (k a _ upd_same) (by rw [hM]; exact hm)) (Wants.unlock h0 hL hl hm w1)⟩⟩
end
end DL

set_option Elab.async false
set_option linter.all false
set_option maxRecDepth 100000
set_option maxHeartbeats 2000000
/-! the data layer: defs and their calls -/
namespace DL
open PySem PySem.Spec PyProof.Rows L2 DD
/-- what a body hands back -/
inductive Rt where
  | ok (x : X) (ρ : En) | err (x : Xc) (ρ : En) | stuck
def fin : SR → Rt
  | .nx ρ => .ok (.val .non) ρ
  | .rt (.val d) ρ => .ok (.val d) ρ
  | .rt (.new o) ρ => .ok (.new o) ρ
  | .rt (.own i) ρ => match ρ[i]? with
    | some (.val d) => .ok (.val d) ρ
    | some (.own o) => .ok (.new o) ρ
    | _ => .stuck
  | .err x ρ => .err x ρ
  | _ => .stuck
@[simp] def env0 (m : Nat) (ss : List Slot) : En := ss ++ List.replicate (m - ss.length) .none
/-- behind a def: ob is where what it borrowed stands -/
structure Post (K : Fg) (G H : Hp) (ob : Option Addr) (ρ' : En) (G' H' : Hp) : Prop where
  s : Same G G'
  k : Same G' H'
  g : ∀ a o, G' a = some o → G a = none → H a = none
  h : ∀ a o, H a = some o → ob ≠ some a → H' a = some o
  b : ∀ a, ob = some a → ∃ o, ρ'[0]? = some (.bor o) ∧ G' a = none ∧ ObjO K G' H' a o
def RetX (K : Fg) (H G' H' : Hp) (v : V) : X → Prop
  | .val d => Rep K G' v d
  | .new o => ∃ a, v = .ref a ∧ H a = none ∧ G' a = none ∧ ObjO K G' H' a o
  | .own _ => False
def Out (K : Fg) (E : XK) (G H : Hp) (ob : Option Addr) (Q : VK) : Rt → Prop
  | .ok x ρ' => ∀ v G' H', Post K G H ob ρ' G' H' → RetX K H G' H' v x → Q v H'
  | .err x ρ' => ∀ c od G' H', Post K G H ob ρ' G' H' → XRep K G' H' c od x → E c od H'
  | .stuck => False
def spD (K : Fg) (n m : Nat) (T : En → SR) : Sp := fun vs H Q E => ∃ G, Same G H ∧
  ((∃ ds, RepA K G vs ds ∧ vs.length = n ∧ Out K E G H none Q (fin (T (env0 m (ds.map .val))))) ∨
   ∃ a o ws ds, vs = .ref a :: ws ∧ RepA K G ws ds ∧ ws.length + 1 = n ∧ G a = none ∧ ObjO K G H a o ∧ Out K E G H (some a) Q (fin (T (env0 m (.bor o :: ds.map .val)))))
section
variable {P : Program} {w : World} {K : Fg} {mg : Str → Option Value} {base : Heap} {E : XK} {G G' H H' : Hp}
theorem start_get {N : List Str} {vs : List V} {i : Nat} (h : i < N.length) (hn : vs.length ≤ N.length) : ∃ x, (start N vs)[i]? = some x ∧ ∀ v, vs[i]? = some v → x = some v := by
  unfold L2.start
  by_cases hi : i < vs.length
  · refine ⟨some vs[i], ?_, fun v e => ?_⟩
    · rw [List.getElem?_append_left (by simpa using hi), List.getElem?_map, List.getElem?_eq_getElem hi]
      rfl
    · rw [List.getElem?_eq_getElem hi] at e
      cases e
      rfl
  · refine ⟨none, ?_, fun v e => ?_⟩
    · rw [List.getElem?_append_right (by simpa using hi), List.getElem?_replicate, List.length_map, if_pos (by omega)]
    · rw [List.getElem?_eq_none (by omega)] at e
      cases e
theorem env0_get {m i : Nat} {ss : List Slot} {s : Slot} (h : (env0 m ss)[i]? = some s) : ss[i]? = some s ∨ (s = .none ∧ ss.length ≤ i ∧ i < ss.length + (m - ss.length)) := by
  unfold env0 at h
  by_cases hi : i < ss.length
  · rw [List.getElem?_append_left hi] at h
    exact .inl h
  · rw [List.getElem?_append_right (by omega), List.getElem?_replicate] at h
    split at h
    · cases h
      exact .inr ⟨rfl, by omega, by omega⟩
    · cases h
theorem map_val_get {ds : List D} {i : Nat} {s : Slot} (h : (ds.map Slot.val)[i]? = some s) : ∃ d, ds[i]? = some d ∧ s = .val d := by
  rw [List.getElem?_map, Option.map_eq_some_iff] at h
  obtain ⟨d, h1, h2⟩ := h
  exact ⟨d, h1, h2.symm⟩
/-- at the entry, nothing borrowed -/
theorem ent0 {N : List Str} {vs : List V} {ds : List D} (s : Same G H) (r : RepA K G vs ds) (hn : vs.length ≤ N.length) : Rl K ⟨H, G, fun _ => none, fun _ => none⟩ G H (start N vs) (env0 N.length (ds.map .val)) := by
  have hl := r.len
  refine ⟨s, Same.refl G, fun a o h h' => (by rw [show G a = none from h'] at h; cases h), fun a o h _ => h, fun i a h => (nomatch h), fun i a h => (nomatch h), fun i t h => ?_, fun i j o o' a h => ?_, fun i j a h => (nomatch h)⟩
  · rcases env0_get h with h | ⟨rfl, h1, h2⟩
    · obtain ⟨d, h1, rfl⟩ := map_val_get h
      obtain ⟨v, h2, h3⟩ := r.get h1
      have hi : i < vs.length := (List.getElem?_eq_some_iff.mp h2).1
      obtain ⟨x, e1, e2⟩ := start_get (N := N) (vs := vs) (i := i) (by omega) hn
      exact ⟨x, e1, v, e2 v h2, h3⟩
    · rw [List.length_map] at h1 h2
      obtain ⟨x, e1, e2⟩ := start_get (N := N) (vs := vs) (i := i) (by omega) hn
      exact ⟨x, e1, trivial⟩
  · rcases env0_get h with h | ⟨e, _⟩
    · obtain ⟨d, _, e⟩ := map_val_get h
      cases e
    · cases e
theorem ent1 {N : List Str} {a : Addr} {o : O} {vs : List V} {ds : List D} (s : Same G H) (r : RepA K G vs ds) (hn : vs.length + 1 ≤ N.length) (hg : G a = none) (ho : ObjO K G H a o) :
    Rl K ⟨H, G, fun i => if i = 0 then some a else none, fun _ => none⟩ G H (start N (.ref a :: vs)) (env0 N.length (.bor o :: ds.map .val)) := by
  have hl := r.len
  have M0 : ∀ i b, (if i = 0 then some a else none) = some b → i = 0 ∧ b = a := fun i b h => by
    split at h
    · rename_i e
      exact ⟨e, (Option.some.inj h).symm⟩
    · cases h
  refine ⟨s, Same.refl G, fun a o h h' => (by rw [show G a = none from h'] at h; cases h), fun a o h _ => h, fun i b h => ?_, fun i a h => (nomatch h), fun i t h => ?_, fun i j u u' b h => ?_, fun i j b h h' => (M0 i b h).1.trans (M0 j b h').1.symm⟩
  · obtain ⟨rfl, rfl⟩ := M0 i b h
    obtain ⟨u, e⟩ := ho.ex
    have hn : H b ≠ none := by rw [e]; exact fun z => (nomatch z)
    exact ⟨hn, hn, o, rfl⟩
  · rcases env0_get h with h | ⟨rfl, h1, h2⟩
    · cases i with
      | zero =>
        simp at h
        subst h
        obtain ⟨x, e1, e2⟩ := start_get (N := N) (vs := .ref a :: vs) (i := 0) (by omega) (by simpa using hn)
        exact ⟨x, e1, a, e2 _ rfl, rfl, hg, ho⟩
      | succ i =>
        obtain ⟨d, h1, rfl⟩ := map_val_get (i := i) (by simpa using h)
        obtain ⟨v, h2, h3⟩ := r.get h1
        have hi : i < vs.length := (List.getElem?_eq_some_iff.mp h2).1
        obtain ⟨x, e1, e2⟩ := start_get (N := N) (vs := .ref a :: vs) (i := i + 1) (by omega) (by simpa using hn)
        exact ⟨x, e1, v, e2 v (by simpa using h2), h3⟩
    · rw [List.length_cons, List.length_map] at h1 h2
      obtain ⟨x, e1, e2⟩ := start_get (N := N) (vs := .ref a :: vs) (i := i) (by omega) (by simpa using hn)
      exact ⟨x, e1, trivial⟩
  · rcases env0_get h with h | ⟨e, _⟩
    · cases i with
      | zero => simp at h
      | succ i =>
        have h' : (ds.map Slot.val)[i]? = some (.own u) := h
        obtain ⟨d, _, e⟩ := map_val_get h'
        cases e
    · cases e
theorem post0 {σ : L2.St} {ρ' : En} (R : Rl K ⟨H, G, fun _ => none, fun _ => none⟩ G' H' σ ρ') : Post K G H none ρ' G' H' :=
  ⟨R.g0, R.gh, R.gn, fun a o h _ => R.hk a o h (fun _ z => (nomatch z)), fun a h => (nomatch h)⟩
theorem post1 {a : Addr} {σ : L2.St} {ρ' : En} (R : Rl K ⟨H, G, fun i => if i = 0 then some a else none, fun _ => none⟩ G' H' σ ρ') : Post K G H (some a) ρ' G' H' := by
  refine ⟨R.g0, R.gh, R.gn, fun b o h n => R.hk b o h fun i z => n ?_, fun b h => ?_⟩
  · have z' : (if i = 0 then some a else none) = some b := z
    split at z'
    · exact z'
    · cases z'
  · cases h
    obtain ⟨_, _, o, ho⟩ := R.hm 0 a rfl
    obtain ⟨c, h1, h2, h3, h4⟩ := R.bor ho
    have : c = a := (Option.some.inj (show some a = some c from h2)).symm
    subst this
    exact ⟨o, ho, h3, h4⟩
theorem out_ws {F : Fm} {ob : Option Addr} {Q : VK} {D : Ends} (hF : F.H0 = H) (hp : ∀ {σ : L2.St} {ρ' : En} {G' H' : Hp}, Rl K F G' H' σ ρ' → Post K G H ob ρ' G' H') (hD : ∀ σ H', Q .non H' → D.nx σ H') (hr : ∀ v H', Q v H' → D.rt v H') : ∀ {r : SR}, Out K E G H ob Q (fin r) → WS K E F D r
  | .nx ρ', o => fun σ G' H' R => hD _ _ (o .non G' H' (hp R) .non)
  | .rt (.val d) ρ', o => fun v σ G' H' R hx => hr _ _ (o v G' H' (hp R) hx)
  | .rt (.new u) ρ', o => fun v σ G' H' R hx => hr _ _ (o v G' H' (hp R) (by
      obtain ⟨a, e, h0, hg, ho, _⟩ := hx
      rw [hF] at h0
      exact ⟨a, e, h0, hg, ho⟩))
  | .rt (.own i) ρ', o => fun v σ G' H' R hx => by
    simp only [fin] at o
    split at o
    · rename_i d e
      obtain ⟨v', h1, h2⟩ := R.val e
      rw [show σ[i]? = some (some v) from hx] at h1
      cases h1
      exact hr _ _ (o v G' H' (hp R) h2)
    · rename_i u e
      obtain ⟨a, h1, h0, hg, ho⟩ := R.own e
      rw [show σ[i]? = some (some v) from hx] at h1
      cases h1
      rw [hF] at h0
      exact hr _ _ (o _ G' H' (hp R) ⟨a, rfl, h0, hg, ho⟩)
    · exact o.elim
  | .err x ρ', o => fun c od σ G' H' R hx => o c od G' H' (hp R) hx
  | .bk ρ', o => o.elim
  | .ct ρ', o => o.elim
  | .stuck, o => o.elim
theorem spD_run {n : Nat} {N : List Str} {T : En → SR} {t : TS} {vs : List V} {Q : VK} (hN : n ≤ N.length) (h : LS K E t T) (hs : spD K n N.length T vs H Q E) : t { nx := fun _ H' => Q .non H', rt := Q } (start N vs) H := by
  obtain ⟨G, s, hs⟩ := hs
  rcases hs with ⟨ds, r, hn, o⟩ | ⟨a, u, ws, ds, rfl, r, hn, hg, ho, o⟩
  · exact h _ G H _ _ _ (ent0 s r (by omega)) (out_ws rfl post0 (fun _ _ q => q) (fun _ _ q => q) o)
  · exact h _ G H _ _ _ (ent1 s r (by omega) hg ho) (out_ws rfl post1 (fun _ _ q => q) (fun _ _ q => q) o)
theorem spD_len {n m : Nat} {T : En → SR} {vs : List V} {Q : VK} (hs : spD K n m T vs H Q E) : vs.length = n := by
  obtain ⟨G, s, hs⟩ := hs
  rcases hs with ⟨ds, r, hn, o⟩ | ⟨a, u, ws, ds, rfl, r, hn, hg, ho, o⟩
  · exact hn
  · rw [List.length_cons]; exact hn
/-- a def without defaults -/
theorem mkD {x qual : Str} {st : Stmt} {f : Addr} {N ps : List Str} {k : Nat} {T : En → SR} (F : ∃ fd, Fun K x qual st f fd) (S : FnScope N ps (defScope st)) (hN : ps.length ≤ N.length)
    (hb : ∀ (kV doc pm : Value) (an : Option Addr) (cdv ct : Value) (us : List Value), us.length = ps.length → bindArgs (PySem.W.fnOf x qual (defArgs st) (defBody st) (defScope st) .none kV doc pm an cdv ct) ⟨us, []⟩ = pure (ps.zip us))
    (hbody : ∀ (cdv : Value) (A : Around) (outer : List Env) (s : Shared) (H : Hp) (E : XK), Room k (A.deeper (envOfC qual (defScope st) s.heap.objs.size f cdv)) →
      ∃ t, PSs (cxOf CX0 P w K mg base N qual (defScope st) f cdv A outer s H E).nox (defBody st) t ∧ LS K E t T) : FnR P w K mg base CX0 (k + 1) f (spD K ps.length N.length T) := by
  obtain ⟨fd, F⟩ := F
  have G : FnOk P w K mg base CX0 (k + 1) f fd ps (spD K ps.length N.length T) := F.ok S (fun vs H Q E h => spD_len h) fun cdv A outer s H vs Q E hr hs => by
    obtain ⟨t, h1, h2⟩ := hbody cdv A outer s H E hr
    exact ⟨t, h1, spD_run hN h2 hs⟩
  refine (G.raw (F.binds hb) .nil).imp fun vs H Q E h => ?_
  rw [List.append_nil]
  exact h
end

/-! ### behind a call -/
section
variable {K : Fg} {E : XK} {F : Fm} {G G' H H' : Hp} {σ : L2.St} {ρ ρ' : En}
theorem Rl.after {ch : Addr → Prop} (R : Rl K F G H σ ρ) (s : Same G G') (k : Same G' H') (g : ∀ b o, G' b = some o → G b = none → H b = none) (hk : ∀ b o, H b = some o → ¬ ch b → H' b = some o)
    (far : ∀ b, ch b → F.H0 b = none ∧ ∀ (j : Nat) (u : O), ρ[j]? = some (.own u) → σ[j]? ≠ some (some (.ref b))) : Rl K F G' H' σ ρ where
  gh := k
  g0 := R.g0.trans s
  gn := fun b o hb hb' => by
    cases e : G b with
    | some u => exact R.gn b u e hb'
    | none => exact R.fresh (g b o hb e)
  hk := fun b o hb n => hk b o (R.hk b o hb n) fun c => by rw [(far b c).1] at hb; cases hb
  hm := fun i b hb => by
    obtain ⟨h1, h2, h3⟩ := R.hm i b hb
    refine ⟨fun z => ?_, h2, h3⟩
    cases e : H b with
    | none => exact h1 e
    | some u =>
      rw [hk b u e fun c => h2 (far b c).1] at z
      cases z
  hl := R.hl
  sl := fun i t hs => by
    obtain ⟨x, h1, h2⟩ := R.sl i t hs
    refine ⟨x, h1, ?_⟩
    have gone : ∀ b, G b = none → (∃ u, H b = some u) → G' b = none := fun b hb hu => by
      cases e : G' b with
      | none => rfl
      | some o =>
        obtain ⟨u, hu⟩ := hu
        rw [g b o e hb] at hu
        cases hu
    cases t with
    | none => trivial
    | val d =>
      obtain ⟨v, e1, e2⟩ := h2
      exact ⟨v, e1, e2.mono s⟩
    | own u =>
      obtain ⟨b, rfl, e2, e3, e4⟩ := h2
      exact ⟨b, rfl, e2, gone b e3 e4.ex, e4.mono s fun y hy => hk b y hy fun c => (far b c).2 i u hs h1⟩
    | bor u =>
      obtain ⟨b, rfl, e2, e3, e4⟩ := h2
      exact ⟨b, rfl, e2, gone b e3 e4.ex, e4.mono s fun y hy => hk b y hy fun c => (R.hm i b e2).2.1 (far b c).1⟩
    | lck u =>
      obtain ⟨b, y, rfl, e2, e3, e5, e6, e4⟩ := h2
      exact ⟨b, y, rfl, e2, gone b e3 e4.ex, e5, e6, e4.mono s fun z hz => hk b z hz fun c => by rw [(far b c).1] at e5; cases e5⟩
  di := R.di
  mi := R.mi
/-- what slot i holds was lent and has come back -/
theorem Rl.lent {i : Nat} {t t' : Slot} {o : O} {a : Addr} (R : Rl K F G H σ ρ) (h : ρ[i]? = some t) (ht : t.re o = some t') (ha : σ[i]? = some (some (.ref a))) (s : Same G G') (k : Same G' H') (g : ∀ b u, G' b = some u → G b = none → H b = none) (hk : ∀ b u, H b = some u → b ≠ a → H' b = some u)
    (hg : G' a = none) (ho : ObjO K G' H' a o) : Rl K F G' H' σ (ρ.set i t') := by
  have hil : i < ρ.length := (List.getElem?_eq_some_iff.mp h).1
  have ha' : H' a ≠ none := by obtain ⟨u, e⟩ := ho.ex; rw [e]; exact fun z => nomatch z
  have hc : ∀ x, F.H0 a = some x → ∃ j, F.M j = some a := fun x e => by
    rcases re_cases ht with ⟨u0, rfl, rfl⟩ | ⟨u0, rfl, rfl⟩
    · obtain ⟨b, h1, h2, _⟩ := R.own h
      rw [ha] at h1; cases h1; rw [h2] at e; cases e
    · obtain ⟨b, h1, h2, _⟩ := R.bor h
      rw [ha] at h1; cases h1; exact ⟨i, h2⟩
  have gone : ∀ b, G b = none → (∃ u, H b = some u) → G' b = none := fun b hb hu => by
    cases e : G' b with
    | none => rfl
    | some o =>
      obtain ⟨u, hu⟩ := hu
      rw [g b o e hb] at hu
      cases hu
  refine ⟨k, R.g0.trans s, fun b x hb hb' => ?_, fun b x e n => ?_, fun j b e => ?_, fun j b e => ?_, fun j y e => ?_, fun j l w w' b h1 h2 h3 h4 => ?_, R.mi⟩
  · cases e : G b with
    | some u => exact R.gn b u e hb'
    | none => exact R.fresh (g b x hb e)
  · by_cases q : b = a
    · subst q
      obtain ⟨j, z⟩ := hc x e
      exact absurd z (n j)
    · exact hk b x (R.hk b x e n) q
  · obtain ⟨h1, h2, w, h3⟩ := R.hm j b e
    refine ⟨fun z => ?_, h2, ?_⟩
    · by_cases q : b = a
      · rw [q] at z; exact ha' z
      · cases e2 : H b with
        | none => exact h1 e2
        | some u => rw [hk b u e2 q] at z; cases z
    · by_cases q : i = j
      · subst q
        rw [h] at h3
        rcases re_cases ht with ⟨u0, rfl, rfl⟩ | ⟨u0, rfl, rfl⟩
        · cases h3
        · exact ⟨o, List.getElem?_set_self hil⟩
      · rw [List.getElem?_set_ne q]
        exact ⟨w, h3⟩
  · obtain ⟨w, h3⟩ := R.hl j b e
    by_cases q : i = j
    · subst q
      rw [h] at h3
      rcases re_cases ht with ⟨u0, rfl, rfl⟩ | ⟨u0, rfl, rfl⟩ <;> cases h3
    · rw [List.getElem?_set_ne q]
      exact ⟨w, h3⟩
  · rcases getset e with ⟨rfl, rfl, _⟩ | ⟨ne, e'⟩
    · refine ⟨_, ha, ?_⟩
      rcases re_cases ht with ⟨u0, rfl, rfl⟩ | ⟨u0, rfl, rfl⟩
      · obtain ⟨b, h1, h2, h3, _⟩ := R.own h
        rw [ha] at h1; cases h1
        exact ⟨_, rfl, h2, hg, ho⟩
      · obtain ⟨b, h1, h2, h3, _⟩ := R.bor h
        rw [ha] at h1; cases h1
        exact ⟨_, rfl, h2, hg, ho⟩
    · obtain ⟨x, h1, h2⟩ := R.sl j y e'
      refine ⟨x, h1, ?_⟩
      cases y with
      | none => trivial
      | val d =>
        obtain ⟨v, e1, e2⟩ := h2
        exact ⟨v, e1, e2.mono s⟩
      | own w =>
        obtain ⟨b, rfl, e2, e3, e4⟩ := h2
        refine ⟨b, rfl, e2, gone b e3 e4.ex, e4.mono s fun y hy => hk b y hy fun q => ?_⟩
        subst q
        rcases re_cases ht with ⟨u0, rfl, rfl⟩ | ⟨u0, rfl, rfl⟩
        · exact ne (R.di i j _ _ b h e' ha h1)
        · obtain ⟨c, g1, g2, _⟩ := R.bor h
          rw [ha] at g1; cases g1
          exact (R.hm i _ g2).2.1 e2
      | bor w =>
        obtain ⟨b, rfl, e2, e3, e4⟩ := h2
        refine ⟨b, rfl, e2, gone b e3 e4.ex, e4.mono s fun y hy => hk b y hy fun q => ?_⟩
        subst q
        rcases re_cases ht with ⟨u0, rfl, rfl⟩ | ⟨u0, rfl, rfl⟩
        · obtain ⟨c, g1, g2, _⟩ := R.own h
          rw [ha] at g1; cases g1
          exact (R.hm j _ e2).2.1 g2
        · obtain ⟨c, g1, g2, _⟩ := R.bor h
          rw [ha] at g1; cases g1
          exact ne (R.mi i j b g2 e2)
      | lck w =>
        obtain ⟨b, y, rfl, e2, e3, e5, e6, e4⟩ := h2
        refine ⟨b, y, rfl, e2, gone b e3 e4.ex, e5, e6, e4.mono s fun z hz => hk b z hz fun q => ?_⟩
        subst q
        obtain ⟨j, z⟩ := hc y e5
        exact e6 j z
  · rcases getset h1 with ⟨rfl, e1, _⟩ | ⟨n1, h1'⟩
    · rcases getset h2 with ⟨rfl, _, _⟩ | ⟨n2, h2'⟩
      · rfl
      · rcases re_cases ht with ⟨u0, rfl, rfl⟩ | ⟨u0, rfl, rfl⟩
        · exact R.di _ _ _ _ b h h2' h3 h4
        · cases e1
    · rcases getset h2 with ⟨rfl, e2, _⟩ | ⟨n2, h2'⟩
      · rcases re_cases ht with ⟨u0, rfl, rfl⟩ | ⟨u0, rfl, rfl⟩
        · exact R.di _ _ _ _ b h1' h h3 h4
        · cases e2
      · exact R.di j l w w' b h1' h2' h3 h4
/-! ### calls -/
def callV (r : Rt) (ρ : En) : Res X := match r with
  | .ok x _ => .ok x ρ
  | .err x _ => .err x ρ
  | .stuck => .stuck
theorem retX {v : V} {x : X} (R : Rl K F G H σ ρ) (h : RetX K H G' H' v x) : RepX K F G' H' σ ρ v x := by
  cases x with
  | val d => exact h
  | own i => exact h.elim
  | new o =>
    obtain ⟨a, rfl, h0, hg, ho⟩ := h
    refine ⟨a, rfl, R.fresh h0, hg, ho, fun j u hj z => ?_⟩
    obtain ⟨b, h1, _, _, h4⟩ := R.own hj
    rw [h1] at z
    cases z
    obtain ⟨u, e⟩ := h4.ex
    rw [h0] at e
    cases e
theorem callV_out {Q : VK} {r : Rt} (R : Rl K F G H σ ρ) (w : Wants K E (RepX K) F G σ Q (callV r ρ)) : Out K E G H none Q r := by
  cases r with
  | ok x ρ' =>
    intro v G' H' p hx
    have R' := R.after (ch := fun _ => False) p.s p.k p.g (fun b o h _ => p.h b o h fun z => nomatch z) fun b z => z.elim
    exact w v G' H' R' p.s (retX R hx)
  | err x ρ' =>
    intro c od G' H' p hx
    have R' := R.after (ch := fun _ => False) p.s p.k p.g (fun b o h _ => p.h b o h fun z => nomatch z) fun b z => z.elim
    exact w c od G' H' R' p.s hx
  | stuck => exact w
/-- f(..): all by value -/
def dCall (n m : Nat) (T : En → SR) (A : En → Res (List X)) : En → Res X := fun ρ => (A ρ).bind fun xs ρ1 => match toVals ρ1 xs with
  | some (ds, ρ2) => if ds.length = n then callV (fin (T (env0 m (ds.map .val)))) ρ2 else .stuck
  | none => .stuck
theorem call_sp {n m : Nat} {T : En → SR} {Q : VK} {vs : List V} {ds : List D} (R : Rl K F G H σ ρ) (r : RepA K G vs ds) (hn : ds.length = n) (w : Wants K E (RepX K) F G σ Q (callV (fin (T (env0 m (ds.map .val)))) ρ)) : spD K n m T vs H Q E :=
  ⟨G, R.gh, .inl ⟨ds, r, by rw [r.len, hn], callV_out R w⟩⟩
theorem L_call {n m : Nat} {T : En → SR} {t : TA} {A : En → Res (List X)} (ha : LA K E t A) : LE K E (tCallR (spD K n m T) E t) (dCall n m T A) := by
  refine LG.bind (k := fun vs σ H (Q : VK) => spD K n m T vs H Q E) ha fun F G H σ ρ vs xs Q R hx w => ?_
  cases e : toVals ρ xs with
  | none => rw [e] at w; exact w.elim
  | some p =>
    obtain ⟨ds, ρ2⟩ := p
    rw [e] at w
    dsimp only at w
    obtain ⟨G1, R1, s1, r1⟩ := R.toVals hx e
    split at w
    · rename_i hn
      exact call_sp R1 r1 hn (w.mono s1)
    · exact w.elim
theorem L_call0 {m : Nat} {T : En → SR} : LE K E (fun σ H Q => spD K 0 m T [] H Q E) (dCall 0 m T aNil) := fun F G H σ ρ Q R w => call_sp R .nil rfl w
/-- f(x, ..): x in slot i is lent -/
@[simp] def coAt (ρ : En) (i : Nat) : Option O := ρ[i]?.bind Slot.co
@[simp] def reAt (ρ : En) (i : Nat) (o : O) : En := match ρ[i]? with
  | some (.own _) => ρ.set i (.own o)
  | some (.bor _) => ρ.set i (.bor o)
  | _ => ρ
def callB (r : Rt) (i : Nat) (ρ : En) : Res X := match r with
  | .ok x ρ' => match (ρ'[0]? : Option Slot) with
    | some (.bor o) => .ok x (reAt ρ i o)
    | _ => .stuck
  | .err x ρ' => match (ρ'[0]? : Option Slot) with
    | some (.bor o) => .err x (reAt ρ i o)
    | _ => .stuck
  | .stuck => .stuck
def dCallB (n m : Nat) (T : En → SR) (i : Nat) (A : En → Res (List X)) : En → Res X := fun ρ => (A ρ).bind fun xs ρ1 => match toVals ρ1 xs with
  | some (ds, ρ2) => match coAt ρ2 i with
    | some o => if ds.length + 1 = n then callB (fin (T (env0 m (.bor o :: ds.map .val)))) i ρ2 else .stuck
    | none => .stuck
  | none => .stuck
theorem Rl.co {i : Nat} {o : O} (R : Rl K F G H σ ρ) (h : coAt ρ i = some o) : ∃ s a, ρ[i]? = some s ∧ s.co = some o ∧ σ[i]? = some (some (.ref a)) ∧ G a = none ∧ ObjO K G H a o := by
  unfold coAt at h
  cases e : ρ[i]? with
  | none => rw [e] at h; cases h
  | some s =>
    rw [e] at h
    obtain ⟨a, h1, h2, h3⟩ := R.holder e h
    exact ⟨s, a, rfl, h, h1, h2, h3⟩
theorem Rl.lentAt {i : Nat} {o o' : O} {a : Addr} {ρ'' : En} (R : Rl K F G H σ ρ) (h : coAt ρ i = some o) (ha : σ[i]? = some (some (.ref a))) (p : Post K G H (some a) ρ'' G' H') (ho : ρ''[0]? = some (.bor o')) : Rl K F G' H' σ (reAt ρ i o') := by
  obtain ⟨s, b, h1, h2, h3, h4, h5⟩ := R.co h
  rw [ha] at h3
  cases h3
  obtain ⟨u, e1, e2, e3⟩ := p.b a rfl
  rw [ho] at e1
  cases e1
  rcases co_cases h2 with rfl | rfl
  · have e : reAt ρ i o' = ρ.set i (.own o') := by unfold reAt; rw [h1]
    rw [e]
    exact R.lent h1 rfl ha p.s p.k p.g (fun b u hb n => p.h b u hb fun z => n (Option.some.inj z).symm) e2 e3
  · have e : reAt ρ i o' = ρ.set i (.bor o') := by unfold reAt; rw [h1]
    rw [e]
    exact R.lent h1 rfl ha p.s p.k p.g (fun b u hb n => p.h b u hb fun z => n (Option.some.inj z).symm) e2 e3
theorem retX' {v : V} {x : X} {i : Nat} {o o' : O} (R : Rl K F G H σ ρ) (hc : coAt ρ i = some o) (h : RetX K H G' H' v x) : RepX K F G' H' σ (reAt ρ i o') v x := by
  cases x with
  | val d => exact h
  | own i => exact h.elim
  | new u =>
    obtain ⟨a, rfl, h0, hg, ho⟩ := h
    refine ⟨a, rfl, R.fresh h0, hg, ho, fun j w hj z => ?_⟩
    have : ∃ w', ρ[j]? = some (.own w') := by
      obtain ⟨s, b, h1, h2, _⟩ := R.co hc
      unfold reAt at hj
      rw [h1] at hj
      rcases co_cases h2 with rfl | rfl
      · rcases getset hj with ⟨rfl, _, _⟩ | ⟨_, hj⟩
        · exact ⟨_, h1⟩
        · exact ⟨_, hj⟩
      · rcases getset hj with ⟨rfl, e, _⟩ | ⟨_, hj⟩
        · cases e
        · exact ⟨_, hj⟩
    obtain ⟨w', hw⟩ := this
    obtain ⟨b, h1, _, _, h4⟩ := R.own hw
    rw [h1] at z
    cases z
    obtain ⟨u, e⟩ := h4.ex
    rw [h0] at e
    cases e
theorem L_callB {n m i : Nat} {T : En → SR} {t : TA} {A : En → Res (List X)} (ha : LA K E t A) : LE K E (tCallR (spD K n m T) E (tCons (tVar i) t)) (fun ρ => if (coAt ρ i).isSome then dCallB n m T i A ρ else .stuck) := by
  intro F G H σ ρ Q R w
  dsimp only at w
  split at w
  · rename_i hi
    obtain ⟨o0, e0⟩ := Option.isSome_iff_exists.mp hi
    obtain ⟨s, a, h1, h2, h3, h4, h5⟩ := R.co e0
    refine ⟨_, h3, ha F G H σ ρ _ R (w.bind fun vs xs G1 H1 ρ1 R1 s1 hx w1 => ?_)⟩
    cases e : toVals ρ1 xs with
    | none => rw [e] at w1; exact w1.elim
    | some p =>
      obtain ⟨ds, ρ2⟩ := p
      rw [e] at w1
      dsimp only at w1
      obtain ⟨G2, R2, s2, r2⟩ := R1.toVals hx e
      have w2 := w1.mono s2
      cases ec : coAt ρ2 i with
      | none => rw [ec] at w2; exact w2.elim
      | some o =>
        rw [ec] at w2
        dsimp only at w2
        obtain ⟨t', b, g1, g2, g3, g4, g5⟩ := R2.co ec
        rw [h3] at g3
        cases g3
        split at w2
        · rename_i hn
          refine ⟨G2, R2.gh, .inr ⟨a, o, vs, ds, rfl, r2, by rw [r2.len, hn], g4, g5, ?_⟩⟩
          cases er : fin (T (env0 m (.bor o :: ds.map .val))) with
          | ok x ρ' =>
            rw [er] at w2
            intro v G' H' p hx
            obtain ⟨o', e1, _, _⟩ := p.b a rfl
            simp only [callB, e1] at w2
            exact w2 v G' H' (R2.lentAt ec h3 p e1) p.s (retX' R2 ec hx)
          | err x ρ' =>
            rw [er] at w2
            intro c od G' H' p hx
            obtain ⟨o', e1, _, _⟩ := p.b a rfl
            simp only [callB, e1] at w2
            exact w2 c od G' H' (R2.lentAt ec h3 p e1) p.s hx
          | stuck => rw [er] at w2; exact w2
        · exact w2.elim
  · exact w.elim
/-! ### methods, properties -/
@[simp] def noF (f : Str) (ks : List Str) : Bool := !ks.contains f
theorem noF_lookup {f : Str} : ∀ {fs : List (Str × V)}, noF f (fs.map (·.1)) = true → fs.lookup f = none
  | [], _ => rfl
  | (k, v) :: fs, h => by
    simp only [noF, List.map_cons, List.contains_cons, Bool.not_or, Bool.and_eq_true, Bool.not_eq_true'] at h
    simp only [List.lookup, h.1]
    exact noF_lookup (by simp only [noF, Bool.not_eq_true']; exact h.2)
def dMeth (C : Addr) (f : Str) (n m : Nat) (T : En → SR) (A : En → Res X) (B : En → Res (List X)) : En → Res X := fun ρ => (A ρ).bind fun a ρ1 => match toVal ρ1 a with
  | some (.ins C' ks es, ρ2) => if C' = C ∧ noF f ks = true then (B ρ2).bind fun xs ρ3 => match toVals ρ3 xs with
      | some (ds, ρ4) => if ds.length + 1 = n then callV (fin (T (env0 m ((D.ins C' ks es :: ds).map .val)))) ρ4 else .stuck
      | none => .stuck
    else .stuck
  | _ => .stuck
theorem L_meth {C : Addr} {f : Str} {n m : Nat} {T : En → SR} {ta : TE} {t : TA} {A : En → Res X} {B : En → Res (List X)} (ha : LE K E ta A) (hb : LA K E t B) : LE K E (DD.tMethR C f (spD K n m T) E ta t) (dMeth C f n m T A B) := by
  refine LG.bind (k := fun x σ H (Q : VK) => ∃ a dx fs, x = .ref a ∧ H a = some (.ins C dx fs) ∧ fs.lookup f = none ∧ t σ H fun vs H2 => spD K n m T (x :: vs) H2 Q E) ha fun F G H σ ρ x a Q R hx w => ?_
  cases e : toVal ρ a with
  | none => rw [e] at w; exact w.elim
  | some p =>
    obtain ⟨d, ρ2⟩ := p
    rw [e] at w
    obtain ⟨G1, R1, s1, r1⟩ := R.toVal hx e
    cases d <;> try exact w.elim
    rename_i C' ks es
    dsimp only at w
    split at w
    · rename_i hc
      obtain ⟨rfl, hf⟩ := hc
      have r1' := r1
      cases r1 with
      | ins h1 h2 h3 =>
        subst h2
        refine ⟨_, _, _, rfl, R1.gh _ _ h1, noF_lookup hf, hb F G1 H σ ρ2 _ R1 ((w.mono s1).bind fun vs xs G2 H2 ρ3 R2 s2 hx2 w2 => ?_)⟩
        cases e2 : toVals ρ3 xs with
        | none => rw [e2] at w2; exact w2.elim
        | some p =>
          obtain ⟨ds, ρ4⟩ := p
          rw [e2] at w2
          dsimp only at w2
          obtain ⟨G3, R3, s3, r3⟩ := R2.toVals hx2 e2
          split at w2
          · rename_i hn
            exact call_sp R3 (.cons (r1'.mono (s2.trans s3)) r3) (by rw [List.length_cons]; exact hn) (w2.mono s3)
          · exact w2.elim
    · exact w.elim
def dProp (C : Addr) (m : Nat) (T : En → SR) (A : En → Res X) : En → Res X := fun ρ => (A ρ).bind fun a ρ1 => match toVal ρ1 a with
  | some (.ins C' ks es, ρ2) => if C' = C then callV (fin (T (env0 m [.val (D.ins C' ks es)]))) ρ2 else .stuck
  | _ => .stuck
theorem L_prop {C : Addr} {m : Nat} {T : En → SR} {ta : TE} {A : En → Res X} (ha : LE K E ta A) : LE K E (tPropR C (spD K 1 m T) E ta) (dProp C m T A) := by
  refine LG.bind (k := fun x σ H (Q : VK) => ∃ a dx fs, x = .ref a ∧ H a = some (.ins C dx fs) ∧ spD K 1 m T [.ref a] H Q E) ha fun F G H σ ρ x a Q R hx w => ?_
  cases e : toVal ρ a with
  | none => rw [e] at w; exact w.elim
  | some p =>
    obtain ⟨d, ρ2⟩ := p
    rw [e] at w
    obtain ⟨G1, R1, s1, r1⟩ := R.toVal hx e
    cases d <;> try exact w.elim
    rename_i C' ks es
    dsimp only at w
    split at w
    · rename_i hc
      subst hc
      have r1' := r1
      cases r1 with
      | ins h1 h2 h3 => exact ⟨_, _, _, rfl, R1.gh _ _ h1, call_sp (ds := [D.ins C' ks es]) R1 (.one r1') rfl (w.mono s1)⟩
    · exact w.elim
/-! ### new objects -/
def makeV (r : Rt) (ρ : En) : Res X := match r with
  | .ok (.val .non) ρ' => match (ρ'[0]? : Option Slot) with
    | some (.bor o) => .ok (.new o) ρ
    | _ => .stuck
  | .err x _ => .err x ρ
  | _ => .stuck
def dMake (C : Addr) (n m : Nat) (T : En → SR) (A : En → Res (List X)) : En → Res X := fun ρ => (A ρ).bind fun xs ρ1 => match toVals ρ1 xs with
  | some (ds, ρ2) => if ds.length + 1 = n then makeV (fin (T (env0 m (.bor (.ins C [] []) :: ds.map .val)))) ρ2 else .stuck
  | none => .stuck
theorem make_sp {C : Addr} {n m : Nat} {T : En → SR} {Q : VK} {vs : List V} {ds : List D} {x dx : Addr} (R : Rl K F G H σ ρ) (r : RepA K G vs ds) (hn : ds.length + 1 = n) (nx : H x = none) (ndx : H dx = none) (ne : dx ≠ x)
    (w : Wants K E (RepX K) F G σ Q (makeV (fin (T (env0 m (.bor (.ins C [] []) :: ds.map .val)))) ρ)) : spD K n m T (.ref x :: vs) (upd (upd H dx (.own x)) x (.ins C dx [])) (fun v H2 => v = .non ∧ Q (.ref x) H2) E := by
  have R1 := R.laid (o := .own x) ndx
  have nx1 : upd H dx (.own x) x = none := by rw [upd_ne (Ne.symm ne)]; exact nx
  have R2 := R1.laid (o := .ins C dx []) nx1
  have x0 := R.fresh nx
  have far : ∀ b, b = x → F.H0 b = none ∧ ∀ (j : Nat) (u : O), ρ[j]? = some (.own u) → σ[j]? ≠ some (some (.ref b)) := fun b e => by
    subst e
    refine ⟨x0, fun j u hj z => ?_⟩
    obtain ⟨c, h1, _, _, h4⟩ := R.own hj
    rw [h1] at z
    cases z
    obtain ⟨u, e⟩ := h4.ex
    rw [nx] at e
    cases e
  refine ⟨G, R2.gh, .inr ⟨x, .ins C [] [], vs, ds, rfl, r, by rw [r.len, hn], R.freshG nx, ⟨dx, [], upd_same, rfl, .nil⟩, ?_⟩⟩
  cases er : fin (T (env0 m (.bor (.ins C [] []) :: ds.map .val))) with
  | stuck => rw [er] at w; exact w
  | err y ρ' =>
    rw [er] at w
    intro c od G' H' p hx
    have R3 := R2.after (ch := fun b => b = x) p.s p.k p.g (fun b o h n => p.h b o h fun z => n (Option.some.inj z).symm) far
    exact w c od G' H' R3 p.s hx
  | ok y ρ' =>
    rw [er] at w
    intro v G' H' p hx
    have R3 := R2.after (ch := fun b => b = x) p.s p.k p.g (fun b o h n => p.h b o h fun z => n (Option.some.inj z).symm) far
    cases y with
    | own i => exact w.elim
    | new o => exact w.elim
    | val d =>
      cases d <;> try exact w.elim
      cases hx
      obtain ⟨o, e1, e2, e3⟩ := p.b x rfl
      simp only [makeV, e1] at w
      exact ⟨rfl, w _ G' H' R3 p.s ⟨x, rfl, x0, e2, e3, (far x rfl).2⟩⟩
theorem L_make {C : Addr} {n m : Nat} {T : En → SR} {t : TA} {A : En → Res (List X)} (ha : LA K E t A) : LE K E (StX.tMakeR C (spD K n m T) E t) (dMake C n m T A) := by
  refine LG.bind (k := fun vs σ H (Q : VK) => ∀ x dx, H x = none → H dx = none → dx ≠ x → spD K n m T (.ref x :: vs) (upd (upd H dx (.own x)) x (.ins C dx [])) (fun v H2 => v = .non ∧ Q (.ref x) H2) E) ha fun F G H σ ρ vs xs Q R hx w => ?_
  cases e : toVals ρ xs with
  | none => rw [e] at w; exact w.elim
  | some p =>
    obtain ⟨ds, ρ2⟩ := p
    rw [e] at w
    dsimp only at w
    obtain ⟨G1, R1, s1, r1⟩ := R.toVals hx e
    split at w
    · rename_i hn
      exact fun x dx nx ndx ne => make_sp R1 r1 hn nx ndx ne (w.mono s1)
    · exact w.elim
end
end DL

set_option Elab.async false
set_option linter.all false
set_option maxRecDepth 100000
set_option maxHeartbeats 2000000
/-! the data layer: isinstance, own classes' operators, classmethods, two clauses, texts -/
namespace DL
open PySem PySem.Spec PyProof.Rows L2 DD
/-! ### isinstance -/
@[simp] def D.ty : D → Value
  | .non => .type "NoneType"
  | .bl _ => .type "bool"
  | .int _ => .type "int"
  | .str _ => .type "str"
  | .tup _ => .type "tuple"
  | .lst _ | .scr _ => .type "list"
  | .ins C _ _ => .ref C
  | .cls _ => .none
@[simp] def D.tyOk (Cs : List Addr) : D → Bool
  | .ins C _ _ => Cs.contains C
  | .cls _ => false
  | _ => true
structure TyC (K : Fg) (C : Addr) : Prop where
  cl : Cls K C
  ha : PySem.W.findIn K (.ref C) "__class__" = some (some (.builtin "object.__class__"))
  hn : PySem.W.specialIn K (.builtin "object.__class__") "__get__" = some (some (.builtin "getset_descriptor.__get__"))
  ht : PySem.W.takesIn K (.builtin "object.__class__") = some true
  hm : PySem.W.mroIn K C (.type "object") = some true
abbrev Kit := Value → Value → Option Bool
def KitOk (K : Fg) (kt : Kit) : Prop := ∀ t u b, kt t u = some b → PySem.W.kitOne K t u = some b
def anyK (kt : Kit) (t : Value) : List Value → Option Bool
  | [] => some false
  | u :: us => match kt t u with
    | some true => some true
    | some false => anyK kt t us
    | none => none
section
variable {K : Fg} {E : XK} {F : Fm} {G G' H H' : Hp} {σ : L2.St} {ρ ρ' : En}
theorem anyK_ok {kt : Kit} (hk : KitOk K kt) {t : Value} {b : Bool} : ∀ {us : List Value}, anyK kt t us = some b → PySem.W.kitAny K t us = some b
  | [], e => by cases e; rfl
  | u :: us, e => by
    unfold anyK at e
    cases e1 : kt t u with
    | none => rw [e1] at e; cases e
    | some c =>
      rw [e1] at e
      cases c with
      | true => exact kitAny_cons (hk _ _ _ e1) (fun z => nomatch z) fun _ => by cases e; rfl
      | false => exact kitAny_cons (hk _ _ _ e1) (fun _ => anyK_ok hk e) fun z => nomatch z
theorem ty_rep {Cs : List Addr} (hc : ∀ C ∈ Cs, TyC K C) {v : V} {d : D} (h : Rep K H v d) (ok : d.tyOk Cs = true) : TyX K H v d.ty := by
  cases h with
  | non => exact .base .non
  | bl b => exact .base (.bl b)
  | int i => exact .base (.int i)
  | str x => exact .base (.str x)
  | tup g r =>
    rcases g with (g | ⟨o, g⟩) | ⟨o, its, n, g, c, _⟩
    · exact .base (.tup g)
    · exact .fTuple g
    · exact .kTuple g c
  | lst g r => exact .base (.lst g)
  | scr g r =>
    rcases g with (g | ⟨o, g⟩) | ⟨o, its, n, g, c, _⟩
    · exact .base (.lst g)
    · exact .base (.frz g)
    · exact .kList g c
  | @ins a C dx fs ks ds g k r =>
    have t := hc C (by simpa [D.tyOk] using ok)
    exact .base (.ins g t.cl t.ha t.hn t.ht t.hm)
  | cls C => cases ok
def dIsi (kt : Kit) (Cs : List Addr) (us : List Value) (A : En → Res X) : En → Res X := fun ρ => (A ρ).bind fun a ρ1 => match deref ρ1 a with
  | some d => if d.tyOk Cs = true then lift ((anyK kt d.ty us).map fun b => X.val (.bl b)) ρ1 else .stuck
  | none => .stuck
theorem L_isi {kt : Kit} {Cs : List Addr} {c : V} {u : Value} {ta : TE} {A : En → Res X} (hk : KitOk K kt) (hc : ∀ C ∈ Cs, TyC K C) (hu : ClsV c u) (ha : LE K E ta A) : LE K E (tCB (rIsi K) (tCons ta (tCons (tC c) tNil))) (dIsi kt Cs [u] A) := by
  refine LG.bind (k := fun x σ H (Q : VK) => rIsi K [x, c] H Q) ha fun F G H σ ρ x a Q R hx w => ?_
  cases e : deref ρ a with
  | none => rw [e] at w; exact w.elim
  | some d =>
    rw [e] at w
    dsimp only at w
    split at w
    · rename_i ok
      obtain ⟨z, ez, q⟩ := w.lift
      rw [Option.map_eq_some_iff] at ez
      obtain ⟨b, eb, rfl⟩ := ez
      have e1 : kt d.ty u = some b := by
        unfold anyK at eb
        cases e1 : kt d.ty u with
        | none => rw [e1] at eb; cases eb
        | some c =>
          rw [e1] at eb
          cases c with
          | true => exact eb
          | false => cases eb; rfl
      exact ⟨x, c, d.ty, u, b, rfl, hu, ty_rep hc ((R.deref hx e).rep R.gh) ok, hk _ _ _ e1, q _ G H R (Same.refl G) (.bl _)⟩
    · exact w.elim
def tCs : List V → TA
  | [] => tNil
  | c :: cs => tCons (tC c) (tCs cs)
theorem tCs_run {Q : List V → Hp → Prop} : ∀ {cs : List V}, Q cs H → tCs cs σ H Q
  | [], q => q
  | c :: cs, q => tCs_run (cs := cs) (Q := fun xs H2 => Q (c :: xs) H2) q
theorem L_isiT {kt : Kit} {Cs : List Addr} {cs : List V} {us : List Value} {ta : TE} {A : En → Res X} (hk : KitOk K kt) (hc : ∀ C ∈ Cs, TyC K C) (hu : Paired ClsV cs us) (hz : cs.length ≤ sizeLine) (ha : LE K E ta A) :
    LE K E (tCB (rIsiT K) (tCons ta (tCons (tTup (tCs cs)) tNil))) (dIsi kt Cs us A) := by
  refine LG.bind (k := fun x σ H (Q : VK) => tTup (tCs cs) σ H fun y H2 => rIsiT K [x, y] H2 Q) ha fun F G H σ ρ x a Q R hx w => ?_
  obtain ⟨G1, R1, s1, hx1⟩ := R.settle hx
  have e0 : deref ρ a.settle = deref ρ a := by cases a <;> rfl
  cases e : deref ρ a with
  | none => rw [e] at w; exact w.elim
  | some d =>
    rw [e] at w
    dsimp only at w
    split at w
    · rename_i ok
      obtain ⟨z, ez, q⟩ := w.lift
      rw [Option.map_eq_some_iff] at ez
      obtain ⟨b, eb, rfl⟩ := ez
      refine tCs_run ⟨hz, fun p np => ?_⟩
      have R2 := R1.laid (o := .tup cs) np
      have hx2 : RepX K F G1 (upd H p (.tup cs)) σ ρ x a.settle := hx1.keep settle_no (Same.refl G1)
      exact ⟨x, p, cs, d.ty, us, b, rfl, upd_same, hu, ty_rep hc ((R2.deref hx2 (e0.trans e)).rep R2.gh) ok, anyK_ok hk eb, q _ G1 _ R2 s1 (.bl _)⟩
    · exact w.elim
/-! ### calls whose answer is of one kind -/
def callP (p : X → Option X) (r : Rt) (ρ : En) : Res X := match r with
  | .ok x _ => lift (p x) ρ
  | .err x _ => .err x ρ
  | .stuck => .stuck
@[simp] def xStr : X → Option X
  | .val (.str y) => some (.val (.str y))
  | _ => none
@[simp] def xBl : X → Option X
  | .val (.bl y) => some (.val (.bl y))
  | _ => none
@[simp] def xNb : X → Option X
  | .val (.bl y) => some (.val (.bl !y))
  | _ => none
@[simp] def xLen : X → Option X
  | .val (.int i) => if 0 ≤ i ∧ i < 2 ^ 63 then some (.val (.int i)) else none
  | _ => none
theorem callP_sp {p : X → Option X} {n m : Nat} {T : En → SR} {Q Q' : VK} {vs : List V} {ds : List D} (R : Rl K F G H σ ρ) (r : RepA K G vs ds) (hn : ds.length = n) (w : Wants K E (RepX K) F G σ Q (callP p (fin (T (env0 m (ds.map .val)))) ρ))
    (hp : ∀ x y v G' H', p x = some y → RetX K H G' H' v x → (∀ v' , RetX K H G' H' v' y → Q v' H') → Q' v H') : spD K n m T vs H Q' E := by
  refine ⟨G, R.gh, .inl ⟨ds, r, by rw [r.len, hn], ?_⟩⟩
  cases er : fin (T (env0 m (ds.map .val))) with
  | stuck => rw [er] at w; exact w
  | err x ρ' =>
    rw [er] at w
    intro c od G' H' p hx
    have R' := R.after (ch := fun _ => False) p.s p.k p.g (fun b o h _ => p.h b o h (fun z => (nomatch z))) fun b z => z.elim
    exact w c od G' H' R' p.s hx
  | ok x ρ' =>
    rw [er] at w
    intro v G' H' ps hx
    have R' := R.after (ch := fun _ => False) ps.s ps.k ps.g (fun b o h _ => ps.h b o h (fun z => (nomatch z))) fun b z => z.elim
    obtain ⟨y, ey, q⟩ := Wants.lift w
    exact hp x y v G' H' ey hx fun v' hv => q v' G' H' R' ps.s (retX R hv)
def dStrO (C : Addr) (m : Nat) (T : En → SR) (A : En → Res X) : En → Res X := fun ρ => (A ρ).bind fun a ρ1 => match toVal ρ1 a with
  | some (.ins C' ks es, ρ2) => if C' = C then callP xStr (fin (T (env0 m [.val (D.ins C' ks es)]))) ρ2 else .stuck
  | _ => .stuck
theorem L_strO {C : Addr} {m : Nat} {T : En → SR} {ta : TE} {A : En → Res X} (ha : LE K E ta A) : LE K E (tCB (rStrO C (spD K 1 m T) E) (tCons ta tNil)) (dStrO C m T A) := by
  refine LG.bind (k := fun x σ H (Q : VK) => rStrO C (spD K 1 m T) E [x] H Q) ha fun F G H σ ρ x a Q R hx w => ?_
  cases e : toVal ρ a with
  | none => rw [e] at w; exact w.elim
  | some p =>
    obtain ⟨d, ρ2⟩ := p
    rw [e] at w
    obtain ⟨G1, R1, s1, r1⟩ := R.toVal hx e
    cases d <;> try exact w.elim
    rename_i C' ks es
    dsimp only at w
    split at w
    · rename_i hc
      subst hc
      have r1' := r1
      cases r1 with
      | ins h1 h2 h3 =>
        refine ⟨_, _, _, rfl, R1.gh _ _ h1, callP_sp (ds := [D.ins C' ks es]) R1 (.one r1') rfl (w.mono s1) fun x y v G' H' ep hx q => ?_⟩
        cases x with
        | val d =>
          cases d <;> cases ep
          cases hx
          exact ⟨_, rfl, q _ (.str _)⟩
        | own i => cases ep
        | new o => cases ep
    · exact w.elim
def dLenO (C : Addr) (m : Nat) (T : En → SR) (A : En → Res X) : En → Res X := fun ρ => (A ρ).bind fun a ρ1 => match toVal ρ1 a with
  | some (.ins C' ks es, ρ2) => if C' = C then callP xLen (fin (T (env0 m [.val (D.ins C' ks es)]))) ρ2 else .stuck
  | _ => .stuck
theorem L_lenO {C : Addr} {m : Nat} {T : En → SR} {ta : TE} {A : En → Res X} (ha : LE K E ta A) : LE K E (tCB (rLenO C (spD K 1 m T) E) (tCons ta tNil)) (dLenO C m T A) := by
  refine LG.bind (k := fun x σ H (Q : VK) => rLenO C (spD K 1 m T) E [x] H Q) ha fun F G H σ ρ x a Q R hx w => ?_
  cases e : toVal ρ a with
  | none => rw [e] at w; exact w.elim
  | some p =>
    obtain ⟨d, ρ2⟩ := p
    rw [e] at w
    obtain ⟨G1, R1, s1, r1⟩ := R.toVal hx e
    cases d <;> try exact w.elim
    rename_i C' ks es
    dsimp only at w
    split at w
    · rename_i hc
      subst hc
      have r1' := r1
      cases r1 with
      | ins h1 h2 h3 =>
        refine ⟨_, _, _, rfl, R1.gh _ _ h1, callP_sp (ds := [D.ins C' ks es]) R1 (.one r1') rfl (w.mono s1) fun x y v G' H' ep hx q => ?_⟩
        cases x with
        | val d =>
          cases d <;> try (cases ep; done)
          simp only [xLen] at ep
          split at ep
          · rename_i hz
            cases ep
            cases hx
            exact ⟨_, rfl, hz.1, hz.2, q _ (.int _)⟩
          · cases ep
        | own i => cases ep
        | new o => cases ep
    · exact w.elim
/-! == and != by an own __eq__ -/
def dEqO (p : X → Option X) (C : Addr) (m : Nat) (T : En → SR) (A B : En → Res X) : En → Res X := fun ρ => (A ρ).bind fun a ρ1 => (B ρ1).bind fun b ρ2 => match toVal ρ2 a.settle with
  | some (.ins C' ks es, ρ3) => match toVal ρ3 b.settle with
    | some (.ins C'' ks' es', ρ4) => if C' = C ∧ C'' = C then callP p (fin (T (env0 m [.val (D.ins C' ks es), .val (D.ins C'' ks' es')]))) ρ4 else .stuck
    | _ => .stuck
  | _ => .stuck
theorem xBl_ok {G : Hp} : ∀ z w, xBl z = some w → ∃ c, z = .val (.bl c) ∧ ∃ d, w = .val d ∧ ∀ G, Rep K G (.bl c) d := by
  intro z w e
  cases z with
  | val d => cases d <;> cases e; exact ⟨_, rfl, _, rfl, fun _ => .bl _⟩
  | own i => cases e
  | new o => cases e
theorem xNb_ok {G : Hp} : ∀ z w, xNb z = some w → ∃ c, z = .val (.bl c) ∧ ∃ d, w = .val d ∧ ∀ G, Rep K G (.bl (!c)) d := by
  intro z w e
  cases z with
  | val d => cases d <;> cases e; exact ⟨_, rfl, _, rfl, fun _ => .bl _⟩
  | own i => cases e
  | new o => cases e
theorem eqO_run {p : X → Option X} {C : Addr} {m : Nat} {T : En → SR} {a b : X} {x y : V} {Q : VK} {P : Bool → V} (hp : ∀ z w, p z = some w → ∃ c, z = .val (.bl c) ∧ ∃ d, w = .val d ∧ ∀ G, Rep K G (P c) d) (R : Rl K F G H σ ρ) (hx : RepX K F G H σ ρ x a) (hs : ∀ o, a ≠ .new o) (hy : RepX K F G H σ ρ y b)
    (w : Wants K E (RepX K) F G σ Q (match toVal ρ a with
      | some (.ins C' ks es, ρ3) => match toVal ρ3 b with
        | some (.ins C'' ks' es', ρ4) => if C' = C ∧ C'' = C then callP p (fin (T (env0 m [.val (D.ins C' ks es), .val (D.ins C'' ks' es')]))) ρ4 else .stuck
        | _ => .stuck
      | _ => .stuck)) (hb : ∀ o, b ≠ .new o) :
    ∃ a dx fs b dy gs, x = .ref a ∧ y = .ref b ∧ H a = some (.ins C dx fs) ∧ H b = some (.ins C dy gs) ∧ spD K 2 m T [.ref a, .ref b] H (fun v H' => ∃ c, v = .bl c ∧ Q (P c) H') E := by
  cases e : toVal ρ a with
  | none => rw [e] at w; exact w.elim
  | some q =>
    obtain ⟨d, ρ3⟩ := q
    rw [e] at w
    obtain ⟨G1, R1, s1, r1⟩ := R.toVal hx e
    cases d <;> try exact w.elim
    rename_i C' ks es
    dsimp only at w
    cases e2 : toVal ρ3 b with
    | none => rw [e2] at w; exact w.elim
    | some q2 =>
      obtain ⟨d2, ρ4⟩ := q2
      rw [e2] at w
      obtain ⟨G2, R2, s2, r2⟩ := R1.toVal (hy.keep hb s1) e2
      cases d2 <;> try exact w.elim
      rename_i C'' ks' es'
      dsimp only at w
      split at w
      · rename_i hc
        obtain ⟨rfl, rfl⟩ := hc
        have r1' := r1
        have r2' := r2
        cases r1 with
        | ins h1 h2 h3 =>
          cases r2 with
          | ins g1 g2 g3 =>
            refine ⟨_, _, _, _, _, _, rfl, rfl, R1.gh _ _ h1, R2.gh _ _ g1, callP_sp (ds := [D.ins _ ks es, D.ins _ ks' es']) R2 (.cons (r1'.mono s2) (.one r2')) rfl (w.mono (s1.trans s2)) fun x y v G' H' ep hx q => ?_⟩
            obtain ⟨c, rfl, d, rfl, hd⟩ := hp x y ep
            cases hx
            exact ⟨c, rfl, q _ (hd _)⟩
      · exact w.elim
theorem Out.mono {ob : Option Addr} {Q Q' : VK} (h : ∀ v H', Q v H' → Q' v H') : ∀ {r : Rt}, Out K E G H ob Q r → Out K E G H ob Q' r
  | .ok x ρ', o => fun v G' H' p hx => h _ _ (o v G' H' p hx)
  | .err x ρ', o => o
  | .stuck, o => o
theorem spD_mono {n m : Nat} {T : En → SR} {vs : List V} {Q Q' : VK} (h : ∀ v H', Q v H' → Q' v H') (s : spD K n m T vs H Q E) : spD K n m T vs H Q' E := by
  obtain ⟨G, s1, s⟩ := s
  refine ⟨G, s1, ?_⟩
  rcases s with ⟨ds, r, hn, o⟩ | ⟨a, u, ws, ds, e, r, hn, hg, ho, o⟩
  · exact .inl ⟨ds, r, hn, o.mono h⟩
  · exact .inr ⟨a, u, ws, ds, e, r, hn, hg, ho, o.mono h⟩
theorem L_eqO {C : Addr} {m : Nat} {T : En → SR} {ta tb : TE} {A B : En → Res X} (ha : LE K E ta A) (hb : LE K E tb B) : LE K E (tOp (rEqO C (spD K 2 m T) E) ta tb) (dEqO xBl C m T A B) := by
  refine LG.bind (k := fun x σ H (Q : VK) => tb σ H fun y H2 => rEqO C (spD K 2 m T) E x y H2 Q) ha fun F G H σ ρ x a Q R hx w => ?_
  obtain ⟨G1, R1, s1, hx1⟩ := R.settle hx
  have w1 := w.mono s1
  refine hb F G1 H σ ρ _ R1 (w1.bind fun y b G2 H2 ρ2 R2 s2 hy w2 => ?_)
  obtain ⟨G3, R3, s3, hy3⟩ := R2.settle hy
  obtain ⟨a', dx, fs, b', dy, gs, e1, e2, e3, e4, sp⟩ := eqO_run (P := fun c => .bl c) (xBl_ok (G := G)) R3 (hx1.keep settle_no (s2.trans s3)) settle_no hy3 (w2.mono s3) settle_no
  exact ⟨a', dx, fs, b', dy, gs, e1, e2, e3, e4, spD_mono (fun v H' ⟨c, ec, q⟩ => ⟨c, ec, by rw [ec]; exact q⟩) sp⟩
theorem L_neO {C : Addr} {m : Nat} {T : En → SR} {ta tb : TE} {A B : En → Res X} (ha : LE K E ta A) (hb : LE K E tb B) : LE K E (tOp (rNeO C (spD K 2 m T) E) ta tb) (dEqO xNb C m T A B) := by
  refine LG.bind (k := fun x σ H (Q : VK) => tb σ H fun y H2 => rNeO C (spD K 2 m T) E x y H2 Q) ha fun F G H σ ρ x a Q R hx w => ?_
  obtain ⟨G1, R1, s1, hx1⟩ := R.settle hx
  have w1 := w.mono s1
  refine hb F G1 H σ ρ _ R1 (w1.bind fun y b G2 H2 ρ2 R2 s2 hy w2 => ?_)
  obtain ⟨G3, R3, s3, hy3⟩ := R2.settle hy
  exact eqO_run (P := fun c => .bl (!c)) (xNb_ok (G := G)) R3 (hx1.keep settle_no (s2.trans s3)) settle_no hy3 (w2.mono s3) settle_no
/-! ### two clauses -/
def lc2L (vs vs1 : List Nat) (U : Tg) (T : En → Res Bool) (S1 : En → Res (List D)) (U1 : Tg) (T1 : En → Res Bool) (A : En → Res X) : List D → En → List D → Res (List D)
  | [], ρ, acc => .ok acc ρ
  | d :: ds, ρ, acc => match U d ρ with
    | none => .stuck
    | some ρ1 => match T ρ1 with
      | .ok true ρ2 => match S1 ρ2 with
        | .ok es ρ3 => if vs1.all (freeAt ρ3) = true then match lcL vs1 U1 T1 A es (wipeN ρ3 vs1) acc with
            | .ok acc' ρ4 => if vs.all (freeAt ρ4) = true then lc2L vs vs1 U T S1 U1 T1 A ds (wipeN ρ4 vs) acc' else .stuck
            | _ => .stuck
          else .stuck
        | _ => .stuck
      | .ok false ρ2 => if vs.all (freeAt ρ2) = true then lc2L vs vs1 U T S1 U1 T1 A ds (wipeN ρ2 vs) acc else .stuck
      | _ => .stuck
def dLc2 (S : En → Res (List D)) (vs vs1 : List Nat) (U : Tg) (T : En → Res Bool) (S1 : En → Res (List D)) (U1 : Tg) (T1 : En → Res Bool) (A : En → Res X) : En → Res X := fun ρ => (S ρ).bind fun ds ρ1 => if vs.all (freeAt ρ1) = true then
    match lc2L vs vs1 U T S1 U1 T1 A ds (wipeN ρ1 vs) [] with
    | .ok es ρ2 => .ok (.new (.lst es)) ρ2
    | _ => .stuck
  else .stuck
theorem L_lc2 {Et Ea Es Et1 : XK} {wi wi1 : TI} {S S1 : En → Res (List D)} {vs vs1 : List Nat} {U U1 : Tg} {T T1 : En → Res Bool} {A : En → Res X} {g g1 : TG} {tt tt1 : TT} {te : TE} (hi : LI K E wi S) (hg : LTg K vs g U) (ht : LT K Et tt T) (hi1 : LI K Es wi1 S1) (hg1 : LTg K vs1 g1 U1) (ht1 : LT K Et1 tt1 T1) (ha : LE K Ea te A) :
    LE K E (tLc2 wi g tt wi1 g1 tt1 te vs vs1) (dLc2 S vs vs1 U T S1 U1 T1 A) := by
  intro F G H σ ρ Q R w
  refine hi F G H σ ρ _ R (Wants.bind w fun J ds G1 H1 ρ1 R1 s1 hI w1 => fun a na => ?_)
  split at w1
  · rename_i hf
    have h0 := R1.fresh na
    have hgG := R1.freshG na
    have hg0 : F.G0 a = none := none_of R1.g0 hgG
    have hl := R1.noL h0
    have hm := R1.noM h0
    have n : ∀ (j : Nat) (u : O), (DL.wipeN ρ1 vs)[j]? = some (.own u) → σ[j]? ≠ some (some (.ref a)) := fun j u hj z => by
      obtain ⟨b, h1, _, _, h4⟩ := (R1.wipeN hf).own hj
      rw [h1] at z
      cases z
      obtain ⟨u, e⟩ := h4.ex
      rw [na] at e
      cases e
    have R2 : Rl K (F.hold a (.lst [])) G1 (upd H1 a (.lst [])) σ (DL.wipeN ρ1 vs) := ((R1.wipeN hf).laid na).hold upd_same h0 hgG n
    cases e : lc2L vs vs1 U T S1 U1 T1 A ds (DL.wipeN ρ1 vs) [] with
    | stuck => rw [e] at w1; exact w1.elim
    | err x ρ2 => rw [e] at w1; exact w1.elim
    | ok es ρe =>
      rw [e] at w1
      refine ⟨fun i m H' => ∃ G' ρ' acc' accd', Rl K (F.hold a (.lst acc')) G' H' σ ρ' ∧ Same G1 G' ∧ Wiped ρ' vs ∧ RepA K G' acc' accd' ∧ i + m = ds.length ∧ lc2L vs vs1 U T S1 U1 T1 A (ds.drop i) ρ' accd' = .ok es ρe, ⟨ds.length, G1, _, [], [], R2, Same.refl G1, wiped_N, .nil, by omega, e⟩, ?_⟩
      rintro i m H' ⟨G', ρ', acc', accd', R', s', hw', hr', hmm, w'⟩
      cases m with
      | zero =>
        rw [List.drop_eq_nil_of_le (by omega)] at w'
        cases w'
        exact .inl ⟨hI.stop G' H' s' R'.gh trivial i (by omega), w1 _ G' H' (R'.unhold h0 hl hm) s' ⟨a, rfl, h0, R'.heldG hg0, ⟨acc', R'.heldH hm, hr'⟩, R'.heldN⟩⟩
      | succ m =>
        have hi : i < ds.length := by omega
        rw [List.drop_eq_getElem_cons hi] at w'
        refine .inr ⟨hI.go G' H' s' R'.gh trivial i hi, fun H2 => ∃ G2 ρ2 acc2 accd2, Rl K (F.hold a (.lst acc2)) G2 H2 σ ρ2 ∧ Same G1 G2 ∧ Wiped ρ2 vs ∧ RepA K G2 acc2 accd2 ∧ lc2L vs vs1 U T S1 U1 T1 A (ds.drop (i + 1)) ρ2 accd2 = .ok es ρe,
          fun H2 ⟨G2, ρ2, acc2, accd2, R2, s2, q1, q2, q3⟩ => ⟨m, by omega, G2, ρ2, acc2, accd2, R2, s2, q1, q2, by omega, q3⟩, fun x H3 hy => ?_⟩
        have Rw : Rl K (F.hold a (.lst acc')) G' H' (wipe σ vs) ρ' := R'.any hw' wipe_wipe
        obtain ⟨G3, R3, s3, _, k3, d, hd, hrd⟩ := hI.yld _ _ _ _ _ Rw s' trivial i x H3 hi hy
        rw [List.getElem?_eq_getElem hi] at hd
        cases hd
        unfold lc2L at w'
        cases e : U ds[i] ρ' with
        | none => rw [e] at w'; cases w'
        | some ρ1 =>
          rw [e] at w'
          dsimp only at w'
          refine hg _ _ _ _ _ ρ1 x _ _ R3 hrd e fun σ4 R4 w4 => ⟨w4.trans wipe_wipe, ?_⟩
          have w4' : wipe σ vs = wipe σ4 vs := (w4.trans wipe_wipe).symm
          refine ht _ G3 H3 σ4 ρ1 _ R4 ?_
          cases e2 : T ρ1 with
          | stuck => rw [e2] at w'; cases w'
          | err y ρ2 => rw [e2] at w'; cases w'
          | ok b ρ2 =>
            rw [e2] at w'
            intro b' G5 H5 R5 s5 eb
            subst eb
            cases b' with
            | false =>
              refine iteF ?_
              dsimp only at w'
              split at w'
              · rename_i hf
                exact ⟨G5, _, acc', accd', (R5.wipeN hf).any wiped_N w4', s'.trans (s3.trans s5), wiped_N, hr'.mono (s3.trans s5), w'⟩
              · cases w'
            | true =>
              refine iteT ?_
              dsimp only at w'
              refine hi1 _ G5 H5 σ4 ρ2 _ R5 ?_
              cases e3 : S1 ρ2 with
              | stuck => rw [e3] at w'; cases w'
              | err y ρ3 => rw [e3] at w'; cases w'
              | ok es1 ρ3 =>
                rw [e3] at w'
                intro J1 G6 H6 R6 s6 hI1
                dsimp only at w'
                split at w'
                · rename_i hf1
                  cases e4 : lcL vs1 U1 T1 A es1 (DL.wipeN ρ3 vs1) accd' with
                  | stuck => rw [e4] at w'; cases w'
                  | err y ρ4 => rw [e4] at w'; cases w'
                  | ok accd2 ρ4 =>
                    rw [e4] at w'
                    dsimp only at w'
                    split at w'
                    · rename_i hf4
                      exact lc_core_D (F := F) (G1 := G6) hg1 ht1 ha h0 hg0 hl hm hI1 (fun _ _ _ _ _ _ => trivial) (fun G7 H7 acc7 R7 s7 r7 => ⟨G7, _, acc7, accd2, (R7.wipeN hf4).any wiped_N w4', s'.trans (s3.trans (s5.trans (s6.trans s7))), wiped_N, r7, w'⟩) (R6.wipeN hf1) (Same.refl G6) wiped_N (hr'.mono (s3.trans (s5.trans s6))) e4
                    · cases w'
                · cases w'
  · exact w1.elim
end
end DL

set_option Elab.async false
set_option linter.all false
set_option maxRecDepth 100000
set_option maxHeartbeats 2000000
/-! the data layer: defaults, classmethods, names for what the printer prints, the law -/
namespace DL
open PySem PySem.Spec PyProof.Rows L2 DD
abbrev opSub : D2 := opI fun i j => .int (i - j)
noncomputable abbrev opMul : D2 := opIC CMul fun i j => .int (i * j)
noncomputable abbrev opFdiv : D2 := opIC CDiv fun i j => .int (i / j)
noncomputable abbrev opMod : D2 := opIC (fun _ j => 0 < j) fun i j => .int (i % j)
noncomputable abbrev opPow : D2 := opIC CPow fun i j => .int (i ^ j.toNat)
abbrev opLe : D2 := opI fun i j => .bl (decide (i ≤ j))
abbrev opGt : D2 := opI fun i j => .bl (decide (j < i))
abbrev opGe : D2 := opI fun i j => .bl (decide (j ≤ i))
@[simp] def opNeg : D → Option X
  | .int i => some (.val (.int (-i)))
  | _ => none
def dUn (f : D → Option X) (A : En → Res X) : En → Res X := fun ρ => (A ρ).bind fun a ρ1 => match deref ρ1 a with
  | some d => lift (f d) ρ1
  | none => .stuck
def dLend (n m : Nat) (T : En → SR) (i : Nat) (A : En → Res (List X)) : En → Res X := fun ρ => if (coAt ρ i).isSome then dCallB n m T i A ρ else .stuck
/-- a def that raises nothing -/
def spD0 (K : Fg) (n m : Nat) (T : En → SR) : Sp := fun vs H Q _ => spD K n m T vs H Q E0
/-- the last arguments are the defaults dd -/
@[simp] def fillD (n : Nat) (dd : List D) (ρ : En) : En := env0 ρ.length (ρ.take n ++ dd.map Slot.val)
section
variable {P : Program} {w : World} {K : Fg} {mg : Str → Option Value} {base : Heap} {E : XK} {G H : Hp}
theorem L_neg {ta : TE} {A : En → Res X} (ha : LE K E ta A) : LE K E (tUn (rU fun i => .int (-i)) ta) (dUn opNeg A) := by
  refine LG.bind (k := fun x σ H (Q : VK) => ∃ i, x = .int i ∧ Q (.int (-i)) H) ha fun F G H σ ρ x a Q R hx w => ?_
  cases e : deref ρ a with
  | none => rw [e] at w; exact w.elim
  | some d =>
    rw [e] at w
    obtain ⟨z, ez, q⟩ := w.lift
    have hd := R.deref hx e
    cases d <;> cases ez
    exact ⟨_, hd.int, q _ G H R (Same.refl G) (.int _)⟩
theorem L_lend {n m i : Nat} {T : En → SR} {t : TA} {A : En → Res (List X)} (ha : LA K E t A) : LE K E (tCallR (spD K n m T) E (tCons (tVar i) t)) (dLend n m T i A) := L_callB ha
theorem fill_env {m n : Nat} {ss : List Slot} {dd : List D} (hn : ss.length = n) (hm : n + dd.length ≤ m) : fillD n dd (env0 m ss) = env0 m (ss ++ dd.map Slot.val) := by
  have hl : (env0 m ss).length = m := by
    unfold env0
    rw [List.length_append, List.length_replicate]
    omega
  unfold fillD
  rw [hl]
  congr 1
  unfold env0
  rw [List.take_left' hn]
theorem spD_fill {n m : Nat} {T : En → SR} {dd : List D} {dvs vs : List V} {Q : VK} (hr : ∀ G, RepA K G dvs dd) (hm : n + dd.length ≤ m) (h : spD K n m (fun ρ => T (fillD n dd ρ)) vs H Q E) : spD K (n + dd.length) m T (vs ++ dvs) H Q E := by
  obtain ⟨G, s, h⟩ := h
  refine ⟨G, s, ?_⟩
  rcases h with ⟨ds, r, hn, o⟩ | ⟨a, u, ws, ds, rfl, r, hn, hg, ho, o⟩
  · refine .inl ⟨ds ++ dd, r.app (hr G), by rw [List.length_append, hn, (hr G).len], ?_⟩
    have e : fillD n dd (env0 m (ds.map Slot.val)) = env0 m (ds.map Slot.val ++ dd.map Slot.val) := fill_env (by rw [List.length_map, ← r.len, hn]) hm
    dsimp only at o
    rw [e] at o
    rw [List.map_append]
    exact o
  · refine .inr ⟨a, u, ws ++ dvs, ds ++ dd, rfl, r.app (hr G), by rw [List.length_append, (hr G).len]; omega, hg, ho, ?_⟩
    have e : fillD n dd (env0 m (Slot.bor u :: ds.map Slot.val)) = env0 m (Slot.bor u :: ds.map Slot.val ++ dd.map Slot.val) := fill_env (by rw [List.length_cons, List.length_map, ← r.len, hn]) hm
    dsimp only at o
    rw [e] at o
    rw [List.map_append]
    exact o
/-- a def with defaults, those from the j-th on left out -/
theorem mkDD {x qual : Str} {st : Stmt} {f : Addr} {N ps : List Str} {k : Nat} {T : En → SR} {dvs : List V} {dd : List D} (n j : Nat) (F : ∃ fd, FunD K x qual (defArgs st) (defBody st) (defScope st) dvs [] f fd) (hd : dvs ≠ []) (hn : n + (dvs.length - j) = ps.length) (S : FnScope N ps (defScope st)) (hN : ps.length ≤ N.length)
    (hr : ∀ G, RepA K G (dvs.drop j) dd)
    (hb : ∀ (T : Addr) (kV doc pm : Value) (an : Option Addr) (cdv ct : Value) (us its : List Value), us.length = n → its.length = dvs.length →
      ∃ k, bindArgs (PySem.W.fnOf x qual (defArgs st) (defBody st) (defScope st) (.ref T) kV doc pm an cdv ct) ⟨us, []⟩ = seqItems? (.ref T) >>= k ∧ k (some its.toArray) = pure (ps.zip (us ++ its.drop j)))
    (hbody : ∀ (cdv : Value) (A : Around) (outer : List Env) (s : Shared) (H : Hp) (E : XK), Room k (A.deeper (envOfC qual (defScope st) s.heap.objs.size f cdv)) →
      ∃ t, PSs (cxOf CX0 P w K mg base N qual (defScope st) f cdv A outer s H E) (defBody st) t ∧ LS K E0 t T) : FnR P w K mg base CX0 (k + 1) f (spD0 K n N.length (fun ρ => T (fillD n dd ρ))) := by
  obtain ⟨fd, F⟩ := F
  have hdd : dd.length = dvs.length - j := by rw [← (hr fun _ => none).len, List.length_drop]
  have G : FnOk P w K mg base CX0 (k + 1) f fd ps (spD0 K ps.length N.length T) := F.ok S (fun vs H Q E h => spD_len h) fun cdv A outer s H vs Q E hr hs => by
    obtain ⟨t, h1, h2⟩ := hbody cdv A outer s H E hr
    exact ⟨t, h1, spD_run hN h2 hs⟩
  obtain ⟨ds, hv, b⟩ := F.binds1 n j hd hn hb
  refine (G.raw b hv).imp fun vs H Q E h => ?_
  have := spD_fill (E := E0) (T := T) hr (by omega) h
  rw [hdd, hn] at this
  exact this
/-! ### classmethods -/
def dCMeth (C : Addr) (n m : Nat) (T : En → SR) (B : En → Res (List X)) : En → Res X := fun ρ => (B ρ).bind fun xs ρ1 => match toVals ρ1 xs with
  | some (ds, ρ2) => if ds.length + 1 = n then callV (fin (T (env0 m ((D.cls C :: ds).map .val)))) ρ2 else .stuck
  | none => .stuck
theorem L_cmeth {C : Addr} {n m : Nat} {T : En → SR} {t : TA} {B : En → Res (List X)} (hb : LA K E t B) : LE K E (ClX.tCMeth C (spD K n m T) E (tC (.ref C)) t) (dCMeth C n m T B) := by
  intro F G H σ ρ Q R w
  refine ⟨rfl, hb F G H σ ρ _ R (Wants.bind w fun vs xs G1 H1 ρ1 R1 s1 hx w1 => ?_)⟩
  cases e : toVals ρ1 xs with
  | none => rw [e] at w1; exact w1.elim
  | some p =>
    obtain ⟨ds, ρ2⟩ := p
    rw [e] at w1
    dsimp only at w1
    obtain ⟨G2, R2, s2, r2⟩ := R1.toVals hx e
    split at w1
    · rename_i hn
      exact call_sp R2 (.cons (.cls C) r2) (by rw [List.length_cons]; exact hn) (w1.mono s2)
    · exact w1.elim
def dMakeL (C : Addr) (i n m : Nat) (T : En → SR) (A : En → Res (List X)) : En → Res X := fun ρ => match ρ[i]? with
  | some (.val (.cls C')) => if C' = C then dMake C n m T A ρ else .stuck
  | _ => .stuck
theorem L_makeL {C : Addr} {i n m : Nat} {T : En → SR} {t : TA} {A : En → Res (List X)} (ha : LA K E t A) : LE K E (DD.tMakeL i C (spD K n m T) E t) (dMakeL C i n m T A) := by
  intro F G H σ ρ Q R w
  unfold dMakeL at w
  split at w
  · rename_i C' e
    split at w
    · rename_i hc
      subst hc
      obtain ⟨v, h1, h2⟩ := R.val e
      cases h2
      exact ⟨h1, L_make ha F G H σ ρ Q R w⟩
    · exact w.elim
  · exact w.elim
/-! ### reading of attributes where K is told -/
theorem pe_fldK {X : Cx} {K : Fg} {e : Expr} {f : Str} {pos : Pos} {ta : TE} (he : PE X e ta) (hb : attributeBase e f X.env (eval e X.env) = eval e X.env) (h : X.K = K := by rfl) : PE X (.Attribute e f pos) (tFld K ta f) := h ▸ pe_fld he hb
theorem pg_tupK {X : Cx} {K : Fg} {es : List Expr} {k : Nat} {t : TGs} {n : Nat} {pos : Pos} (hc : X.calm = true) (h : PGs X es t)
    (hn : (assignEach es X.env).length = n := by rfl) (hst : (assignEach es X.env).findIdx? (·.1) = none := by rfl) (hK : X.K = K := by rfl) : PG X (.Tuple es k pos) (gTup K n t) := hK ▸ pg_tup hc h hn hst
theorem room5 {k : Nat} {A : Around} (hr : Room k A) : A.units + 65 < cLine := by
  have := hr.un
  omega
/-! ### classes and kinds -/
structure Cl where
  Day : Addr
  Rule : Addr
  Frame : Addr
def blts : List String := ["int", "bool", "str", "tuple", "list"]
theorem kit_blt {C : Addr} {b : String} (hb : b ∈ blts) (h : PySem.W.subIn K (.ref C) (.type b) = some false) : PySem.W.kitOne K (.ref C) (.type b) = some false := by
  have m : PySem.W.kitMeta b = true := by
    simp only [blts, List.mem_cons, List.not_mem_nil, or_false] at hb
    rcases hb with rfl | rfl | rfl | rfl | rfl <;> decide +kernel
  have e : ((Value.ref C) == (Value.type b)) = false := rfl
  unfold PySem.W.kitOne
  rw [e]
  show (if PySem.W.kitMeta b = true then PySem.W.subIn K (.ref C) (.type b) else none) = _
  rw [if_pos m, h]
def kitD (Cs : List Addr) : Kit
  | .type a, .type b => kitB a b
  | .ref a, .type b => if a ∈ Cs ∧ b ∈ blts then some false else none
  | .ref a, .ref b => if a = b then some true else none
  | .type a, .ref b => if a = "str" ∧ b ∈ Cs then some false else none
  | _, _ => none
theorem kitD_ok {Cs : List Addr} (h : ∀ C ∈ Cs, PySem.W.kitOne K (.type "str") (.ref C) = some false) (h2 : ∀ C ∈ Cs, ∀ b ∈ blts, PySem.W.subIn K (.ref C) (.type b) = some false) : KitOk K (kitD Cs) := by
  intro t u b e
  unfold kitD at e
  split at e
  · exact kit_ty e
  · split at e
    · rename_i hc
      cases e
      exact kit_blt hc.2 (h2 _ hc.1 _ hc.2)
    · cases e
  · split at e
    · rename_i h
      cases e
      rw [h]
      simp [PySem.W.kitOne]
    · cases e
  · split at e
    · rename_i hc
      cases e
      rw [hc.1]
      exact h _ hc.2
    · cases e
  · cases e
def sDead : En → SR := fun _ => .stuck
theorem L_dead : LS K E (fun _ _ _ => False) sDead := fun F G H σ ρ D R w => w.elim
/-! ### a sequence that is walked within -/
def dSeqI (A : En → Res X) : En → Res (List D) := fun ρ => (A ρ).bind fun a ρ1 => match a with
  | .val d => lift d.items ρ1
  | .new o => lift o.d.items ρ1
  | .own i => match ρ1[i]? with
    | some (.val d) => lift d.items ρ1
    | _ => .stuck
theorem I_seq {ta : TE} {A : En → Res X} (ha : LE K E ta A) : LI K E (iSeq K ta) (dSeqI A) := by
  intro F G H σ ρ Q R w
  refine ha F G H σ ρ _ R (Wants.bind w fun v a G1 H1 ρ1 R1 s1 hx w1 => ?_)
  have fz : ∀ {G2 : Hp} {d : D}, Rl K F G2 H1 σ ρ1 → Same G1 G2 → Rep K G2 v d → Wants K E (fun _ G _ _ _ J ds => Its K (fun _ => True) G J ds) F G2 σ Q (lift d.items ρ1) → ∃ a, v = .ref a ∧ (((∃ xs, SqL K H1 a xs) ∧ Q (Itl K a) H1) ∨ ((∃ xs, SqT K H1 a xs) ∧ Q (Itt K a) H1)) := by
    intro G2 d R2 s2 hr w2
    obtain ⟨ds, e, q⟩ := w2.lift
    obtain ⟨a, rfl, h⟩ := its_rep R2 hr e
    rcases h with ⟨h1, h2⟩ | ⟨h1, h2⟩
    · exact ⟨a, rfl, .inl ⟨h1, q _ G2 H1 R2 (Same.refl G2) h2⟩⟩
    · exact ⟨a, rfl, .inr ⟨h1, q _ G2 H1 R2 (Same.refl G2) h2⟩⟩
  cases a with
  | val d => exact fz R1 (Same.refl G1) hx w1
  | new o =>
    obtain ⟨G2, R2, s2, r2⟩ := R1.settle hx
    exact fz R2 s2 r2 (w1.mono s2)
  | own i =>
    dsimp only at w1
    cases e : ρ1[i]? with
    | none => rw [e] at w1; exact w1.elim
    | some t =>
      rw [e] at w1
      cases t <;> try exact w1.elim
      rename_i d
      obtain ⟨v', h1, h2⟩ := R1.val e
      rw [show σ[i]? = some (some v) from hx] at h1
      cases h1
      exact fz R1 (Same.refl G1) h2 w1
/-! ### more methods of texts -/
def f_isascii : D → List D → Option X
  | .str a, [] => some (.val (.bl (Txt.isascii a)))
  | _, _ => none
theorem M_isascii : MtS K (fun x xs H Q => ∃ a, x = .str a ∧ xs = [] ∧ True ∧ Q (.bl (Txt.isascii a)) H) f_isascii := by
  intro F G H σ ρ x d vs ds z Q R hx hv ez q
  unfold f_isascii at ez
  split at ez
  · cases ez
    cases hv
    exact ⟨_, hx.str, rfl, trivial, q _ G H R (Same.refl G) (.bl _)⟩
  · cases ez
def f_isdecimal : D → List D → Option X
  | .str a, [] => some (.val (.bl (Txt.isdecimal a)))
  | _, _ => none
theorem M_isdecimal : MtS K (fun x xs H Q => ∃ a, x = .str a ∧ xs = [] ∧ True ∧ Q (.bl (Txt.isdecimal a)) H) f_isdecimal := by
  intro F G H σ ρ x d vs ds z Q R hx hv ez q
  unfold f_isdecimal at ez
  split at ez
  · cases ez
    cases hv
    exact ⟨_, hx.str, rfl, trivial, q _ G H R (Same.refl G) (.bl _)⟩
  · cases ez
theorem strs_rep {ys : List Str} : RepA K G (ys.map V.str) (ys.map D.str) := by
  induction ys with
  | nil => exact .nil
  | cons y ys ih => exact .cons (.str _) ih
def f_split : D → List D → Option X
  | .str a, [.str b] => if (b.length == 0) = false ∧ a.length + 2 ≤ sizeLine then some (.new (.lst ((Txt.split a b).map D.str))) else none
  | _, _ => none
theorem M_split : MtS K (fun x xs H Q => ∃ a b, x = .str a ∧ xs = [.str b] ∧ (b.length == 0) = false ∧ a.length + 2 ≤ sizeLine ∧ rNewStrs (Txt.split a b) H Q) f_split := by
  intro F G H σ ρ x d vs ds z Q R hx hv ez q
  unfold f_split at ez
  split at ez
  · split at ez
    · rename_i hc
      cases ez
      obtain ⟨v, rfl, h⟩ := hv.one
      obtain rfl := h.str
      refine ⟨_, _, hx.str, rfl, hc.1, hc.2, fun p np => ?_⟩
      obtain ⟨R2, r2⟩ := newL R np strs_rep
      exact q _ _ _ R2 (Same.refl G) r2
    · cases ez
  · cases ez
def f_removesuffix : D → List D → Option X
  | .str a, [.str b] => if a.length ≤ sizeLine then some (.val (.str (Txt.removesuffix a b))) else none
  | _, _ => none
theorem M_removesuffix : MtS K (fun x xs H Q => ∃ a b, x = .str a ∧ xs = [.str b] ∧ a.length ≤ sizeLine ∧ Q (.str (Txt.removesuffix a b)) H) f_removesuffix := by
  intro F G H σ ρ x d vs ds z Q R hx hv ez q
  unfold f_removesuffix at ez
  split at ez
  · split at ez
    · rename_i hc
      cases ez
      obtain ⟨v, rfl, h⟩ := hv.one
      obtain rfl := h.str
      exact ⟨_, _, hx.str, rfl, hc, q _ G H R (Same.refl G) (.str _)⟩
    · cases ez
  · cases ez
def f_partition : D → List D → Option X
  | .str a, [.str b] => if (b.length == 0) = false ∧ a.length ≤ sizeLine then some (.val (.tup [.str (Txt.partition a b).1, .str (Txt.partition a b).2.1, .str (Txt.partition a b).2.2])) else none
  | _, _ => none
theorem M_partition : MtS K (fun x xs H Q => ∃ a b, x = .str a ∧ xs = [.str b] ∧ (b.length == 0) = false ∧ a.length ≤ sizeLine ∧ ∀ p, H p = none → Q (.ref p) (upd H p (.tup [.str (Txt.partition a b).1, .str (Txt.partition a b).2.1, .str (Txt.partition a b).2.2]))) f_partition := by
  intro F G H σ ρ x d vs ds z Q R hx hv ez q
  unfold f_partition at ez
  split at ez
  · split at ez
    · rename_i hc
      cases ez
      obtain ⟨v, rfl, h⟩ := hv.one
      obtain rfl := h.str
      refine ⟨_, _, hx.str, rfl, hc.1, hc.2, fun p np => ?_⟩
      obtain ⟨R2, s2, r2⟩ := newT R np (.cons (.str _) (.cons (.str _) (.cons (.str _) .nil)))
      exact q _ _ _ R2 s2 r2
    · cases ez
  · cases ez
/-! ### sorted, of data -/
abbrev leP {α : Type} : α × PyData → α × PyData → Bool := PySem.W.dataLe false Prod.snd
def rSortedData (K : Fg) : List V → Hp → VK → Prop := fun vs H Q => ∃ (a : Addr) (xs : List V) (ps : List PyData), vs = [V.ref a] ∧ SqL K H a xs ∧ DpAll K H xs ps ∧ PySem.W.AllAlike ps ∧ PySem.W.Sortable ps ∧ (∀ p ∈ ps, p.depth ≤ 50) ∧
  ∀ q, H q = none → Q (.ref q) (upd H q (.lst (((xs.zip ps).mergeSort leP).map (·.1))))
theorem each_rel : ∀ {xs : List V} {us : List Value} {ps : List PyData}, Vals xs us → xs.length = ps.length → PySem.W.EachIs (fun (u : Value) (b : V × PyData) => RelV b.1 u) us (xs.zip ps)
  | [], us, [], r, _ => by cases r; exact .nil
  | x :: xs, us, p :: ps, r, e => by
    cases r with
    | cons h r => exact .cons h (each_rel r (by simpa using e))
theorem each_vals : ∀ {us : List Value} {bs : List (V × PyData)}, PySem.W.EachIs (fun (u : Value) (b : V × PyData) => RelV b.1 u) us bs → Vals (bs.map (·.1)) us
  | _, _, .nil => .nil
  | _, _, .cons h r => .cons h (each_vals r)
theorem dpAll_len {H : Hp} : ∀ {xs : List V} {ps : List PyData}, DpAll K H xs ps → xs.length = ps.length
  | _, _, .nil => rfl
  | _, _, .cons _ r => by rw [List.length_cons, List.length_cons, dpAll_len r]
theorem cr_sortedData {X : Cx} {K : Fg} (hu : X.A.units + 64 < cLine) (h : X.K = K := by rfl) : CallR X (.builtin "sorted") (rSortedData K) := by
  subst h
  intro pins s σ H vs us Q I r h
  obtain ⟨a, xs, ps, rfl, hs, hd, hal, hso, hdp, q⟩ := h
  obtain ⟨its, rv, hl, hz⟩ := I.list hs
  obtain ⟨u, rfl, ru⟩ := vals1 r
  obtain rfl : u = Value.ref a := ru
  have hlen := dpAll_len hd
  have hps : (xs.zip ps).map Prod.snd = ps := List.map_snd_zip (by omega)
  obtain ⟨as, rd⟩ := Dp.readsAll I ps xs its hd rv
  have hb : (xs.zip ps).length = xs.length := by rw [List.length_zip, hlen]; omega
  refine PySem.W.sorted_data (bs := xs.zip ps) (enc := Prod.snd) (R := fun (u : Value) (b : V × PyData) => RelV b.1 u) hl.isList (each_rel rv hlen) (PySem.W.readsAll_each (as := as) Prod.snd (by rw [hps]; exact rd)) (by rw [hps]; exact hal) (by rw [hps]; exact hso) (by rw [hb]; exact hz) (fun b hm => ?_) fun out ho eo => ?_
  · have := hdp b.2 (List.of_mem_zip hm).2
    omega
  · have hv := each_vals eo
    refine ⟨.ref (s.heap.objs.size + 1), upd H (s.heap.objs.size + 1) (.lst (((xs.zip ps).mergeSort leP).map (·.1))), I.laid (t' := s.toks) (fun b o e => PyProof.Rows.sortedAll_old e) (Nat.le_succ _) ⟨?_, out, ?_⟩, rfl, q _ (I.hok.fresh (Nat.le_succ _))⟩
    · rw [List.length_map, List.length_mergeSort, hb]
      exact hz
    · obtain ⟨n, e⟩ := PyProof.Rows.sortedAll_at s.heap its (List.toArray out)
      exact ⟨n, hv, e⟩
open Classical in
noncomputable def fSorted : List D → Option X
  | [.lst ds] => match D.pyA ds with
    | some ps => if PySem.W.AllAlike ps ∧ PySem.W.Sortable ps ∧ ∀ p ∈ ps, p.depth ≤ 50 then some (.new (.lst (((ds.zip ps).mergeSort leP).map (·.1)))) else none
    | none => none
  | _ => none
theorem pyA_len : ∀ {ds : List D} {ps : List PyData}, D.pyA ds = some ps → ds.length = ps.length
  | [], _, e => by cases e; rfl
  | d :: ds, _, e => by
    obtain ⟨p, r, rfl, e1, e2⟩ := pyA_cons e
    rw [List.length_cons, List.length_cons, pyA_len e2]
theorem sort_rep {vs : List V} {ds : List D} {ps : List PyData} (r : RepA K G vs ds) (hl : ds.length = ps.length) : RepA K G (((vs.zip ps).mergeSort leP).map (·.1)) (((ds.zip ps).mergeSort leP).map (·.1)) := by
  have key : ∀ {vs : List V} {ds : List D} {ps : List PyData}, RepA K G vs ds → ds.length = ps.length → ∃ L : List ((V × D) × PyData), L.map (fun t => (t.1.1, t.2)) = vs.zip ps ∧ L.map (fun t => (t.1.2, t.2)) = ds.zip ps ∧ ∀ t ∈ L, Rep K G t.1.1 t.1.2 := by
    intro vs ds ps r
    induction vs generalizing ds ps with
    | nil =>
      cases r
      intro _
      exact ⟨[], rfl, rfl, fun t h => by cases h⟩
    | cons v vs ih =>
      cases r with
      | @cons _ _ d ds h r =>
        intro hl
        cases ps with
        | nil => cases hl
        | cons p ps =>
          obtain ⟨L, h1, h2, h3⟩ := ih r (by simpa using hl)
          refine ⟨((v, d), p) :: L, by rw [List.map_cons, h1]; rfl, by rw [List.map_cons, h2]; rfl, fun t ht => ?_⟩
          rcases List.mem_cons.mp ht with rfl | ht
          · exact h
          · exact h3 t ht
  obtain ⟨L, h1, h2, h3⟩ := key r hl
  rw [← h1, ← h2]
  have e1 : (L.map fun t => (t.1.1, t.2)).mergeSort leP = (L.mergeSort leP).map fun t => (t.1.1, t.2) := (List.map_mergeSort (r := leP) (s := leP) (f := fun t : (V × D) × PyData => (t.1.1, t.2)) (fun a _ b _ => rfl)).symm
  have e2 : (L.map fun t => (t.1.2, t.2)).mergeSort leP = (L.mergeSort leP).map fun t => (t.1.2, t.2) := (List.map_mergeSort (r := leP) (s := leP) (f := fun t : (V × D) × PyData => (t.1.2, t.2)) (fun a _ b _ => rfl)).symm
  rw [e1, e2]
  have h4 : ∀ t ∈ L.mergeSort leP, Rep K G t.1.1 t.1.2 := fun t ht => h3 t ((List.mem_mergeSort).mp ht)
  generalize L.mergeSort leP = M at h4
  induction M with
  | nil => exact .nil
  | cons t M ih => exact .cons (h4 t (List.mem_cons_self ..)) (ih fun t ht => h4 t (List.mem_cons_of_mem _ ht))
theorem C_sorted : CallS K (rSortedData K) fSorted := by
  intro F G H σ ρ vs ds z Q R hx ez q
  unfold fSorted at ez
  split at ez
  · split at ez
    · rename_i ps ep
      split at ez
      · rename_i hc
        cases ez
        obtain ⟨v, rfl, h⟩ := hx.one
        obtain ⟨a, ws, rfl, h, r⟩ := h.lst R.gh
        refine ⟨a, ws, ps, rfl, .inl (.inl h), (r.mono R.gh).dp ep, hc.1, hc.2.1, hc.2.2, fun p np => ?_⟩
        obtain ⟨R2, r2⟩ := newL R np (sort_rep r (pyA_len ep))
        exact q _ _ _ R2 (Same.refl G) r2
      · cases ez
    · cases ez
  · cases ez
/-! ### the rules of calls, where nothing is raised -/
section
variable {E' : XK} {C : Addr} {g : Str} {n m i : Nat} {T : En → SR} {ta tb : TE} {t : TA} {A B : En → Res X} {As : En → Res (List X)} {x qual : Str} {st : Stmt} {f : Addr} {N ps : List Str} {k : Nat}
theorem Lz_call (ha : LA K E0 t As) : LE K E0 (tCallR (spD0 K n m T) E' t) (dCall n m T As) := L_call ha
theorem Lz_call0 : LE K E0 (fun σ H Q => spD0 K 0 m T [] H Q E') (dCall 0 m T aNil) := L_call0
theorem Lz_lend (ha : LA K E0 t As) : LE K E0 (tCallR (spD0 K n m T) E' (tCons (tVar i) t)) (dLend n m T i As) := L_lend ha
theorem Lz_meth (ha : LE K E0 ta A) (hb : LA K E0 t As) : LE K E0 (DD.tMethR C g (spD0 K n m T) E' ta t) (dMeth C g n m T A As) := L_meth ha hb
theorem Lz_prop (ha : LE K E0 ta A) : LE K E0 (tPropR C (spD0 K 1 m T) E' ta) (dProp C m T A) := L_prop ha
theorem Lz_make (ha : LA K E0 t As) : LE K E0 (StX.tMakeR C (spD0 K n m T) E' t) (dMake C n m T As) := L_make ha
theorem Lz_strO (ha : LE K E0 ta A) : LE K E0 (tCB (rStrO C (spD0 K 1 m T) E') (tCons ta tNil)) (dStrO C m T A) := L_strO ha
theorem Lz_lenO (ha : LE K E0 ta A) : LE K E0 (tCB (rLenO C (spD0 K 1 m T) E') (tCons ta tNil)) (dLenO C m T A) := L_lenO ha
theorem Lz_eqO (ha : LE K E0 ta A) (hb : LE K E0 tb B) : LE K E0 (tOp (rEqO C (spD0 K 2 m T) E') ta tb) (dEqO xBl C m T A B) := L_eqO ha hb
theorem Lz_neO (ha : LE K E0 ta A) (hb : LE K E0 tb B) : LE K E0 (tOp (rNeO C (spD0 K 2 m T) E') ta tb) (dEqO xNb C m T A B) := L_neO ha hb
theorem Lz_cmeth (hb : LA K E0 t As) : LE K E0 (ClX.tCMeth C (spD0 K n m T) E' (tC (.ref C)) t) (dCMeth C n m T As) := L_cmeth hb
theorem Lz_makeL (ha : LA K E0 t As) : LE K E0 (DD.tMakeL i C (spD0 K n m T) E' t) (dMakeL C i n m T As) := L_makeL ha
/-- a def without defaults -/
theorem mkDz (F : ∃ fd, Fun K x qual st f fd) (S : FnScope N ps (defScope st)) (hN : ps.length ≤ N.length)
    (hb : ∀ (kV doc pm : Value) (an : Option Addr) (cdv ct : Value) (us : List Value), us.length = ps.length → bindArgs (PySem.W.fnOf x qual (defArgs st) (defBody st) (defScope st) .none kV doc pm an cdv ct) ⟨us, []⟩ = pure (ps.zip us))
    (hbody : ∀ (cdv : Value) (A : Around) (outer : List Env) (s : Shared) (H : Hp) (E : XK), Room k (A.deeper (envOfC qual (defScope st) s.heap.objs.size f cdv)) →
      ∃ t, PSs (cxOf CX0 P w K mg base N qual (defScope st) f cdv A outer s H E).nox (defBody st) t ∧ LS K E0 t T) : FnR P w K mg base CX0 (k + 1) f (spD0 K ps.length N.length T) := by
  obtain ⟨fd, F⟩ := F
  have G : FnOk P w K mg base CX0 (k + 1) f fd ps (spD0 K ps.length N.length T) := F.ok S (fun vs H Q E h => spD_len h) fun cdv A outer s H vs Q E hr hs => by
    obtain ⟨t, h1, h2⟩ := hbody cdv A outer s H E hr
    exact ⟨t, h1, spD_run hN h2 hs⟩
  refine (G.raw (F.binds hb) .nil).imp fun vs H Q E h => ?_
  rw [List.append_nil]
  exact h
end
/-! ### the law -/
def spLaw (K : Fg) : Sp := fun vs H Q _ => ∃ (a : Addr) (ns : List Int), vs = [.ref a] ∧ SqL K H a (ns.map V.int) ∧ ns.length ≤ 63 ∧ ∀ H', Q (.bl true) H'
/-- what is left: the law's run upon data -/
def LawOk (m : Nat) (T : En → SR) : Prop := ∀ ns : List Int, ns.length ≤ 63 → ∃ ρ, fin (T (env0 m [.val (.scr (ns.map D.int))])) = .ok (.val (.bl true)) ρ
theorem law_run {E : XK} {N : List Str} {T : En → SR} {t : TS} {vs : List V} {Q : VK} (hN : 1 ≤ N.length) (h : LS K E0 t T) (hl : LawOk N.length T) (hs : spLaw K vs H Q E) : t { nx := fun _ H' => Q .non H', rt := Q } (start N vs) H := by
  obtain ⟨a, ns, rfl, hS, hn, q⟩ := hs
  obtain ⟨ρ, e⟩ := hl ns hn
  refine spD_run (n := 1) hN h ⟨H, Same.refl H, .inl ⟨[.scr (ns.map D.int)], .one (.scr hS .ofInts), rfl, ?_⟩⟩
  show Out K E0 H H none Q (fin (T (env0 N.length [.val (.scr (ns.map D.int))])))
  rw [e]
  intro v G' H' _ hx
  cases hx
  exact q H'
end
end DL

set_option Elab.async false
set_option linter.all false
set_option maxRecDepth 100000
set_option maxHeartbeats 2000000
/-! the law run where the caller's guards are known -/
namespace DD
open PySem PySem.Spec PyProof.Rows L2
def scriptO (vs : List Value) : Obj := { cls := .type "list", data := .seq vs.toArray }
/-- either nothing is tracked, or the script alone -/
def Script (K : PySem.W.Frag) (H : Hp) (a : Addr) (o : Obj) (xs : List V) : Prop := ∀ b, H b = none ∨ (b = a ∧ H b = some (.frz o (.lst xs)) ∧ K.lookup a = none)
section
variable {P : Program} {w : World} {K : PySem.W.Frag} {mg mb : Str → Option Value} {k : Nat} {fa a : Addr} {fd : FuncData} {x : Str} {sp : Sp} {s : Shared} {vs : List Value} {ns : List Int} {H : Hp}
theorem script_core (inK : K.In s.heap) (nsG : s.heap.Ns mainGlobals mg) (nsB : s.heap.Ns builtinsNs mb) (boot : ∀ x : Str, x ≠ "__name__" → mb x = bootBuiltins x) (lim : s.heap.NoLimit) (gens : s.gens = #[]) (at_ : s.heap.get? a = some (scriptO vs))
    (room : Room k callerA) (F : ∀ base : Heap, K.In base → base.Ns mainGlobals mg → FnG P w K mg base k fa fd [x] sp) (binds : ∀ (s : Shared) (u : Value), BindsTo s fd ⟨[u], []⟩ [(x, u)])
    (alone : Script K H a (scriptO vs) (ns.map V.int)) (hok : HOk P w H s.heap) (h : sp [.ref a] H (fun v _ => v = .bl true) fun _ _ _ => False) :
    codeAny (model P w) callerA (.call (.ref fa) ⟨[.ref a], []⟩) (fun r s' => r = .ok (.ret (.bool true)) ∧ OldK s.heap s'.heap ∧ s'.os = s.os ∧ AllBare s'.gens) s := by
  have keepNs : ∀ {b : Addr} {m : Str → Option Value}, s.heap.Ns b m → (hidT s.heap H).Ns b m := by
    rintro b m ⟨o, es, ep, e, dat, r⟩
    refine ⟨o, es, ep, hidT_get e ?_, dat, r⟩
    rcases alone b with z | ⟨rfl, -, -⟩
    · exact z
    · rw [at_] at e
      cases e
      cases (show Data.seq vs.toArray _ = Data.dict es ep from dat)
  have keepK : K.In (hidT s.heap H) := fun b o e => hidT_get (inK b o e) <| by
    rcases alone b with z | ⟨rfl, -, z⟩
    · exact z
    · rw [e] at z
      cases z
  have mod : Mod K mg (hidT s.heap H) := by
    obtain ⟨mc, l1, l2⟩ := lim
    exact ⟨keepK, keepNs nsG, ⟨mb, keepNs nsB, boot⟩, ⟨mc, keepNs l1, l2⟩⟩
  have env : Env0 P w K mg (hidT s.heap H) callerA [] s H :=
    { frames := rfl, mod := mod, bs := fun b o e => of_hidT e, bsz := Nat.le_of_eq (hidT_size _ _), funs := trivial, frf := fun b z => absurd (show b ∈ ([] : List Addr) from z) (by simp), hok := hok, bare := .of_eq gens }
  refine codeAny_mono (F _ keepK (keepNs nsG) callerA [] s H _ [.ref a] [.ref a] _ _ room rfl env (binds s (.ref a)) (.cons rfl .nil) h) fun r s' z => ?_
  match r, z with
  | .ok (.ret u), ⟨v, H', os, bare, un, hok', rv, ev⟩ =>
    have ev' : v = .bl true := ev
    subst ev'
    obtain rfl : u = Value.bool true := rv
    refine ⟨rfl, OldK.of_keep fun b o e => ?_, os, bare⟩
    rcases alone b with z | ⟨rfl, z, -⟩
    · exact un.keep b o e z (by intro y; exact absurd (show b ∈ ([] : List Addr) from y) (by simp)) (by simp)
    · have t := (hok' b _ (un.frzs b _ _ z)).1
      rw [at_] at e
      cases e
      exact t
theorem script_run (inK : K.In s.heap) (nsG : s.heap.Ns mainGlobals mg) (nsB : s.heap.Ns builtinsNs mb) (boot : ∀ x : Str, x ≠ "__name__" → mb x = bootBuiltins x) (lim : s.heap.NoLimit) (gens : s.gens = #[]) (at_ : s.heap.get? a = some (scriptO vs))
    (nums : IntsAre vs ns) (size : ns.length ≤ sizeLine) (room : Room k callerA) (F : ∀ base : Heap, K.In base → base.Ns mainGlobals mg → FnG P w K mg base k fa fd [x] sp) (binds : ∀ (s : Shared) (u : Value), BindsTo s fd ⟨[u], []⟩ [(x, u)])
    (h : ∀ H : Hp, Only H → SqL K H a (ns.map V.int) → sp [.ref a] H (fun v _ => v = .bl true) fun _ _ _ => False) :
    codeAny (model P w) callerA (.call (.ref fa) ⟨[.ref a], []⟩) (fun r s' => r = .ok (.ret (.bool true)) ∧ OldK s.heap s'.heap ∧ s'.os = s.os ∧ AllBare s'.gens) s := by
  have rv := vals_ints nums
  have len := nums.length
  cases e : K.lookup a with
  | some o =>
    have o' := inK a o e
    rw [at_] at o'
    cases o'
    have hs : SqL K (fun _ => none) a (ns.map V.int) := .inr ⟨_, vs.toArray, _, e, rfl, rfl, rfl, by rw [List.size_toArray, len]; exact size, by simpa using rv⟩
    exact script_core (ns := ns) (H := fun _ => none) inK nsG nsB boot lim gens at_ room F binds (fun b => .inl rfl) (fun b u z => nomatch z) (h _ (fun _ => .inl rfl) hs)
  | none =>
    have hs : SqL K (upd (fun _ => none) a (.frz (scriptO vs) (.lst (ns.map V.int)))) a (ns.map V.int) := .inl (.inr ⟨scriptO vs, upd_same⟩)
    have al : Script K (upd (fun _ => none) a (.frz (scriptO vs) (.lst (ns.map V.int)))) a (scriptO vs) (ns.map V.int) := fun b => by
      by_cases hb : b = a
      · exact .inr ⟨hb, by rw [hb]; exact upd_same, e⟩
      · exact .inl (by rw [upd_ne hb])
    refine script_core (H := upd (fun _ => none) a (.frz (scriptO vs) (.lst (ns.map V.int)))) inK nsG nsB boot lim gens at_ room F binds al (fun b u z => ?_) (h _ (fun b => (al b).imp id fun y => ⟨_, _, y.2.1⟩) hs)
    by_cases hb : b = a
    · subst hb
      rw [upd_same] at z
      cases z
      exact ⟨at_, by rw [List.length_map]; exact size, vs, _, rv, at_⟩
    · rw [upd_ne hb] at z
      cases z
end
theorem walk_ofG {l : PySem.W.OpenLaw} {n k : Nat} {q : Program} {loose : List Str} {XP : (Str → Option Value) → Heap → Prop} {YP : World → Heap → Prop} {d : DefRec} {K : Params → PySem.W.Frag} {sp : PySem.W.Frag → Sp} {x : Str}
    (hn : l.most = some n) (hn2 : n ≤ sizeLine) (hdf : d.params.defaults = []) (hr : Room k callerA)
    (hY : ∀ (w : World) (h : Heap), YP w h → (K w.params).In h)
    (F : ∀ (w : World) (mg : Str → Option Value) (fa : Addr) (h : Heap), (K w.params).In h → h.Ns mainGlobals mg → mg d.name = some (.ref fa) →
      ∃ fd : FuncData, (∀ (s : Shared) (u : Value), BindsTo s fd ⟨[u], []⟩ [(x, u)]) ∧ ∀ base : Heap, (K w.params).In base → base.Ns mainGlobals mg → FnG l.prog w (K w.params) mg base k fa fd [x] (sp (K w.params)))
    (hsp : ∀ (K : PySem.W.Frag) (H : Hp) (a : Addr) (ns : List Int), ns.length ≤ n → Only H → SqL K H a (ns.map V.int) → sp K [.ref a] H (fun v _ => v = .bl true) fun _ _ _ => False) :
    PySem.W.WalkO q loose XP YP l.row.toRowW d [] (fun f vs => PySem.call f vs) := by
  refine Att.attach_call hn hdf fun w s₀ s₁ mg mb fa o pm cd doc a vs ns G Y ho hd hcd hmg hobj hints hlen hg => ?_
  obtain ⟨fd, binds, hF⟩ := F w mg fa _ (hY w _ Y) G.T.g hmg
  exact script_run (hY w _ Y) G.T.g G.T.b G.T.builtins G.T.nolimit hg hobj hints (Nat.le_trans hlen hn2) hr hF binds fun H hO hS => hsp (K w.params) H a ns hlen hO hS
/-- the rule for a def, by its body, where the guards are known -/
theorem fun_okG {P : Program} {w : World} {K : PySem.W.Frag} {mg : Str → Option Value} {base : Heap} {x qual : Str} {st : Stmt} {f : Addr} {fd : FuncData} {N ps : List Str} {k : Nat} {sp : Sp} (F : Fun K x qual st f fd) (S : FnScope N ps (defScope st)) (len : ∀ vs H Q E, sp vs H Q E → vs.length = ps.length)
    (hbody : ∀ (cdv : Value) (A : Around) (outer : List Env) (s : Shared) (H : Hp) (vs : List V) (Q : VK) (E : XK), Room k (A.deeper (envOfC qual (defScope st) s.heap.objs.size f cdv)) → (A.deeper (envOfC qual (defScope st) s.heap.objs.size f cdv)).guards = some [] → sp vs H Q E →
      ∃ t, PSs (cxOf CX0 P w K mg base N qual (defScope st) f cdv A outer s H E).nox (defBody st) t ∧ t { nx := fun _ H' => Q .non H', rt := Q } (start N vs) H) : FnG P w K mg base (k + 1) f fd ps sp := by
  obtain ⟨oc, od, kV, doc, pm, an, cdv, ct, osl, rfl, lk, hcd⟩ := F.ex
  exact fnG_of lk hcd S len fun A outer s H vs Q E hr hg h => hbody cdv A outer s H vs Q E hr hg h
section
variable {X : Cx} {CX : CXT} {n : Nat} {f C : Addr} {sp : Sp} {E : XK}
/-- x == y, x of the class at C, y a text -/
def rEqOS (C : Addr) (sp : Sp) (E : XK) : R2 := fun x y H Q => ∃ a dx fs z, x = .ref a ∧ y = .str z ∧ H a = some (.ins C dx fs) ∧ sp [.ref a, .str z] H (fun v H' => ∃ c, v = .bl c ∧ Q (.bl c) H') E
theorem op_eqOS (hsub : PySem.W.subIn X.K (.type "str") (.ref C) = some false) (hs : PySem.W.findIn X.K (.ref C) "__eq__" = some (some (.ref f))) (hf : PySem.W.isFn X.K (.ref f) = true) (F : FnR X.prog X.w X.K X.mg X.base CX n f sp) (hr : Room n X.A) (hx : Passes CX X E) : OpR X (compareOp .Eq) (rEqOS C sp E) := by
  intro pins s σ H x y v u Q I rx ry h
  obtain ⟨a, dx, fs, z, rfl, rfl, ea, q⟩ := h
  cases (show v = Value.ref a from rx)
  obtain ⟨t, rfl⟩ := ry
  obtain ⟨mA, O, _⟩ := ins_get I.hok ea
  obtain ⟨od, J, _⟩ := O.look
  obtain ⟨m, hF⟩ := I.fr
  show wpAny _ _ (richCompare .Eq _ _) _ _ _
  refine PySem.W.cmp_K (op := .Eq) (tb := .type "str") hr.units0 hF I.ok.mod.kin J (PySem.W.Looks.of_pure rfl) (by simp [PySem.W.notFirst, hsub]) hs hf ?_
  refine thn (wpAny_call (run_fnR (us := [.ref a, .str z t]) (vs := [.ref a, .str z]) F hr hx I (.cons rfl (.cons ⟨t, rfl⟩ .nil)) q)) fun w s' z => ?_
  obtain ⟨z', H', I', rz, c, ez, qz⟩ := z
  subst ez
  cases rz
  exact ⟨.bl c, H', I', rfl, qz⟩
end
end DD

/-! the data layer, whole -/

set_option Elab.async false
set_option linter.all false
set_option maxRecDepth 100000
set_option maxHeartbeats 2000000
/-! the data layer: ranges with a step, enumerate -/
namespace DL
open PySem PySem.Spec PyProof.Rows L2 DD
section
variable {K : Fg} {E : XK} {F : Fm} {G G' H H' : Hp} {σ σ' : L2.St} {ρ ρ' : En} {ta tb : TE} {A B : En → Res X} {t : TA} {T : En → Res (List X)}
theorem its_rngC {lo c : Int} {n : Nat} {G1 : Hp} : Its K (fun _ => True) G1 (Itc lo c n) ((List.range n).map fun i => D.int (lo + (i : Nat) * c)) where
  go := fun G H e k p i hi => by
    rw [List.length_map, List.length_range] at hi
    exact hi
  stop := fun G H e k p i hi => by
    rw [List.length_map, List.length_range] at hi
    exact hi
  yld := fun F G H σ ρ R e p i x H' hi hy => by
    obtain ⟨rfl, rfl⟩ := hy
    rw [List.length_map, List.length_range] at hi
    refine ⟨G, R, Same.refl G, fun _ _ => .inr trivial, Same.refl _, D.int (lo + (i : Nat) * c), ?_, .int _⟩
    rw [List.getElem?_map, List.getElem?_range hi]
    rfl
open Classical in
noncomputable def rng3D : List D → Option (List D)
  | [.int i, .int j, .int c] => if RgC i j c (Builtin.Range.rangeSize i j c).toNat then some ((List.range (Builtin.Range.rangeSize i j c).toNat).map fun n => D.int (i + (n : Nat) * c)) else none
  | _ => none
noncomputable def dRng3 (T : En → Res (List X)) : En → Res (List D) := fun ρ => (T ρ).bind fun xs ρ1 => lift ((derefs ρ1 xs).bind rng3D) ρ1
theorem I_rng3 (ht : LA K E t T) : LI K E (iRng3 t) (dRng3 T) := by
  intro F G H σ ρ Q R w
  refine ht F G H σ ρ _ R (Wants.bind w fun vs xs G1 H1 ρ1 R1 s1 hx w1 => ?_)
  obtain ⟨ds, e, q⟩ := w1.lift
  obtain ⟨es, e1, e2⟩ := Option.bind_eq_some_iff.mp e
  have hd := R1.derefs hx e1
  unfold rng3D at e2
  split at e2
  · rename_i i j c
    split at e2
    · rename_i hc
      cases e2
      cases hd with
      | cons h hr =>
        obtain ⟨v2, v3, rfl, h2, h3⟩ := hr.two
        obtain rfl := h.int
        obtain rfl := h2.int
        obtain rfl := h3.int
        exact ⟨i, j, c, _, rfl, hc, q _ G1 H1 R1 (Same.refl G1) its_rngC⟩
    · cases e2
  · cases e2
/-! ### enumerate -/
def enumD : Nat → List D → List D
  | _, [] => []
  | i, d :: ds => .tup [.int (i : Nat), d] :: enumD (i + 1) ds
theorem enumD_get : ∀ {ds : List D} {k i : Nat}, (enumD k ds)[i]? = (ds[i]?).map fun d => D.tup [.int ((k + i : Nat) : Int), d]
  | [], k, i => by simp [enumD]
  | d :: ds, k, 0 => by simp [enumD]
  | d :: ds, k, i + 1 => by
    have := enumD_get (ds := ds) (k := k + 1) (i := i)
    simp only [enumD, List.getElem?_cons_succ, this]
    rw [show k + 1 + i = k + (i + 1) by omega]
theorem enumD_len : ∀ {ds : List D} {k : Nat}, (enumD k ds).length = ds.length
  | [], _ => rfl
  | d :: ds, k => by simp [enumD, enumD_len (ds := ds)]
theorem its_enum {G1 : Hp} {a : Addr} {vs : List V} {ds : List D} (h : ∀ G H, Same G1 G → Same G H → SqL K H a vs) (r : RepA K G1 vs ds) : Its K (fun _ => True) G1 (Ite K a) (enumD 0 ds) where
  go := fun G H e k p i hi => by
    have hi' : i < vs.length := by rw [enumD_len] at hi; rw [r.len]; exact hi
    exact ⟨vs, _, h G H e k, List.getElem?_eq_getElem hi'⟩
  stop := fun G H e k p i hi => ⟨vs, h G H e k, by rw [enumD_len] at hi; rw [r.len]; exact hi⟩
  yld := fun F G H σ ρ R e p i x H' hi hy => by
    obtain ⟨T, y, rfl, hT, rfl, hq⟩ := hy
    have hv := hq vs (h G H e R.gh)
    obtain ⟨d, h1, h2⟩ := r.get' hv
    obtain ⟨R2, s2, r2⟩ := newT R hT (.cons (.int (i : Nat)) (.one (h2.mono e)))
    refine ⟨_, R2, s2, fun _ _ => .inr trivial, smNew hT, _, ?_, r2⟩
    rw [enumD_get, h1]
    simp
def dEnum (A : En → Res X) : En → Res (List D) := fun ρ => (A ρ).bind fun a ρ1 => match toVal ρ1 a with
  | some (.lst ds, ρ2) => .ok (enumD 0 ds) ρ2
  | some (.scr ds, ρ2) => .ok (enumD 0 ds) ρ2
  | _ => .stuck
theorem I_enum {ta : TE} {A : En → Res X} (ha : LE K E ta A) : LI K E (iEnum K (tCons ta tNil)) (dEnum A) := by
  intro F G H σ ρ Q R w
  refine ha F G H σ ρ _ R (Wants.bind w fun v a G1 H1 ρ1 R1 s1 hx w1 => ?_)
  cases e : toVal ρ1 a with
  | none => rw [e] at w1; exact w1.elim
  | some p =>
    obtain ⟨d, ρ2⟩ := p
    rw [e] at w1
    obtain ⟨G2, R2, s2, hr⟩ := R1.toVal hx e
    cases hr with
    | lst g r => exact ⟨_, _, rfl, .inl (.inl (R2.gh _ _ g)), (w1.mono s2) _ G2 H1 R2 (Same.refl G2) (its_enum (fun G' H' e k => .inl (.inl (k _ _ (e _ _ g)))) r)⟩
    | scr g r => exact ⟨_, _, rfl, smLst R2.gh g, (w1.mono s2) _ G2 H1 R2 (Same.refl G2) (its_enum (fun G' H' e k => smLst (e.trans k) g) r)⟩
    | _ => exact w1.elim
end
/-! ### zip -/
def zipD : List D → List D → List D
  | d :: ds, e :: es => .tup [d, e] :: zipD ds es
  | _, _ => []
theorem zipD_get : ∀ {ds es : List D} {i : Nat}, (zipD ds es)[i]? = (ds[i]?).bind fun d => (es[i]?).map fun e => D.tup [d, e]
  | [], es, i => by simp [zipD]
  | d :: ds, [], i => by
    simp [zipD]
  | d :: ds, e :: es, 0 => by simp [zipD]
  | d :: ds, e :: es, i + 1 => by
    have := zipD_get (ds := ds) (es := es) (i := i)
    simpa [zipD] using this
theorem zipD_len : ∀ {ds es : List D}, (zipD ds es).length = min ds.length es.length
  | [], es => by simp [zipD]
  | d :: ds, [] => by simp [zipD]
  | d :: ds, e :: es => by simp [zipD, zipD_len (ds := ds) (es := es), Nat.succ_min_succ]
section
variable {K : Fg} {E : XK} {t : TA} {T : En → Res (List X)}
theorem its_zip {G1 : Hp} {a b : Addr} {vs ws : List V} {ds es : List D} (h : ∀ G H, Same G1 G → Same G H → SqL K H a vs) (h' : ∀ G H, Same G1 G → Same G H → SqL K H b ws) (r : RepA K G1 vs ds) (r' : RepA K G1 ws es) : Its K (fun _ => True) G1 (Itz K a b) (zipD ds es) where
  go := fun G H e k p i hi => by
    rw [zipD_len] at hi
    have hi1 : i < vs.length := by rw [r.len]; omega
    have hi2 : i < ws.length := by rw [r'.len]; omega
    exact ⟨vs, ws, _, _, h G H e k, h' G H e k, List.getElem?_eq_getElem hi1, List.getElem?_eq_getElem hi2⟩
  stop := fun G H e k p i hi => ⟨vs, ws, h G H e k, h' G H e k, by rw [zipD_len] at hi; rw [r.len, r'.len]; omega⟩
  yld := fun F G H σ ρ R e p i x H' hi hy => by
    obtain ⟨T, y, z, rfl, hT, rfl, hq, hq'⟩ := hy
    obtain ⟨d, h1, h2⟩ := r.get' (hq vs (h G H e R.gh))
    obtain ⟨d', h1', h2'⟩ := r'.get' (hq' ws (h' G H e R.gh))
    obtain ⟨R2, s2, r2⟩ := newT R hT (.cons (h2.mono e) (.one (h2'.mono e)))
    refine ⟨_, R2, s2, fun _ _ => .inr trivial, smNew hT, _, ?_, r2⟩
    rw [zipD_get, h1, h1']
    rfl
theorem its_zipT {G1 : Hp} {a b : Addr} {vs ws : List V} {ds es : List D} (h : ∀ G H, Same G1 G → Same G H → SqT K H a vs) (h' : ∀ G H, Same G1 G → Same G H → SqT K H b ws) (r : RepA K G1 vs ds) (r' : RepA K G1 ws es) : Its K (fun _ => True) G1 (RZ.ItzT K a b) (zipD ds es) where
  go := fun G H e k p i hi => by
    rw [zipD_len] at hi
    have hi1 : i < vs.length := by rw [r.len]; omega
    have hi2 : i < ws.length := by rw [r'.len]; omega
    exact ⟨vs, ws, _, _, h G H e k, h' G H e k, List.getElem?_eq_getElem hi1, List.getElem?_eq_getElem hi2⟩
  stop := fun G H e k p i hi => ⟨vs, ws, h G H e k, h' G H e k, by rw [zipD_len] at hi; rw [r.len, r'.len]; omega⟩
  yld := fun F G H σ ρ R e p i x H' hi hy => by
    obtain ⟨T, y, z, rfl, hT, rfl, hq, hq'⟩ := hy
    obtain ⟨d, h1, h2⟩ := r.get' (hq vs (h G H e R.gh))
    obtain ⟨d', h1', h2'⟩ := r'.get' (hq' ws (h' G H e R.gh))
    obtain ⟨R2, s2, r2⟩ := newT R hT (.cons (h2.mono e) (.one (h2'.mono e)))
    refine ⟨_, R2, s2, fun _ _ => .inr trivial, smNew hT, _, ?_, r2⟩
    rw [zipD_get, h1, h1']
    rfl
def dZip (T : En → Res (List X)) : En → Res (List D) := fun ρ => (T ρ).bind fun xs ρ1 => match toVals ρ1 xs with
  | some ([.lst ds, .lst es], ρ2) => .ok (zipD ds es) ρ2
  | some ([.tup ds, .tup es], ρ2) => .ok (zipD ds es) ρ2
  | _ => .stuck
theorem I_zip (ht : LA K E t T) : LI K E (RZ.iZipA K t) (dZip T) := by
  intro F G H σ ρ Q R w
  refine ht F G H σ ρ _ R (Wants.bind w fun vs xs G1 H1 ρ1 R1 s1 hx w1 => ?_)
  cases e : toVals ρ1 xs with
  | none => rw [e] at w1; exact w1.elim
  | some p =>
    obtain ⟨dd, ρ2⟩ := p
    rw [e] at w1
    obtain ⟨G2, R2, s2, hr⟩ := R1.toVals hx e
    match dd, hr, w1 with
    | [.lst ds, .lst es], .cons (.lst g r) (.cons (.lst g' r') .nil), w1 =>
      exact ⟨_, _, _, _, rfl, .inl ⟨.inl (.inl (R2.gh _ _ g)), .inl (.inl (R2.gh _ _ g')), (w1.mono s2) _ G2 H1 R2 (Same.refl G2) (its_zip (fun G' H' e k => .inl (.inl (k _ _ (e _ _ g)))) (fun G' H' e k => .inl (.inl (k _ _ (e _ _ g')))) r r')⟩⟩
    | [.tup ds, .tup es], .cons (.tup g r) (.cons (.tup g' r') .nil), w1 =>
      exact ⟨_, _, _, _, rfl, .inr ⟨smTup R2.gh g, smTup R2.gh g', (w1.mono s2) _ G2 H1 R2 (Same.refl G2) (its_zipT (fun G' H' e k => smTup (e.trans k) g) (fun G' H' e k => smTup (e.trans k) g') r r')⟩⟩
end
theorem pi_zipK {X : Cx} {K : Fg} {e e2 : Expr} {ta : TA} {p pos tpos : Pos} {elts : List Expr} {kk : Nat} (hg : Gl X "zip") (hm : X.mg "zip" = none) (ha : PA X [e, e2] ta) (h : X.K = K := by rfl)
    (hs : starEach [e, e2] X.env = (false, eval e X.env) :: starEach [e2] X.env := by rfl) (hpl : (backTo pos (starEach [e2] X.env)).any (·.1) = false := by rfl) :
    PI X (.Tuple elts kk tpos) (.Call (.Name "zip" p) [e, e2] [] pos) (RZ.iZipA K ta) := h ▸ RZ.pi_zipA hg hm ha hs hpl
theorem pi_enumK {X : Cx} {K : Fg} {e : Expr} {ta : TA} {p pos tpos : Pos} {elts : List Expr} {kk : Nat} (hg : Gl X "enumerate") (hm : X.mg "enumerate" = none) (ha : PA X [e] ta) (h : X.K = K := by rfl) (hs : starEach [e] X.env = [(false, eval e X.env)] := by rfl) :
    PI X (.Tuple elts kk tpos) (.Call (.Name "enumerate" p) [e] [] pos) (iEnum K ta) := h ▸ pi_enum hg hm ha hs
theorem pe_globE {X : Cx} {x : Str} {v : V} {pos : Pos} (hg : Gl X x) (h : ∃ u, X.mg x = some u ∧ RelV v u) (hd : (x == ("__debug__" : Str)) = false := by decide) : PE X (.Name x pos) (tC v) :=
  h.elim fun _ q => pe_glob hg q.1 q.2 hd
/-! ### *e in a display -/
section
variable {K : Fg} {E : XK} {F : Fm} {G G' H H' : Hp} {σ σ' : L2.St} {ρ ρ' : En} {ta tb : TE} {A B : En → Res X} {t : TA} {T : En → Res (List X)}
def itemsX (ρ : En) : X → Option (List D)
  | .val d => d.items
  | .new o => o.d.items
  | .own i => match ρ[i]? with
    | some (.val d) => d.items
    | _ => none
def aStar (A : En → Res X) (T : En → Res (List X)) : En → Res (List X) := fun ρ => (A ρ).bind fun a ρ1 => match itemsX ρ1 a with
  | some ds => (T ρ1).bind fun xs ρ2 => .ok (ds.map X.val ++ xs) ρ2
  | none => .stuck
theorem repXs_vals : ∀ {vs : List V} {ds : List D}, RepA K G vs ds → RepXs K F G H σ ρ vs (ds.map X.val)
  | _, _, .nil => .nil
  | _, _, .cons h r => .cons h (fun _ e => by cases e) (repXs_vals r)
theorem RepXs.app : ∀ {vs ws : List V} {xs ys : List X}, RepXs K F G H σ ρ vs xs → RepXs K F G H σ ρ ws ys → RepXs K F G H σ ρ (vs ++ ws) (xs ++ ys)
  | _, _, _, _, .nil, h => h
  | _, _, _, _, .cons h n r, h' => .cons h n (RepXs.app r h')
theorem items_sq {v : V} {d : D} {ds : List D} (R : Rl K F G H σ ρ) (h : Rep K G v d) (e : d.items = some ds) : ∃ a vs, v = .ref a ∧ (SqT K H a vs ∨ SqL K H a vs) ∧ RepA K G vs ds := by
  cases h with
  | tup g r => cases e; exact ⟨_, _, rfl, .inl (smTup R.gh g), r⟩
  | lst g r => cases e; exact ⟨_, _, rfl, .inr (.inl (.inl (R.gh _ _ g))), r⟩
  | scr g r => cases e; exact ⟨_, _, rfl, .inr (smLst R.gh g), r⟩
  | _ => cases e
theorem A_star (ha : LE K E ta A) (ht : LA K E t T) : LA K E (StX.tStar K ta t) (aStar A T) := by
  intro F G H σ ρ Q R w
  refine ha F G H σ ρ _ R (Wants.bind w fun v a G1 H1 ρ1 R1 s1 hx w1 => ?_)
  have fz : ∀ {G2 : Hp} {d : D} {ds : List D}, Rl K F G2 H1 σ ρ1 → Rep K G2 v d → d.items = some ds → Wants K E (fun F G H σ ρ vs xs => RepXs K F G H σ ρ vs xs) F G2 σ Q ((T ρ1).bind fun xs ρ2 => .ok (ds.map X.val ++ xs) ρ2) → ∃ p xs, v = V.ref p ∧ (SqT K H1 p xs ∨ SqL K H1 p xs) ∧ t σ H1 fun ys H2 => Q (xs ++ ys) H2 := by
    intro G2 d ds R2 hr e w2
    obtain ⟨p, vs, rfl, hs, hv⟩ := items_sq R2 hr e
    refine ⟨p, vs, rfl, hs, ht F G2 H1 σ ρ1 _ R2 (w2.bind fun ys b G3 H3 ρ3 R3 s3 hy w3 => ?_)⟩
    exact w3 _ G3 H3 R3 (Same.refl G3) (RepXs.app (repXs_vals (hv.mono s3)) hy)
  cases a with
  | val d =>
    cases e : itemsX ρ1 (.val d) with
    | none => rw [e] at w1; exact w1.elim
    | some ds => rw [e] at w1; exact fz R1 hx e w1
  | new o =>
    obtain ⟨G2, R2, s2, r2⟩ := R1.settle hx
    cases e : itemsX ρ1 (.new o) with
    | none => rw [e] at w1; exact w1.elim
    | some ds => rw [e] at w1; exact fz R2 r2 e (w1.mono s2)
  | own i =>
    cases e : itemsX ρ1 (.own i) with
    | none => rw [e] at w1; exact w1.elim
    | some ds =>
      rw [e] at w1
      dsimp only [itemsX] at e
      cases e' : ρ1[i]? with
      | none => rw [e'] at e; cases e
      | some t =>
        rw [e'] at e
        cases t <;> try cases e
        rename_i d
        obtain ⟨v', h1, h2⟩ := R1.val e'
        rw [show σ[i]? = some (some v) from hx] at h1
        cases h1
        exact fz R1 h2 e w1
theorem pa_starK {X : Cx} {K : Fg} {e : Expr} {te : TE} {es : List Expr} {t : TA} {p : Pos} (he : PE X e te) (hr : PA X es t) (h : X.K = K := by rfl) (hs : starEach (.Starred e p :: es) X.env = (true, eval e X.env) :: starEach es X.env := by rfl) : PA X (.Starred e p :: es) (StX.tStar K te t) := h ▸ StX.pa_star he hr hs
end
end DL

set_option Elab.async false
set_option linter.all false
set_option maxRecDepth 100000
set_option maxHeartbeats 2000000
/-! a dict's entries go over into another one: {**a, **b}, f(**d) -/
namespace DD
open PySem PySem.Spec PyProof.Rows L2
section
variable {prog : Program} {w : World} {κ : Type} [DecidableEq κ] {knd : KeyKind prog w κ} {A : Around} {E : Value → Shared → Prop} {s : Shared}
theorem wpAny_dictPut_pairs {d : Addr} {kvs : List (κ × Value)} {k : κ} {key v : Value} {Q : Unit → Shared → Prop} (hkey : knd.is k key = true) (hm : s.heap.DictOf knd d kvs)
    (hQ : ∀ h', h'.DictOf knd d (stored kvs k v) → Heap.SameBut d s.heap h' → Q () { s with heap := h' }) (hsz : kvs.length ≤ sizeLine) :
    wpAny (model prog w) A (dictPut d (knd.hash k) key v) Q E s := by
  obtain ⟨o, es, ep, ho, hc, hd, hk, hp, hn⟩ := hm
  have hes : es.size ≤ sizeLine := by
    have e1 := hp.length
    have e2 : es.toList.length = es.size := by simp
    omega
  unfold dictPut
  refine wpAny_bind (wpAny_dictFind_of hkey ho hd hk ?_)
  have hidx : (es.findIdx? fun e => knd.is k e.key) = kvs.findIdx? fun kv => decide (kv.1 = k) := by
    rw [← hp.findIdx k]; obtain ⟨l⟩ := es; simp
  cases hi : es.findIdx? fun e => knd.is k e.key with
  | some i =>
    refine wpAny_updateDict ho hd (hQ _ ⟨_, _, ep, Heap.get?_update_self _ ho (Obj.isFreed_of_dict (Obj.data_mapDict hd _)),
      hc.mapDict _, Obj.data_mapDict hd _, hk.modify _ _, ?_, ?_⟩ (Heap.SameBut.update ..))
    · rw [stored, if_pos (any_of_findIdx_some (hidx ▸ hi))]
      have hl : (es.toList.findIdx? fun e => knd.is k e.key) = some i := by rw [← hi]; obtain ⟨l⟩ := es; simp
      have := hp.modify hn hl v
      obtain ⟨l⟩ := es
      simpa using this
    · rw [stored, if_pos (any_of_findIdx_some (hidx ▸ hi)), keys_map_store]; exact hn
  | none =>
    have hnot : k ∉ kvs.map (·.1) := not_mem_of_findIdx_none (hidx ▸ hi)
    have hany : ¬ (kvs.any fun kv => decide (kv.1 = k)) = true := by
      rw [List.any_eq_true]; rintro ⟨kv, hkv, he⟩
      exact hnot (List.mem_map.mpr ⟨kv, hkv, of_decide_eq_true he⟩)
    refine wpAny_updateDictKeys (hz := hes) ho hd (hQ _ ⟨_, _, ep + 1, Heap.get?_update_self _ ho (Obj.isFreed_of_dict (Obj.data_mapDictKeys hd _)),
      hc.mapDictKeys _, Obj.data_mapDictKeys hd _, hk.push hkey _, ?_, ?_⟩ (Heap.SameBut.update ..))
    · rw [stored, if_neg hany]
      have := hp.append hkey (knd.hash k) v
      obtain ⟨l⟩ := es
      simpa using this
    · rw [stored, if_neg hany, List.map_append, List.nodup_append]
      refine ⟨hn, by simp, ?_⟩
      intro a ha b hb
      simp only [List.map_cons, List.map_nil, List.mem_singleton] at hb
      subst hb
      exact fun e => hnot (e ▸ ha)
theorem wpAny_mergeMapping {d o : Addr} {u : Bool} {kvs more : List (κ × Value)} {Q : Unit → Shared → Prop} (hdo : d ≠ o) (hoS : (o == sysModules) = false)
    (hd : s.heap.DictOf knd d kvs) (ho : s.heap.DictOf knd o more) (hsz : kvs.length + more.length ≤ sizeLine) (hu : u = true → kvs = [])
    (hQ : ∀ h', h'.DictOf knd d (merged kvs more) → h'.DictOf knd o more → Heap.SameBut d s.heap h' → Q () { s with heap := h' }) :
    wpAny (model prog w) A (mergeMapping d (.ref o) u) Q E s := by
  obtain ⟨od, esd, epd, hod, hcd, hdd, hkd, hpd, hnd⟩ := id hd
  obtain ⟨oo, eso, epo, hoo, hco, hdo', hko, hpo, hno⟩ := id ho
  have nr : ∀ e ∈ eso, ∀ b, e.key ≠ .ref b := fun e he b z => by
    obtain ⟨k, h1, _⟩ := hko e he
    have := knd.byValue _ _ h1
    rw [z] at this
    cases this
  have hlen : more.length = eso.size := by rw [← hpo.length]; simp
  unfold mergeMapping
  refine wpAny_bind (wpAny_isInstance ho.typeIs isSubtype_dict_dict ?_)
  dsimp only
  rw [if_pos rfl]
  refine wpAny_bind (wpAny_specialOf ho.typeIs F.slot_dict_iter.lookup (wpAny_bind (wpAny_pure ?_)))
  rw [show ((some (Value.builtin "dict.__iter__") == some (Value.builtin "dict.__iter__")) = true) by decide +kernel]
  dsimp only
  rw [if_neg (by rw [hoS]; exact Bool.false_ne_true)]
  have loop : wpAny (model prog w) A (do
      let __do_lift ← dictEntries o
      have size : Nat := __do_lift.size
      let epoch ← dictEpoch o
      forIn (List.range size) PUnit.unit fun i __s => do
          let __do_lift ← dictEntries o
          match __do_lift[i]? with
            | some e => do
              holding [e.key, e.val]
                  (have __do_jp := fun (__r : PUnit) => dictPut d e.hash e.key e.val;
                  if u = true then do
                    let __do_lift ← dictFind d e.key e.hash
                    if __do_lift.isSome = true then do
                        rule "dict.merge.duplicate-key"
                        let __do_lift ← newExc (Value.type "KeyError") [e.key]
                        let __r ← raiseNew __do_lift
                        __do_jp __r
                      else __do_jp ()
                  else __do_jp ())
              let __do_lift ← dictEpoch o
              if (__do_lift != epoch) = true then do
                  unsupported "dict.changed-during-merge"
                  pure (ForInStep.yield PUnit.unit)
                else pure (ForInStep.yield PUnit.unit)
            | x => do
              unsupported "dict.changed-during-merge"
              pure (ForInStep.yield PUnit.unit)
      pure ()) Q E s := by
    refine wpAny_bind (wpAny_dictEntries hoo hdo' ?_)
    dsimp only
    refine wpAny_bind (wpAny_dictEpoch hoo hdo' ?_)
    refine wpAny_bind ?_
    rw [List.range_eq_range']
    refine wpAny_forIn_list _
      (fun rest _ s' => ∃ h' i, s' = { s with heap := h' } ∧ rest = List.range' i (eso.size - i) ∧ i ≤ eso.size ∧ h'.DictOf knd d (merged kvs (more.take i)) ∧ h'.get? o = some oo ∧ Heap.SameBut d s.heap h')
      _ ?_ ?_ _ _ ⟨s.heap, 0, rfl, by simp, Nat.zero_le _, by simpa [merged] using hd, hoo, Heap.SameBut.refl _ _⟩
    · rintro x rest b s' ⟨h', i, rfl, hr, hi, hd', hoo', hs'⟩
      have hlt : i < eso.size := by
        rcases Nat.lt_or_ge i eso.size with h | h
        · exact h
        · rw [Nat.sub_eq_zero_of_le h] at hr; simp at hr
      obtain ⟨rfl, hrest⟩ : x = i ∧ rest = List.range' (i + 1) (eso.size - (i + 1)) := by
        have e : eso.size - i = (eso.size - (i + 1)) + 1 := by omega
        rw [e, List.range'_succ] at hr
        injection hr with h1 h2
        exact ⟨h1, h2⟩
      refine wpAny_bind (wpAny_dictEntries hoo' hdo' ?_)
      rw [Array.getElem?_eq_getElem hlt]
      obtain ⟨kv, hkv⟩ : ∃ kv, more[x]? = some kv := ⟨more[x]'(by rw [hlen]; exact hlt), List.getElem?_eq_getElem _⟩
      obtain ⟨k, v⟩ := kv
      obtain ⟨hkey, hval⟩ := hpo.get? (e := eso[x]) (by simp [hlt]) hkv
      obtain ⟨k', hkey', hhash⟩ := hko eso[x] (Array.getElem_mem hlt)
      obtain rfl : k' = k := knd.inj _ _ _ hkey' hkey
      dsimp only
      rw [hhash, hval]
      have hmx : (merged kvs (more.take x)).length ≤ sizeLine := by
        have e1 := merged_length_le kvs (more.take x)
        have e2 : (more.take x).length ≤ more.length := by rw [List.length_take]; omega
        omega
      have put : wpAny (model prog w) A (dictPut d (knd.hash k') eso[x].key v) (fun _ s2 => wpAny (model prog w) A (do
          let __do_lift ← dictEpoch o
          if (__do_lift != epo) = true then do
              unsupported "dict.changed-during-merge"
              pure (ForInStep.yield PUnit.unit)
            else pure (ForInStep.yield PUnit.unit)) (fun st s' => match st with
            | ForInStep.yield _ => ∃ h' i, s' = { s with heap := h' } ∧ rest = List.range' i (eso.size - i) ∧ i ≤ eso.size ∧ h'.DictOf knd d (merged kvs (more.take i)) ∧ h'.get? o = some oo ∧ Heap.SameBut d s.heap h'
            | ForInStep.done _ => wpAny (model prog w) A (pure ()) Q E s') E s2) E { s with heap := h' } := by
        refine wpAny_dictPut_pairs hkey hd' (fun h'' hd'' hs'' => ?_) hmx
        have hoo'' : h''.get? o = some oo := (hs''.2 o (Ne.symm hdo)).trans hoo'
        refine wpAny_bind (wpAny_dictEpoch hoo'' hdo' ?_)
        rw [if_neg (by simp)]
        exact wpAny_pure ⟨h'', x + 1, rfl, hrest, hlt, by rw [merged_take_succ kvs more x (k', v) hkv]; exact hd'', hoo'', hs'.trans hs''⟩
      refine wpAny_bind (wpAny_holding ?_)
      split
      · rename_i hut
        obtain rfl := hu hut
        obtain ⟨o2, es2, ep2, ho2, hc2, hd2, hk2, hp2, hn2⟩ := id hd'
        have em : merged [] (more.take x) = more.take x := merged_nil_of_nodup _ (by
          rw [List.map_take]
          exact hno.sublist (List.take_sublist _ _))
        refine wpAny_bind (wpAny_dictFind_of hkey ho2 hd2 hk2 ?_)
        have hidx : (es2.findIdx? fun e => knd.is k' e.key) = none := by
          have : (es2.findIdx? fun e => knd.is k' e.key) = (more.take x).findIdx? fun kv => decide (kv.1 = k') := by
            rw [em] at hp2
            rw [← hp2.findIdx k']; obtain ⟨l⟩ := es2; simp
          rw [this, List.findIdx?_eq_none_iff]
          intro kv hkv2
          rw [decide_eq_false_iff_not]
          intro e
          obtain ⟨j, hj, ej⟩ := List.mem_iff_getElem.mp hkv2
          rw [List.length_take] at hj
          rw [List.getElem_take] at ej
          have hx : x < more.length := by rw [hlen]; exact hlt
          have h1 : (more.map (·.1))[j]'(by rw [List.length_map]; omega) = (more.map (·.1))[x]'(by rw [List.length_map]; exact hx) := by
            rw [List.getElem_map, List.getElem_map, ej, e]
            have : more[x] = (k', v) := by
              have := List.getElem?_eq_getElem hx
              rw [hkv] at this
              exact (Option.some.inj this).symm
            rw [this]
          have := (List.getElem_inj hno).mp h1
          omega
        rw [hidx, if_neg (by decide)]
        exact wpAny_mono put (fun _ s2 z => wpAny_mono z (fun st s3 h => by cases st <;> exact h) fun _ _ e => e) fun _ _ e => e
      · exact wpAny_mono put (fun _ s2 z => wpAny_mono z (fun st s3 h => by cases st <;> exact h) fun _ _ e => e) fun _ _ e => e
    · rintro b s' ⟨h', i, rfl, hr, hi, hd', hoo', hs'⟩
      have hin : i = eso.size := by
        rcases Nat.lt_or_ge i eso.size with h | h
        · have e : eso.size - i = (eso.size - (i + 1)) + 1 := by omega
          rw [e, List.range'_succ] at hr; exact nomatch hr
        · exact Nat.le_antisymm hi h
      refine wpAny_pure (hQ h' ?_ ⟨oo, eso, epo, hoo', hco, hdo', hko, hpo, hno⟩ hs')
      rw [hin, ← hlen, List.take_length] at hd'; exact hd'
  refine wpAny_bind (wpAny_dictEntries hod hdd ?_)
  split
  · refine wpAny_bind (wpAny_dictEntries hoo hdo' ?_)
    refine wpAny_bind ?_
    rw [← Array.forIn_toList]
    refine wpAny_forIn_list _ (fun rest _ s' => s' = s ∧ ∀ e ∈ rest, e ∈ eso.toList) _ ?_ ?_ _ _ ⟨rfl, fun _ h => h⟩
    · rintro e rest b s' ⟨rfl, hm⟩
      have h1 := nr e (Array.mem_toList_iff.mp (hm e List.mem_cons_self))
      split
      · rename_i b eb
        exact absurd eb (h1 b)
      · exact wpAny_pure ⟨rfl, fun e he => hm e (List.mem_cons_of_mem _ he)⟩
    · rintro b s' ⟨rfl, _⟩
      exact loop
  · exact loop
theorem wpAny_star2 {x y : Sem Value} {Q : Value → Shared → Prop} (h : wpAny (model prog w) A x (fun m s1 => ∀ E', wpAny (model prog w) A (mergeMapping s.heap.objs.size m false) (fun _ s2 =>
      wpAny (model prog w) A y (fun m2 s3 => ∀ E'', wpAny (model prog w) A (mergeMapping s.heap.objs.size m2 false) (fun _ s4 => Q (.ref s.heap.objs.size) s4) E'' s3) E s2) E' s1) E { s with heap := s.heap.push { cls := .type "dict", data := .dict #[] } }) :
    wpAny (model prog w) A (dictDisplay [(none, x), (none, y)]) Q E s := by
  unfold dictDisplay
  dsimp only
  simp only [List.forIn_cons, List.forIn_nil, List.isEmpty_nil, if_pos]
  refine wpAny_bind (wpAny_bind (wpAny_bind (wpAny_pure ?_)))
  try dsimp only
  refine wpAny_bind (wpAny_alloc ?_)
  refine wpAny_bind (wpAny_holding (thn h fun m s1 z => ?_))
  refine wpAny_bind (wpAny_onRaise (wpAny_tryCatch (wpAny_onRaise (wpAny_holding (thn (z _) fun _ s2 z2 => ?_)))))
  refine wpAny_pure ?_
  dsimp only
  refine wpAny_bind (wpAny_bind ?_)
  rw [if_pos (show ([] : List (Sem Value × Sem Value)).isEmpty = true from rfl)]
  refine wpAny_pure ?_
  try dsimp only
  refine wpAny_bind (wpAny_pure (wpAny_bind (wpAny_holding (thn z2 fun m2 s3 z3 => ?_))))
  refine wpAny_bind (wpAny_onRaise (wpAny_tryCatch (wpAny_onRaise (wpAny_holding (thn (z3 _) fun _ s4 z4 => ?_)))))
  refine wpAny_pure ?_
  dsimp only
  refine wpAny_pure ?_
  refine wpAny_bind ?_
  rw [if_pos (show ([] : List (Sem Value × Sem Value)).isEmpty = true from rfl)]
  refine wpAny_pure ?_
  exact wpAny_pure z4
/-- {**a, **b} -/
def tStar2 (ta tb : TE) : TE := fun σ H Q => ∀ p, H p = none → ta σ (upd H p (.dK [])) fun x H1 => ∃ a kvs, x = .ref a ∧ H1 a = some (.dK kvs) ∧ a ≠ p ∧ H1 p = some (.dK []) ∧
  tb σ (upd H1 p (.dK (mergeK [] kvs))) fun y H2 => ∃ b more, y = .ref b ∧ H2 b = some (.dK more) ∧ b ≠ p ∧ H2 p = some (.dK (mergeK [] kvs)) ∧ kvs.length + more.length ≤ sizeLine ∧ Q (.ref p) (upd H2 p (.dK (mergeK (mergeK [] kvs) more)))
end
section
variable {X : Cx} {A : Around} {E : Value → Shared → Prop}
theorem d_merge {pins : List (Addr × Obj)} {σ : L2.St} {H : Hp} {s : Shared} {Q : Unit → Shared → Prop} {d a : Addr} {u : Bool} {kvs more : List (Key × V)} (I : Inv X pins σ H s) (hd : H d = some (.dK kvs)) (ha : H a = some (.dK more)) (ne : a ≠ d) (hu : u = true → kvs = []) (hz : kvs.length + more.length ≤ sizeLine)
    (h : ∀ s', Inv X pins σ (upd H d (.dK (mergeK kvs more))) s' → Q () s') : wpAny (model X.prog X.w) A (mergeMapping d (.ref a) u) Q E s := by
  obtain ⟨_, hs1, vs1, r1, d1⟩ := dk_of I.hok hd
  obtain ⟨_, hs2, vs2, r2, d2⟩ := dk_of I.hok ha
  refine wpAny_mergeMapping (Ne.symm ne) hs2 d1 d2 (by rw [← r1.length, ← r2.length]; exact hz) (fun e => by
    have := hu e
    subst this
    cases r1
    rfl) fun h' e1 e2 hs => h _ ?_
  have he : ∃ q, h'.get? d = some q := let ⟨q, _, _, hq, _⟩ := e1; ⟨q, hq⟩
  have hl : (mergeK kvs more).length ≤ sizeLine := Nat.le_trans (length_mergeK more kvs) hz
  exact d_write I (by rw [hd]; exact True.intro) hs he (dk_new hl hs1 (r2.merge r1) e1)
theorem pe_star2 {e1 e2 : Expr} {pos : Pos} {ta tb : TE} (h1 : PE X e1 ta) (h2 : PE X e2 tb) : PE X (.Dict [none, none] [e1, e2] pos) (tStar2 ta tb) := by
  refine ⟨fun pins s σ H Q I q => ?_⟩
  have hn := I.hok.fresh (Nat.le_refl s.heap.objs.size)
  have I1 := I.laid (a := s.heap.objs.size) (o := .dK []) (h' := s.heap.push { cls := .type "dict", data := .dict #[] }) (t' := s.toks) (fun _ _ q => Heap.get?_push_of_some _ q) (Nat.le_refl _) (dk_empty s.heap I.big)
  rw [arm_eval_Dict]
  refine wpAny_bind (wpAny_standAt ?_)
  refine wpAny_star2 (x := do let x ← eval e1 X.env; standAt pos; pure x) (y := do let x ← eval e2 X.env; standAt pos; pure x) ?_
  refine wpAny_bind (thn (h1.run pins _ σ _ _ I1 (q _ hn)) fun u s1 ⟨x, H1, I2, rx, a, kvs, ex, ea, ne, ep, q2⟩ => wpAny_bind (wpAny_standAt (wpAny_pure fun E' => ?_)))
  subst ex
  obtain rfl : u = Value.ref a := rx
  have hl : kvs.length ≤ sizeLine := (dk_of I2.hok ea).1
  refine d_merge I2 ep ea ne (fun z => nomatch z) (by rw [List.length_nil, Nat.zero_add]; exact hl) fun s2 I3 => ?_
  refine wpAny_bind (thn (h2.run pins _ σ _ _ I3 q2) fun u s3 ⟨y, H2, I4, ry, b, more, ey, eb, ne2, ep2, hz, q3⟩ => wpAny_bind (wpAny_standAt (wpAny_pure fun E' => ?_)))
  subst ey
  obtain rfl : u = Value.ref b := ry
  have hm := length_mergeK kvs []
  rw [List.length_nil, Nat.zero_add] at hm
  exact d_merge I4 ep2 eb ne2 (fun z => nomatch z) (by omega) fun s4 I5 => ⟨V.ref s.heap.objs.size, _, I5, rfl, q3⟩
end
end DD

set_option Elab.async false
set_option linter.all false
set_option maxRecDepth 100000
set_option maxHeartbeats 2000000
/-! C(**d) -/
namespace DD
open PySem PySem.Spec PyProof.Rows L2
section
variable {M : Model} {A : Around} {E : Value → Shared → Prop} {s : Shared} {K : PySem.W.Frag} {pos : Pos} {f : Value} {first : List Value} {Q : Value → Shared → Prop} {h₀ : Heap}
theorem ss_call {P : Heap → Prop} {kws : List (Option Str × Sem Value)} (hst : kws.any (·.1.isNone) = true)
    (hk : ∀ h, P h → ∃ k, (k = Keeper.frame ∨ k = Keeper.machine ∨ k = Keeper.boundFrame) ∧ PySem.W.Looks M h (keeperOf f) k)
    (h : wpAny M A (evalArgs f true [] kws) (fun a s₁ => P s₁.heap ∧ wpAny M A (call f (first ++ a.pos) a.kw) Q E s₁) E s) : wpAny M A (callWith pos f first [] kws) Q E s := by
  unfold callWith
  refine wpAny_bind (wpAny_holding (wpAny_mono h (fun a s₁ h₁ => wpAny_bind (wpAny_standAt ?_)) fun _ _ x => x))
  obtain ⟨k, hk', L⟩ := hk _ h₁.1
  simp only [hst, Bool.or_true]
  refine wpAny_bind (L.here ?_)
  have tail : ∀ {t : Sem Value}, wpAny M A t Q E s₁ → wpAny M A (t >>= fun r => holding [r] point >>= fun _ => pure r) Q E s₁ :=
    fun ht => wpAny_bind (wpAny_mono ht (fun r s₂ hr => wpAny_bind (wpAny_holding (wpAny_point (wpAny_pure hr)))) fun _ _ x => x)
  have marked (mk : Value) : wpAny M A (callMarked mk f (first ++ a.pos) a.kw) Q E s₁ := by unfold callMarked; exact Calls.wpAny_keep h₁.2
  rcases hk' with rfl | rfl | rfl <;> dsimp only <;> first | exact tail (marked _) | exact tail (wpAny_operating h₁.2)
theorem evalArgs_ss {x : Sem Value} {R : Args → Shared → Prop} (h : wpAny M A x (fun m s1 => ∀ E', wpAny M A (mergeMapping s.heap.objs.size m true) (fun _ s2 => wpAny M A (keywordsIn f s.heap.objs.size) (fun kw s3 => R ⟨[], kw⟩ s3) E s2) E' s1) E { s with heap := s.heap.push { cls := .type "dict", data := .dict #[] } }) :
    wpAny M A (evalArgs f true [] [(none, x)]) R E s := by
  unfold evalArgs
  dsimp only
  refine wpAny_bind (Calls.spliced_nil (wpAny_bind (wpAny_pure ?_)))
  dsimp only
  refine wpAny_holding ?_
  rw [if_neg (show ¬ (([(none, x)] : List (Option Str × Sem Value)).all fun x => x.fst.isSome) = true from fun z => nomatch z)]
  unfold mergedKeywords
  refine wpAny_bind (wpAny_bind (wpAny_alloc (wpAny_bind (wpAny_holding ?_))))
  dsimp only
  rw [List.forIn_cons]
  refine wpAny_bind (wpAny_bind ?_)
  dsimp only
  refine wpAny_bind ?_
  rw [if_pos (show ([] : List (Str × Sem Value)).isEmpty = true from rfl)]
  refine wpAny_pure ?_
  refine wpAny_bind (thn h fun m s1 z => ?_)
  refine wpAny_bind (wpAny_onRaise (wpAny_holding (wpAny_tryCatch (wpAny_onRaise (thn (z _) fun _ s2 z2 => ?_)))))
  refine wpAny_pure ?_
  dsimp only
  rw [List.forIn_nil]
  refine wpAny_pure ?_
  rw [if_pos (show ([] : List (Str × Sem Value)).isEmpty = true from rfl)]
  refine wpAny_pure ?_
  refine wpAny_pure ?_
  refine wpAny_bind (wpAny_pure ?_)
  refine wpAny_bind (wpAny_holding (thn z2 fun kw s3 z3 => ?_))
  exact wpAny_pure z3
theorem kwIn {d : Addr} {R : List (Str × Value) → Shared → Prop} {o : Obj} {es : Array DictEntry} {ep : Nat} {ps : List (Str × Value)} (ho : s.heap.get? d = some o) (hd : o.data = .dict es ep) (hp : Paired (fun (e : DictEntry) (p : Str × Value) => (∃ t, e.key = .str p.1 t) ∧ e.val = p.2) es.toList ps) (h : R ps s) :
    wpAny M A (keywordsIn f d) R E s := by
  unfold keywordsIn
  refine wpAny_bind (wpAny_dictEntries ho hd ?_)
  refine wpAny_bind ?_
  rw [← Array.forIn_toList]
  refine wpAny_forIn_list _ (fun rest acc s' => s' = s ∧ ∃ qs, ps = acc ++ qs ∧ Paired (fun (e : DictEntry) (p : Str × Value) => (∃ t, e.key = .str p.1 t) ∧ e.val = p.2) rest qs) _ ?_ ?_ _ _ ⟨rfl, ps, rfl, hp⟩
  · rintro e rest acc s' ⟨rfl, qs, e1, r⟩
    cases r with
    | @cons _ p _ qs h1 t =>
      obtain ⟨⟨tk, hk⟩, hv⟩ := h1
      rw [hk]
      dsimp only
      refine wpAny_pure ⟨rfl, qs, ?_, t⟩
      rw [e1, hv, List.append_assoc]
      rfl
  · rintro acc s' ⟨rfl, qs, e1, r⟩
    cases r
    rw [List.append_nil] at e1
    subst e1
    exact wpAny_pure h
end
end DD

set_option Elab.async false
set_option linter.all false
set_option maxRecDepth 100000
set_option maxHeartbeats 2000000
/-! calls with keywords; C(**d) -/
namespace DD
open PySem PySem.Spec PyProof.Rows L2
/-- a promise by n positional values and the values of the keywords ks -/
structure FnK (P : Program) (w : World) (K : PySem.W.Frag) (mg : Str → Option Value) (base : Heap) (CX : CXT) (k : Nat) (f : Addr) (n : Nat) (ks : List Str) (sp : Sp) : Prop where
  len : ∀ vs H Q E, sp vs H Q E → vs.length = n + ks.length
  run : ∀ (A : Around) (outer : List Env) (s : Shared) (H : Hp) (us ws : List Value) (vs zs : List V) (Q : VK) (E : XK), Room k A → Env0 P w K mg base A outer s H → Vals vs us → Vals zs ws → vs.length = n → zs.length = ks.length → sp (vs ++ zs) H Q E →
    codeAny (model P w) A (.call (.ref f) ⟨us, ks.zip ws⟩) (CR CX outer P w H s Q E) s
section
variable {P : Program} {w : World} {K : PySem.W.Frag} {mg : Str → Option Value} {base : Heap} {CX : CXT} {j k n : Nat} {f : Addr} {sp sp' : Sp} {ks : List Str}
theorem FnK.mono (F : FnK P w K mg base CX j f n ks sp) (h : j ≤ k) : FnK P w K mg base CX k f n ks sp := ⟨F.len, fun A outer s H us ws vs zs Q E hr => F.run A outer s H us ws vs zs Q E (hr.mono h)⟩
theorem FnOk.kw {fd : FuncData} {ps : List Str} {g : List Value → List Value → List Value} {gV : List V → List V → List V} (F : FnOk P w K mg base CX k f fd ps sp) (hb : KBn K fd ps n ks g gV) (hl : ∀ vs H Q E, sp' vs H Q E → vs.length = n + ks.length)
    (h : ∀ vs zs H Q E, vs.length = n → zs.length = ks.length → sp' (vs ++ zs) H Q E → sp (gV vs zs) H Q E) : FnK P w K mg base CX k f n ks sp' := by
  refine ⟨hl, fun A outer s H us ws vs zs Q E hr e0 r rz ln lk hs => ?_⟩
  exact F.run A outer s H ⟨us, ks.zip ws⟩ (g us ws) (gV vs zs) Q E hr e0 (hb.to s us ws (e0.mod.kin.keeps fun b o e => (e0.bs b o e).1) (r.length.symm.trans ln) (rz.length.symm.trans lk)) (hb.rel r rz) (h vs zs H Q E ln lk hs)
end
section
variable {X : Cx} {CX : CXT} {k n : Nat} {f C : Addr} {sp : Sp} {E : XK} {x m : Str} {pp pos apos kpos : Pos} {e o : Expr} {ks : List Str} {kws : List Keyword} {ta te : TE} {tk : TA}
theorem run_fnK0 {pins : List (Addr × Obj)} {σ : L2.St} {H : Hp} {s : Shared} {Q : VK} {us ws : List Value} {vs zs : List V} (F : FnK X.prog X.w X.K X.mg X.base CX k f n ks sp) (hr : Room k X.A) (hx : Passes CX X E)
    (I : Inv X pins σ H s) (r : Vals vs us) (rz : Vals zs ws) (ln : vs.length = n) (h : sp (vs ++ zs) H Q E) :
    codeAny (model X.prog X.w) X.A (.call (.ref f) ⟨us, ks.zip ws⟩) (fun r s' => match r with | .ok (.ret v) => EP X pins σ Q v s' | .ok _ => False | .error e => X.xe e s') s := by
  have lk : zs.length = ks.length := by
    have := F.len _ _ _ _ h
    rw [List.length_append] at this
    omega
  refine codeAny_mono (F.run X.A X.stack s H us ws vs zs Q E hr I.env0 r rz ln lk h) fun r s' hq => ?_
  cases r with
  | error e => exact hx pins σ H s e s' I hq
  | ok fl =>
    cases fl with
    | ret u => exact I.after hq
    | next => exact False.elim hq
    | brk => exact False.elim hq
    | cont => exact False.elim hq
/-- f(k = v, ..) -/
theorem pe_callKW (F : FnK X.prog X.w X.K X.mg X.base CX k f 0 ks sp) (hr : Room k X.A) (hg : Gl X x) (hm : X.mg x = some (.ref f)) (hk : PySem.W.keepIn X.K (.ref f) = true) (hx : Passes CX X E) (hkw : PK X kws tk)
    (hall : (backToKw pos (keywordEach kws X.env)).all (·.1.isSome) = true := by rfl) (hks : (backToKw pos (keywordEach kws X.env)).filterMap (·.1) = ks := by rfl) (hdb : (x == ("__debug__" : Str)) = false := by decide)
    (hpl : ((backTo pos (starEach [] X.env)).any (·.1) || (backToKw pos (keywordEach kws X.env)).any (·.1.isNone)) = false := by rfl) :
    PE X (.Call (.Name x pp) [] kws pos) (tCallR sp E tk) := by
  refine ⟨fun pins s σ H Q I h => ?_⟩
  refine wpAny_Call_Name_kw (ld_glob I hg hm ?_ hdb)
  refine PySem.W.callWith_KW0 (h₀ := X.base) I.ok.mod.kin hk hall ?_ hpl
  refine thn (hkw.run pos pins s σ H _ I h) fun ws s2 ⟨zs, H2, I2, rz, q2⟩ => ⟨I2.kIn, ?_⟩
  rw [hks]
  exact wpAny_call (run_fnK0 (us := []) (vs := []) F hr hx I2 .nil rz rfl q2)
/-- o.m(k = v, ..) -/
theorem pe_methKW {pl : Sem Bool} (he : PE X o ta) (c : Cls X.K C) (hm : Meth X.K C m f) (F : FnK X.prog X.w X.K X.mg X.base CX k f 1 ks sp) (hr : Room k X.A) (hx : Passes CX X E) (hkw : PK X kws tk)
    (hall : (backToKw pos (keywordEach kws X.env)).all (·.1.isSome) = true := by rfl) (hks : (backToKw pos (keywordEach kws X.env)).filterMap (·.1) = ks := by rfl)
    (hpl : ((backTo pos (starEach [] X.env)).any (·.1) || (backToKw pos (keywordEach kws X.env)).any (·.1.isNone)) = false := by rfl)
    (ht : eval (.Call (.Attribute o m apos) [] kws pos) X.env = (do
      let ov ← eval o X.env
      standAt apos.atName
      let (f, first) ← holding [ov] (getMethod ov m pl)
      callWith pos f first (backTo pos (starEach [] X.env)) (backToKw pos (keywordEach kws X.env))) := by rfl) :
    PE X (.Call (.Attribute o m apos) [] kws pos) (tMethR C m sp E ta tk) := by
  refine ⟨fun pins s σ H Q I h => ?_⟩
  refine PySem.W.methodCall_KW (pl := pl) (thn (he.run pins s σ H _ I h) fun u s1 ⟨x, H1, I1, rx, a, dx, fs, ex, ea, l, q⟩ => ?_) ht
  subst ex
  obtain rfl : u = Value.ref a := rx
  refine getmeth_ok I1 ea c hm l ?_
  refine PySem.W.callWith_KW0 (first := [.ref a]) (h₀ := X.base) I.ok.mod.kin hm.kp hall ?_ hpl
  refine thn (hkw.run pos pins s1 σ H1 _ I1 q) fun ws s2 ⟨zs, H2, I2, rz, q2⟩ => ⟨I2.kIn, ?_⟩
  rw [hks]
  exact wpAny_call (run_fnK0 (us := [.ref a]) (vs := [.ref a]) F hr hx I2 (.cons rfl .nil) rz rfl q2)
theorem run_makeKW {pins : List (Addr × Obj)} {σ : L2.St} {H : Hp} {s : Shared} {Q : VK} {ws : List Value} {zs : List V} (M : Mk X.K C f) (F : FnK X.prog X.w X.K X.mg X.base CX k f 1 ks sp) (hr : Room (k + 1) X.A)
    (hx : Passes CX X E) (I : Inv X pins σ H s) (rz : Vals zs ws)
    (h : ∀ x dx, H x = none → H dx = none → dx ≠ x → sp (.ref x :: zs) (upd (upd H dx (.own x)) x (.ins C dx [])) (fun v H2 => v = .non ∧ Q (.ref x) H2) E) :
    wpAny (model X.prog X.w) X.A (call (.ref C) [] (ks.zip ws)) (EP X pins σ Q) X.xe s := by
  have hq := h (s.heap.objs.size + 1) s.heap.objs.size (I.hok.fresh (Nat.le_succ _)) (I.hok.fresh (Nat.le_refl _)) (Nat.ne_of_lt (Nat.lt_succ_self _))
  have I2 := Inv.made (C := C) I
  have lk : zs.length = ks.length := by
    have := F.len _ _ _ _ hq
    rw [List.length_cons] at this
    omega
  refine wpAny_call (make_map (f := f) I.kIn M.makes M.init (beq_iff_eq.mp M.fn) (codeAny_mono (F.run _ X.stack _ _ [Value.ref (s.heap.objs.size + 1)] ws [V.ref (s.heap.objs.size + 1)] zs _ E (hr.make C [] (ks.zip ws))
    (I2.env0.make C [] (ks.zip ws)) (.cons rfl .nil) rz rfl lk hq) fun r s' hq' => ?_))
  cases r with
  | error e => exact hx pins σ _ _ e s' I2 hq'
  | ok fl =>
    cases fl with
    | ret u =>
      obtain ⟨v, H', I3, rv, ev, q3⟩ := I2.after hq'
      subst ev
      exact ⟨rv, ⟨V.ref (s.heap.objs.size + 1), H', I3, rfl, q3⟩⟩
    | next => exact False.elim hq'
    | brk => exact False.elim hq'
    | cont => exact False.elim hq'
/-- C(k = v, ..) -/
theorem pe_makeKW (M : Mk X.K C f) (F : FnK X.prog X.w X.K X.mg X.base CX k f 1 ks sp) (hr : Room (k + 1) X.A) (hg : Gl X x) (hm : X.mg x = some (.ref C)) (hx : Passes CX X E) (hkw : PK X kws tk)
    (hall : (backToKw pos (keywordEach kws X.env)).all (·.1.isSome) = true := by rfl) (hks : (backToKw pos (keywordEach kws X.env)).filterMap (·.1) = ks := by rfl) (hdb : (x == ("__debug__" : Str)) = false := by decide)
    (hpl : ((backTo pos (starEach [] X.env)).any (·.1) || (backToKw pos (keywordEach kws X.env)).any (·.1.isNone)) = false := by rfl) :
    PE X (.Call (.Name x pp) [] kws pos) (StX.tMakeR C sp E tk) := by
  refine ⟨fun pins s σ H Q I h => ?_⟩
  refine wpAny_Call_Name_kw (ld_glob I hg hm ?_ hdb)
  refine PySem.W.callWith_KW0 (h₀ := X.base) I.ok.mod.kin M.kp hall ?_ hpl
  refine thn (hkw.run pos pins s σ H _ I h) fun ws s2 ⟨zs, H2, I2, rz, q2⟩ => ⟨I2.kIn, ?_⟩
  rw [hks]
  exact run_makeKW M F hr hx I2 rz q2
/-- C.m(k = v, ..), m a classmethod -/
theorem pe_cmethKW {pl : Sem Bool} {mc : Value} {p g : Addr} (he : PE X o ta) (r : ClX.CRead X.K C mc) (c : ClX.CMet X.K C mc m p g) (F : FnK X.prog X.w X.K X.mg X.base CX k g 1 ks sp) (hr : Room k X.A) (hx : Passes CX X E) (hkw : PK X kws tk)
    (hall : (backToKw pos (keywordEach kws X.env)).all (·.1.isSome) = true := by rfl) (hks : (backToKw pos (keywordEach kws X.env)).filterMap (·.1) = ks := by rfl)
    (hpl : ((backTo pos (starEach [] X.env)).any (·.1) || (backToKw pos (keywordEach kws X.env)).any (·.1.isNone)) = false := by rfl)
    (ht : eval (.Call (.Attribute o m apos) [] kws pos) X.env = (do
      let ov ← eval o X.env
      standAt apos.atName
      let (f, first) ← holding [ov] (getMethod ov m pl)
      callWith pos f first (backTo pos (starEach [] X.env)) (backToKw pos (keywordEach kws X.env))) := by rfl) :
    PE X (.Call (.Attribute o m apos) [] kws pos) (ClX.tCMeth C sp E ta tk) := by
  refine ⟨fun pins s σ H Q I h => ?_⟩
  refine PySem.W.methodCall_KW (pl := pl) (thn (he.run pins s σ H _ I h) fun u s1 ⟨x, H1, I1, rx, ex, q⟩ => ?_) ht
  subst ex
  obtain rfl : u = Value.ref C := rx
  refine ClX.getmethcm_ok I1 r c fun s2 I2 => ?_
  refine PySem.W.callWith_of (P := PySem.W.MethP X.K s1.heap.objs.size g (.ref C)) hpl (PySem.W.keeps_M c.fi) (evalArgs_kw2_nil hall ?_)
  refine thn (hkw.run pos _ s2 σ H1 _ I2 q) fun ws s3 ⟨zs, H2, I3, rz, q2⟩ => ⟨⟨ClX.pin_at I3, I3.kIn⟩, ?_⟩
  rw [hks]
  have z : wpAny (model X.prog X.w) X.A (call (.ref s1.heap.objs.size) [] (ks.zip ws)) (EP X ((s1.heap.objs.size, PySem.W.methodObj (.ref g) (.ref C)) :: pins) σ Q) X.xe s3 :=
    wpAny_call (PySem.W.method_call (ClX.pin_at I3) (run_fnK0 (us := [.ref C]) (vs := [.ref C]) F hr hx I3 (.cons rfl .nil) rz rfl q2))
  exact thn z fun _ _ y => ClX.unpinE y
end
end DD

set_option Elab.async false
set_option linter.all false
set_option maxRecDepth 100000
set_option maxHeartbeats 2000000
/-! def f(self, **others); C(**d) -/
namespace DD
open PySem PySem.Spec PyProof.Rows L2
section
variable {prog : Program} {w : World} {A : Around} {E : Value → Shared → Prop} {s : Shared}
theorem wpAny_nsSet_dk {d : Addr} {k : Str} {v : Value} {kvs : List (Key × Value)} {Q : Unit → Shared → Prop} (hm : s.heap.DictOf (mixKind prog w) d kvs) (hn : ∀ p ∈ kvs, p.1 ≠ Sum.inr k)
    (hQ : ∀ h', h'.DictOf (mixKind prog w) d (kvs ++ [(Sum.inr k, v)]) → Heap.SameBut d s.heap h' → Q () { s with heap := h', toks := s.toks + 1 }) : wpAny (model prog w) A (nsSet d k v) Q E s := by
  obtain ⟨o, es, ep, ho, hc, hd, hk, hp, hnd⟩ := hm
  obtain ⟨c, dd, dt, sl⟩ := o
  obtain ⟨h1, h2, h3⟩ := hc
  simp only at h1 h2 h3 hd
  subst h1 h2 h3 hd
  have shape : ∀ e ∈ es.toList, ∃ p ∈ kvs, keyIs p.1 e.key = true := by
    clear ho hk hn hnd hQ
    generalize es.toList = l at hp
    intro e he
    induction hp with
    | nil => cases he
    | @cons e0 kv l kvs h1 h2 t ih =>
      rcases List.mem_cons.mp he with z | he
      · subst z
        exact ⟨kv, List.mem_cons_self, h1⟩
      · obtain ⟨p, hp, hk⟩ := ih he
        exact ⟨p, List.mem_cons_of_mem _ hp, hk⟩
  have hs : ∀ e ∈ es.toList, e.key.isStr k = false := fun e he => by
    obtain ⟨p, hp, hk⟩ := shape e he
    rcases keyIs_shape hk with ⟨i, t, e1, e2⟩ | ⟨x, t, e1, e2⟩
    · rw [e2]; rfl
    · rw [e2]
      show (x == k) = false
      exact beq_eq_false_iff_ne.mpr fun z => hn p hp (by rw [e1, z])
  have hr : ∀ e ∈ es.toList, e.refKey = false := fun e he => by
    obtain ⟨p, hp, hk⟩ := shape e he
    rcases keyIs_shape hk with ⟨i, t, e1, e2⟩ | ⟨x, t, e1, e2⟩ <;> (unfold DictEntry.refKey; rw [e2])
  have e1 : es.toList.any (·.key.isStr k) = false := by
    cases q : es.toList.any (·.key.isStr k) with
    | false => rfl
    | true => obtain ⟨e, he, z⟩ := List.any_eq_true.mp q; rw [hs e he] at z; cases z
  have e2 : es.toList.any (·.refKey) = false := by
    cases q : es.toList.any (·.refKey) with
    | false => rfl
    | true => obtain ⟨e, he, z⟩ := List.any_eq_true.mp q; rw [hr e he] at z; cases z
  have e : Obj.putName k (PyData.keyHash w.params k) (.str k s.toks) v (PySem.W.dictOf es.toList ep) = PySem.W.dictOf (es.toList ++ [⟨PyData.keyHash w.params k, .str k s.toks, v⟩]) (ep + 1) := by
    rw [PySem.W.putName_dict, PySem.W.putL_new hs]
    show PySem.W.dictOf _ (if es.toList.any (·.key.isStr k) then ep else ep + 1) = _
    rw [e1, if_neg Bool.false_ne_true]
  have c : aRefKeyMayBeTheName k es = false := by
    rw [aRefKeyMayBeTheName_at, ← Array.any_toList, ← Array.any_toList]
    show (!es.toList.any (·.key.isStr k) && es.toList.any (·.refKey)) = false
    rw [e2, Bool.and_false]
  have rk : L2.RelV (V.str k) (Value.str k s.toks) := Exists.intro s.toks rfl
  have hkey : (mixKind prog w).is (Sum.inr k) (.str k s.toks) = true := kV_is (P := prog) (w := w) (k := Sum.inr k) rk
  unfold nsSet
  refine wpAny_bind (wpAny_bind (wpAny_askSetting (wpAny_pure (wpAny_bind (wpAny_mkText (wpAny_bind (wpAny_loadPart (s := { s with toks := s.toks + 1 }) ho ?_)))))))
  dsimp only
  rw [c]
  refine wpAny_updatePart (s := { s with toks := s.toks + 1 }) ho ?_
  refine hQ _ ⟨PySem.W.dictOf (es.toList ++ [⟨PyData.keyHash w.params k, .str k s.toks, v⟩]) (ep + 1), (es.toList ++ [(⟨PyData.keyHash w.params k, .str k s.toks, v⟩ : DictEntry)]).toArray, ep + 1, ?_, ⟨rfl, rfl, rfl⟩, rfl, ?_, ?_, ?_⟩ (Heap.SameBut.update ..)
  · have e' : Obj.putName k (PyData.keyHash w.params k) (.str k s.toks) v ({ cls := .type "dict", dict := none, data := .dict es ep, slots := #[] } : Obj) = PySem.W.dictOf (es.toList ++ [⟨PyData.keyHash w.params k, .str k s.toks, v⟩]) (ep + 1) := by
      rw [← e]
    have := Heap.get?_update_self (Obj.putName k (PyData.keyHash w.params k) (.str k s.toks) v) ho (by rw [e']; rfl)
    rw [e'] at this
    exact this
  · have := hk.push hkey v
    have e3 : (es.toList ++ [(⟨PyData.keyHash w.params k, .str k s.toks, v⟩ : DictEntry)]).toArray = es.push ⟨PyData.keyHash w.params k, .str k s.toks, v⟩ := by
      obtain ⟨l⟩ := es
      rw [List.push_toArray]
    rw [e3]
    exact this
  · have := hp.append hkey ((mixKind prog w).hash (Sum.inr k)) v
    exact this
  · rw [List.map_append, List.nodup_append]
    refine ⟨hnd, by simp, ?_⟩
    intro a ha b hb z
    simp only [List.map_cons, List.map_nil, List.mem_singleton] at hb
    obtain ⟨p, hp, ep⟩ := List.mem_map.mp ha
    exact hn p hp (by rw [ep, z, hb])
theorem wpAny_nsFill {d : Addr} {Q : PUnit → Shared → Prop} : ∀ (ex : List (Str × Value)) (s : Shared) (kvs : List (Key × Value)), s.heap.DictOf (mixKind prog w) d kvs → (∀ p ∈ kvs, ∀ x ∈ ex, p.1 ≠ Sum.inr x.1) → (ex.map (·.1)).Nodup →
    (∀ h' t', h'.DictOf (mixKind prog w) d (kvs ++ ex.map fun x => (Sum.inr x.1, x.2)) → Heap.SameBut d s.heap h' → Q ⟨⟩ { s with heap := h', toks := t' }) →
    wpAny (model prog w) A (forIn ex PUnit.unit fun x _ => (nsSet d x.1 x.2 >>= fun _ => pure (ForInStep.yield PUnit.unit))) Q E s
  | [], s, kvs, hm, _, _, h => by
    rw [List.forIn_nil]
    refine wpAny_pure (h s.heap s.toks ?_ (Heap.SameBut.refl _ _))
    rw [List.map_nil, List.append_nil]
    exact hm
  | x :: r, s, kvs, hm, hs, hn, h => by
    obtain ⟨hn1, hn2⟩ := List.nodup_cons.mp (show (x.1 :: r.map (·.1)).Nodup from hn)
    rw [List.forIn_cons]
    refine wpAny_bind (wpAny_bind (wpAny_nsSet_dk hm (fun p hp => hs p hp x (.head _)) fun h' hm' hs' => wpAny_pure ?_))
    show wpAny (model prog w) A (forIn r PUnit.unit fun x _ => (nsSet d x.1 x.2 >>= fun _ => pure (ForInStep.yield PUnit.unit))) Q E { s with heap := h', toks := s.toks + 1 }
    refine wpAny_nsFill r { s with heap := h', toks := s.toks + 1 } _ hm' (fun p hp y hy => ?_) hn2 fun h'' t'' hm'' hs'' => ?_
    · rcases List.mem_append.mp hp with hp | hp
      · exact hs p hp y (.tail _ hy)
      · obtain rfl := List.mem_singleton.mp hp
        intro z
        exact hn1 (by rw [Sum.inr.inj z]; exact List.mem_map_of_mem hy)
    · rw [List.append_assoc] at hm''
      exact h h'' t'' hm'' (hs'.trans hs'')
end
section
variable {P : Program} {w : World} {K : PySem.W.Frag} {mg : Str → Option Value} {base : Heap} {A : Around} {outer : List Env} {s : Shared} {H : Hp}
theorem env0_new {h' : Heap} {t' : Nat} {u : HO} (e0 : Env0 P w K mg base A outer s H) (kp : ∀ b x, s.heap.get? b = some x → h'.get? b = some x) (sz : s.heap.objs.size ≤ h'.objs.size) (new : ObjOk P w (upd H s.heap.objs.size u) h' s.heap.objs.size u) :
    Env0 P w K mg base A outer { s with heap := h', toks := t' } (upd H s.heap.objs.size u) := by
  refine ⟨e0.frames, e0.mod, fun b x e => ⟨kp b x (e0.bs b x e).1, ?_⟩, Nat.le_trans e0.bsz sz, Heap.FunFrames.of_keeps (fun b x e _ => ⟨x, kp b x e, rfl⟩) e0.funs, fun b hb => ?_, e0.hok.laid kp (Nat.le_refl _) new, e0.bare⟩
  · rw [upd_ne (Nat.ne_of_lt (Heap.lt_size (e0.bs b x e).1))]
    exact (e0.bs b x e).2
  · obtain ⟨_, x, hx, _⟩ := e0.funs.mem hb
    rw [upd_ne (Nat.ne_of_lt (Heap.lt_size hx))]
    exact e0.frf b hb
theorem kv_zip : ∀ {ks : List Str} {zs : List V} {ws : List Value}, Vals zs ws → KV ((ks.zip zs).map fun q => ((Sum.inr q.1 : Key), q.2)) ((ks.zip ws).map fun q => ((Sum.inr q.1 : Key), q.2))
  | [], _, _, _ => .nil
  | _ :: _, _, _, .nil => .nil
  | k :: ks, _, _, .cons h t => .cons ⟨rfl, h⟩ (kv_zip t)
theorem zip_names : ∀ {ks : List Str} {ws : List Value}, ws.length = ks.length → (ks.zip ws).map (·.1) = ks
  | [], _, _ => rfl
  | k :: ks, w :: ws, h => by
    rw [List.zip_cons_cons, List.map_cons, zip_names (by simpa using h)]
  | k :: ks, [], h => by cases h
/-- the dict of what a call names -/
def kwD (ks : List Str) (zs : List V) : HO := .dK ((ks.zip zs).map fun q => ((Sum.inr q.1 : Key), q.2))
/-- def f(a, **d), called with the keywords ks -/
theorem fn_kwd {x qual pa pd : Str} {st : Stmt} {f : Addr} {fd : FuncData} {N ks : List Str} {k : Nat} {sp : Sp} (F : Fun K x qual st f fd) (S : FnScope N [pa, pd] (defScope st)) (hnd : ks.Nodup) (hks : ks.length ≤ sizeLine)
    (hb : ∀ (kV doc pm : Value) (an : Option Addr) (cdv ct : Value) (u : Value) (ws : List Value), ws.length = ks.length → bindArgs (PySem.W.fnOf x qual (defArgs st) (defBody st) (defScope st) .none kV doc pm an cdv ct) ⟨[u], ks.zip ws⟩ =
      ((alloc ({ cls := .type "dict", data := .dict #[] } : Obj) : Sem Addr) >>= fun d => (forIn (ks.zip ws) PUnit.unit fun x _ => (nsSet d x.1 x.2 >>= fun _ => pure (ForInStep.yield PUnit.unit))) >>= fun _ => pure [(pa, u), (pd, Value.ref d)]))
    (hbody : ∀ (cdv : Value) (A : Around) (outer : List Env) (s : Shared) (H : Hp) (vs : List V) (Q : VK) (E : XK), Room k (A.deeper (envOfC qual (defScope st) s.heap.objs.size f cdv)) → sp vs H Q E →
      ∃ t, PSs (cxOf CX0 P w K mg base N qual (defScope st) f cdv A outer s H E).nox (defBody st) t ∧ t { nx := fun _ H' => Q .non H', rt := Q } (start N vs) H) :
    FnK P w K mg base CX0 (k + 1) f 1 ks (fun xs H Q E => xs.length = 1 + ks.length ∧ ∀ d, H d = none → sp (xs.take 1 ++ [V.ref d]) (upd H d (kwD ks (xs.drop 1))) Q E) := by
  refine ⟨fun vs H Q E h => h.1, fun A outer s H us ws vs zs Q E hr e0 r rz ln lk hs => ?_⟩
  obtain ⟨oc, od, kV, doc, pm, an, cdv, ct, osl, rfl, lkf, hcd⟩ := F.ex
  obtain ⟨v, rfl⟩ : ∃ v, vs = [v] := by
    match vs, ln with
    | [v], _ => exact ⟨v, rfl⟩
  obtain ⟨u, rfl, ru⟩ := r.one
  have hws : ws.length = ks.length := rz.length.symm.trans lk
  have hn : H s.heap.objs.size = none := e0.hok.fresh (Nat.le_refl _)
  refine StX.run_bnd lkf hcd S hr e0 (G := fun xs H2 => ∃ p, H p = none ∧ xs = [v, V.ref p] ∧ H2 = upd H p (kwD ks zs)) (fun A' Ex Q' h => ?_) fun s2 H2 xs ⟨p, hp, ex, eH⟩ hr' => ?_
  · rw [hb kV doc pm an cdv ct u ws hws]
    refine wpAny_bind (wpAny_alloc (wpAny_bind ?_))
    refine wpAny_nsFill (ks.zip ws) { s with heap := s.heap.push ({ cls := .type "dict", data := .dict #[] } : Obj) } [] (Heap.DictOf.new s.heap) (fun _ z => nomatch z) (by rw [zip_names hws]; exact hnd) fun h' t' hm hsb => wpAny_pure ?_
    rw [List.nil_append] at hm
    have kp : ∀ b y, s.heap.get? b = some y → h'.get? b = some y := fun b y e => (hsb.2 b (Nat.ne_of_lt (Heap.lt_size e))).trans (Heap.get?_push_of_some _ e)
    have sz : s.heap.objs.size ≤ h'.objs.size := by
      rw [hsb.1]
      show s.heap.objs.size ≤ (s.heap.push _).objs.size
      rw [Heap.size_push]
      exact Nat.le_succ _
    have new : ObjOk P w (upd H s.heap.objs.size (kwD ks zs)) h' s.heap.objs.size (kwD ks zs) :=
      dk_new (by rw [List.length_map, List.length_zip]; omega) (beq_eq_false_iff_ne.mpr (Ne.symm (Nat.ne_of_lt (StX.env0_big e0)))) (kv_zip rz) hm
    have un : Un (frs outer) [] H (upd H s.heap.objs.size (kwD ks zs)) s.heap h' := Un.laid kp (Nat.le_refl _) hn
    exact h { s with heap := h', toks := t' } (upd H s.heap.objs.size (kwD ks zs)) [v, V.ref s.heap.objs.size] [u, Value.ref s.heap.objs.size] (env0_new (s := s) (H := H) e0 kp sz new) un rfl (fun e s' z => z) (.cons ru (.cons rfl .nil)) rfl ⟨_, hn, rfl, rfl⟩
  · subst ex eH
    obtain ⟨t, h1, h2⟩ := hbody cdv A outer s2 _ [v, V.ref p] Q E hr' (hs.2 p hp)
    exact ⟨t, h1.nox, h2⟩
end
theorem kv_names {P : Program} {w : World} : ∀ {ks : List Str} {vs : List V} {rs : List (Key × Value)} {es : List DictEntry}, vs.length = ks.length → KV ((ks.zip vs).map fun q => ((Sum.inr q.1 : Key), q.2)) rs → Pairs (mixKind P w) es rs →
    ∃ us, Vals vs us ∧ Paired (fun (e : DictEntry) (p : Str × Value) => (∃ t, e.key = .str p.1 t) ∧ e.val = p.2) es (ks.zip us)
  | [], [], _, _, _, .nil, .nil => ⟨[], .nil, .nil⟩
  | [], _ :: _, _, _, h, _, _ => by cases h
  | _ :: _, [], _, _, h, _, _ => by cases h
  | k :: ks, v :: vs, _, _, hl, r, p => by
    rw [List.zip_cons_cons, List.map_cons] at r
    cases r with
    | @cons _ b _ bs h t =>
      cases p with
      | @cons e _ es _ h1 h2 t2 =>
        obtain ⟨us, r1, r2⟩ := kv_names (by simpa using hl) t t2
        obtain ⟨b1, b2⟩ := b
        obtain ⟨e1, rv⟩ := h
        cases e1
        rcases keyIs_shape (k := Sum.inr k) h1 with ⟨i, t, q1, _⟩ | ⟨x, t, q1, q2⟩
        · exact nomatch q1
        · obtain rfl := Sum.inr.inj q1
          exact ⟨b2 :: us, .cons rv r1, .cons ⟨⟨t, q2⟩, h2⟩ r2⟩
/-- C(**d) with the names ks in d -/
def tMakeSS (C : Addr) (ks : List Str) (sp : Sp) (E : XK) (te : TE) : TE := fun σ H Q => ∀ p, H p = none → te σ (upd H p (.dK [])) fun y H1 => ∃ b kvs vs, y = .ref b ∧ H1 b = some (.dK kvs) ∧ b ≠ p ∧ H1 p = some (.dK []) ∧
  mergeK [] kvs = ((ks.zip vs).map fun q => ((Sum.inr q.1 : Key), q.2)) ∧ vs.length = ks.length ∧ ∀ H2, H2 = upd H1 p (.dK (mergeK [] kvs)) → ∀ x dx, H2 x = none → H2 dx = none → dx ≠ x →
    sp (.ref x :: vs) (upd (upd H2 dx (.own x)) x (.ins C dx [])) (fun v H3 => v = .non ∧ Q (.ref x) H3) E
section
variable {X : Cx} {CX : CXT} {k : Nat} {f C : Addr} {sp : Sp} {E : XK} {x : Str} {pp pos kpos : Pos} {e : Expr} {ks : List Str} {te : TE}
theorem pe_makeSS (M : Mk X.K C f) (F : FnK X.prog X.w X.K X.mg X.base CX k f 1 ks sp) (hr : Room (k + 1) X.A) (hg : Gl X x) (hm : X.mg x = some (.ref C)) (hx : Passes CX X E) (he : PE X e te) (hdb : (x == ("__debug__" : Str)) = false := by decide) :
    PE X (.Call (.Name x pp) [] [⟨none, e, kpos⟩] pos) (tMakeSS C ks sp E te) := by
  refine ⟨fun pins s σ H Q I h => ?_⟩
  refine wpAny_Call_Name_kw (ld_glob I hg hm ?_ hdb)
  show wpAny _ _ (callWith pos (.ref C) [] [] [(none, do let v ← eval e X.env; standAt pos; pure v)]) _ _ s
  have hn := I.hok.fresh (Nat.le_refl s.heap.objs.size)
  have I1 := I.laid (a := s.heap.objs.size) (o := .dK []) (h' := s.heap.push { cls := .type "dict", data := .dict #[] }) (t' := s.toks) (fun _ _ q => Heap.get?_push_of_some _ q) (Nat.le_refl _) (dk_empty s.heap I.big)
  refine ss_call (P := X.K.In) rfl (PySem.W.keeps_K M.kp) (evalArgs_ss ?_)
  refine wpAny_bind (thn (he.run pins _ σ _ _ I1 (h _ hn)) fun u s1 ⟨y, H1, I2, ry, b, kvs, vs, ey, eb, ne, ep, ek, hl, q⟩ => wpAny_bind (wpAny_standAt (wpAny_pure fun E' => ?_)))
  subst ey
  obtain rfl : u = Value.ref b := ry
  have hl2 : kvs.length ≤ sizeLine := (dk_of I2.hok eb).1
  refine d_merge I2 ep eb ne (fun _ => rfl) (by rw [List.length_nil, Nat.zero_add]; exact hl2) fun s2 I3 => ?_
  obtain ⟨_, _, rs, rk, o, es, epc, ho, hc, hd, hk, hp, hnd⟩ := dk_of I3.hok upd_same
  rw [ek] at rk
  obtain ⟨us, rv, pr⟩ := kv_names hl rk hp
  exact kwIn ho hd pr ⟨I3.kIn, run_makeKW M F hr hx I3 rv (q _ rfl)⟩
end
end DD

set_option Elab.async false
set_option linter.all false
set_option maxRecDepth 100000
set_option maxHeartbeats 2000000
/-! the data layer: calls by names -/
namespace DL
open PySem PySem.Spec PyProof.Rows L2 DD
def pick {α : Type} (d : α) (l : List α) (π : List Nat) : List α := π.map fun i => l.getD i d
@[simp] theorem pick_nil {α : Type} (d : α) (l : List α) : pick d l [] = [] := rfl
@[simp] theorem pick_cons {α : Type} (d : α) (l : List α) (i : Nat) (π : List Nat) : pick d l (i :: π) = l.getD i d :: pick d l π := rfl
theorem pick_len {α : Type} {d : α} {l : List α} {π : List Nat} : (pick d l π).length = π.length := List.length_map ..
theorem pick_map {α β : Type} {f : α → β} {d : α} {e : β} {l : List α} : ∀ {π : List Nat}, (∀ i ∈ π, i < l.length) → pick e (l.map f) π = (pick d l π).map f
  | [], _ => rfl
  | i :: π, h => by
    rw [pick_cons, pick_cons, List.map_cons, pick_map fun j hj => h j (List.mem_cons_of_mem _ hj)]
    have hi := h i List.mem_cons_self
    rw [List.getD_eq_getElem?_getD, List.getD_eq_getElem?_getD, List.getElem?_map, List.getElem?_eq_getElem hi]
    rfl
theorem pick_shift {α : Type} {d x : α} {l : List α} : ∀ {π : List Nat}, (∀ i ∈ π, i ≠ 0) → pick d (x :: l) π = pick d l (π.map (· - 1))
  | [], _ => rfl
  | 0 :: π, h => absurd rfl (h 0 List.mem_cons_self)
  | (i + 1) :: π, h => by
    rw [pick_cons, List.map_cons, pick_cons, pick_shift fun j hj => h j (List.mem_cons_of_mem _ hj)]
    rfl
/-- the arguments in the parameters' order, the defaults dd among them -/
@[simp] def permD (n : Nat) (dd : List D) (π : List Nat) (ρ : En) : En := env0 ρ.length (pick Slot.none (ρ.take n ++ dd.map Slot.val) π)
section
variable {P : Program} {w : World} {K : Fg} {mg : Str → Option Value} {base : Heap} {E : XK} {G H : Hp}
theorem RepA.pick {vs : List V} {ds : List D} (r : RepA K G vs ds) : ∀ {π : List Nat}, (∀ i ∈ π, i < vs.length) → RepA K G (DL.pick .non vs π) (DL.pick .non ds π)
  | [], _ => .nil
  | i :: π, h => by
    rw [pick_cons, pick_cons]
    refine .cons ?_ (RepA.pick r fun j hj => h j (List.mem_cons_of_mem _ hj))
    have hi := h i List.mem_cons_self
    obtain ⟨v, h1, h2⟩ := r.get (i := i) (List.getElem?_eq_getElem (by rw [← r.len]; exact hi))
    rw [List.getD_eq_getElem?_getD, List.getD_eq_getElem?_getD, h1, List.getElem?_eq_getElem (by rw [← r.len]; exact hi)]
    exact h2
theorem perm_env {m n : Nat} {ss : List Slot} {dd : List D} {π : List Nat} (hn : ss.length = n) (hm : n ≤ m) : permD n dd π (env0 m ss) = env0 m (pick Slot.none (ss ++ dd.map Slot.val) π) := by
  have hl : (env0 m ss).length = m := by
    unfold env0
    rw [List.length_append, List.length_replicate]
    omega
  unfold permD
  rw [hl]
  congr 1
  unfold env0
  rw [List.take_left' hn]
/-- a promise that all arguments are values -/
def spV (K : Fg) (n m : Nat) (T : En → SR) : Sp := fun vs H Q E => ∃ G, Same G H ∧ ∃ ds, RepA K G vs ds ∧ vs.length = n ∧ Out K E0 G H none Q (fin (T (env0 m (ds.map .val))))
theorem spV_perm {n m : Nat} {T : En → SR} {dd : List D} {dvs vs : List V} {π : List Nat} {Q : VK} (hr : ∀ G, RepA K G dvs dd) (hm : n ≤ m) (hπ : ∀ i ∈ π, i < n + dd.length) (h : spV K n m (fun ρ => T (permD n dd π ρ)) vs H Q E) :
    spD K π.length m T (pick .non (vs ++ dvs) π) H Q E0 := by
  obtain ⟨G, s, ds, r, hn, o⟩ := h
  have hπ' : ∀ i ∈ π, i < (vs ++ dvs).length := fun i hi => by
    rw [List.length_append, hn, (hr G).len]
    exact hπ i hi
  refine ⟨G, s, .inl ⟨pick .non (ds ++ dd) π, (r.app (hr G)).pick hπ', pick_len, ?_⟩⟩
  dsimp only at o
  rw [perm_env (by rw [List.length_map, ← r.len, hn]) hm, ← List.map_append, pick_map (d := .non) fun i hi => by
    have := hπ' i hi
    rw [← (r.app (hr G)).len]
    exact this] at o
  exact o
theorem spD_perm {n m : Nat} {T : En → SR} {dd : List D} {dvs vs : List V} {π : List Nat} {Q : VK} (hr : ∀ G, RepA K G dvs dd) (hm : n ≤ m) (h0 : 0 < n) (hπ : ∀ i ∈ π, 0 < i ∧ i < n + dd.length) (h : spD K n m (fun ρ => T (permD n dd (0 :: π) ρ)) vs H Q E) :
    spD K (0 :: π).length m T (pick .non (vs ++ dvs) (0 :: π)) H Q E := by
  obtain ⟨G, s, h⟩ := h
  rcases h with ⟨ds, r, hn, o⟩ | ⟨a, u, ws, ds, rfl, r, hn, hg, ho, o⟩
  · have hπ' : ∀ i ∈ 0 :: π, i < (vs ++ dvs).length := fun i hi => by
      rw [List.length_append, hn, (hr G).len]
      rcases List.mem_cons.mp hi with z | hi
      · omega
      · exact (hπ i hi).2
    refine ⟨G, s, .inl ⟨pick .non (ds ++ dd) (0 :: π), (r.app (hr G)).pick hπ', pick_len, ?_⟩⟩
    dsimp only at o
    rw [perm_env (by rw [List.length_map, ← r.len, hn]) hm, ← List.map_append, pick_map (d := .non) fun i hi => by
      have := hπ' i hi
      rw [← (r.app (hr G)).len]
      exact this] at o
    exact o
  · have hπ' : ∀ i ∈ π.map (· - 1), i < (ws ++ dvs).length := fun i hi => by
      obtain ⟨j, hj, rfl⟩ := List.mem_map.mp hi
      have := hπ j hj
      rw [List.length_append, (hr G).len]
      omega
    refine ⟨G, s, .inr ⟨a, u, pick .non (ws ++ dvs) (π.map (· - 1)), pick .non (ds ++ dd) (π.map (· - 1)), ?_, (r.app (hr G)).pick hπ', ?_, hg, ho, ?_⟩⟩
    · rw [List.cons_append, pick_cons, pick_shift fun i hi => Nat.ne_of_gt (hπ i hi).1]
      rfl
    · rw [pick_len, List.length_map, List.length_cons]
    · dsimp only at o
      rw [perm_env (by rw [List.length_cons, List.length_map, ← r.len, hn]) hm, List.cons_append, ← List.map_append, pick_cons, pick_shift fun i hi => Nat.ne_of_gt (hπ i hi).1, pick_map (d := .non) fun i hi => by
        have := hπ' i hi
        rw [← (r.app (hr G)).len]
        exact this] at o
      exact o
theorem spV_len {n m : Nat} {T : En → SR} {vs : List V} {Q : VK} (h : spV K n m T vs H Q E) : vs.length = n := by
  obtain ⟨G, s, ds, r, hn, o⟩ := h
  exact hn
end
section
variable {P : Program} {w : World} {K : Fg} {mg : Str → Option Value} {base : Heap} {x qual : Str} {st : Stmt} {f : Addr} {N ps ks : List Str} {k n : Nat} {T : En → SR} {π : List Nat}
theorem pick_vals {vs : List V} {us : List Value} (r : Vals vs us) : ∀ {π : List Nat}, Vals (pick .non vs π) (pick .none us π)
  | [] => .nil
  | i :: π => by
    rw [pick_cons, pick_cons]
    refine .cons ?_ (pick_vals r)
    rw [List.getD_eq_getElem?_getD, List.getD_eq_getElem?_getD]
    cases e : vs[i]? with
    | some v =>
      obtain ⟨u, h1, h2⟩ := r.get e
      rw [h1]
      exact h2
    | none =>
      rw [List.getElem?_eq_none (by rw [← r.length]; exact List.getElem?_eq_none_iff.mp e)]
      exact rfl
/-- a def without defaults, called by names; its first argument may be lent -/
theorem mkDK (F : ∃ fd, Fun K x qual st f fd) (S : FnScope N ps (defScope st)) (hN : ps.length ≤ N.length) (hm : n + ks.length ≤ N.length) (h0 : 0 < n + ks.length) (hl : (0 :: π).length = ps.length) (hπ : ∀ i ∈ π, 0 < i ∧ i < n + ks.length)
    (hb : ∀ (kV doc pm : Value) (an : Option Addr) (cdv ct : Value) (us ws : List Value), us.length = n → ws.length = ks.length → bindArgs (PySem.W.fnOf x qual (defArgs st) (defBody st) (defScope st) .none kV doc pm an cdv ct) ⟨us, ks.zip ws⟩ = pure (ps.zip (pick .none (us ++ ws) (0 :: π))))
    (hbody : ∀ (cdv : Value) (A : Around) (outer : List Env) (s : Shared) (H : Hp) (E : XK), Room k (A.deeper (envOfC qual (defScope st) s.heap.objs.size f cdv)) →
      ∃ t, PSs (cxOf CX0 P w K mg base N qual (defScope st) f cdv A outer s H E).nox (defBody st) t ∧ LS K E0 t T) : FnK P w K mg base CX0 (k + 1) f n ks (spD0 K (n + ks.length) N.length (fun ρ => T (permD (n + ks.length) [] (0 :: π) ρ))) := by
  obtain ⟨fd, F⟩ := F
  have G : FnOk P w K mg base CX0 (k + 1) f fd ps (spD0 K ps.length N.length T) := F.ok S (fun vs H Q E h => spD_len h) fun cdv A outer s H vs Q E hr hs => by
    obtain ⟨t, h1, h2⟩ := hbody cdv A outer s H E hr
    exact ⟨t, h1, spD_run hN h2 hs⟩
  obtain ⟨oc, od, kV, doc, pm, an, cdv, ct, osl, rfl, lk, hcd⟩ := F.ex
  refine FnOk.kw (g := fun us ws => pick .none (us ++ ws) (0 :: π)) (gV := fun vs zs => pick .non (vs ++ zs) (0 :: π)) G ⟨fun s us ws _ l1 l2 => .of_eq (hb kV doc pm an cdv ct us ws l1 l2), fun r1 r2 => pick_vals (r1.append r2)⟩ (fun vs H Q E h => spD_len h) fun vs zs H Q E l1 l2 h => ?_
  have := spD_perm (E := E0) (T := T) (dd := []) (dvs := []) (fun _ => .nil) hm h0 (fun i hi => hπ i hi) h
  rw [List.append_nil, hl] at this
  exact this
/-- .. all arguments values -/
theorem mkVK (F : ∃ fd, Fun K x qual st f fd) (S : FnScope N ps (defScope st)) (hN : ps.length ≤ N.length) (hm : n + ks.length ≤ N.length) (hl : π.length = ps.length) (hπ : ∀ i ∈ π, i < n + ks.length)
    (hb : ∀ (kV doc pm : Value) (an : Option Addr) (cdv ct : Value) (us ws : List Value), us.length = n → ws.length = ks.length → bindArgs (PySem.W.fnOf x qual (defArgs st) (defBody st) (defScope st) .none kV doc pm an cdv ct) ⟨us, ks.zip ws⟩ = pure (ps.zip (pick .none (us ++ ws) π)))
    (hbody : ∀ (cdv : Value) (A : Around) (outer : List Env) (s : Shared) (H : Hp) (E : XK), Room k (A.deeper (envOfC qual (defScope st) s.heap.objs.size f cdv)) →
      ∃ t, PSs (cxOf CX0 P w K mg base N qual (defScope st) f cdv A outer s H E).nox (defBody st) t ∧ LS K E0 t T) : FnK P w K mg base CX0 (k + 1) f n ks (spV K (n + ks.length) N.length (fun ρ => T (permD (n + ks.length) [] π ρ))) := by
  obtain ⟨fd, F⟩ := F
  have G : FnOk P w K mg base CX0 (k + 1) f fd ps (spD0 K ps.length N.length T) := F.ok S (fun vs H Q E h => spD_len h) fun cdv A outer s H vs Q E hr hs => by
    obtain ⟨t, h1, h2⟩ := hbody cdv A outer s H E hr
    exact ⟨t, h1, spD_run hN h2 hs⟩
  obtain ⟨oc, od, kV, doc, pm, an, cdv, ct, osl, rfl, lk, hcd⟩ := F.ex
  refine FnOk.kw (g := fun us ws => pick .none (us ++ ws) π) (gV := fun vs zs => pick .non (vs ++ zs) π) G ⟨fun s us ws _ l1 l2 => .of_eq (hb kV doc pm an cdv ct us ws l1 l2), fun r1 r2 => pick_vals (r1.append r2)⟩ (fun vs H Q E h => spV_len h) fun vs zs H Q E l1 l2 h => ?_
  have := spV_perm (T := T) (dd := []) (dvs := []) (fun _ => .nil) hm (fun i hi => hπ i hi) h
  rw [List.append_nil, hl] at this
  exact this
/-- a def with defaults, called by names -/
theorem mkDDK {dvs : List V} {dd : List D} (F : ∃ fd, FunD K x qual (defArgs st) (defBody st) (defScope st) dvs [] f fd) (hd : dvs ≠ []) (S : FnScope N ps (defScope st)) (hN : ps.length ≤ N.length) (hm : n + ks.length ≤ N.length) (h0 : 0 < n + ks.length) (hl : (0 :: π).length = ps.length)
    (hr : ∀ G, RepA K G dvs dd) (hπ : ∀ i ∈ π, 0 < i ∧ i < n + ks.length + dd.length)
    (hb : ∀ (T : Addr) (kV doc pm : Value) (an : Option Addr) (cdv ct : Value) (us its ws : List Value), us.length = n → its.length = dvs.length → ws.length = ks.length →
      ∃ k, bindArgs (PySem.W.fnOf x qual (defArgs st) (defBody st) (defScope st) (.ref T) kV doc pm an cdv ct) ⟨us, ks.zip ws⟩ = seqItems? (.ref T) >>= k ∧ k (some its.toArray) = pure (ps.zip (pick .none (us ++ ws ++ its) (0 :: π))))
    (hbody : ∀ (cdv : Value) (A : Around) (outer : List Env) (s : Shared) (H : Hp) (E : XK), Room k (A.deeper (envOfC qual (defScope st) s.heap.objs.size f cdv)) →
      ∃ t, PSs (cxOf CX0 P w K mg base N qual (defScope st) f cdv A outer s H E) (defBody st) t ∧ LS K E0 t T) : FnK P w K mg base CX0 (k + 1) f n ks (spD0 K (n + ks.length) N.length (fun ρ => T (permD (n + ks.length) dd (0 :: π) ρ))) := by
  obtain ⟨fd, F⟩ := F
  have G : FnOk P w K mg base CX0 (k + 1) f fd ps (spD0 K ps.length N.length T) := F.ok S (fun vs H Q E h => spD_len h) fun cdv A outer s H vs Q E hr hs => by
    obtain ⟨t, h1, h2⟩ := hbody cdv A outer s H E hr
    exact ⟨t, h1, spD_run hN h2 hs⟩
  obtain ⟨oc, od, dV, kV, doc, pm, an, cdv, ct, osl, rfl, lk, hcd, hD, hK⟩ := F.ex
  rcases hD with ⟨e, _⟩ | ⟨_, T', o, its, m', rfl, lT, oT, rT⟩
  · exact absurd e hd
  · refine FnOk.kw (g := fun us ws => pick .none (us ++ ws ++ its) (0 :: π)) (gV := fun vs zs => pick .non (vs ++ zs ++ dvs) (0 :: π)) G ⟨fun s us ws X l1 l2 => ?_, fun r1 r2 => pick_vals ((r1.append r2).append rT)⟩ (fun vs H Q E h => spD_len h) fun vs zs H Q E l1 l2 h => ?_
    · obtain ⟨k, e1, e2⟩ := hb T' kV doc pm an cdv ct us its ws l1 rT.length.symm l2
      refine BindsTo.of_looks fun M => ?_
      rw [e1]
      exact looks_items X lT oT (.of_pure e2)
    · have := spD_perm (E := E0) (T := T) hr hm h0 (fun i hi => hπ i hi) h
      rw [hl] at this
      exact this
end
section
variable {K : Fg} {n m : Nat} {T : En → SR} {E' : XK} {t : TA} {A : En → Res (List X)}
theorem Lz_callV (ha : LA K E0 t A) : LE K E0 (tCallR (spV K n m T) E' t) (dCall n m T A) := by
  refine LG.bind (k := fun vs σ H (Q : VK) => spV K n m T vs H Q E') ha fun F G H σ ρ vs xs Q R hx w => ?_
  cases e : toVals ρ xs with
  | none => rw [e] at w; exact w.elim
  | some p =>
    obtain ⟨ds, ρ2⟩ := p
    rw [e] at w
    dsimp only at w
    obtain ⟨G1, R1, s1, r1⟩ := R.toVals hx e
    split at w
    · rename_i hn
      exact ⟨G1, R1.gh, ds, r1, by rw [r1.len, hn], callV_out R1 (w.mono s1)⟩
    · exact w.elim
end
end DL

set_option Elab.async false
set_option linter.all false
set_option maxRecDepth 100000
set_option maxHeartbeats 2000000
/-! the data layer: a rule but for some of its arguments -/
namespace DL
open PySem PySem.Spec PyProof.Rows L2 DD
abbrev fiveN : List Str := ["step", "gap", "least", "private", "hours"]
abbrev tBut (K : Fg) (C : Addr) (spI : Sp) : TS :=
  tSeq (tAsg (tDisp [(tC (.str "step"), tFld K (tVar 0) "step"), (tC (.str "gap"), tFld K (tVar 0) "gap"), (tC (.str "least"), tFld K (tVar 0) "least"), (tC (.str "private"), tFld K (tVar 0) "private"), (tC (.str "hours"), tFld K (tVar 0) "hours")]) (gName 2))
    (tSeq (tAsg (tStar2 (tVar 2) (tVar 1)) (gName 3)) (tRet (tMakeSS C fiveN spI E0 (tVar 3))))
abbrev ownD (v1 v2 v3 v4 v5 : V) : List (Key × V) := [(Sum.inr "step", v1), (Sum.inr "gap", v2), (Sum.inr "least", v3), (Sum.inr "private", v4), (Sum.inr "hours", v5)]
abbrev kwL (ks : List Str) (zs : List V) : List (Key × V) := (ks.zip zs).map fun q => ((Sum.inr q.1 : Key), q.2)
section
variable {P : Program} {w : World} {K : Fg} {mg : Str → Option Value} {base : Heap} {E : XK} {G H : Hp}
theorem but_reads {C a d dx : Addr} {fs : List (Str × V)} {v1 v2 v3 v4 v5 : V} {ks : List Str} {zs mv : List V} {spI : Sp} {Q : VK} (hc : Cls K C) (hn : ∀ f ∈ fiveN, NoAttr K C f) (ea : H a = some (.ins C dx fs)) (l1 : fs.lookup ("step" : Str) = some v1) (l2 : fs.lookup ("gap" : Str) = some v2)
    (l3 : fs.lookup ("least" : Str) = some v3) (l4 : fs.lookup ("private" : Str) = some v4) (l5 : fs.lookup ("hours" : Str) = some v5) (ed : H d = some (kwD ks zs)) (hz : ks.length ≤ 5) (em : mergeK [] (mergeK (mergeK [] (mergeK [] (ownD v1 v2 v3 v4 v5))) (kwL ks zs)) = kwL fiveN mv) (hm : mv.length = 5)
    (hq : ∀ H5, (∀ b o, H b = some o → H5 b = some o) → ∀ x dx, H5 x = none → H5 dx = none → dx ≠ x → spI (.ref x :: mv) (upd (upd H5 dx (.own x)) x (.ins C dx [])) (fun v H3 => v = .non ∧ Q (.ref x) H3) E0) :
    tBut K C spI { nx := fun _ H' => Q .non H', rt := Q } [some (.ref a), some (.ref d), none, none] H := by
  intro p0 n0
  have a0 : a ≠ p0 := fun z => by rw [z, n0] at ea; cases ea
  have d0 : d ≠ p0 := fun z => by rw [z, n0] at ed; cases ed
  have ea0 : upd H p0 (.dK []) a = some (.ins C dx fs) := by rw [upd_ne a0]; exact ea
  refine ⟨_, rfl, a, C, dx, fs, v1, rfl, ea0, hc, hn _ (by simp), l1, ?_⟩
  refine ⟨_, rfl, a, C, dx, fs, v2, rfl, ea0, hc, hn _ (by simp), l2, ?_⟩
  refine ⟨_, rfl, a, C, dx, fs, v3, rfl, ea0, hc, hn _ (by simp), l3, ?_⟩
  refine ⟨_, rfl, a, C, dx, fs, v4, rfl, ea0, hc, hn _ (by simp), l4, ?_⟩
  refine ⟨_, rfl, a, C, dx, fs, v5, rfl, ea0, hc, hn _ (by simp), l5, ?_⟩
  refine ⟨upd_same, ownD v1 v2 v3 v4 v5, rfl, (by show 5 ≤ 15; decide), ?_⟩
  generalize hO : mergeK [] (ownD v1 v2 v3 v4 v5) = O1 at em ⊢
  have lO : O1.length ≤ 5 := by
    have := length_mergeK (ownD v1 v2 v3 v4 v5) []
    rw [hO] at this
    simpa using this
  show ∀ p, _ → _
  intro p1 n1
  have n1' : p0 ≠ p1 := fun z => by rw [← z, upd_same] at n1; cases n1
  have n1H : H p1 = none := by
    rw [upd_ne (Ne.symm n1'), upd_ne (Ne.symm n1')] at n1
    exact n1
  have a1 : a ≠ p1 := fun z => by rw [z, n1H] at ea; cases ea
  have d1 : d ≠ p1 := fun z => by rw [z, n1H] at ed; cases ed
  refine ⟨_, rfl, p0, O1, rfl, by rw [upd_ne n1', upd_same], n1', upd_same, ?_⟩
  refine ⟨_, rfl, d, kwL ks zs, rfl, by rw [upd_ne d1, upd_ne d1, upd_ne d0, upd_ne d0]; exact ed, d1, upd_same, ?_, ?_⟩
  · have : (kwL ks zs).length ≤ 5 := by
      rw [List.length_map, List.length_zip]
      omega
    have h2 : (10 : Nat) ≤ sizeLine := by decide
    omega
  generalize hM : mergeK (mergeK [] O1) (kwL ks zs) = M at em ⊢
  show ∀ p, _ → _
  intro p2 n2
  have n2' : p1 ≠ p2 := fun z => by rw [← z, upd_same] at n2; cases n2
  refine ⟨_, rfl, p1, M, mv, rfl, by rw [upd_ne n2', upd_same], n2', upd_same, em, hm, ?_⟩
  intro H2 e2 x dx' nx ndx ne
  refine hq H2 (fun b o hb => ?_) x dx' nx ndx ne
  have hb0 : b ≠ p0 := fun z => by rw [z, n0] at hb; cases hb
  have hb1 : b ≠ p1 := fun z => by rw [z, n1H] at hb; cases hb
  have hb2 : b ≠ p2 := fun z => by
    rw [z] at hb hb0 hb1
    simp only [upd_ne hb1, upd_ne hb0, hb] at n2
    cases n2
  rw [e2, upd_ne hb2, upd_ne hb2, upd_ne hb1, upd_ne hb1, upd_ne hb1, upd_ne hb0, upd_ne hb0]
  exact hb
end
@[simp] def slD : En → List D
  | [] => []
  | .val d :: r => d :: slD r
  | _ :: _ => []
/-- p.but(k = v, ..): Rule(..) of the five, those with a place beyond 4 told by name -/
@[simp] def dBut (C : Addr) (m : Nat) (Ti : En → SR) (π : List Nat) : En → SR := fun ρ => match ρ with
  | .val (.ins C' ks es) :: zs => if C' = C then match getF "step" ks es, getF "gap" ks es, getF "least" ks es, getF "private" ks es, getF "hours" ks es with
    | some d1, some d2, some d3, some d4, some d5 => match makeV (fin (Ti (env0 m (.bor (.ins C [] []) :: (pick .non ([d1, d2, d3, d4, d5] ++ slD zs) π).map .val)))) ρ with
      | .ok x ρ' => .rt x ρ'
      | .err x ρ' => .err x ρ'
      | .stuck => .stuck
    | _, _, _, _, _ => .stuck
  else .stuck
  | _ => .stuck
theorem slD_vals : ∀ {ds : List D}, slD (ds.map Slot.val) = ds
  | [] => rfl
  | d :: ds => by
    rw [List.map_cons]
    show d :: slD (ds.map Slot.val) = _
    rw [slD_vals]
section
variable {P : Program} {w : World} {K : Fg} {mg : Str → Option Value} {base : Heap} {E : XK} {G H : Hp}
theorem but_sp {C : Addr} {m : Nat} {Ti : En → SR} {π : List Nat} {ks : List Str} {vs : List V} {Q : VK} (hC : Cls K C) (hn : ∀ f ∈ fiveN, NoAttr K C f) (hz : ks.length ≤ 5) (hπ : ∀ i ∈ π, i < 5 + ks.length) (hl : π.length = 5)
    (em : ∀ (v1 v2 v3 v4 v5 : V) (zs : List V), zs.length = ks.length → mergeK [] (mergeK (mergeK [] (mergeK [] (ownD v1 v2 v3 v4 v5))) (kwL ks zs)) = kwL fiveN (pick .non ([v1, v2, v3, v4, v5] ++ zs) π))
    (h : spD0 K (1 + ks.length) (1 + ks.length) (dBut C m Ti π) vs H Q E) :
    vs.length = 1 + ks.length ∧ ∀ d, H d = none → tBut K C (spD0 K 6 m Ti) { nx := fun _ H' => Q .non H', rt := Q } (start ["self", "others", "own", "told"] (vs.take 1 ++ [V.ref d])) (upd H d (kwD ks (vs.drop 1))) := by
  obtain ⟨G, s, h⟩ := h
  rcases h with ⟨ds, r, hv, o⟩ | ⟨a, u, ws, ds, rfl, r, hv, hg, ho, o⟩
  rotate_left
  · exact o.elim
  refine ⟨hv, fun d nd => ?_⟩
  cases r with
  | nil => rw [List.length_nil] at hv; omega
  | @cons v0 zs d0 dz r0 r =>
    have hzl : zs.length = ks.length := by rw [List.length_cons] at hv; omega
    have hρ : env0 (1 + ks.length) ((d0 :: dz).map Slot.val) = .val d0 :: dz.map Slot.val := by
      unfold env0
      rw [List.length_map, List.length_cons, ← r.len, hzl, List.map_cons, show 1 + ks.length - (ks.length + 1) = 0 by omega]
      simp
    rw [hρ] at o
    cases d0 with
    | ins C' kf es =>
      unfold dBut at o
      dsimp only at o
      split at o
      rotate_left
      · exact o.elim
      rename_i hc
      subst hc
      split at o
      rotate_left
      · exact o.elim
      rename_i d1 d2 d3 d4 d5 g1 g2 g3 g4 g5
      cases r0 with
      | @ins a _ dx fs _ _ h1 h2 h3 =>
        obtain ⟨v1, l1, q1⟩ := getF_rep h2 h3 g1
        obtain ⟨v2, l2, q2⟩ := getF_rep h2 h3 g2
        obtain ⟨v3, l3, q3⟩ := getF_rep h2 h3 g3
        obtain ⟨v4, l4, q4⟩ := getF_rep h2 h3 g4
        obtain ⟨v5, l5, q5⟩ := getF_rep h2 h3 g5
        have r5 : RepA K G (pick .non ([v1, v2, v3, v4, v5] ++ zs) π) (pick .non ([d1, d2, d3, d4, d5] ++ dz) π) :=
          RepA.pick (RepA.app (.cons q1 (.cons q2 (.cons q3 (.cons q4 (.cons q5 .nil))))) r) fun i hi => by
            rw [List.length_append, hzl]
            exact hπ i hi
        have ea : H a = some (.ins C' dx fs) := s _ _ h1
        have ad : a ≠ d := fun z => by rw [z, nd] at ea; cases ea
        show tBut K C' (spD0 K 6 m Ti) _ [some (.ref a), some (.ref d), none, none] (upd H d (kwD ks zs))
        refine but_reads (ks := ks) (zs := zs) (mv := pick .non ([v1, v2, v3, v4, v5] ++ zs) π) hC hn (by rw [upd_ne ad]; exact ea) l1 l2 l3 l4 l5 upd_same hz (em v1 v2 v3 v4 v5 zs hzl) (by rw [pick_len, hl]) fun H5 k5 x dx' nx ndx ne => ?_
        have k5' : ∀ b o, H b = some o → H5 b = some o := fun b o hb => k5 b o (by
          rw [upd_ne (fun z => by rw [z, nd] at hb; cases hb)]
          exact hb)
        have R0 : Rl K ⟨H, G, fun _ => none, fun _ => none⟩ G H (start (List.replicate (zs.length + 1) Str.empty) (.ref a :: zs)) (env0 (List.replicate (zs.length + 1) Str.empty).length ((D.ins C' kf es :: dz).map .val)) :=
          ent0 s (.cons (.ins h1 h2 h3) r) (by rw [List.length_replicate, List.length_cons]; exact Nat.le_refl _)
        have e0 : env0 (List.replicate (zs.length + 1) Str.empty).length ((D.ins C' kf es :: dz).map Slot.val) = .val (.ins C' kf es) :: dz.map Slot.val := by
          rw [List.length_replicate, hzl, Nat.add_comm]
          exact hρ
        rw [e0] at R0
        have R : Rl K ⟨H, G, fun _ => none, fun _ => none⟩ G H5 (start (List.replicate (zs.length + 1) Str.empty) (.ref a :: zs)) (.val (.ins C' kf es) :: dz.map .val) :=
          R0.after (ch := fun _ => False) (Same.refl G) (fun b o e => k5' b o (s b o e)) (fun b o e e' => by rw [e] at e'; cases e') (fun b o e _ => k5' b o e) fun b z => z.elim
        refine make_sp R r5 (by rw [← r5.len, pick_len, hl]) nx ndx ne ?_
        rw [slD_vals] at o
        cases em : makeV (fin (Ti (env0 m (.bor (.ins C' [] []) :: (pick .non ([d1, d2, d3, d4, d5] ++ dz) π).map .val)))) (.val (.ins C' kf es) :: dz.map Slot.val) with
        | stuck => rw [em] at o; exact o.elim
        | err y ρ' =>
          rw [em] at o
          have e1 : ρ' = .val (.ins C' kf es) :: dz.map Slot.val := by
            unfold makeV at em
            split at em <;> first | (split at em <;> cases em) | cases em
            rfl
          subst e1
          exact fun c od G' H' R' _ hx => o c od G' H' (post0 R') hx
        | ok y ρ' =>
          rw [em] at o
          have e1 : (∃ u, y = .new u) ∧ ρ' = .val (.ins C' kf es) :: dz.map Slot.val := by
            unfold makeV at em
            split at em
            · split at em
              · cases em
                exact ⟨⟨_, rfl⟩, rfl⟩
              · cases em
            · cases em
            · cases em
          obtain ⟨⟨u, rfl⟩, rfl⟩ := e1
          intro v G' H' R' _ hx
          obtain ⟨b, e1, e2, e3, e4, _⟩ := hx
          exact o v G' H' (post0 R') ⟨b, e1, e2, e3, e4⟩
    | _ => exact o.elim
end
section
variable {P : Program} {w : World} {K : Fg} {mg : Str → Option Value} {base : Heap}
theorem mkBut {f : Addr} {st : Stmt} {C : Addr} {m k : Nat} {Ti : En → SR} {π : List Nat} {ks : List Str} (F : ∃ fd, Fun K "but" "Rule.but" st f fd) (S : FnScope ["self", "others", "own", "told"] ["self", "others"] (defScope st)) (hnd : ks.Nodup) (hz : ks.length ≤ 5)
    (hb : ∀ (kV doc pm : Value) (an : Option Addr) (cdv ct : Value) (u : Value) (ws : List Value), ws.length = ks.length → bindArgs (PySem.W.fnOf "but" "Rule.but" (defArgs st) (defBody st) (defScope st) .none kV doc pm an cdv ct) ⟨[u], ks.zip ws⟩ =
      ((alloc ({ cls := .type "dict", data := .dict #[] } : Obj) : Sem Addr) >>= fun d => (forIn (ks.zip ws) PUnit.unit fun x _ => (nsSet d x.1 x.2 >>= fun _ => pure (ForInStep.yield PUnit.unit))) >>= fun _ => pure ([("self", u), ("others", Value.ref d)] : List (Str × Value))))
    (hC : Cls K C) (hn : ∀ f ∈ fiveN, NoAttr K C f) (hπ : ∀ i ∈ π, i < 5 + ks.length) (hl : π.length = 5)
    (em : ∀ (v1 v2 v3 v4 v5 : V) (zs : List V), zs.length = ks.length → mergeK [] (mergeK (mergeK [] (mergeK [] (ownD v1 v2 v3 v4 v5))) (kwL ks zs)) = kwL fiveN (pick .non ([v1, v2, v3, v4, v5] ++ zs) π))
    (hbody : ∀ (cdv : Value) (A : Around) (outer : List Env) (s : Shared) (H : Hp) (E : XK), Room k (A.deeper (envOfC "Rule.but" (defScope st) s.heap.objs.size f cdv)) →
      PSs (cxOf CX0 P w K mg base ["self", "others", "own", "told"] "Rule.but" (defScope st) f cdv A outer s H E).nox (defBody st) (tBut K C (spD0 K 6 m Ti))) :
    FnK P w K mg base CX0 (k + 1) f 1 ks (spD0 K (1 + ks.length) (1 + ks.length) (dBut C m Ti π)) := by
  obtain ⟨fd, F⟩ := F
  have hs5 : (5 : Nat) ≤ sizeLine := by decide
  have G := fn_kwd (P := P) (w := w) (mg := mg) (base := base) (sp := fun vs H Q E => tBut K C (spD0 K 6 m Ti) { nx := fun _ H' => Q .non H', rt := Q } (start ["self", "others", "own", "told"] vs) H) F S hnd (by omega) hb
    (fun cdv A outer s H vs Q E hr hs => ⟨_, hbody cdv A outer s H E hr, hs⟩)
  exact ⟨fun vs H Q E h => spD_len h, fun A outer s H us ws vs zs Q E hr e0 r rz ln lk hs => G.run A outer s H us ws vs zs Q E hr e0 r rz ln lk (but_sp hC hn hz hπ hl em hs)⟩
end
theorem bn_step_gap : (Str.ofString "step" = Str.ofString "gap") = False := eq_false (by decide +kernel)
theorem bn_step_least : (Str.ofString "step" = Str.ofString "least") = False := eq_false (by decide +kernel)
theorem bn_step_private : (Str.ofString "step" = Str.ofString "private") = False := eq_false (by decide +kernel)
theorem bn_step_hours : (Str.ofString "step" = Str.ofString "hours") = False := eq_false (by decide +kernel)
theorem bn_gap_step : (Str.ofString "gap" = Str.ofString "step") = False := eq_false (by decide +kernel)
theorem bn_gap_least : (Str.ofString "gap" = Str.ofString "least") = False := eq_false (by decide +kernel)
theorem bn_gap_private : (Str.ofString "gap" = Str.ofString "private") = False := eq_false (by decide +kernel)
theorem bn_gap_hours : (Str.ofString "gap" = Str.ofString "hours") = False := eq_false (by decide +kernel)
theorem bn_least_step : (Str.ofString "least" = Str.ofString "step") = False := eq_false (by decide +kernel)
theorem bn_least_gap : (Str.ofString "least" = Str.ofString "gap") = False := eq_false (by decide +kernel)
theorem bn_least_private : (Str.ofString "least" = Str.ofString "private") = False := eq_false (by decide +kernel)
theorem bn_least_hours : (Str.ofString "least" = Str.ofString "hours") = False := eq_false (by decide +kernel)
theorem bn_private_step : (Str.ofString "private" = Str.ofString "step") = False := eq_false (by decide +kernel)
theorem bn_private_gap : (Str.ofString "private" = Str.ofString "gap") = False := eq_false (by decide +kernel)
theorem bn_private_least : (Str.ofString "private" = Str.ofString "least") = False := eq_false (by decide +kernel)
theorem bn_private_hours : (Str.ofString "private" = Str.ofString "hours") = False := eq_false (by decide +kernel)
theorem bn_hours_step : (Str.ofString "hours" = Str.ofString "step") = False := eq_false (by decide +kernel)
theorem bn_hours_gap : (Str.ofString "hours" = Str.ofString "gap") = False := eq_false (by decide +kernel)
theorem bn_hours_least : (Str.ofString "hours" = Str.ofString "least") = False := eq_false (by decide +kernel)
theorem bn_hours_private : (Str.ofString "hours" = Str.ofString "private") = False := eq_false (by decide +kernel)
end DL

set_option Elab.async false
set_option linter.all false
set_option maxRecDepth 100000
set_option maxHeartbeats 2000000
/-! the data layer: xs[lo:hi:step] of a list -/
namespace DL
open PySem PySem.Spec PyProof.Rows L2 DD
def pickS (xs : List D) (lo hi : Option Int) (st : Int) : List D :=
  (sliceRange (sliceBounds lo hi (some st) xs.length).1 (sliceBounds lo hi (some st) xs.length).2.1 (sliceBounds lo hi (some st) xs.length).2.2).filterMap (xs[·]?)
def opSl3 (st : Int) : D → Option Int → Option Int → Option X
  | .lst ds, lo, hi => if (pickS ds lo hi st).length ≤ sizeLine then some (.new (.lst (pickS ds lo hi st))) else none
  | _, _, _ => none
def dSl3 (st : Int) (A : En → Res X) (L U : En → Res (Option Int)) : En → Res X := fun ρ => (A ρ).bind fun a ρ1 => (L ρ1).bind fun lo ρ2 => (U ρ2).bind fun hi ρ3 => match deref ρ3 a.settle with
  | some d => lift (opSl3 st d lo hi) ρ3
  | none => .stuck
section
variable {K : Fg} {E : XK} {G : Hp} {ta : TE} {A : En → Res X}
theorem pick_rep {vs : List V} {ds : List D} (r : RepA K G vs ds) : ∀ is : List Nat, RepA K G (is.filterMap (vs[·]?)) (is.filterMap (ds[·]?))
  | [] => .nil
  | i :: is => by
    have ih := pick_rep r is
    cases e : ds[i]? with
    | none =>
      have e2 : vs[i]? = none := by
        rw [List.getElem?_eq_none_iff] at e ⊢
        rw [r.len]
        exact e
      rw [List.filterMap_cons_none e, List.filterMap_cons_none e2]
      exact ih
    | some x =>
      obtain ⟨u, h1, h2⟩ := r.get e
      rw [List.filterMap_cons_some e, List.filterMap_cons_some h1]
      exact .cons h2 ih
theorem L_sl3 {st : Int} {tl th : TOp} {L U : En → Res (Option Int)} (ha : LE K E ta A) (hl : LO K E tl L) (hu : LO K E th U) : LE K E (tSl3 K st ta tl th) (dSl3 st A L U) := by
  refine LG.bind (k := fun x σ H (Q : VK) => tl σ H fun l H2 => th σ H2 fun u H3 => ∃ a xs, x = .ref a ∧ SqL K H3 a xs ∧ (pickV xs l u st).length ≤ sizeLine ∧ ∀ p, H3 p = none → Q (.ref p) (upd H3 p (.lst (pickV xs l u st)))) ha fun F G H σ ρ x a Q R hx w => ?_
  obtain ⟨G1, R1, s1, hx1⟩ := R.settle hx
  refine hl F G1 H σ ρ _ R1 ((w.mono s1).bind fun lo lo' G2 H2 ρ2 R2 s2 el w2 => ?_)
  subst el
  refine hu F G2 H2 σ ρ2 _ R2 (w2.bind fun hi hi' G3 H3 ρ3 R3 s3 eu w3 => ?_)
  subst eu
  have hx3 := hx1.keep (H' := H3) (ρ' := ρ3) settle_no (s2.trans s3)
  cases e : deref ρ3 a.settle with
  | none => rw [e] at w3; exact w3.elim
  | some d =>
    rw [e] at w3
    obtain ⟨z, ez, q⟩ := w3.lift
    have hd := R3.deref hx3 e
    unfold opSl3 at ez
    split at ez
    · split at ez
      · rename_i ds hc
        cases ez
        obtain ⟨b, vs, rfl, h, r⟩ := hd.lst R3.gh
        have r' := r.mono R3.gh
        have e : (pickV vs lo hi st).length = (pickS ds lo hi st).length := by
          unfold pickV pickS
          rw [r.len]
          exact (pick_rep r _).len
        refine ⟨b, vs, rfl, .inl (.inl h), by rw [e]; exact hc, fun p np => ?_⟩
        have rr : RepA K G3 (pickV vs lo hi st) (pickS ds lo hi st) := by
          unfold pickV pickS
          rw [r.len]
          exact pick_rep r _
        obtain ⟨R4, r4⟩ := newL R3 np rr
        exact q _ _ _ R4 (Same.refl G3) r4
      · cases ez
    · cases ez
end
/-! a, b = xs, xs a list -/
@[simp] def uLst (n : Nat) (Us : Tgs) : Tg := fun d ρ => match d with
  | .lst ds => if ds.length = n then Us ds ρ else none
  | _ => none
section
variable {K : Fg}
theorem U_lst {vs : List Nat} {gs : TGs} {Us : Tgs} {n : Nat} (hs : LTgs K vs gs Us) : LTg K vs (gLst K n gs) (uLst n Us) := by
  intro F G H σ ρ ρ' v d Q R hr e q
  cases d <;> first | (cases e; done) | skip
  rename_i ds
  simp only [uLst] at e
  split at e
  · rename_i hn
    cases hr with
    | lst h r => exact ⟨_, _, rfl, .inl (.inl (R.gh _ _ h)), by rw [r.len]; exact hn, hs F G H σ ρ ρ' _ _ Q R r e q⟩
  · cases e
theorem pg_lstK {X : Cx} {K : PySem.W.Frag} {es : List Expr} {k : Nat} {t : TGs} {n : Nat} {pos : Pos} (hc : X.calm = true) (h : PGs X es t)
    (hn : (assignEach es X.env).length = n := by rfl) (hst : (assignEach es X.env).findIdx? (·.1) = none := by rfl) (hK : X.K = K := by rfl) : PG X (.Tuple es k pos) (gLst K n t) := hK ▸ pg_lst hc h hn hst
end
/-! o == a text -/
def dEqOS (C : Addr) (m : Nat) (T : En → SR) (A B : En → Res X) : En → Res X := fun ρ => (A ρ).bind fun a ρ1 => (B ρ1).bind fun b ρ2 => match toVal ρ2 a.settle with
  | some (.ins C' ks es, ρ3) => match toVal ρ3 b.settle with
    | some (.str z, ρ4) => if C' = C then callP xBl (fin (T (env0 m [.val (D.ins C' ks es), .val (D.str z)]))) ρ4 else .stuck
    | _ => .stuck
  | _ => .stuck
section
variable {K : Fg} {E' : XK} {ta tb : TE} {A B : En → Res X} {C : Addr} {m : Nat} {T : En → SR}
theorem Lz_eqOS (ha : LE K E0 ta A) (hb : LE K E0 tb B) : LE K E0 (tOp (rEqOS C (spD0 K 2 m T) E') ta tb) (dEqOS C m T A B) := by
  refine LG.bind (k := fun x σ H (Q : VK) => tb σ H fun y H2 => rEqOS C (spD0 K 2 m T) E' x y H2 Q) ha fun F G H σ ρ x a Q R hx w => ?_
  obtain ⟨G1, R1, s1, hx1⟩ := R.settle hx
  have w1 := w.mono s1
  refine hb F G1 H σ ρ _ R1 (w1.bind fun y b G2 H2 ρ2 R2 s2 hy w2 => ?_)
  obtain ⟨G3, R3, s3, hy3⟩ := R2.settle hy
  have hx3 := hx1.keep (H' := H2) (ρ' := ρ2) settle_no (s2.trans s3)
  have w3 := w2.mono s3
  cases e : toVal ρ2 a.settle with
  | none => rw [e] at w3; exact w3.elim
  | some q =>
    obtain ⟨d, ρ3⟩ := q
    rw [e] at w3
    obtain ⟨G4, R4, s4, r4⟩ := R3.toVal hx3 e
    cases d <;> try exact w3.elim
    rename_i C' ks es
    dsimp only at w3
    cases e2 : toVal ρ3 b.settle with
    | none => rw [e2] at w3; exact w3.elim
    | some q2 =>
      obtain ⟨d2, ρ4⟩ := q2
      rw [e2] at w3
      obtain ⟨G5, R5, s5, r5⟩ := R4.toVal (hy3.keep settle_no s4) e2
      cases d2 <;> try exact w3.elim
      rename_i z
      dsimp only at w3
      split at w3
      · rename_i hc
        subst hc
        have r4' := r4
        have r5' := r5
        cases r4 with
        | ins h1 h2 h3 =>
          cases r5 with
          | str _ =>
            refine ⟨_, _, _, _, rfl, rfl, R4.gh _ _ h1, callP_sp (ds := [D.ins _ ks es, D.str z]) R5 (.cons (r4'.mono s5) (.one r5')) rfl (w3.mono (s4.trans s5)) fun x y v G' H' ep hx q => ?_⟩
            obtain ⟨c, rfl, d, rfl, hd⟩ := xBl_ok (G := G) x y ep
            cases hx
            exact ⟨c, rfl, q _ (hd _)⟩
      · exact w3.elim
end
end DL

set_option Elab.async false
set_option linter.all false
set_option maxRecDepth 100000
set_option maxHeartbeats 2000000
/-! the data layer: o[i] by an own __getitem__ -/
namespace DL
open PySem PySem.Spec PyProof.Rows L2 DD
def dIxO (C : Addr) (m : Nat) (T : En → SR) (A B : En → Res X) : En → Res X := fun ρ => (A ρ).bind fun a ρ1 => (B ρ1).bind fun b ρ2 => match toVal ρ2 a.settle with
  | some (.ins C' ks es, ρ3) => match toVal ρ3 b.settle with
    | some (z, ρ4) => if C' = C then callV (fin (T (env0 m [.val (D.ins C' ks es), .val z]))) ρ4 else .stuck
    | none => .stuck
  | _ => .stuck
section
variable {K : Fg} {E' : XK} {ta tb : TE} {A B : En → Res X} {C : Addr} {m : Nat} {T : En → SR}
theorem Lz_ixO (ha : LE K E0 ta A) (hb : LE K E0 tb B) : LE K E0 (tOp (rIxO C (spD0 K 2 m T) E') ta tb) (dIxO C m T A B) := by
  refine LG.bind (k := fun x σ H (Q : VK) => tb σ H fun y H2 => rIxO C (spD0 K 2 m T) E' x y H2 Q) ha fun F G H σ ρ x a Q R hx w => ?_
  obtain ⟨G1, R1, s1, hx1⟩ := R.settle hx
  have w1 := w.mono s1
  refine hb F G1 H σ ρ _ R1 (w1.bind fun y b G2 H2 ρ2 R2 s2 hy w2 => ?_)
  obtain ⟨G3, R3, s3, hy3⟩ := R2.settle hy
  have hx3 := hx1.keep (H' := H2) (ρ' := ρ2) settle_no (s2.trans s3)
  have w3 := w2.mono s3
  cases e : toVal ρ2 a.settle with
  | none => rw [e] at w3; exact w3.elim
  | some q =>
    obtain ⟨d, ρ3⟩ := q
    rw [e] at w3
    obtain ⟨G4, R4, s4, r4⟩ := R3.toVal hx3 e
    cases d <;> try exact w3.elim
    rename_i C' ks es
    dsimp only at w3
    cases e2 : toVal ρ3 b.settle with
    | none => rw [e2] at w3; exact w3.elim
    | some q2 =>
      obtain ⟨d2, ρ4⟩ := q2
      rw [e2] at w3
      obtain ⟨G5, R5, s5, r5⟩ := R4.toVal (hy3.keep settle_no s4) e2
      dsimp only at w3
      split at w3
      · rename_i hc
        subst hc
        have r4' := r4
        cases r4 with
        | ins h1 h2 h3 =>
          exact ⟨_, _, _, rfl, R4.gh _ _ h1, call_sp (ds := [D.ins _ ks es, d2]) R5 (.cons (r4'.mono s5) (.one r5)) rfl (w3.mono (s4.trans s5))⟩
      · exact w3.elim
end
/-! a def that calls itself: nothing is promised where nothing is told -/
theorem fnR_stuck {P : Program} {w : World} {K : Fg} {mg : Str → Option Value} {base : Heap} {CX : CXT} {k n m : Nat} {f : Addr} : FnR P w K mg base CX k f (spD0 K n m fun _ => .stuck) := by
  intro A outer s H us vs Q E hr e0 r h
  obtain ⟨G, _, h⟩ := h
  rcases h with ⟨ds, _, _, o⟩ | ⟨a, o', ws, ds, _, _, _, _, _, o⟩
  · exact o.elim
  · exact o.elim
end DL

set_option Elab.async false
set_option linter.all false
set_option maxRecDepth 100000
set_option maxHeartbeats 2000000
/-! t[::-1] of a tuple -/
namespace DD
open PySem PySem.Spec PyProof.Rows L2 HT
theorem adj_rev (n : Nat) : Builtin.Slice.sliceAdjust none none (-1) (n : Int) = ((n : Int) - 1, -1) := rfl
theorem plc_rev (n : Nat) : Builtin.Slice.slicePlaces ((n : Int) - 1) (-1) (-1) = n := by
  unfold Builtin.Slice.slicePlaces
  have h : ¬ ((-1 : Int) > 0) := by omega
  simp only [h, if_false]
  have e : (((n : Int) - 1 - -1 - 1) / (- -1 : Int) + 1) = n := by
    rw [show (- -1 : Int) = 1 by decide, Int.ediv_one]
    omega
  by_cases z : (n : Int) - 1 > -1
  · rw [if_pos z, e]
    omega
  · rw [if_neg z]
    omega
theorem pk_rev (xs : Array Value) : ((List.range xs.size).filterMap fun (k : Nat) => xs[(((xs.size : Int) - 1) + (k : Int) * (-1)).toNat]?).toArray = xs.toList.reverse.toArray := by
  congr 1
  have e : (List.range xs.size).filterMap (fun (k : Nat) => xs[(((xs.size : Int) - 1) + (k : Int) * (-1)).toNat]?) = (List.range xs.size).filterMap (fun k => xs.toList.reverse[k]?) := by
    have cg : ∀ (L : List Nat) (f g : Nat → Option Value), (∀ k ∈ L, f k = g k) → L.filterMap f = L.filterMap g := by
      intro L f g h
      induction L with
      | nil => rfl
      | cons a L ih => rw [List.filterMap_cons, List.filterMap_cons, h a (by simp), ih fun k hk => h k (by simp [hk])]
    refine cg _ _ _ fun k hk => ?_
    rw [List.mem_range] at hk
    rw [List.getElem?_reverse (by simpa using hk)]
    have : (((xs.size : Int) - 1) + (k : Int) * (-1)).toNat = xs.toList.length - 1 - k := by
      rw [Array.length_toList]
      omega
    rw [this, Array.getElem?_toList]
  rw [e]
  have g : ∀ (l : List Value), (List.range l.length).filterMap (fun k => l[k]?) = l := by
    intro l
    induction l with
    | nil => rfl
    | cons a l ih =>
      rw [List.length_cons, List.range_succ_eq_map, List.filterMap_cons]
      simp only [List.getElem?_cons_zero, List.filterMap_map]
      rw [show ((fun k => (a :: l)[k]?) ∘ Nat.succ) = fun k => l[k]? from funext fun k => by simp, ih]
  have := g xs.toList.reverse
  rw [List.length_reverse, Array.length_toList] at this
  exact this
section
variable {prog : Program} {w : World} {A : Around} {E : Value → Shared → Prop} {s : Shared}
theorem appl_rev {sl : Addr} {n : Nat} {tk : Tok} {Q : Int × Int × Nat → Shared → Prop} (hs : s.heap.IsSliceOf sl .none .none (.int (-1) tk))
    (h : Q ((n : Int) - 1, -1, n) s) : wpAny (model prog w) A (Builtin.Slice.sliceApplied (.ref sl) (pure (n : Int))) Q E s := by
  obtain ⟨oo, ho, hc, hd⟩ := id hs
  unfold Builtin.Slice.sliceApplied Builtin.Slice.sliceFields
  refine wpAny_bind (wpAny_bind (wpAny_field ho hd (x := .none) rfl (wpAny_bind (wpAny_field ho hd (x := .none) rfl (wpAny_bind (wpAny_field ho hd (x := .int (-1) tk) rfl (wpAny_pure ?_)))))))
  refine wpAny_bind (slicePart_ (.int (-1) tk) ?_)
  show wpAny _ _ (if ((-1 : Int) == 0) = true then _ else _) _ _ s
  rw [if_neg (by decide)]
  refine wpAny_bind (slicePart_ .none (wpAny_bind (slicePart_ .none (wpAny_bind (wpAny_pure ?_)))))
  show wpAny _ _ (match Builtin.Slice.sliceAdjust none none (-1) (n : Int) with | (lo, hi) => pure (lo, (-1 : Int), Builtin.Slice.slicePlaces lo hi (-1))) _ _ s
  rw [adj_rev n]
  show wpAny _ _ (pure (((n : Int) - 1), (-1 : Int), Builtin.Slice.slicePlaces ((n : Int) - 1) (-1) (-1))) _ _ s
  rw [plc_rev]
  exact wpAny_pure h
theorem item_tuple_rev {t sl : Addr} {its : Array Value} {tk : Tok} {Q : Value → Shared → Prop} (ht : IsTup s.heap t its) (hs : s.heap.IsSliceOf sl .none .none (.int (-1) tk))
    (h : Q (.ref s.heap.objs.size) { s with heap := s.heap.push { cls := .type "tuple", data := .seq its.toList.reverse.toArray } }) (hz : its.size ≤ sizeLine) :
    wpAny (model prog w) A (getItem (.ref t) (.ref sl)) Q E s := by
  have hk : sizeOk (.seq its.toList.reverse.toArray) := by
    show its.toList.reverse.toArray.size ≤ sizeLine
    rw [List.size_toArray, List.length_reverse, Array.length_toList]
    exact hz
  obtain ⟨oo, ho, hc, hd⟩ := id hs
  have hT : s.TypeIs (.ref sl) "slice" := ⟨oo, ho, hc⟩
  unfold getItem
  try with_reducible refine wpAny_holding ?_
  first | refine wpAny_bind (wpAny_pure ?_) | skip
  refine wpAny_bind (wpAny_sequenceKey ht.typeIs (by decide) (wpAny_bind (wpAny_callSpecial?_slot (name := Str.ofString "__getitem__") ht.typeIs PyProof.Rows.slot_tuple_getitem (wpAny_call_entry PyProof.Rows.slot_tuple_getitem ht.typeIs entry_tuple_getitem ?_ (args_tuple_getitem _ _)))))
  show wpAny _ _ (Builtin.Tuple.tupleItemsOf (.ref t) >>= _) _ _ s
  refine wpAny_bind (tupleItemsOf_ ht (wpAny_bind (wpAny_typeOf hT ?_)))
  rw [if_pos (by decide)]
  refine wpAny_bind (appl_rev (n := its.size) hs ?_)
  have no : ¬ ((((its.size : Int) - 1) == 0 && (-1 : Int) == 1 && its.size == its.size) = true) := by
    intro q
    rw [Bool.and_eq_true, Bool.and_eq_true] at q
    exact absurd (eq_of_beq q.1.2) (by decide)
  show wpAny _ _ (if (((its.size : Int) - 1) == 0 && (-1 : Int) == 1 && its.size == its.size) = true then _ else _) _ _ s
  rw [if_neg no, pk_rev]
  first
    | exact wpAny_bind (m := Builtin.Tuple.tupleExact _) (wpAny_newObj_type (wpAny_pure ⟨_, rfl, wpAny_pure h⟩) hk)
    | exact wpAny_bind (m := Builtin.Tuple.tupleExact _) (wpAny_newObj_type (wpAny_bind (wpAny_pure (wpAny_pure ⟨_, rfl, wpAny_pure h⟩))) hk)
    | exact wpAny_bind (wpAny_bind (m := Builtin.Tuple.tupleExact _) (wpAny_newObj_type (wpAny_pure (wpAny_pure ⟨_, rfl, wpAny_pure h⟩)) hk))
    | exact wpAny_bind (wpAny_bind (m := Builtin.Tuple.tupleExact _) (wpAny_newObj_type (wpAny_pure ⟨_, rfl, wpAny_pure h⟩) hk))
end
theorem vals_rev {xs : List V} {us : List Value} (r : Vals xs us) : Vals xs.reverse us.reverse := by
  induction xs generalizing us with
  | nil => cases r; exact .nil
  | cons x xs ih =>
    cases r with
    | cons h r =>
      rw [List.reverse_cons, List.reverse_cons]
      exact (ih r).append (.cons h .nil)
/-- t[::-1] -/
def tRev (K : PySem.W.Frag) (te : TE) : TE := fun σ H Q => te σ H fun x H1 => ∃ a xs, x = .ref a ∧ SqT K H1 a xs ∧ ∀ p, H1 p = none → Q (.ref p) (upd H1 p (.tup xs.reverse))
theorem pe_rev {X : Cx} {e : Expr} {te : TE} {k : Nat} {p0 p1 p2 pos : Pos} (he : PE X e te) :
    PE X (.Subscript e (.Slice none none (some (.UnaryOp .USub (.Constant (.int 1) k p0) p1)) p2) pos) (tRev X.K te) := by
  refine ⟨fun pins s σ H Q I h => ?_⟩
  refine Subscript_ (thn (he.run pins s σ H _ I h) fun v s1 ⟨x, H1, I1, r1, q1⟩ => ?_)
  have hs : PO X (some (.UnaryOp .USub (.Constant (.int 1) k p0) p1)) (tPart (tUn (rU fun i => .int (-i)) (tC (.int 1)))) := po_some (pe_un un_neg pe_int)
  refine wpAny_Slice (thn (po_none.run pins s1 σ H1 (fun o H4 => o = none ∧ H4 = H1) I1 ⟨rfl, rfl⟩) fun vl s2 ⟨l, H2, I2, pl, el, e2⟩ => thn (po_none.run pins s2 σ H2 (fun o H4 => o = none ∧ H4 = H2) I2 ⟨rfl, rfl⟩) fun vu s3 ⟨u, H3, I3, pu, eu, e3⟩ => ?_)
  refine thn (hs.run pins s3 σ H3 (fun o H4 => o = some (-1) ∧ H4 = H3) I3 ⟨1, rfl, -1, rfl, rfl, rfl⟩) fun vs s4 ⟨o, H4, I4, ps, eo, e4⟩ => ?_
  subst eo e4 el e2 eu e3
  obtain ⟨a, xs, ex, hx, q⟩ := q1
  subst ex
  cases r1
  cases pl
  cases pu
  cases ps
  rename_i tk _
  have I5 : L2.Inv X pins σ H4 { s4 with heap := s4.heap.push { cls := .type "slice", data := .fields #[.none, .none, .int (-1) tk] } } := I4.kept (t' := s4.toks) fun b ob q => Heap.get?_push_of_some _ q
  obtain ⟨its, r, ht, hz⟩ := I5.tuple hx
  have hlen := r.length
  show wpAny (model X.prog X.w) X.A (subscriptTail e (.Slice none none (some (.UnaryOp .USub (.Constant (.int 1) k p0) p1)) p2) (.ref a) (.ref s4.heap.objs.size)) (EP X pins σ Q) X.xe { s4 with heap := s4.heap.push { cls := .type "slice", data := .fields #[.none, .none, .int (-1) tk] } }
  refine tail_any (ops := [.ref a, .ref s4.heap.objs.size]) ht.typeIs (PyProof.Rows.slot_tuple_getitem.lookup) ?_ (by with_unfolding_all rfl)
  refine item_tuple_rev ht (Heap.IsSliceOf.new _ _ _ _) ?_ (by rw [List.size_toArray, ← hlen]; exact hz)
  refine ⟨.ref _, _, I5.laid (t' := s4.toks) (o := .tup xs.reverse) (fun b ob q => Heap.get?_push_of_some _ q) (Nat.le_refl _) ?_, rfl, q _ (I5.hok.fresh (Nat.le_refl _))⟩
  exact ⟨by rw [List.length_reverse]; exact hz, _, vals_rev r, IsTup.new _ _⟩
end DD

set_option Elab.async false
set_option linter.all false
set_option maxRecDepth 100000
set_option maxHeartbeats 2000000
/-! the data layer: t[::-1] -/
namespace DL
open PySem PySem.Spec PyProof.Rows L2 DD
def dRev (A : En → Res X) : En → Res X := fun ρ => (A ρ).bind fun a ρ1 => match deref ρ1 a with
  | some (.tup ds) => .ok (.val (.tup ds.reverse)) ρ1
  | _ => .stuck
theorem L_rev {K : Fg} {E : XK} {ta : TE} {A : En → Res X} (ha : LE K E ta A) : LE K E (tRev K ta) (dRev A) := by
  refine LG.bind (k := fun x σ H (Q : VK) => ∃ a xs, x = .ref a ∧ SqT K H a xs ∧ ∀ p, H p = none → Q (.ref p) (upd H p (.tup xs.reverse))) ha fun F G H σ ρ x a Q R hx w => ?_
  cases e : deref ρ a with
  | none => rw [e] at w; exact w.elim
  | some d =>
    rw [e] at w
    cases d <;> first | exact w.elim | skip
    rename_i ds
    obtain ⟨b, vs, rfl, g, h, r⟩ := (R.deref hx e).tup R.gh
    refine ⟨b, vs, rfl, h, fun p np => ?_⟩
    obtain ⟨R2, s2, r2⟩ := newT R np r.rev
    exact w _ _ _ R2 s2 r2
end DL

set_option Elab.async false
set_option linter.all false
set_option maxRecDepth 100000
set_option maxHeartbeats 4000000

namespace DD
open PySem PySem.Spec PyProof.Rows L2 ClX
def top (i : Nat) : Stmt := PySem.Challenge.pw_dimdays_k14_what_is_a_view.main.body.getD i (.Pass ⟨0, 0, 0, 0⟩)
abbrev s_is_integer : Stmt := top 7
theorem sc_is_integer : FnScope ["value"] ["value"] (defScope s_is_integer) := ⟨rfl, rfl, rfl, by decide +kernel, rfl, by decide +kernel, by decide +kernel⟩
abbrev s_is_number : Stmt := top 8
theorem sc_is_number : FnScope ["value"] ["value"] (defScope s_is_number) := ⟨rfl, rfl, rfl, by decide +kernel, rfl, by decide +kernel, by decide +kernel⟩
abbrev s__are_hours : Stmt := top 18
theorem sc__are_hours : FnScope ["value", "start", "till"] ["value"] (defScope s__are_hours) := ⟨rfl, rfl, rfl, by decide +kernel, rfl, by decide +kernel, by decide +kernel⟩
abbrev s_is_positive : Stmt := top 9
theorem sc_is_positive : FnScope ["value"] ["value"] (defScope s_is_positive) := ⟨rfl, rfl, rfl, by decide +kernel, rfl, by decide +kernel, by decide +kernel⟩
abbrev s__wrong_argument : Stmt := top 19
theorem sc__wrong_argument : FnScope ["step", "gap", "least", "private", "hours"] ["step", "gap", "least", "private", "hours"] (defScope s__wrong_argument) := ⟨rfl, rfl, rfl, by decide +kernel, rfl, by decide +kernel, by decide +kernel⟩
abbrev s_Rule___init__ : Stmt := inClass (top 23) 0
theorem sc_Rule___init__ : FnScope ["self", "step", "gap", "least", "private", "hours", "wrong"] ["self", "step", "gap", "least", "private", "hours"] (defScope s_Rule___init__) := ⟨rfl, rfl, rfl, by decide +kernel, rfl, by decide +kernel, by decide +kernel⟩
abbrev s__law_choose : Stmt := top 26
theorem sc__law_choose : FnScope ["_law_box", "_law_many", "_law_raw", "_law_digit"] ["_law_box", "_law_many"] (defScope s__law_choose) := ⟨rfl, rfl, rfl, by decide +kernel, rfl, by decide +kernel, by decide +kernel⟩
abbrev s__law_one_of : Stmt := top 27
theorem sc__law_one_of : FnScope ["_law_box", "_law_some"] ["_law_box", "_law_some"] (defScope s__law_one_of) := ⟨rfl, rfl, rfl, by decide +kernel, rfl, by decide +kernel, by decide +kernel⟩
abbrev s__law_leaf : Stmt := top 34
theorem sc__law_leaf : FnScope ["_law_box", "_law_some"] ["_law_box"] (defScope s__law_leaf) := ⟨rfl, rfl, rfl, by decide +kernel, rfl, by decide +kernel, by decide +kernel⟩
abbrev s__law_any : Stmt := top 35
theorem sc__law_any : FnScope ["_law_box", "_law_deep", "_law_form", "_law_found", "_law_turn"] ["_law_box", "_law_deep"] (defScope s__law_any) := ⟨rfl, rfl, rfl, by decide +kernel, rfl, by decide +kernel, by decide +kernel⟩
abbrev s__law_day : Stmt := top 28
theorem sc__law_day : FnScope ["_law_box", "_law_top", "_law_is_secret", "_law_turn", "_law_size", "_law_found", "_law_last", "_law_begin", "_law_end"] ["_law_box", "_law_top", "_law_is_secret"] (defScope s__law_day) := ⟨rfl, rfl, rfl, by decide +kernel, rfl, by decide +kernel, by decide +kernel⟩
abbrev s__law_is_block : Stmt := top 36
theorem sc__law_is_block : FnScope ["_law_value", "_law_one"] ["_law_value"] (defScope s__law_is_block) := ⟨rfl, rfl, rfl, by decide +kernel, rfl, by decide +kernel, by decide +kernel⟩
abbrev s__law_due : Stmt := top 37
theorem sc__law_due : FnScope ["_law_value", "_law_one", "_law_other"] ["_law_value"] (defScope s__law_due) := ⟨rfl, rfl, rfl, by decide +kernel, rfl, by decide +kernel, by decide +kernel⟩
abbrev s__law_rule : Stmt := top 29
theorem sc__law_rule : FnScope ["_law_box", "_law_top", "_law_sort", "_law_begin", "_law_span", "_law_between", "_law_low"] ["_law_box", "_law_top"] (defScope s__law_rule) := ⟨rfl, rfl, rfl, by decide +kernel, rfl, by decide +kernel, by decide +kernel⟩
abbrev s__law_seed : Stmt := top 25
theorem sc__law_seed : FnScope ["_law_script", "_law_k", "_law_cell"] ["_law_script", "_law_k"] (defScope s__law_seed) := ⟨rfl, rfl, rfl, by decide +kernel, rfl, by decide +kernel, by decide +kernel⟩
abbrev s__law_in_order : Stmt := top 33
theorem sc__law_in_order : FnScope ["_law_blocks", "_law_others", "_law_found", "_law_first", "_law_block"] ["_law_blocks"] (defScope s__law_in_order) := ⟨rfl, rfl, rfl, by decide +kernel, rfl, by decide +kernel, by decide +kernel⟩
abbrev s__law_painted : Stmt := top 30
theorem sc__law_painted : FnScope ["_law_rule_here", "_law_day_here", "_law_word", "_law_found", "_law_begin", "_law_end", "_law_secret", "_law_sort", "_law_low", "_law_high", "_law_last", "_law_is_one", "_law_tick"] ["_law_rule_here", "_law_day_here", "_law_word"] (defScope s__law_painted) := ⟨rfl, rfl, rfl, by decide +kernel, rfl, by decide +kernel, by decide +kernel⟩
abbrev s__law_runs : Stmt := top 31
theorem sc__law_runs : FnScope ["_law_ticks", "_law_found", "_law_tick"] ["_law_ticks"] (defScope s__law_runs) := ⟨rfl, rfl, rfl, by decide +kernel, rfl, by decide +kernel, by decide +kernel⟩
abbrev s__law_show : Stmt := top 32
theorem sc__law_show : FnScope ["_law_rule_here", "_law_day_here", "_law_found", "_law_word", "_law_begin", "_law_end", "_law_low", "_law_high"] ["_law_rule_here", "_law_day_here"] (defScope s__law_show) := ⟨rfl, rfl, rfl, by decide +kernel, rfl, by decide +kernel, by decide +kernel⟩
abbrev s__is_block : Stmt := top 14
theorem sc__is_block : FnScope ["value", "begin", "end", "word"] ["value"] (defScope s__is_block) := ⟨rfl, rfl, rfl, by decide +kernel, rfl, by decide +kernel, by decide +kernel⟩
abbrev s_is_view : Stmt := top 15
theorem sc_is_view : FnScope ["value", "at", "block"] ["value"] (defScope s_is_view) := ⟨rfl, rfl, rfl, by decide +kernel, rfl, by decide +kernel, by decide +kernel⟩
abbrev s_law : Stmt := top 38
theorem sc_law : FnScope ["_law_script", "_law_k", "_law_box", "_law_turn", "_law_view", "_law_at", "_law_odd", "_law_bent", "_law_value"] ["_law_script"] (defScope s_law) := ⟨rfl, rfl, rfl, by decide +kernel, rfl, by decide +kernel, by decide +kernel⟩
structure Ad where
  f_is_integer : Addr
  f_is_number : Addr
  f__are_hours : Addr
  f_is_positive : Addr
  f__wrong_argument : Addr
  f__law_choose : Addr
  f__law_one_of : Addr
  f__law_leaf : Addr
  f__law_any : Addr
  f__law_day : Addr
  f__law_is_block : Addr
  f__law_due : Addr
  f__law_rule : Addr
  f__law_seed : Addr
  f__law_in_order : Addr
  f__law_painted : Addr
  f__law_runs : Addr
  f__law_show : Addr
  f__is_block : Addr
  f_is_view : Addr
  f_law : Addr
  f_Rule___init__ : Addr
  C_Rule : Addr
  c_PRIVATE_WORDS : Addr
  c_WORDS : Addr
def dv_Rule (d : Ad) : List V := [.int 1, .int 0, .int 0, .str "busy", .non]
def v_PRIVATE_WORDS : List V := [.str "busy", .str "none", .str "apart", .str "one"]
def v_WORDS : List V := [.str "busy", .str "private"]

structure Txt (K : PySem.W.Frag) (mg : Str → Option Value) (d : Ad) : Prop where
  m_is_integer : mg "is_integer" = some (.ref d.f_is_integer)
  k_is_integer : PySem.W.keepIn K (.ref d.f_is_integer) = true
  F_is_integer : ∃ fd, Fun K "is_integer" "is_integer" s_is_integer d.f_is_integer fd
  m_is_number : mg "is_number" = some (.ref d.f_is_number)
  k_is_number : PySem.W.keepIn K (.ref d.f_is_number) = true
  F_is_number : ∃ fd, Fun K "is_number" "is_number" s_is_number d.f_is_number fd
  m__are_hours : mg "_are_hours" = some (.ref d.f__are_hours)
  k__are_hours : PySem.W.keepIn K (.ref d.f__are_hours) = true
  F__are_hours : ∃ fd, Fun K "_are_hours" "_are_hours" s__are_hours d.f__are_hours fd
  m_is_positive : mg "is_positive" = some (.ref d.f_is_positive)
  k_is_positive : PySem.W.keepIn K (.ref d.f_is_positive) = true
  F_is_positive : ∃ fd, Fun K "is_positive" "is_positive" s_is_positive d.f_is_positive fd
  m__wrong_argument : mg "_wrong_argument" = some (.ref d.f__wrong_argument)
  k__wrong_argument : PySem.W.keepIn K (.ref d.f__wrong_argument) = true
  F__wrong_argument : ∃ fd, Fun K "_wrong_argument" "_wrong_argument" s__wrong_argument d.f__wrong_argument fd
  m__law_choose : mg "_law_choose" = some (.ref d.f__law_choose)
  k__law_choose : PySem.W.keepIn K (.ref d.f__law_choose) = true
  F__law_choose : ∃ fd, Fun K "_law_choose" "_law_choose" s__law_choose d.f__law_choose fd
  m__law_one_of : mg "_law_one_of" = some (.ref d.f__law_one_of)
  k__law_one_of : PySem.W.keepIn K (.ref d.f__law_one_of) = true
  F__law_one_of : ∃ fd, Fun K "_law_one_of" "_law_one_of" s__law_one_of d.f__law_one_of fd
  m__law_leaf : mg "_law_leaf" = some (.ref d.f__law_leaf)
  k__law_leaf : PySem.W.keepIn K (.ref d.f__law_leaf) = true
  F__law_leaf : ∃ fd, Fun K "_law_leaf" "_law_leaf" s__law_leaf d.f__law_leaf fd
  m__law_any : mg "_law_any" = some (.ref d.f__law_any)
  k__law_any : PySem.W.keepIn K (.ref d.f__law_any) = true
  F__law_any : ∃ fd, Fun K "_law_any" "_law_any" s__law_any d.f__law_any fd
  m__law_day : mg "_law_day" = some (.ref d.f__law_day)
  k__law_day : PySem.W.keepIn K (.ref d.f__law_day) = true
  F__law_day : ∃ fd, Fun K "_law_day" "_law_day" s__law_day d.f__law_day fd
  m__law_is_block : mg "_law_is_block" = some (.ref d.f__law_is_block)
  k__law_is_block : PySem.W.keepIn K (.ref d.f__law_is_block) = true
  F__law_is_block : ∃ fd, Fun K "_law_is_block" "_law_is_block" s__law_is_block d.f__law_is_block fd
  m__law_due : mg "_law_due" = some (.ref d.f__law_due)
  k__law_due : PySem.W.keepIn K (.ref d.f__law_due) = true
  F__law_due : ∃ fd, Fun K "_law_due" "_law_due" s__law_due d.f__law_due fd
  m__law_rule : mg "_law_rule" = some (.ref d.f__law_rule)
  k__law_rule : PySem.W.keepIn K (.ref d.f__law_rule) = true
  F__law_rule : ∃ fd, Fun K "_law_rule" "_law_rule" s__law_rule d.f__law_rule fd
  m__law_seed : mg "_law_seed" = some (.ref d.f__law_seed)
  k__law_seed : PySem.W.keepIn K (.ref d.f__law_seed) = true
  F__law_seed : ∃ fd, Fun K "_law_seed" "_law_seed" s__law_seed d.f__law_seed fd
  m__law_in_order : mg "_law_in_order" = some (.ref d.f__law_in_order)
  k__law_in_order : PySem.W.keepIn K (.ref d.f__law_in_order) = true
  F__law_in_order : ∃ fd, Fun K "_law_in_order" "_law_in_order" s__law_in_order d.f__law_in_order fd
  m__law_painted : mg "_law_painted" = some (.ref d.f__law_painted)
  k__law_painted : PySem.W.keepIn K (.ref d.f__law_painted) = true
  F__law_painted : ∃ fd, Fun K "_law_painted" "_law_painted" s__law_painted d.f__law_painted fd
  m__law_runs : mg "_law_runs" = some (.ref d.f__law_runs)
  k__law_runs : PySem.W.keepIn K (.ref d.f__law_runs) = true
  F__law_runs : ∃ fd, Fun K "_law_runs" "_law_runs" s__law_runs d.f__law_runs fd
  m__law_show : mg "_law_show" = some (.ref d.f__law_show)
  k__law_show : PySem.W.keepIn K (.ref d.f__law_show) = true
  F__law_show : ∃ fd, Fun K "_law_show" "_law_show" s__law_show d.f__law_show fd
  m__is_block : mg "_is_block" = some (.ref d.f__is_block)
  k__is_block : PySem.W.keepIn K (.ref d.f__is_block) = true
  F__is_block : ∃ fd, Fun K "_is_block" "_is_block" s__is_block d.f__is_block fd
  m_is_view : mg "is_view" = some (.ref d.f_is_view)
  k_is_view : PySem.W.keepIn K (.ref d.f_is_view) = true
  F_is_view : ∃ fd, Fun K "is_view" "is_view" s_is_view d.f_is_view fd
  m_law : mg "law" = some (.ref d.f_law)
  k_law : PySem.W.keepIn K (.ref d.f_law) = true
  F_law : ∃ fd, Fun K "law" "law" s_law d.f_law fd
  F_Rule___init__ : ∃ fd, FunD K "__init__" "Rule.__init__" (defArgs s_Rule___init__) (defBody s_Rule___init__) (defScope s_Rule___init__) (dv_Rule d) [] d.f_Rule___init__ fd
  m_Rule : mg "Rule" = some (.ref d.C_Rule)
  cl_Rule : Cls K d.C_Rule
  mk_Rule : Mk K d.C_Rule d.f_Rule___init__
  na_Rule_step : NoAttr K d.C_Rule "step"
  na_Rule_gap : NoAttr K d.C_Rule "gap"
  na_Rule_least : NoAttr K d.C_Rule "least"
  na_Rule_private : NoAttr K d.C_Rule "private"
  na_Rule_hours : NoAttr K d.C_Rule "hours"
  ks_Rule : PySem.W.kitOne K (.type "str") (.ref d.C_Rule) = some false
  su_Rule : PySem.W.subIn K (.type "str") (.ref d.C_Rule) = some false
  sb_Rule_int : PySem.W.subIn K (.ref d.C_Rule) (.type "int") = some false
  sb_Rule_bool : PySem.W.subIn K (.ref d.C_Rule) (.type "bool") = some false
  sb_Rule_str : PySem.W.subIn K (.ref d.C_Rule) (.type "str") = some false
  sb_Rule_tuple : PySem.W.subIn K (.ref d.C_Rule) (.type "tuple") = some false
  sb_Rule_list : PySem.W.subIn K (.ref d.C_Rule) (.type "list") = some false
  o_Rule : PySem.W.mroIn K d.C_Rule (.type "object") = some true
  ic_Rule : PySem.W.findIn K (.ref d.C_Rule) "__class__" = some (some (.builtin "object.__class__"))
  oc1 : PySem.W.specialIn K (.builtin "object.__class__") "__get__" = some (some (.builtin "getset_descriptor.__get__"))
  oc2 : PySem.W.takesIn K (.builtin "object.__class__") = some true
  b_abs : mg "abs" = none
  b_all : mg "all" = none
  b_bool : mg "bool" = none
  b_int : mg "int" = none
  b_isinstance : mg "isinstance" = none
  b_len : mg "len" = none
  b_list : mg "list" = none
  b_max : mg "max" = none
  b_min : mg "min" = none
  b_range : mg "range" = none
  b_repr : mg "repr" = none
  b_str : mg "str" = none
  b_tuple : mg "tuple" = none
  b_zip : mg "zip" = none
  m_PRIVATE_WORDS : mg "PRIVATE_WORDS" = some (.ref d.c_PRIVATE_WORDS)
  w_PRIVATE_WORDS : ∀ H, SqT K H d.c_PRIVATE_WORDS v_PRIVATE_WORDS
  m_WORDS : mg "WORDS" = some (.ref d.c_WORDS)
  w_WORDS : ∀ H, SqT K H d.c_WORDS v_WORDS
section
variable {P : Program} {w : World} {K : PySem.W.Frag} {mg : Str → Option Value} {base : Heap}
theorem vals_abs : ∀ {us : List Value} {vs : List V}, us.mapM absV = some vs → Vals vs us
  | [], vs, h => by
    simp at h
    subst h
    exact .nil
  | u :: us, vs, h => by
    rw [List.mapM_cons] at h
    cases e : absV u with
    | none => rw [e] at h; simp at h
    | some v =>
      cases e2 : us.mapM absV with
      | none => rw [e, e2] at h; simp at h
      | some ws =>
        rw [e, e2] at h
        simp at h
        subst h
        refine .cons ?_ (vals_abs e2)
        cases u <;> simp [absV] at e <;> subst e <;> first | rfl | exact ⟨_, rfl⟩
theorem sqt_mk {H : Hp} {c : Addr} {td : Option Addr} {it : Array Value} {n : Nat} {ts : Array (Option Value)} {vs : List V} (l : K.lookup c = some ⟨.type "tuple", td, .seq it n, ts⟩) (lv : it.toList.mapM absV = some vs) (hz : vs.length ≤ sizeLine) : SqT K H c vs := by
  have r := vals_abs lv
  refine .inr ⟨_, it, n, l, rfl, rfl, ?_, r⟩
  rw [← Array.length_toList, ← r.length]
  exact hz
theorem fund_mk {x qual : Str} {st : Stmt} {f T : Addr} {oc tc : Value} {od an td : Option Addr} {osl ts : Array (Option Value)} {it : Array Value} {tn : Nat} {kV doc pm cdv ct : Value} {dvs : List V}
    (l : K.lookup f = some ⟨oc, od, .func (PySem.W.fnOf x qual (defArgs st) (defBody st) (defScope st) (.ref T) kV doc pm an cdv ct), osl⟩) (lt : K.lookup T = some ⟨tc, td, .seq it tn, ts⟩) (lv : it.toList.mapM absV = some dvs) (hn : dvs ≠ [])
    (c : PySem.W.codeIn K cdv qual = true) (k : PySem.W.keepIn K (.ref f) = true) : FunD K x qual (defArgs st) (defBody st) (defScope st) dvs [] f (PySem.W.fnOf x qual (defArgs st) (defBody st) (defScope st) (.ref T) kV doc pm an cdv ct) :=
  ⟨⟨oc, od, .ref T, kV, doc, pm, an, cdv, ct, osl, rfl, l, c, .inr ⟨hn, T, _, it.toList, tn, rfl, lt, by simp, vals_abs lv⟩, .inl rfl⟩, k⟩
end
abbrev cl (d : Ad) : DL.Cl := ⟨d.C_Rule, d.C_Rule, d.C_Rule⟩
section
variable {K : PySem.W.Frag} {mg : Str → Option Value} {d : Ad}
open DL
theorem fa_step (T : Txt K mg d) : ∀ C ∈ [(cl d).Rule], Cls K C ∧ NoAttr K C "step" := by
  intro C h
  simp only [List.mem_cons, List.not_mem_nil, or_false] at h
  rcases h with rfl
  · exact ⟨T.cl_Rule, T.na_Rule_step⟩
theorem fa_gap (T : Txt K mg d) : ∀ C ∈ [(cl d).Rule], Cls K C ∧ NoAttr K C "gap" := by
  intro C h
  simp only [List.mem_cons, List.not_mem_nil, or_false] at h
  rcases h with rfl
  · exact ⟨T.cl_Rule, T.na_Rule_gap⟩
theorem fa_least (T : Txt K mg d) : ∀ C ∈ [(cl d).Rule], Cls K C ∧ NoAttr K C "least" := by
  intro C h
  simp only [List.mem_cons, List.not_mem_nil, or_false] at h
  rcases h with rfl
  · exact ⟨T.cl_Rule, T.na_Rule_least⟩
theorem fa_private (T : Txt K mg d) : ∀ C ∈ [(cl d).Rule, (cl d).Frame], Cls K C ∧ NoAttr K C "private" := by
  intro C h
  simp only [List.mem_cons, List.not_mem_nil, or_false] at h
  rcases h with rfl | rfl
  · exact ⟨T.cl_Rule, T.na_Rule_private⟩
  · exact ⟨T.cl_Rule, T.na_Rule_private⟩
theorem fa_hours (T : Txt K mg d) : ∀ C ∈ [(cl d).Rule], Cls K C ∧ NoAttr K C "hours" := by
  intro C h
  simp only [List.mem_cons, List.not_mem_nil, or_false] at h
  rcases h with rfl
  · exact ⟨T.cl_Rule, T.na_Rule_hours⟩
theorem fs_Rule_step (T : Txt K mg d) : ∀ C ∈ [(cl d).Rule], Cls K C ∧ NoAttr K C "step" := by
  intro C h
  simp only [List.mem_cons, List.not_mem_nil, or_false] at h
  subst h
  exact ⟨T.cl_Rule, T.na_Rule_step⟩
theorem fs_Rule_gap (T : Txt K mg d) : ∀ C ∈ [(cl d).Rule], Cls K C ∧ NoAttr K C "gap" := by
  intro C h
  simp only [List.mem_cons, List.not_mem_nil, or_false] at h
  subst h
  exact ⟨T.cl_Rule, T.na_Rule_gap⟩
theorem fs_Rule_least (T : Txt K mg d) : ∀ C ∈ [(cl d).Rule], Cls K C ∧ NoAttr K C "least" := by
  intro C h
  simp only [List.mem_cons, List.not_mem_nil, or_false] at h
  subst h
  exact ⟨T.cl_Rule, T.na_Rule_least⟩
theorem fs_Rule_private (T : Txt K mg d) : ∀ C ∈ [(cl d).Rule], Cls K C ∧ NoAttr K C "private" := by
  intro C h
  simp only [List.mem_cons, List.not_mem_nil, or_false] at h
  subst h
  exact ⟨T.cl_Rule, T.na_Rule_private⟩
theorem fs_Rule_hours (T : Txt K mg d) : ∀ C ∈ [(cl d).Rule], Cls K C ∧ NoAttr K C "hours" := by
  intro C h
  simp only [List.mem_cons, List.not_mem_nil, or_false] at h
  subst h
  exact ⟨T.cl_Rule, T.na_Rule_hours⟩
theorem tyc (T : Txt K mg d) : ∀ C ∈ [(cl d).Day, (cl d).Rule, (cl d).Frame], TyC K C := by
  intro C h
  simp only [List.mem_cons, List.not_mem_nil, or_false] at h
  rcases h with rfl | rfl | rfl
  · exact ⟨T.cl_Rule, T.ic_Rule, T.oc1, T.oc2, T.o_Rule⟩
  · exact ⟨T.cl_Rule, T.ic_Rule, T.oc1, T.oc2, T.o_Rule⟩
  · exact ⟨T.cl_Rule, T.ic_Rule, T.oc1, T.oc2, T.o_Rule⟩
theorem kit_ok (T : Txt K mg d) : KitOk K (kitD [(cl d).Day, (cl d).Rule, (cl d).Frame]) := kitD_ok (fun C h => by
  simp only [List.mem_cons, List.not_mem_nil, or_false] at h
  rcases h with rfl | rfl | rfl
  · exact T.ks_Rule
  · exact T.ks_Rule
  · exact T.ks_Rule) (fun C h b hb => by
  simp only [List.mem_cons, List.not_mem_nil, or_false] at h
  simp only [blts, List.mem_cons, List.not_mem_nil, or_false] at hb
  rcases h with rfl | rfl | rfl
  · rcases hb with rfl | rfl | rfl | rfl | rfl
    · exact T.sb_Rule_int
    · exact T.sb_Rule_bool
    · exact T.sb_Rule_str
    · exact T.sb_Rule_tuple
    · exact T.sb_Rule_list
  · rcases hb with rfl | rfl | rfl | rfl | rfl
    · exact T.sb_Rule_int
    · exact T.sb_Rule_bool
    · exact T.sb_Rule_str
    · exact T.sb_Rule_tuple
    · exact T.sb_Rule_list
  · rcases hb with rfl | rfl | rfl | rfl | rfl
    · exact T.sb_Rule_int
    · exact T.sb_Rule_bool
    · exact T.sb_Rule_str
    · exact T.sb_Rule_tuple
    · exact T.sb_Rule_list)
theorem rp_PRIVATE_WORDS (T : Txt K mg d) (G : Hp) : Rep K G (.ref d.c_PRIVATE_WORDS) (.tup [(.str "busy"), (.str "none"), (.str "apart"), (.str "one")]) := .tup (T.w_PRIVATE_WORDS G) (.cons (.str _) (.cons (.str _) (.cons (.str _) (.cons (.str _) RepA.nil))))
theorem rp_WORDS (T : Txt K mg d) (G : Hp) : Rep K G (.ref d.c_WORDS) (.tup [(.str "busy"), (.str "private")]) := .tup (T.w_WORDS G) (.cons (.str _) (.cons (.str _) RepA.nil))
end
end DD
set_option Elab.async false
set_option linter.all false
set_option maxRecDepth 100000
set_option maxHeartbeats 4000000
/-! the functions of the program and of what laws share -/
namespace DL
open PySem PySem.Spec PyProof.Rows L2 DD
noncomputable def D_put_down (c : Cl) : En → SR :=
  (sRet (dBin opMul (dBin opFdiv (dVar 0) (dVar 1)) (dVar 1)))
noncomputable def D_put_up (c : Cl) : En → SR :=
  (sRet (dBin opMul (dBin opFdiv (dBin opSub (dBin opAdd (dVar 0) (dVar 1)) (dC (.int 1))) (dVar 1)) (dVar 1)))
noncomputable def D_word_shown (c : Cl) : En → SR :=
  (sSeq (sIf (tor (tnot (dTest (dVar 1))) (dTest (dBin opEq (dFld [c.Rule, c.Frame] "private" (dVar 0)) (dC (.str "busy"))))) (sRet (dC (.str "busy"))) sNext) (sSeq (sIf (dTest (dBin opEq (dFld [c.Rule, c.Frame] "private" (dVar 0)) (dC (.str "none")))) (sRet (dC .non)) sNext) (sRet (dC (.str "private")))))
noncomputable def D_is_joined (c : Cl) : En → SR :=
  (sSeq (sIf (tnd (dTest (dBin opEq (dVar 1) (dC (.str "private")))) (dTest (dBin opEq (dFld [c.Rule, c.Frame] "private" (dVar 0)) (dC (.str "one"))))) (sRet (dC (.bl true))) sNext) (sRet (dBin opLe (dBin opSub (dVar 3) (dVar 2)) (dFld [c.Rule] "gap" (dVar 0)))))
noncomputable def D_span_shown (c : Cl) : En → SR :=
  (sSeq (sIf (dTest (dBin opLt (dBin opSub (dVar 2) (dVar 1)) (dFld [c.Rule] "least" (dVar 0)))) (sRet (dC .non)) sNext) (sSeq (sIf (dTest (dIsN (dFld [c.Rule] "hours" (dVar 0)))) (sRet (dTup (aCons (dVar 1) (aCons (dVar 2) aNil)))) sNext) (sSeq (sTgt (uTup 2 (usCons (uName 3) (usCons (uName 4) usNil))) (dFld [c.Rule] "hours" (dVar 0))) (sSeq (sMulti [1, 2] (nCons (dCB fMax (aCons (dVar 1) (aCons (dVar 3) aNil))) (nCons (dCB fMin (aCons (dVar 2) (aCons (dVar 4) aNil))) aNil))) (sRet (dIfE (dTest (dBin opLt (dVar 1) (dVar 2))) (dTup (aCons (dVar 1) (aCons (dVar 2) aNil))) (dC .non)))))))
noncomputable def D_is_integer (c : Cl) : En → SR :=
  (sRet (dAnd (dIsi (kitD [c.Day, c.Rule, c.Frame]) [c.Day, c.Rule, c.Frame] [(.type "int")] (dVar 0)) (dNot (dIsi (kitD [c.Day, c.Rule, c.Frame]) [c.Day, c.Rule, c.Frame] [(.type "bool")] (dVar 0)))))
noncomputable def D_is_number (c : Cl) : En → SR :=
  (sRet (dAnd (dCall 1 1 (D_is_integer c) (aCons (dVar 0) aNil)) (dBin opGe (dVar 0) (dC (.int 0)))))
noncomputable def D_is_positive (c : Cl) : En → SR :=
  (sRet (dAnd (dCall 1 1 (D_is_integer c) (aCons (dVar 0) aNil)) (dBin opGe (dVar 0) (dC (.int 1)))))
noncomputable def D_is_sequence (c : Cl) : En → SR :=
  (sRet (dIsi (kitD [c.Day, c.Rule, c.Frame]) [c.Day, c.Rule, c.Frame] [(.type "list"), (.type "tuple")] (dVar 0)))
noncomputable def D_is_numeral (c : Cl) : En → SR :=
  (sSeq (sIf (tor (tnot (dTest (dMt f_isascii (dVar 0) aNil))) (tor (tnot (dTest (dMt f_isdecimal (dVar 0) aNil))) (dTest (dBin opGt (dCB fLen (aCons (dVar 0) aNil)) (dC (.int 2)))))) (sRet (dC (.bl false))) sNext) (sRet (dOr (dBin opEq (dCB fLen (aCons (dVar 0) aNil)) (dC (.int 1))) (dBin opNe (dBin opIx (dVar 0) (dC (.int 0))) (dC (.str "0"))))))
noncomputable def D_read_number (c : Cl) : En → SR :=
  (sSeq (sIf (tnot (dTest (dCall 1 1 (D_is_numeral c) (aCons (dVar 0) aNil)))) sDead sNext) (sRet (dCB fInt (aCons (dVar 0) aNil))))
noncomputable def D_read_span (c : Cl) : En → SR :=
  (sSeq (sSet 1 (dMt f_split (dVar 0) (aCons (dC (.str "-")) aNil))) (sSeq (sIf (dTest (dBin opNe (dCB fLen (aCons (dVar 1) aNil)) (dC (.int 2)))) sDead sNext) (sRet (dTup (aCons (dCall 1 1 (D_read_number c) (aCons (dBin opIx (dVar 1) (dC (.int 0))) aNil)) (aCons (dCall 1 1 (D_read_number c) (aCons (dBin opIx (dVar 1) (dC (.int 1))) aNil)) aNil))))))
noncomputable def D__meeting_spans (c : Cl) : En → SR :=
  (sSeq (sSet 3 (dFld [c.Rule] "step" (dVar 0))) (sRet (dLcS (dFld [c.Day] "meetings" (dVar 1)) [4, 5, 6] (uTup 3 (usCons (uName 4) (usCons (uName 5) (usCons (uName 6) usNil)))) (dTest (dBin opEq (dCall 2 2 (D_word_shown c) (aCons (dVar 0) (aCons (dVar 6) aNil))) (dVar 2))) (dTup (aCons (dCall 2 2 (D_put_down c) (aCons (dVar 4) (aCons (dVar 3) aNil))) (aCons (dCall 2 2 (D_put_up c) (aCons (dVar 5) (aCons (dVar 3) aNil))) aNil))))))
noncomputable def D__joined_spans_b1 (c : Cl) : En → SR :=
  (sIf (tnd (dTest (dBin opGt (dCB fLen (aCons (dVar 3) aNil)) (dC (.int 0)))) (dTest (dCall 4 4 (D_is_joined c) (aCons (dVar 0) (aCons (dVar 1) (aCons (dBin opIx (dBin opIx (dVar 3) (dUn opNeg (dC (.int 1)))) (dC (.int 1))) (aCons (dVar 4) aNil))))))) (sPut 3 (dTup (aCons (dBin opIx (dBin opIx (dVar 3) (dUn opNeg (dC (.int 1)))) (dC (.int 0))) (aCons (dVar 5) aNil))) (dUn opNeg (dC (.int 1)))) (sDrop (eMut 3 mAppend (aCons (dTup (aCons (dVar 4) (aCons (dVar 5) aNil))) aNil))))
noncomputable def D__joined_spans (c : Cl) : En → SR :=
  (sSeq (sSet 3 (dLst aNil)) (sSeq (sForS (dVar 2) (uTup 2 (usCons (uName 4) (usCons (uName 5) usNil))) (D__joined_spans_b1 c)) (sRet (dVar 3))))
noncomputable def D__blocks (c : Cl) : En → SR :=
  (sSeq (sSet 3 (dCall 3 6 (D__joined_spans c) (aCons (dVar 0) (aCons (dVar 2) (aCons (dCall 3 7 (D__meeting_spans c) (aCons (dVar 0) (aCons (dVar 1) (aCons (dVar 2) aNil)))) aNil))))) (sSeq (sSet 4 (dLcS (dVar 3) [6, 7] (uTup 2 (usCons (uName 6) (usCons (uName 7) usNil))) tdYes (dCall 3 5 (D_span_shown c) (aCons (dVar 0) (aCons (dVar 6) (aCons (dVar 7) aNil)))))) (sRet (dLcS (dVar 4) [5] (uName 5) (dTest (dNotN (dVar 5))) (dTup (aCons (dBin opIx (dVar 5) (dC (.int 0))) (aCons (dBin opIx (dVar 5) (dC (.int 1))) (aCons (dVar 2) aNil))))))))
noncomputable def D_show (c : Cl) : En → SR :=
  (sRet (dCB fTuple (aCons (dCB fSorted (aCons (dLc2 (dSeqI (dC (.tup [(.str "busy"), (.str "private")]))) [2, 3] [3] (uName 2) tdYes (dSeqI (dCall 3 8 (D__blocks c) (aCons (dVar 0) (aCons (dVar 1) (aCons (dVar 2) aNil))))) (uName 3) tdYes (dVar 3)) aNil)) aNil)))
noncomputable def D__is_meeting (c : Cl) : En → SR :=
  (sSeq (sIf (tor (tnot (dTest (dIsi (kitD [c.Day, c.Rule, c.Frame]) [c.Day, c.Rule, c.Frame] [(.type "tuple")] (dVar 0)))) (dTest (dBin opNe (dCB fLen (aCons (dVar 0) aNil)) (dC (.int 3))))) (sRet (dC (.bl false))) sNext) (sSeq (sTgt (uTup 3 (usCons (uName 1) (usCons (uName 2) (usCons (uName 3) usNil)))) (dVar 0)) (sRet (dAnd (dCall 1 1 (D_is_number c) (aCons (dVar 1) aNil)) (dAnd (dCall 1 1 (D_is_number c) (aCons (dVar 2) aNil)) (dAnd (dIsi (kitD [c.Day, c.Rule, c.Frame]) [c.Day, c.Rule, c.Frame] [(.type "bool")] (dVar 3)) (dBin opLt (dVar 1) (dVar 2))))))))
noncomputable def D__are_meetings_b1 (c : Cl) : En → SR :=
  (sSeq (sIf (tor (tnot (dTest (dCall 1 4 (D__is_meeting c) (aCons (dVar 3) aNil)))) (tor (dTest (dBin opLt (dBin opIx (dVar 3) (dC (.int 0))) (dVar 2))) (dTest (dBin opGt (dBin opIx (dVar 3) (dC (.int 1))) (dVar 1))))) (sRet (dC (.bl false))) sNext) (sSet 2 (dBin opIx (dVar 3) (dC (.int 1)))))
noncomputable def D__are_meetings (c : Cl) : En → SR :=
  (sSeq (sIf (tnot (dTest (dCall 1 1 (D_is_sequence c) (aCons (dVar 0) aNil)))) (sRet (dC (.bl false))) sNext) (sSeq (sSet 2 (dC (.int 0))) (sSeq (sForS (dVar 0) (uName 3) (D__are_meetings_b1 c)) (sRet (dC (.bl true))))))
noncomputable def D__meeting_text (c : Cl) : En → SR :=
  (sSeq (sTgt (uTup 3 (usCons (uName 1) (usCons (uName 2) (usCons (uName 3) usNil)))) (dVar 0)) (sSeq (sIf (dTest (dVar 3)) (sRet (dJoin (jCons (dFmt (dVar 1)) (jCons (dC (.str "-")) (jCons (dFmt (dVar 2)) (jCons (dC (.str " private")) jNil)))))) sNext) (sRet (dJoin (jCons (dFmt (dVar 1)) (jCons (dC (.str "-")) (jCons (dFmt (dVar 2)) jNil)))))))
noncomputable def D__meetings_text (c : Cl) : En → SR :=
  (sSeq (sIf (dTest (dBin opEq (dCB fLen (aCons (dVar 0) aNil)) (dC (.int 0)))) (sRet (dC (.str "-"))) sNext) (sRet (dMt fJoin (dC (.str ", ")) (aCons (dLcS (dVar 0) [1] (uName 1) tdYes (dCall 1 4 (D__meeting_text c) (aCons (dVar 1) aNil))) aNil))))
noncomputable def D__read_meeting (c : Cl) : En → SR :=
  (sSeq (sSet 1 (dMt f_removesuffix (dVar 0) (aCons (dC (.str " private")) aNil))) (sSeq (sTgt (uTup 2 (usCons (uName 2) (usCons (uName 3) usNil))) (dCall 1 2 (D_read_span c) (aCons (dVar 1) aNil))) (sRet (dTup (aCons (dVar 2) (aCons (dVar 3) (aCons (dBin opNe (dVar 1) (dVar 0)) aNil)))))))
noncomputable def D__read_meetings (c : Cl) : En → SR :=
  (sSeq (sIf (dTest (dBin opEq (dVar 0) (dC (.str "-")))) (sRet (dLst aNil)) sNext) (sRet (dLcS (dMt f_split (dVar 0) (aCons (dC (.str ", ")) aNil)) [1] (uName 1) tdYes (dCall 1 4 (D__read_meeting c) (aCons (dVar 1) aNil)))))
noncomputable def D_Day___init__ (c : Cl) : En → SR :=
  (sSeq (sIf (tnot (dTest (dCall 1 1 (D_is_positive c) (aCons (dVar 1) aNil)))) sDead sNext) (sSeq (sIf (tnot (dTest (dCall 2 4 (D__are_meetings c) (aCons (dVar 2) (aCons (dVar 1) aNil))))) sDead sNext) (sSeq (sFldD [c.Day] 0 "length" (dVar 1)) (sFldD [c.Day] 0 "meetings" (dCB fTuple (aCons (dVar 2) aNil))))))
noncomputable def D_Day_read (c : Cl) : En → SR :=
  (sSeq (sIf (tnot (dTest (dIsi (kitD [c.Day, c.Rule, c.Frame]) [c.Day, c.Rule, c.Frame] [(.type "str")] (dVar 1)))) sDead sNext) (sSeq (sTgt (uTup 3 (usCons (uName 2) (usCons (uName 3) (usCons (uName 4) usNil)))) (dMt f_partition (dVar 1) (aCons (dC (.str ": ")) aNil))) (sRet (dMakeL c.Day 0 3 3 (fun ρ => D_Day___init__ c (fillD 3 [] ρ)) (aCons (dCall 1 1 (D_read_number c) (aCons (dVar 2) aNil)) (aCons (dCall 1 2 (D__read_meetings c) (aCons (dVar 4) aNil)) aNil))))))
noncomputable def D__wall_b1 (c : Cl) : En → SR :=
  sNext
noncomputable def D__wall (c : Cl) : En → SR :=
  (sWhile 100000 (dTest (dC (.bl true))) (D__wall_b1 c))
noncomputable def D_Day_taken (c : Cl) : En → SR :=
  (sDrop (dCall 1 1 (D__wall c) (aCons (dC (.int 0)) aNil)))
noncomputable def D_Day_without (c : Cl) : En → SR :=
  (sSeq (sIf (tor (dTest (dBin opLt (dVar 1) (dC (.int 0)))) (dTest (dBin opGe (dVar 1) (dCB fLen (aCons (dFld [c.Day] "meetings" (dVar 0)) aNil))))) sDead sNext) (sRet (dMake c.Day 3 3 (fun ρ => D_Day___init__ c (fillD 3 [] ρ)) (aCons (dFld [c.Day, c.Frame] "length" (dVar 0)) (aCons (dBin opAdd (dSl (dFld [c.Day] "meetings" (dVar 0)) oNone (oSome (dVar 1))) (dSl (dFld [c.Day] "meetings" (dVar 0)) (oSome (dBin opAdd (dVar 1) (dC (.int 1)))) oNone)) aNil)))))
noncomputable def D_Day_having (c : Cl) : En → SR :=
  (sDrop (dCall 1 1 (D__wall c) (aCons (dC (.int 1)) aNil)))
noncomputable def D_Day___len__ (c : Cl) : En → SR :=
  (sRet (dCB fLen (aCons (dFld [c.Day] "meetings" (dVar 0)) aNil)))
noncomputable def D_Day___getitem__ (c : Cl) : En → SR :=
  (sSeq (sIf (tor (dTest (dBin opLt (dVar 1) (dC (.int 0)))) (dTest (dBin opGe (dVar 1) (dCB fLen (aCons (dFld [c.Day] "meetings" (dVar 0)) aNil))))) sDead sNext) (sRet (dBin opIx (dFld [c.Day] "meetings" (dVar 0)) (dVar 1))))
noncomputable def D_Day___iter__ (c : Cl) : En → SR :=
  sDead
noncomputable def D_Day___eq__ (c : Cl) : En → SR :=
  (sRet (dAnd (dIsi (kitD [c.Day, c.Rule, c.Frame]) [c.Day, c.Rule, c.Frame] [(.ref c.Day)] (dVar 1)) (dAnd (dBin opEq (dFld [c.Day, c.Frame] "length" (dVar 0)) (dFld [c.Day, c.Frame] "length" (dVar 1))) (dBin opEq (dFld [c.Day] "meetings" (dVar 0)) (dFld [c.Day] "meetings" (dVar 1))))))
noncomputable def D_Day___str__ (c : Cl) : En → SR :=
  (sRet (dJoin (jCons (dFmt (dFld [c.Day, c.Frame] "length" (dVar 0))) (jCons (dC (.str ": ")) (jCons (dFmt (dCall 1 2 (D__meetings_text c) (aCons (dFld [c.Day] "meetings" (dVar 0)) aNil))) jNil)))))
noncomputable def D__are_hours (c : Cl) : En → SR :=
  (sSeq (sIf (dTest (dIsN (dVar 0))) (sRet (dC (.bl true))) sNext) (sSeq (sIf (tor (tnot (dTest (dIsi (kitD [c.Day, c.Rule, c.Frame]) [c.Day, c.Rule, c.Frame] [(.type "tuple")] (dVar 0)))) (dTest (dBin opNe (dCB fLen (aCons (dVar 0) aNil)) (dC (.int 2))))) (sRet (dC (.bl false))) sNext) (sSeq (sTgt (uTup 2 (usCons (uName 1) (usCons (uName 2) usNil))) (dVar 0)) (sRet (dAnd (dCall 1 1 (D_is_number c) (aCons (dVar 1) aNil)) (dAnd (dCall 1 1 (D_is_number c) (aCons (dVar 2) aNil)) (dBin opLt (dVar 1) (dVar 2))))))))
noncomputable def D__wrong_argument (c : Cl) : En → SR :=
  (sSeq (sIf (tnot (dTest (dCall 1 1 (D_is_positive c) (aCons (dVar 0) aNil)))) (sRet (dC (.str "step"))) sNext) (sSeq (sIf (tnot (dTest (dCall 1 1 (D_is_number c) (aCons (dVar 1) aNil)))) (sRet (dC (.str "gap"))) sNext) (sSeq (sIf (tnot (dTest (dCall 1 1 (D_is_number c) (aCons (dVar 2) aNil)))) (sRet (dC (.str "least"))) sNext) (sSeq (sIf (dTest (dBin opNotIn (dVar 3) (dC (.tup [(.str "busy"), (.str "none"), (.str "apart"), (.str "one")])))) (sRet (dC (.str "private"))) sNext) (sSeq (sIf (tnot (dTest (dCall 1 3 (D__are_hours c) (aCons (dVar 4) aNil)))) (sRet (dC (.str "hours"))) sNext) (sRet (dC .non)))))))
noncomputable def D__hours_text (c : Cl) : En → SR :=
  (sSeq (sIf (dTest (dIsN (dVar 0))) (sRet (dC (.str ""))) sNext) (sRet (dJoin (jCons (dC (.str " hours ")) (jCons (dFmt (dBin opIx (dVar 0) (dC (.int 0)))) (jCons (dC (.str "-")) (jCons (dFmt (dBin opIx (dVar 0) (dC (.int 1)))) jNil)))))))
noncomputable def D__read_private (c : Cl) : En → SR :=
  (sSeq (sIf (dTest (dBin opNotIn (dVar 0) (dC (.tup [(.str "busy"), (.str "none"), (.str "apart"), (.str "one")])))) sDead sNext) (sRet (dVar 0)))
noncomputable def D__read_hours (c : Cl) : En → SR :=
  (sSeq (sIf (dTest (dBin opEq (dCB fLen (aCons (dVar 0) aNil)) (dC (.int 0)))) (sRet (dC .non)) sNext) (sSeq (sIf (tor (dTest (dBin opNe (dCB fLen (aCons (dVar 0) aNil)) (dC (.int 2)))) (dTest (dBin opNe (dBin opIx (dVar 0) (dC (.int 0))) (dC (.str "hours"))))) sDead sNext) (sRet (dCall 1 2 (D_read_span c) (aCons (dBin opIx (dVar 0) (dC (.int 1))) aNil)))))
noncomputable def D_Rule___init__ (c : Cl) : En → SR :=
  (sSeq (sSet 6 (dCall 5 5 (D__wrong_argument c) (aCons (dVar 1) (aCons (dVar 2) (aCons (dVar 3) (aCons (dVar 4) (aCons (dVar 5) aNil))))))) (sSeq (sIf (dTest (dNotN (dVar 6))) sDead sNext) (sSeq (sFldD [c.Rule] 0 "step" (dVar 1)) (sSeq (sFldD [c.Rule] 0 "gap" (dVar 2)) (sSeq (sFldD [c.Rule] 0 "least" (dVar 3)) (sSeq (sFldD [c.Rule] 0 "private" (dVar 4)) (sFldD [c.Rule] 0 "hours" (dVar 5))))))))
noncomputable def D_Rule_read (c : Cl) : En → SR :=
  (sSeq (sIf (tnot (dTest (dIsi (kitD [c.Day, c.Rule, c.Frame]) [c.Day, c.Rule, c.Frame] [(.type "str")] (dVar 1)))) sDead sNext) (sSeq (sSet 2 (dMt f_split (dVar 1) (aCons (dC (.str " ")) aNil))) (sSeq (sIf (tor (dTest (dBin opNe (dSl3 (2) (dVar 2) (oSome (dC (.int 0))) (oSome (dC (.int 7)))) (dLst (aCons (dC (.str "step")) (aCons (dC (.str "gap")) (aCons (dC (.str "least")) (aCons (dC (.str "private")) aNil))))))) (dTest (dBin opLt (dCB fLen (aCons (dVar 2) aNil)) (dC (.int 8))))) sDead sNext) (sSeq (sTgt (uLst 3 (usCons (uName 3) (usCons (uName 4) (usCons (uName 5) usNil)))) (dLcS (dSl3 (2) (dVar 2) (oSome (dC (.int 1))) (oSome (dC (.int 6)))) [6] (uName 6) tdYes (dCall 1 1 (D_read_number c) (aCons (dVar 6) aNil)))) (sRet (dMakeL c.Rule 0 6 7 (fun ρ => D_Rule___init__ c (fillD 6 [] ρ)) (aCons (dVar 3) (aCons (dVar 4) (aCons (dVar 5) (aCons (dCall 1 1 (D__read_private c) (aCons (dBin opIx (dVar 2) (dC (.int 7))) aNil)) (aCons (dCall 1 1 (D__read_hours c) (aCons (dSl (dVar 2) (oSome (dC (.int 8))) oNone) aNil)) aNil)))))))))))
noncomputable def D_Rule_normal (c : Cl) : En → SR :=
  (sDrop (dCall 1 1 (D__wall c) (aCons (dC (.int 2)) aNil)))
noncomputable def D_Rule___eq__ (c : Cl) : En → SR :=
  (sRet (dAnd (dIsi (kitD [c.Day, c.Rule, c.Frame]) [c.Day, c.Rule, c.Frame] [(.ref c.Rule)] (dVar 1)) (dAnd (dBin opEq (dFld [c.Rule] "step" (dVar 0)) (dFld [c.Rule] "step" (dVar 1))) (dAnd (dBin opEq (dFld [c.Rule] "gap" (dVar 0)) (dFld [c.Rule] "gap" (dVar 1))) (dAnd (dBin opEq (dFld [c.Rule] "least" (dVar 0)) (dFld [c.Rule] "least" (dVar 1))) (dAnd (dBin opEq (dFld [c.Rule, c.Frame] "private" (dVar 0)) (dFld [c.Rule, c.Frame] "private" (dVar 1))) (dBin opEq (dFld [c.Rule] "hours" (dVar 0)) (dFld [c.Rule] "hours" (dVar 1)))))))))
noncomputable def D_Rule___str__ (c : Cl) : En → SR :=
  (sRet (dJoin (jCons (dC (.str "step ")) (jCons (dFmt (dFld [c.Rule] "step" (dVar 0))) (jCons (dC (.str " gap ")) (jCons (dFmt (dFld [c.Rule] "gap" (dVar 0))) (jCons (dC (.str " least ")) (jCons (dFmt (dFld [c.Rule] "least" (dVar 0))) (jCons (dC (.str " private ")) (jCons (dFmt (dFld [c.Rule, c.Frame] "private" (dVar 0))) (jCons (dFmt (dCall 1 1 (D__hours_text c) (aCons (dFld [c.Rule] "hours" (dVar 0)) aNil))) jNil)))))))))))
noncomputable def D__law_seed (c : Cl) : En → SR :=
  (sSeq (sSet 2 (dBin opAdd (dBin opMul (dC (.int 8831)) (dVar 1)) (dC (.int 101)))) (sSeq (sIf (dTest (dBin opLt (dVar 1) (dCB fLen (aCons (dVar 0) aNil)))) (sSet 2 (dCB fAbs (aCons (dBin opIx (dVar 0) (dVar 1)) aNil))) (sIf (dTest (dBin opGt (dCB fLen (aCons (dVar 0) aNil)) (dC (.int 0)))) (sSet 2 (dBin opAdd (dVar 2) (dBin opMul (dBin opMod (dCB fInt (aCons (dCB fAbs (aCons (dBin opIx (dVar 0) (dBin opMod (dCB fInt (aCons (dVar 1) aNil)) (dCB fLen (aCons (dVar 0) aNil)))) aNil)) aNil)) (dC (.int 2147483629))) (dC (.int 40093))))) sNext)) (sRet (dLst (aCons (dIfE (dTest (dBin opGe (dVar 2) (dBin opPow (dC (.int 10)) (dC (.int 18))))) (dVar 2) (dC (.int 0))) (aCons (dBin opAdd (dBin opMod (dCB fInt (aCons (dBin opAdd (dBin opMul (dBin opMod (dCB fInt (aCons (dVar 2) aNil)) (dC (.int 2147483629))) (dC (.int 48271))) (dBin opMul (dC (.int 37021)) (dVar 1))) aNil)) (dC (.int 2147483629))) (dC (.int 1))) aNil))))))
noncomputable def D__law_choose (c : Cl) : En → SR :=
  (sSeq (sIf (dTest (dBin opGt (dBin opIx (dVar 0) (dC (.int 0))) (dC (.int 0)))) (sSeq (sSet 3 (dBin opMod (dCB fInt (aCons (dBin opIx (dVar 0) (dC (.int 0))) aNil)) (dVar 1))) (sSeq (sPut 0 (dBin opFdiv (dBin opIx (dVar 0) (dC (.int 0))) (dVar 1)) (dC (.int 0))) (sRet (dVar 3)))) sNext) (sSeq (sSet 2 (dBin opMod (dCB fInt (aCons (dBin opAdd (dBin opMul (dBin opIx (dVar 0) (dC (.int 1))) (dC (.int 40014))) (dC (.int 71))) aNil)) (dC (.int 2147483563)))) (sSeq (sPut 0 (dBin opAdd (dBin opMod (dCB fInt (aCons (dBin opAdd (dBin opMul (dVar 2) (dC (.int 40692))) (dC (.int 4603))) aNil)) (dC (.int 2147483629))) (dC (.int 1))) (dC (.int 1))) (sRet (dBin opMod (dCB fInt (aCons (dBin opFdiv (dBin opAdd (dBin opMul (dVar 2) (dC (.int 2147483647))) (dBin opIx (dVar 0) (dC (.int 1)))) (dC (.int 8191))) aNil)) (dVar 1))))))
noncomputable def D__law_one_of (c : Cl) : En → SR :=
  (sRet (dBin opIx (dVar 1) (dLend 2 4 (D__law_choose c) 0 (aCons (dCB fLen (aCons (dVar 1) aNil)) aNil))))
noncomputable def D__law_day_b1 (c : Cl) : En → SR :=
  (sSeq (sSet 7 (dBin opAdd (dVar 6) (dLend 2 2 (D__law_one_of c) 0 (aCons (dLst (aCons (dC (.int 0)) (aCons (dC (.int 0)) (aCons (dC (.int 1)) (aCons (dC (.int 1)) (aCons (dC (.int 2)) (aCons (dC (.int 3)) (aCons (dC (.int 5)) aNil)))))))) aNil)))) (sSeq (sSet 8 (dBin opAdd (dVar 7) (dLend 2 2 (D__law_one_of c) 0 (aCons (dLst (aCons (dC (.int 1)) (aCons (dC (.int 1)) (aCons (dC (.int 2)) (aCons (dC (.int 3)) (aCons (dC (.int 4)) (aCons (dC (.int 9)) aNil))))))) aNil)))) (sIf (dTest (dBin opLe (dVar 8) (dVar 4))) (sSeq (sDrop (eMut 5 mAppend (aCons (dTup (aCons (dVar 7) (aCons (dVar 8) (aCons (dAnd (dVar 2) (dBin opEq (dLend 2 4 (D__law_choose c) 0 (aCons (dC (.int 3)) aNil)) (dC (.int 0)))) aNil)))) aNil))) (sSet 6 (dVar 8))) sNext)))
noncomputable def D__law_day (c : Cl) : En → SR :=
  (sSeq (sMulti [4, 5, 6] (nCons (dBin opAdd (dC (.int 1)) (dLend 2 4 (D__law_choose c) 0 (aCons (dVar 1) aNil))) (nCons (dLst aNil) (nCons (dC (.int 0)) aNil)))) (sSeq (sFor (dRng1 (dC (.int 8))) (uName 3) (D__law_day_b1 c)) (sRet (dTup (aCons (dVar 4) (aCons (dVar 5) aNil))))))
noncomputable def D__law_day_text (c : Cl) : En → SR :=
  (sSeq (sSet 1 (dLcS (dBin opIx (dVar 0) (dC (.int 1))) [2, 3, 4] (uTup 3 (usCons (uName 2) (usCons (uName 3) (usCons (uName 4) usNil)))) tdYes (dBin opAdd (dBin opAdd (dBin opAdd (dCB fStr (aCons (dVar 2) aNil)) (dC (.str "-"))) (dCB fStr (aCons (dVar 3) aNil))) (dIfE (dTest (dVar 4)) (dC (.str " private")) (dC (.str "")))))) (sRet (dBin opAdd (dBin opAdd (dCB fStr (aCons (dBin opIx (dVar 0) (dC (.int 0))) aNil)) (dC (.str ": "))) (dIfE (dTest (dBin opNe (dVar 1) (dLst aNil))) (dMt fJoin (dC (.str ", ")) (aCons (dVar 1) aNil)) (dC (.str "-"))))))
noncomputable def D__law_rule (c : Cl) : En → SR :=
  (sSeq (sSet 2 (dLend 2 2 (D__law_one_of c) 0 (aCons (dLst (aCons (dC (.str "busy")) (aCons (dC (.str "busy")) (aCons (dC (.str "none")) (aCons (dC (.str "apart")) (aCons (dC (.str "one")) aNil)))))) aNil))) (sSeq (sSet 3 (dLend 2 4 (D__law_choose c) 0 (aCons (dVar 1) aNil))) (sSeq (sSet 4 (dLend 2 2 (D__law_one_of c) 0 (aCons (dLst (aCons (dC .non) (aCons (dC .non) (aCons (dTup (aCons (dVar 3) (aCons (dCB fMin (aCons (dC (.int 48)) (aCons (dCB fInt (aCons (dBin opAdd (dBin opAdd (dVar 3) (dC (.int 1))) (dLend 2 4 (D__law_choose c) 0 (aCons (dVar 1) aNil))) aNil)) aNil))) aNil))) aNil)))) aNil))) (sSeq (sMulti [5, 6] (nCons (dLend 2 2 (D__law_one_of c) 0 (aCons (dLst (aCons (dC (.int 0)) (aCons (dC (.int 0)) (aCons (dC (.int 0)) (aCons (dC (.int 1)) (aCons (dC (.int 2)) (aCons (dC (.int 3)) (aCons (dC (.int 6)) (aCons (dC (.int 14)) aNil))))))))) aNil)) (nCons (dLend 2 2 (D__law_one_of c) 0 (aCons (dLst (aCons (dC (.int 0)) (aCons (dC (.int 0)) (aCons (dC (.int 0)) (aCons (dC (.int 1)) (aCons (dC (.int 2)) (aCons (dC (.int 3)) (aCons (dC (.int 5)) (aCons (dC (.int 14)) aNil))))))))) aNil)) aNil))) (sRet (dTup (aCons (dLend 2 2 (D__law_one_of c) 0 (aCons (dLst (aCons (dC (.int 1)) (aCons (dC (.int 1)) (aCons (dC (.int 2)) (aCons (dC (.int 2)) (aCons (dC (.int 3)) (aCons (dC (.int 4)) (aCons (dC (.int 5)) (aCons (dC (.int 8)) aNil))))))))) aNil)) (aCons (dVar 5) (aCons (dVar 6) (aCons (dVar 2) (aCons (dVar 4) aNil)))))))))))
noncomputable def D__law_rule_text (c : Cl) : En → SR :=
  (sSeq (sSet 1 (dLst (aCons (dC (.str "step")) (aCons (dCB fStr (aCons (dBin opIx (dVar 0) (dC (.int 0))) aNil)) (aCons (dC (.str "gap")) (aCons (dCB fStr (aCons (dBin opIx (dVar 0) (dC (.int 1))) aNil)) (aCons (dC (.str "least")) (aCons (dCB fStr (aCons (dBin opIx (dVar 0) (dC (.int 2))) aNil)) (aCons (dC (.str "private")) (aCons (dBin opIx (dVar 0) (dC (.int 3))) aNil)))))))))) (sRet (dMt fJoin (dC (.str " ")) (aCons (dBin opAdd (dVar 1) (dIfE (dTest (dNotN (dBin opIx (dVar 0) (dC (.int 4))))) (dLst (aCons (dC (.str "hours")) (aCons (dBin opAdd (dBin opAdd (dCB fStr (aCons (dBin opIx (dBin opIx (dVar 0) (dC (.int 4))) (dC (.int 0))) aNil)) (dC (.str "-"))) (dCB fStr (aCons (dBin opIx (dBin opIx (dVar 0) (dC (.int 4))) (dC (.int 1))) aNil))) aNil))) (dLst aNil))) aNil))))
noncomputable def D__law_made_rule (c : Cl) : En → SR :=
  (sRet (dMake c.Rule 6 7 (fun ρ => D_Rule___init__ c (fillD 6 [] ρ)) (aCons (dBin opIx (dVar 0) (dC (.int 0))) (aCons (dBin opIx (dVar 0) (dC (.int 1))) (aCons (dBin opIx (dVar 0) (dC (.int 2))) (aCons (dBin opIx (dVar 0) (dC (.int 3))) (aCons (dBin opIx (dVar 0) (dC (.int 4))) aNil)))))))
noncomputable def D__law_painted_b1 (c : Cl) : En → SR :=
  (sSeq (sSet 7 (dIfE (tnd (dTest (dVar 6)) (dTest (dBin opIn (dBin opIx (dVar 0) (dC (.int 3))) (dTup (aCons (dC (.str "apart")) (aCons (dC (.str "one")) aNil)))))) (dC (.str "private")) (dC (.str "busy")))) (sIf (tnd (dTest (dBin opEq (dVar 7) (dVar 2))) (tnot (tnd (dTest (dVar 6)) (dTest (dBin opEq (dBin opIx (dVar 0) (dC (.int 3))) (dC (.str "none"))))))) (sSeq (sSet 8 (dBin opSub (dVar 4) (dBin opMod (dCB fInt (aCons (dVar 4) aNil)) (dBin opIx (dVar 0) (dC (.int 0)))))) (sSeq (sSet 9 (dBin opAdd (dVar 5) (dBin opMod (dCB fInt (aCons (dBin opSub (dC (.int 0)) (dVar 5)) aNil)) (dBin opIx (dVar 0) (dC (.int 0)))))) (sSeq (sSet 10 (dIfE (dTest (dBin opNe (dVar 3) (dLst aNil))) (dBin opIx (dVar 3) (dUn opNeg (dC (.int 1)))) (dBin opSub (dC (.int 0)) (dC (.int 99))))) (sSeq (sSet 11 (dAnd (dBin opGe (dVar 10) (dC (.int 0))) (dAnd (dBin opEq (dVar 2) (dC (.str "private"))) (dBin opEq (dBin opIx (dVar 0) (dC (.int 3))) (dC (.str "one")))))) (sSeq (sIf (tor (dTest (dBin opLe (dBin opSub (dBin opSub (dVar 8) (dVar 10)) (dC (.int 1))) (dBin opIx (dVar 0) (dC (.int 1))))) (dTest (dVar 11))) (sSet 8 (dBin opAdd (dVar 10) (dC (.int 1)))) sNext) (sDrop (eMut 3 mExtend (aCons (dLc (dRng2 (dVar 8) (dVar 9)) [12] (uName 12) (dTest (dBin opNotIn (dVar 12) (dVar 3))) (dVar 12)) aNil)))))))) sNext))
noncomputable def D__law_painted (c : Cl) : En → SR :=
  (sSeq (sSet 3 (dLst aNil)) (sSeq (sForS (dBin opIx (dVar 1) (dC (.int 1))) (uTup 3 (usCons (uName 4) (usCons (uName 5) (usCons (uName 6) usNil)))) (D__law_painted_b1 c)) (sRet (dVar 3))))
noncomputable def D__law_runs_b1 (c : Cl) : En → SR :=
  (sIf (tnd (dTest (dBin opNe (dVar 1) (dLst aNil))) (dTest (dBin opEq (dBin opIx (dBin opIx (dVar 1) (dUn opNeg (dC (.int 1)))) (dC (.int 1))) (dVar 2)))) (sPut 1 (dTup (aCons (dBin opIx (dBin opIx (dVar 1) (dUn opNeg (dC (.int 1)))) (dC (.int 0))) (aCons (dBin opAdd (dVar 2) (dC (.int 1))) aNil))) (dUn opNeg (dC (.int 1)))) (sDrop (eMut 1 mAppend (aCons (dTup (aCons (dVar 2) (aCons (dBin opAdd (dVar 2) (dC (.int 1))) aNil))) aNil))))
noncomputable def D__law_runs (c : Cl) : En → SR :=
  (sSeq (sSet 1 (dLst aNil)) (sSeq (sForS (dVar 0) (uName 2) (D__law_runs_b1 c)) (sRet (dVar 1))))
noncomputable def D__law_in_order_b1 (c : Cl) : En → SR :=
  (sSet 3 (dIfE (dTest (dBin opLt (dVar 4) (dVar 3))) (dVar 4) (dVar 3)))
noncomputable def D__law_in_order_b2 (c : Cl) : En → SR :=
  (sSeq (sSet 3 (dBin opIx (dVar 1) (dC (.int 0)))) (sSeq (sForS (dVar 1) (uName 4) (D__law_in_order_b1 c)) (sSeq (sDrop (eMut 1 mRemove (aCons (dVar 3) aNil))) (sDrop (eMut 2 mAppend (aCons (dVar 3) aNil))))))
noncomputable def D__law_in_order (c : Cl) : En → SR :=
  (sSeq (sMulti [1, 2] (nCons (dCB fList (aCons (dVar 0) aNil)) (nCons (dLst aNil) aNil))) (sSeq (sWhile 100000 (dTest (dBin opNe (dVar 1) (dLst aNil))) (D__law_in_order_b2 c)) (sRet (dCB fTuple (aCons (dVar 2) aNil)))))
noncomputable def D__law_show_b1 (c : Cl) : En → SR :=
  (sSeq (sMulti [6, 7] (nCons (dVar 4) (nCons (dVar 5) aNil))) (sSeq (sIf (dTest (dNotN (dBin opIx (dVar 0) (dC (.int 4))))) (sMulti [6, 7] (nCons (dCB fMax (aCons (dCB fInt (aCons (dVar 4) aNil)) (aCons (dBin opIx (dBin opIx (dVar 0) (dC (.int 4))) (dC (.int 0))) aNil))) (nCons (dCB fMin (aCons (dCB fInt (aCons (dVar 5) aNil)) (aCons (dBin opIx (dBin opIx (dVar 0) (dC (.int 4))) (dC (.int 1))) aNil))) aNil))) sNext) (sIf (tnd (dTest (dBin opGe (dBin opSub (dVar 5) (dVar 4)) (dBin opIx (dVar 0) (dC (.int 2))))) (dTest (dBin opLt (dVar 6) (dVar 7)))) (sDrop (eMut 2 mAppend (aCons (dTup (aCons (dVar 6) (aCons (dVar 7) (aCons (dVar 3) aNil)))) aNil))) sNext)))
noncomputable def D__law_show_b2 (c : Cl) : En → SR :=
  (sForS (dCall 1 3 (D__law_runs c) (aCons (dCall 3 13 (D__law_painted c) (aCons (dVar 0) (aCons (dVar 1) (aCons (dVar 3) aNil)))) aNil)) (uTup 2 (usCons (uName 4) (usCons (uName 5) usNil))) (D__law_show_b1 c))
noncomputable def D__law_show (c : Cl) : En → SR :=
  (sSeq (sSet 2 (dLst aNil)) (sSeq (sForS (dTup (aCons (dC (.str "busy")) (aCons (dC (.str "private")) aNil))) (uName 3) (D__law_show_b2 c)) (sRet (dCall 1 5 (D__law_in_order c) (aCons (dVar 2) aNil)))))
noncomputable def D_Rule_normal_2 (c : Cl) : En → SR :=
  (sSeq (sSet 1 (dFld [c.Rule] "step" (dVar 0))) (sSeq (sSet 2 (dBin opMul (dBin opFdiv (dFld [c.Rule] "gap" (dVar 0)) (dVar 1)) (dVar 1))) (sSeq (sSet 3 (dIfE (dTest (dBin opLe (dFld [c.Rule] "least" (dVar 0)) (dVar 1))) (dC (.int 0)) (dBin opMul (dBin opFdiv (dBin opSub (dBin opAdd (dFld [c.Rule] "least" (dVar 0)) (dVar 1)) (dC (.int 1))) (dVar 1)) (dVar 1)))) (sRet (dMake c.Rule 6 7 (fun ρ => D_Rule___init__ c (fillD 6 [] ρ)) (aCons (dVar 1) (aCons (dVar 2) (aCons (dVar 3) (aCons (dFld [c.Rule, c.Frame] "private" (dVar 0)) (aCons (dFld [c.Rule] "hours" (dVar 0)) aNil))))))))))
noncomputable def D__normal_parts (c : Cl) : En → SR :=
  (sSeq (sSet 1 (dProp c.Rule 4 (D_Rule_normal_2 c) (dVar 0))) (sRet (dTup (aCons (dFld [c.Rule] "step" (dVar 1)) (aCons (dFld [c.Rule] "gap" (dVar 1)) (aCons (dFld [c.Rule] "least" (dVar 1)) (aCons (dFld [c.Rule, c.Frame] "private" (dVar 1)) aNil)))))))
noncomputable def D_alike (c : Cl) : En → SR :=
  (sRet (dBin opEq (dCall 1 2 (D__normal_parts c) (aCons (dVar 0) aNil)) (dCall 1 2 (D__normal_parts c) (aCons (dVar 1) aNil))))
noncomputable def D__law_normal (c : Cl) : En → SR :=
  (sSeq (sSet 1 (dBin opSub (dBin opIx (dVar 0) (dC (.int 1))) (dBin opMod (dCB fInt (aCons (dBin opIx (dVar 0) (dC (.int 1))) aNil)) (dBin opIx (dVar 0) (dC (.int 0)))))) (sSeq (sSet 2 (dBin opAdd (dBin opIx (dVar 0) (dC (.int 2))) (dBin opMod (dCB fInt (aCons (dBin opSub (dC (.int 0)) (dBin opIx (dVar 0) (dC (.int 2)))) aNil)) (dBin opIx (dVar 0) (dC (.int 0)))))) (sRet (dTup (aCons (dBin opIx (dVar 0) (dC (.int 0))) (aCons (dVar 1) (aCons (dIfE (dTest (dBin opGt (dVar 2) (dBin opIx (dVar 0) (dC (.int 0))))) (dVar 2) (dC (.int 0))) (aCons (dBin opIx (dVar 0) (dC (.int 3))) (aCons (dBin opIx (dVar 0) (dC (.int 4))) aNil)))))))))
noncomputable def D_Day_having_2 (c : Cl) : En → SR :=
  (sSeq (sIf (tnot (dTest (dCall 1 4 (D__is_meeting c) (aCons (dVar 1) aNil)))) sDead sNext) (sSeq (sSet 2 (dCB fLen (aCons (dLcS (dFld [c.Day] "meetings" (dVar 0)) [3] (uName 3) (dTest (dBin opLt (dBin opIx (dVar 3) (dC (.int 0))) (dBin opIx (dVar 1) (dC (.int 0))))) (dVar 3)) aNil))) (sRet (dMake c.Day 3 3 (fun ρ => D_Day___init__ c (fillD 3 [] ρ)) (aCons (dFld [c.Day, c.Frame] "length" (dVar 0)) (aCons (dBin opAdd (dBin opAdd (dSl (dFld [c.Day] "meetings" (dVar 0)) oNone (oSome (dVar 2))) (dTup (aCons (dVar 1) aNil))) (dSl (dFld [c.Day] "meetings" (dVar 0)) (oSome (dVar 2)) oNone)) aNil))))))
noncomputable def D_Day_taken_2 (c : Cl) : En → SR :=
  (sRet (dCB fTuple (aCons (dLc2 (dSeqI (dFld [c.Day] "meetings" (dVar 0))) [1, 2] [2] (uName 1) tdYes (dRng2 (dBin opIx (dVar 1) (dC (.int 0))) (dBin opIx (dVar 1) (dC (.int 1)))) (uName 2) tdYes (dVar 2)) aNil)))
noncomputable def D__law_plain_b1 (c : Cl) : En → SR :=
  (sSet 1 (dIfE (dTest (dBin opIx (dIxO c.Day 2 (D_Day___getitem__ c) (dVar 0) (dVar 2)) (dC (.int 2)))) (dMeth c.Day "without" 2 2 (D_Day_without c) (dVar 1) (aCons (dVar 2) aNil)) (dVar 1)))
noncomputable def D__law_plain (c : Cl) : En → SR :=
  (sSeq (sSet 1 (dVar 0)) (sSeq (sFor (dRng3 (aCons (dBin opSub (dLenO c.Day 1 (D_Day___len__ c) (dVar 0)) (dC (.int 1))) (aCons (dUn opNeg (dC (.int 1))) (aCons (dUn opNeg (dC (.int 1))) aNil)))) (uName 2) (D__law_plain_b1 c)) (sRet (dVar 1))))
noncomputable def D__law_ticks_b1 (c : Cl) : En → SR :=
  (sDrop (eMut 1 mExtend (aCons (dLc (dRng2 (dVar 2) (dVar 3)) [5] (uName 5) (dTest (dBin opNotIn (dVar 5) (dVar 1))) (dVar 5)) aNil)))
noncomputable def D__law_ticks (c : Cl) : En → SR :=
  (sSeq (sSet 1 (dLst aNil)) (sSeq (sForS (dVar 0) (uTup 3 (usCons (uName 2) (usCons (uName 3) (usCons (uName 4) usNil)))) (D__law_ticks_b1 c)) (sRet (dCB fSorted (aCons (dLcS (dVar 1) [5] (uName 5) tdYes (dCB fInt (aCons (dVar 5) aNil))) aNil)))))
noncomputable def D__is_block (c : Cl) : En → SR :=
  (sSeq (sIf (tor (tnot (dTest (dIsi (kitD [c.Day, c.Rule, c.Frame]) [c.Day, c.Rule, c.Frame] [(.type "tuple")] (dVar 0)))) (dTest (dBin opNe (dCB fLen (aCons (dVar 0) aNil)) (dC (.int 3))))) (sRet (dC (.bl false))) sNext) (sSeq (sTgt (uTup 3 (usCons (uName 1) (usCons (uName 2) (usCons (uName 3) usNil)))) (dVar 0)) (sRet (dAnd (dCall 1 1 (D_is_number c) (aCons (dVar 1) aNil)) (dAnd (dCall 1 1 (D_is_number c) (aCons (dVar 2) aNil)) (dAnd (dBin opLt (dVar 1) (dVar 2)) (dBin opIn (dVar 3) (dC (.tup [(.str "busy"), (.str "private")])))))))))
noncomputable def D_is_view (c : Cl) : En → SR :=
  (sSeq (sIf (tnot (dTest (dIsi (kitD [c.Day, c.Rule, c.Frame]) [c.Day, c.Rule, c.Frame] [(.type "tuple")] (dVar 0)))) (sRet (dC (.bl false))) sNext) (sSeq (sIf (tnot (dTest (dCB fAll (aCons (dLcS (dVar 0) [2] (uName 2) tdYes (dCall 1 4 (D__is_block c) (aCons (dVar 2) aNil))) aNil)))) (sRet (dC (.bl false))) sNext) (sRet (dCB fAll (aCons (dLc (dRng1 (dBin opSub (dCB fLen (aCons (dVar 0) aNil)) (dC (.int 1)))) [1] (uName 1) tdYes (dBin opLt (dBin opIx (dVar 0) (dVar 1)) (dBin opIx (dVar 0) (dBin opAdd (dVar 1) (dC (.int 1)))))) aNil)))))
noncomputable def D_view_text (c : Cl) : En → SR :=
  (sSeq (sIf (dTest (dBin opEq (dCB fLen (aCons (dVar 0) aNil)) (dC (.int 0)))) (sRet (dC (.str "-"))) sNext) (sRet (dMt fJoin (dC (.str ", ")) (aCons (dLcS (dVar 0) [1, 2, 3] (uTup 3 (usCons (uName 1) (usCons (uName 2) (usCons (uName 3) usNil)))) tdYes (dJoin (jCons (dFmt (dVar 1)) (jCons (dC (.str "-")) (jCons (dFmt (dVar 2)) (jCons (dC (.str " ")) (jCons (dFmt (dVar 3)) jNil))))))) aNil))))
noncomputable def D__read_block (c : Cl) : En → SR :=
  (sSeq (sSet 1 (dMt f_split (dVar 0) (aCons (dC (.str " ")) aNil))) (sSeq (sIf (dTest (dBin opNe (dCB fLen (aCons (dVar 1) aNil)) (dC (.int 2)))) sDead sNext) (sSeq (sTgt (uTup 2 (usCons (uName 2) (usCons (uName 3) usNil))) (dCall 1 2 (D_read_span c) (aCons (dBin opIx (dVar 1) (dC (.int 0))) aNil))) (sRet (dTup (aCons (dVar 2) (aCons (dVar 3) (aCons (dBin opIx (dVar 1) (dC (.int 1))) aNil))))))))
noncomputable def D_read_view (c : Cl) : En → SR :=
  (sSeq (sIf (tnot (dTest (dIsi (kitD [c.Day, c.Rule, c.Frame]) [c.Day, c.Rule, c.Frame] [(.type "str")] (dVar 0)))) sDead sNext) (sSeq (sSet 1 (dIfE (dTest (dBin opEq (dVar 0) (dC (.str "-")))) (dLst aNil) (dMt f_split (dVar 0) (aCons (dC (.str ", ")) aNil)))) (sSeq (sSet 2 (dCB fTuple (aCons (dLcS (dVar 1) [3] (uName 3) tdYes (dCall 1 4 (D__read_block c) (aCons (dVar 3) aNil))) aNil))) (sSeq (sIf (tnot (dTest (dCall 1 3 (D_is_view c) (aCons (dVar 2) aNil)))) sDead sNext) (sRet (dVar 2))))))
noncomputable def D__is_known (c : Cl) : En → SR :=
  (sSeq (sIf (tor (tnot (dTest (dIsi (kitD [c.Day, c.Rule, c.Frame]) [c.Day, c.Rule, c.Frame] [(.type "tuple")] (dVar 0)))) (dTest (dBin opNe (dCB fLen (aCons (dVar 0) aNil)) (dC (.int 2))))) (sRet (dC (.bl false))) sNext) (sSeq (sTgt (uTup 2 (usCons (uName 2) (usCons (uName 3) usNil))) (dVar 0)) (sRet (dAnd (dCall 1 1 (D_is_number c) (aCons (dVar 2) aNil)) (dAnd (dBin opLt (dVar 2) (dVar 1)) (dIsi (kitD [c.Day, c.Rule, c.Frame]) [c.Day, c.Rule, c.Frame] [(.type "bool")] (dVar 3)))))))
noncomputable def D__are_known (c : Cl) : En → SR :=
  (sRet (dAnd (dCall 1 1 (D_is_sequence c) (aCons (dVar 0) aNil)) (dCB fAll (aCons (dLcS (dVar 0) [2] (uName 2) tdYes (dCall 2 4 (D__is_known c) (aCons (dVar 2) (aCons (dVar 1) aNil)))) aNil))))
noncomputable def D_wrong_argument_frames (c : Cl) : En → SR :=
  (sSeq (sIf (tnot (dTest (dCall 1 1 (D_is_positive c) (aCons (dVar 0) aNil)))) (sRet (dC (.str "length"))) sNext) (sSeq (sIf (tnot (dTest (dCall 1 1 (D_is_positive c) (aCons (dVar 1) aNil)))) (sRet (dC (.str "shortest"))) sNext) (sSeq (sIf (tnd (dTest (dNotN (dVar 2))) (tnot (dTest (dCall 1 1 (D_is_number c) (aCons (dVar 2) aNil))))) (sRet (dC (.str "most"))) sNext) (sSeq (sIf (tnot (dTest (dIsi (kitD [c.Day, c.Rule, c.Frame]) [c.Day, c.Rule, c.Frame] [(.type "bool")] (dVar 3)))) (sRet (dC (.str "private"))) sNext) (sSeq (sIf (tnot (dTest (dCall 2 3 (D__are_known c) (aCons (dVar 4) (aCons (dVar 0) aNil))))) (sRet (dC (.str "known"))) sNext) (sRet (dC .non)))))))
noncomputable def D__pair_words (c : Cl) : En → SR :=
  (sSeq (sTgt (uTup 2 (usCons (uName 1) (usCons (uName 2) usNil))) (dVar 0)) (sRet (dIfE (dTest (dVar 2)) (dJoin (jCons (dC (.str "taken ")) (jCons (dFmt (dVar 1)) jNil))) (dJoin (jCons (dC (.str "free ")) (jCons (dFmt (dVar 1)) jNil))))))
noncomputable def D__frame_words (c : Cl) : En → SR :=
  (sSeq (sSet 1 (dLst (aCons (dJoin (jCons (dC (.str "length ")) (jCons (dFmt (dFld [c.Day, c.Frame] "length" (dVar 0))) jNil))) (aCons (dJoin (jCons (dC (.str "shortest ")) (jCons (dFmt (dFld [c.Frame] "shortest" (dVar 0))) jNil))) aNil)))) (sSeq (sIf (dTest (dNotN (dFld [c.Frame] "most" (dVar 0)))) (sDrop (eMut 1 mAppend (aCons (dJoin (jCons (dC (.str "most ")) (jCons (dFmt (dFld [c.Frame] "most" (dVar 0))) jNil))) aNil))) sNext) (sSeq (sIf (dTest (dFld [c.Rule, c.Frame] "private" (dVar 0))) (sDrop (eMut 1 mAppend (aCons (dC (.str "private")) aNil))) sNext) (sRet (dBin opAdd (dVar 1) (dLcS (dFld [c.Frame] "known" (dVar 0)) [2] (uName 2) tdYes (dCall 1 3 (D__pair_words c) (aCons (dVar 2) aNil))))))))
noncomputable def D__read_most (c : Cl) : En → SR :=
  (sSeq (sIf (dTest (dBin opNe (dSl (dVar 0) oNone (oSome (dC (.int 1)))) (dLst (aCons (dC (.str "most")) aNil)))) (sRet (dTup (aCons (dC .non) (aCons (dVar 0) aNil)))) sNext) (sSeq (sIf (dTest (dBin opLt (dCB fLen (aCons (dVar 0) aNil)) (dC (.int 2)))) sDead sNext) (sRet (dTup (aCons (dCall 1 1 (D_read_number c) (aCons (dBin opIx (dVar 0) (dC (.int 1))) aNil)) (aCons (dSl (dVar 0) (oSome (dC (.int 2))) oNone) aNil))))))
noncomputable def D_read_private_frames (c : Cl) : En → SR :=
  (sSeq (sIf (dTest (dBin opNe (dSl (dVar 0) oNone (oSome (dC (.int 1)))) (dLst (aCons (dC (.str "private")) aNil)))) (sRet (dTup (aCons (dC (.bl false)) (aCons (dVar 0) aNil)))) sNext) (sRet (dTup (aCons (dC (.bl true)) (aCons (dSl (dVar 0) (oSome (dC (.int 1))) oNone) aNil)))))
noncomputable def D__read_pair (c : Cl) : En → SR :=
  (sSeq (sIf (dTest (dBin opNotIn (dVar 0) (dTup (aCons (dC (.str "taken")) (aCons (dC (.str "free")) aNil))))) sDead sNext) (sRet (dTup (aCons (dCall 1 1 (D_read_number c) (aCons (dVar 1) aNil)) (aCons (dBin opEq (dVar 0) (dC (.str "taken"))) aNil)))))
noncomputable def D__read_known (c : Cl) : En → SR :=
  (sSeq (sIf (dTest (dBin opNe (dBin opMod (dCB fLen (aCons (dVar 0) aNil)) (dC (.int 2))) (dC (.int 0)))) sDead sNext) (sRet (dLc (dRng3 (aCons (dC (.int 0)) (aCons (dCB fLen (aCons (dVar 0) aNil)) (aCons (dC (.int 2)) aNil)))) [1] (uName 1) tdYes (dCall 2 2 (D__read_pair c) (aCons (dBin opIx (dVar 0) (dVar 1)) (aCons (dBin opIx (dVar 0) (dBin opAdd (dVar 1) (dC (.int 1)))) aNil))))))
noncomputable def D_Frame___init__ (c : Cl) : En → SR :=
  (sSeq (sSet 6 (dCall 5 5 (D_wrong_argument_frames c) (aCons (dVar 1) (aCons (dVar 2) (aCons (dVar 3) (aCons (dVar 4) (aCons (dVar 5) aNil))))))) (sSeq (sIf (dTest (dNotN (dVar 6))) sDead sNext) (sSeq (sFldD [c.Frame] 0 "length" (dVar 1)) (sSeq (sFldD [c.Frame] 0 "shortest" (dVar 2)) (sSeq (sFldD [c.Frame] 0 "most" (dVar 3)) (sSeq (sFldD [c.Frame] 0 "private" (dVar 4)) (sFldD [c.Frame] 0 "known" (dCB fTuple (aCons (dVar 5) aNil)))))))))
noncomputable def D_Frame_read (c : Cl) : En → SR :=
  (sSeq (sIf (tnot (dTest (dIsi (kitD [c.Day, c.Rule, c.Frame]) [c.Day, c.Rule, c.Frame] [(.type "str")] (dVar 1)))) sDead sNext) (sSeq (sSet 2 (dMt f_split (dVar 1) (aCons (dC (.str " ")) aNil))) (sSeq (sIf (tor (dTest (dBin opNe (dSl3 (2) (dVar 2) (oSome (dC (.int 0))) (oSome (dC (.int 3)))) (dLst (aCons (dC (.str "length")) (aCons (dC (.str "shortest")) aNil))))) (dTest (dBin opLt (dCB fLen (aCons (dVar 2) aNil)) (dC (.int 4))))) sDead sNext) (sSeq (sMulti [3, 4] (nCons (dCall 1 1 (D_read_number c) (aCons (dBin opIx (dVar 2) (dC (.int 1))) aNil)) (nCons (dCall 1 1 (D_read_number c) (aCons (dBin opIx (dVar 2) (dC (.int 3))) aNil)) aNil))) (sSeq (sTgt (uTup 2 (usCons (uName 5) (usCons (uName 6) usNil))) (dCall 1 1 (D__read_most c) (aCons (dSl (dVar 2) (oSome (dC (.int 4))) oNone) aNil))) (sSeq (sTgt (uTup 2 (usCons (uName 7) (usCons (uName 6) usNil))) (dCall 1 1 (D_read_private_frames c) (aCons (dVar 6) aNil))) (sRet (dMakeL c.Frame 0 6 7 (fun ρ => D_Frame___init__ c (fillD 6 [] ρ)) (aCons (dVar 3) (aCons (dVar 4) (aCons (dVar 5) (aCons (dVar 7) (aCons (dCall 1 2 (D__read_known c) (aCons (dVar 6) aNil)) aNil)))))))))))))
noncomputable def D_Frame_knowing (c : Cl) : En → SR :=
  (sRet (dMake c.Frame 6 7 (fun ρ => D_Frame___init__ c (fillD 6 [] ρ)) (aCons (dFld [c.Day, c.Frame] "length" (dVar 0)) (aCons (dFld [c.Frame] "shortest" (dVar 0)) (aCons (dFld [c.Frame] "most" (dVar 0)) (aCons (dFld [c.Rule, c.Frame] "private" (dVar 0)) (aCons (dBin opAdd (dFld [c.Frame] "known" (dVar 0)) (dTup (aCons (dTup (aCons (dVar 1) (aCons (dVar 2) aNil))) aNil))) aNil)))))))
noncomputable def D_Frame_lets_b1 (c : Cl) : En → SR :=
  (sIf (tor (dTest (dBin opLt (dBin opSub (dVar 4) (dVar 3)) (dFld [c.Frame] "shortest" (dVar 0)))) (tnd (dTest (dVar 5)) (tnot (dTest (dFld [c.Rule, c.Frame] "private" (dVar 0)))))) (sRet (dC (.bl false))) sNext)
noncomputable def D_Frame_lets (c : Cl) : En → SR :=
  (sSeq (sIf (tor (dTest (dBin opNe (dFld [c.Day, c.Frame] "length" (dVar 1)) (dFld [c.Day, c.Frame] "length" (dVar 0)))) (tnd (dTest (dNotN (dFld [c.Frame] "most" (dVar 0)))) (dTest (dBin opGt (dCB fLen (aCons (dFld [c.Day] "meetings" (dVar 1)) aNil)) (dFld [c.Frame] "most" (dVar 0)))))) (sRet (dC (.bl false))) sNext) (sSeq (sForS (dFld [c.Day] "meetings" (dVar 1)) (uTup 3 (usCons (uName 3) (usCons (uName 4) (usCons (uName 5) usNil)))) (D_Frame_lets_b1 c)) (sSeq (sSet 2 (dProp c.Day 3 (D_Day_taken_2 c) (dVar 1))) (sRet (dCB fAll (aCons (dLcS (dFld [c.Frame] "known" (dVar 0)) [6, 7] (uTup 2 (usCons (uName 6) (usCons (uName 7) usNil))) tdYes (dBin opEq (dBin opIn (dVar 6) (dVar 2)) (dVar 7))) aNil))))))
noncomputable def D_Frame___eq__ (c : Cl) : En → SR :=
  (sRet (dAnd (dIsi (kitD [c.Day, c.Rule, c.Frame]) [c.Day, c.Rule, c.Frame] [(.ref c.Frame)] (dVar 1)) (dAnd (dBin opEq (dFld [c.Day, c.Frame] "length" (dVar 0)) (dFld [c.Day, c.Frame] "length" (dVar 1))) (dAnd (dBin opEq (dFld [c.Frame] "shortest" (dVar 0)) (dFld [c.Frame] "shortest" (dVar 1))) (dAnd (dBin opEq (dFld [c.Frame] "most" (dVar 0)) (dFld [c.Frame] "most" (dVar 1))) (dAnd (dBin opEq (dFld [c.Rule, c.Frame] "private" (dVar 0)) (dFld [c.Rule, c.Frame] "private" (dVar 1))) (dBin opEq (dFld [c.Frame] "known" (dVar 0)) (dFld [c.Frame] "known" (dVar 1)))))))))
noncomputable def D_Frame___str__ (c : Cl) : En → SR :=
  (sRet (dMt fJoin (dC (.str " ")) (aCons (dCall 1 3 (D__frame_words c) (aCons (dVar 0) aNil)) aNil)))
noncomputable def D__law_frame_b1 (c : Cl) : En → SR :=
  (sDrop (eMut 6 mAppend (aCons (dTup (aCons (dLend 2 4 (D__law_choose c) 0 (aCons (dVar 5) aNil)) (aCons (dBin opEq (dLend 2 4 (D__law_choose c) 0 (aCons (dC (.int 2)) aNil)) (dC (.int 0))) aNil))) aNil)))
noncomputable def D__law_frame (c : Cl) : En → SR :=
  (sSeq (sMulti [5, 6] (nCons (dBin opAdd (dC (.int 1)) (dLend 2 4 (D__law_choose c) 0 (aCons (dVar 1) aNil))) (nCons (dLst aNil) aNil))) (sSeq (sFor (dRng1 (dLend 2 2 (D__law_one_of c) 0 (aCons (dLst (aCons (dC (.int 0)) (aCons (dC (.int 0)) (aCons (dC (.int 0)) (aCons (dC (.int 1)) (aCons (dC (.int 2)) aNil)))))) aNil))) (uName 3) (D__law_frame_b1 c)) (sSeq (sSet 4 (dLend 2 2 (D__law_one_of c) 0 (aCons (dLst (aCons (dC .non) (aCons (dC .non) (aCons (dLend 2 4 (D__law_choose c) 0 (aCons (dC (.int 4)) aNil)) aNil)))) aNil))) (sRet (dTup (aCons (dVar 5) (aCons (dLend 2 2 (D__law_one_of c) 0 (aCons (dLst (aCons (dC (.int 1)) (aCons (dC (.int 1)) (aCons (dC (.int 2)) (aCons (dC (.int 3)) aNil))))) aNil)) (aCons (dVar 4) (aCons (dAnd (dVar 2) (dBin opEq (dLend 2 4 (D__law_choose c) 0 (aCons (dC (.int 3)) aNil)) (dC (.int 0)))) (aCons (dVar 6) aNil))))))))))
noncomputable def D__law_leaf (c : Cl) : En → SR :=
  (sSeq (sSet 1 (dLst (aCons (dC .non) (aCons (dC (.bl true)) (aCons (dC (.bl false)) (aCons (dC (.int 0)) (aCons (dC (.int 1)) (aCons (dBin opSub (dC (.int 0)) (dC (.int 1))) (aCons (dC (.int 2)) (aCons (dC (.int 3)) (aCons (dC (.str "")) (aCons (dC (.str "busy")) (aCons (dC (.str "private")) (aCons (dC (.str "one")) (aCons (dC (.str "2-5")) aNil))))))))))))))) (sRet (dLend 2 2 (D__law_one_of c) 0 (aCons (dBin opAdd (dVar 1) (dLst (aCons (dC (.str "-")) (aCons (dC (.str "12: -")) aNil)))) aNil))))
noncomputable def D__law_any_r (c : Cl) (rec : En → SR) : En → SR :=
  (sSeq (sSet 2 (dIfE (dTest (dBin opGt (dVar 1) (dC (.int 0)))) (dLend 2 4 (D__law_choose c) 0 (aCons (dC (.int 6)) aNil)) (dC (.int 9)))) (sSeq (sIf (dTest (dBin opGt (dVar 2) (dC (.int 1)))) (sRet (dLend 1 2 (D__law_leaf c) 0 aNil)) sNext) (sSeq (sSet 3 (dLc (dRng1 (dLend 2 4 (D__law_choose c) 0 (aCons (dC (.int 4)) aNil))) [4] (uName 4) tdYes (dLend 2 5 rec 0 (aCons (dBin opSub (dVar 1) (dC (.int 1))) aNil)))) (sRet (dIfE (dTest (dBin opEq (dVar 2) (dC (.int 0)))) (dCB fTuple (aCons (dVar 3) aNil)) (dVar 3))))))
noncomputable def D__law_any_n (c : Cl) : Nat → En → SR
  | 0 => fun _ => .stuck
  | n + 1 => D__law_any_r c (D__law_any_n c n)
noncomputable def D__law_any (c : Cl) : En → SR := D__law_any_n c 9
noncomputable def D__law_is_block (c : Cl) : En → SR :=
  (sSeq (sIf (tor (tnot (dTest (dIsi (kitD [c.Day, c.Rule, c.Frame]) [c.Day, c.Rule, c.Frame] [(.type "tuple")] (dVar 0)))) (tor (dTest (dBin opNe (dCB fLen (aCons (dVar 0) aNil)) (dC (.int 3)))) (tnot (dTest (dIsi (kitD [c.Day, c.Rule, c.Frame]) [c.Day, c.Rule, c.Frame] [(.type "str")] (dBin opIx (dVar 0) (dC (.int 2)))))))) (sRet (dC (.bl false))) sNext) (sSeq (sIf (dTest (dBin opNe (dLcS (dSl (dVar 0) oNone (oSome (dC (.int 2)))) [1] (uName 1) (tor (tnot (dTest (dIsi (kitD [c.Day, c.Rule, c.Frame]) [c.Day, c.Rule, c.Frame] [(.type "int")] (dVar 1)))) (dTest (dIsi (kitD [c.Day, c.Rule, c.Frame]) [c.Day, c.Rule, c.Frame] [(.type "bool")] (dVar 1)))) (dVar 1)) (dLst aNil))) (sRet (dC (.bl false))) sNext) (sRet (dAnd (dChain opLe opLt (dC (.int 0)) (dBin opIx (dVar 0) (dC (.int 0))) (dBin opIx (dVar 0) (dC (.int 1)))) (dBin opIn (dBin opIx (dVar 0) (dC (.int 2))) (dTup (aCons (dC (.str "busy")) (aCons (dC (.str "private")) aNil))))))))
noncomputable def D__law_due (c : Cl) : En → SR :=
  (sSeq (sIf (tor (tnot (dTest (dIsi (kitD [c.Day, c.Rule, c.Frame]) [c.Day, c.Rule, c.Frame] [(.type "tuple")] (dVar 0)))) (dTest (dBin opNe (dLcS (dVar 0) [1] (uName 1) (tnot (dTest (dCall 1 2 (D__law_is_block c) (aCons (dVar 1) aNil)))) (dVar 1)) (dLst aNil)))) (sRet (dC (.bl false))) sNext) (sRet (dBin opEq (dLc (dZip (aCons (dVar 0) (aCons (dSl (dVar 0) (oSome (dC (.int 1))) oNone) aNil))) [1, 2] (uTup 2 (usCons (uName 1) (usCons (uName 2) usNil))) (tnot (dTest (dBin opLt (dVar 1) (dVar 2)))) (dC (.int 1))) (dLst aNil))))
end DL

set_option Elab.async false
set_option linter.all false
set_option maxRecDepth 100000
set_option maxHeartbeats 4000000
namespace DL
open PySem PySem.Spec PyProof.Rows L2 DD
noncomputable def D_law_b1 (c : Cl) : En → SR :=
  (sIf (dTest (dBin opNe (dCB fRepr (aCons (dCall 1 3 (D_is_view c) (aCons (dVar 8) aNil)) aNil)) (dCB fRepr (aCons (dCall 1 3 (D__law_due c) (aCons (dVar 8) aNil)) aNil)))) (sRet (dC (.bl false))) sNext)
noncomputable def D_law_b2 (c : Cl) : En → SR :=
  (sSeq (sSet 4 (dCall 2 8 (D__law_show c) (aCons (dLend 2 7 (D__law_rule c) 2 (aCons (dC (.int 40)) aNil)) (aCons (dLend 3 9 (D__law_day c) 2 (aCons (dC (.int 40)) (aCons (dC (.bl true)) aNil))) aNil)))) (sSeq (sIf (tor (dTest (dBin opNotB (dCall 1 3 (D_is_view c) (aCons (dVar 4) aNil)) (dC (.bl true)))) (dTest (dBin opNotB (dCall 1 3 (D_is_view c) (aCons (dCB fList (aCons (dVar 4) aNil)) aNil)) (dC (.bl false))))) (sRet (dC (.bl false))) sNext) (sSeq (sSet 5 (dLend 2 4 (D__law_choose c) 2 (aCons (dBin opAdd (dCB fLen (aCons (dVar 4) aNil)) (dC (.int 1))) aNil))) (sSeq (sSet 6 (dLst (aCons (dC .non) (aCons (dTup (aCons (dC (.int 1)) (aCons (dC (.int 2)) aNil))) (aCons (dTup (aCons (dC (.int 2)) (aCons (dC (.int 1)) (aCons (dC (.str "busy")) aNil)))) (aCons (dTup (aCons (dC (.int 1)) (aCons (dC (.int 1)) (aCons (dC (.str "busy")) aNil)))) (aCons (dTup (aCons (dC (.int 0)) (aCons (dC (.int 1)) (aCons (dC (.str "none")) aNil)))) (aCons (dLst (aCons (dC (.int 0)) (aCons (dC (.int 1)) (aCons (dC (.str "busy")) aNil)))) (aCons (dTup (aCons (dC (.bl true)) (aCons (dC (.int 2)) (aCons (dC (.str "busy")) aNil)))) aNil))))))))) (sSeq (sSet 6 (dBin opAdd (dVar 6) (dLst (aCons (dTup (aCons (dBin opSub (dC (.int 0)) (dC (.int 1))) (aCons (dC (.int 2)) (aCons (dC (.str "busy")) aNil)))) (aCons (dTup (aCons (dC (.int 0)) (aCons (dC (.int 1)) (aCons (dC (.str "busy")) aNil)))) (aCons (dTup (aCons (dC (.int 50)) (aCons (dC (.int 60)) (aCons (dC (.str "private")) aNil)))) (aCons (dTup (aCons (dC (.int 0)) (aCons (dC (.int 1)) (aCons (dC (.str "private")) aNil)))) (aCons (dTup (aCons (dC (.int 0)) (aCons (dC (.int 1)) (aCons (dC .non) aNil)))) aNil)))))))) (sSeq (sSet 7 (dBin opAdd (dBin opAdd (dSl (dVar 4) oNone (oSome (dVar 5))) (dTup (aCons (dLend 2 2 (D__law_one_of c) 2 (aCons (dVar 6) aNil)) aNil))) (dSl (dVar 4) (oSome (dBin opAdd (dVar 5) (dLend 2 4 (D__law_choose c) 2 (aCons (dC (.int 2)) aNil)))) oNone))) (sForS (dTup (aCons (dVar 7) (aCons (dBin opAdd (dVar 4) (dSl (dVar 4) oNone (oSome (dC (.int 1))))) (aCons (dRev (dVar 4)) (aCons (dLend 2 5 (D__law_any c) 2 (aCons (dC (.int 7)) aNil)) (aCons (dBin opAdd (dVar 4) (dTup (aCons (dTup aNil) aNil))) (aCons (dMake c.Rule 1 7 (fun ρ => D_Rule___init__ c (permD 1 [(.int 1), (.int 0), (.int 0), (.str "busy"), .non] [0, 1, 2, 3, 4, 5] ρ)) aNil) (aCons (dBin opAdd (dVar 4) (dTup (aCons (dMake c.Rule 1 7 (fun ρ => D_Rule___init__ c (permD 1 [(.int 1), (.int 0), (.int 0), (.str "busy"), .non] [0, 1, 2, 3, 4, 5] ρ)) aNil) aNil))) aNil)))))))) (uName 8) (D_law_b1 c))))))))
noncomputable def D_law_b3 (c : Cl) : En → SR :=
  (sSeq (sSet 2 (dCall 2 3 (D__law_seed c) (aCons (dVar 0) (aCons (dVar 1) aNil)))) (sFor (dRng1 (dC (.int 8))) (uName 3) (D_law_b2 c)))
noncomputable def D_law (c : Cl) : En → SR :=
  (sSeq (sFor (dRng1 (dCB fMax (aCons (dC (.int 2)) (aCons (dCB fMin (aCons (dC (.int 5)) (aCons (dCB fLen (aCons (dVar 0) aNil)) aNil))) aNil)))) (uName 1) (D_law_b3 c)) (sRet (dAnd (dBin opIsB (dCall 1 3 (D_is_view c) (aCons (dTup aNil) aNil)) (dC (.bl true))) (dBin opIsB (dCall 1 3 (D_is_view c) (aCons (dC (.str "busy")) aNil)) (dC (.bl false))))))
end DL

set_option Elab.async false
set_option linter.all false
set_option maxRecDepth 100000
set_option maxHeartbeats 4000000
namespace DD
open PySem PySem.Spec PyProof.Rows L2 StX ClX DL
section
variable {P : Program} {w : World} {K : PySem.W.Frag} {mg : Str → Option Value} {base : Heap} {d : Ad}
theorem ok_is_integer (T : Txt K mg d) : FnR P w K mg base CX0 1 d.f_is_integer (spD0 K 1 1 (D_is_integer (cl d))) :=
  mkDz T.F_is_integer sc_is_integer (by decide) (fun _ _ _ _ _ _ us hl => match us, hl with | [_], _ => rfl) (fun cdv A outer s H E hr => by
    have hu := hr.units
    have hu5 := room5 hr
    exact ⟨_, (pss_one (ps_ret (pe_and (pe_callB call_isi (by rfl) T.b_isinstance (by decide +kernel) (pa_cons (pv 0) (pa_cons (pe_bltn (v := .ty "int") rfl T.b_int (by decide +kernel) rfl) pa_nil))) (pe_one (pe_not (pe_callB call_isi (by rfl) T.b_isinstance (by decide +kernel) (pa_cons (pv 0) (pa_cons (pe_bltn (v := .ty "bool") rfl T.b_bool (by decide +kernel) rfl) pa_nil)))))))), (L_ret (L_and (L_isi (kit_ok T) (tyc T) (.ty "int") (L_var (i := 0))) (L_not (L_isi (kit_ok T) (tyc T) (.ty "bool") (L_var (i := 0))))))⟩)
theorem ok_is_number (T : Txt K mg d) : FnR P w K mg base CX0 2 d.f_is_number (spD0 K 1 1 (D_is_number (cl d))) :=
  mkDz T.F_is_number sc_is_number (by decide) (fun _ _ _ _ _ _ us hl => match us, hl with | [_], _ => rfl) (fun cdv A outer s H E hr => by
    have hu := hr.units
    have hu5 := room5 hr
    exact ⟨_, (pss_one (ps_ret (pe_and (pe_callR (sp := spD0 K 1 1 (D_is_integer (cl d))) (ok_is_integer T) (hr.mono (by decide)) rfl T.m_is_integer T.k_is_integer pass0 (pa_cons (pv 0) pa_nil)) (pe_one (pe_cmpR op_ge (pv 0) pe_int (nomark _)))))), (L_ret (L_and (Lz_call (A_cons (L_var (i := 0)) A_nil)) (L_bin S_ge (L_var (i := 0)) L_int)))⟩)
theorem ok__are_hours (T : Txt K mg d) : FnR P w K mg base CX0 3 d.f__are_hours (spD0 K 1 3 (D__are_hours (cl d))) :=
  mkDz T.F__are_hours sc__are_hours (by decide) (fun _ _ _ _ _ _ us hl => match us, hl with | [_], _ => rfl) (fun cdv A outer s H E hr => by
    have hu := hr.units
    have hu5 := room5 hr
    exact ⟨_, (pss_cons (ps_if (pt_cmp (pc_isN (pv 0))) (pss_one (ps_ret pe_bl)) pss_nil) (pss_cons (ps_if (PW.pt (pw_or (pt_not (pt_val (pe_callB call_isi (by rfl) T.b_isinstance (by decide +kernel) (pa_cons (pv 0) (pa_cons (pe_bltn (v := .ty "tuple") rfl T.b_tuple (by decide +kernel) rfl) pa_nil))))) (pw_or1 (pt_cmpR (op_ne2 (K := K) hu) (pe_callB (call_len2 (K := K)) (by rfl) T.b_len PySem.boot_len (pa_cons (pv 0) pa_nil)) pe_int (nomark _))))) (pss_one (ps_ret pe_bl)) pss_nil) (pss_cons (ps_asg (pv 0) (pg_tupK (K := K) (n := 2) rfl (pgs_cons (pg_name (i := 1) sc__are_hours.nd rfl (by first | exact Or.inl rfl | exact Or.inr rfl)) (pgs_cons (pg_name (i := 2) sc__are_hours.nd rfl (by first | exact Or.inl rfl | exact Or.inr rfl)) pgs_nil)))) (pss_one (ps_ret (pe_and (pe_callR (sp := spD0 K 1 1 (D_is_number (cl d))) (ok_is_number T) (hr.mono (by decide)) rfl T.m_is_number T.k_is_number pass0 (pa_cons (pv 1) pa_nil)) (pe_and (pe_callR (sp := spD0 K 1 1 (D_is_number (cl d))) (ok_is_number T) (hr.mono (by decide)) rfl T.m_is_number T.k_is_number pass0 (pa_cons (pv 2) pa_nil)) (pe_one (pe_cmpR (op_lt2 (K := K) hu) (pv 1) (pv 2) (nomark _)))))))))), (L_seq (L_if (L_test (L_isN (L_var (i := 0)))) (L_ret L_bl) L_next) (L_seq (L_if (L_tor (L_tnot (L_test (L_isi (kit_ok T) (tyc T) (.ty "tuple") (L_var (i := 0))))) (L_test (L_bin S_ne (L_cb C_len (A_cons (L_var (i := 0)) A_nil)) L_int))) (L_ret L_bl) L_next) (L_seq (L_tgt (vs := [1, 2]) (L_var (i := 0)) (U_tup (Us_cons (U_name (by decide)) (Us_cons (U_name (by decide)) Us_nil)))) (L_ret (L_and (Lz_call (A_cons (L_var (i := 1)) A_nil)) (L_and (Lz_call (A_cons (L_var (i := 2)) A_nil)) (L_bin S_lt2 (L_var (i := 1)) (L_var (i := 2)))))))))⟩)
theorem ok_is_positive (T : Txt K mg d) : FnR P w K mg base CX0 2 d.f_is_positive (spD0 K 1 1 (D_is_positive (cl d))) :=
  mkDz T.F_is_positive sc_is_positive (by decide) (fun _ _ _ _ _ _ us hl => match us, hl with | [_], _ => rfl) (fun cdv A outer s H E hr => by
    have hu := hr.units
    have hu5 := room5 hr
    exact ⟨_, (pss_one (ps_ret (pe_and (pe_callR (sp := spD0 K 1 1 (D_is_integer (cl d))) (ok_is_integer T) (hr.mono (by decide)) rfl T.m_is_integer T.k_is_integer pass0 (pa_cons (pv 0) pa_nil)) (pe_one (pe_cmpR op_ge (pv 0) pe_int (nomark _)))))), (L_ret (L_and (Lz_call (A_cons (L_var (i := 0)) A_nil)) (L_bin S_ge (L_var (i := 0)) L_int)))⟩)
theorem ok__wrong_argument (T : Txt K mg d) : FnR P w K mg base CX0 4 d.f__wrong_argument (spD0 K 5 5 (D__wrong_argument (cl d))) :=
  mkDz T.F__wrong_argument sc__wrong_argument (by decide) (fun _ _ _ _ _ _ us hl => match us, hl with | [_, _, _, _, _], _ => rfl) (fun cdv A outer s H E hr => by
    have hu := hr.units
    have hu5 := room5 hr
    exact ⟨_, (pss_cons (ps_if (pt_not (pt_val (pe_callR (sp := spD0 K 1 1 (D_is_positive (cl d))) (ok_is_positive T) (hr.mono (by decide)) rfl T.m_is_positive T.k_is_positive pass0 (pa_cons (pv 0) pa_nil)))) (pss_one (ps_ret pe_str)) pss_nil) (pss_cons (ps_if (pt_not (pt_val (pe_callR (sp := spD0 K 1 1 (D_is_number (cl d))) (ok_is_number T) (hr.mono (by decide)) rfl T.m_is_number T.k_is_number pass0 (pa_cons (pv 1) pa_nil)))) (pss_one (ps_ret pe_str)) pss_nil) (pss_cons (ps_if (pt_not (pt_val (pe_callR (sp := spD0 K 1 1 (D_is_number (cl d))) (ok_is_number T) (hr.mono (by decide)) rfl T.m_is_number T.k_is_number pass0 (pa_cons (pv 2) pa_nil)))) (pss_one (ps_ret pe_str)) pss_nil) (pss_cons (ps_if (pt_cmpR (op_notIn2 (K := K) hu5) (pv 3) (pe_glob (v := .ref d.c_PRIVATE_WORDS) rfl T.m_PRIVATE_WORDS rfl) rfl) (pss_one (ps_ret pe_str)) pss_nil) (pss_cons (ps_if (pt_not (pt_val (pe_callR (sp := spD0 K 1 3 (D__are_hours (cl d))) (ok__are_hours T) (hr.mono (by decide)) rfl T.m__are_hours T.k__are_hours pass0 (pa_cons (pv 4) pa_nil)))) (pss_one (ps_ret pe_str)) pss_nil) (pss_one (ps_ret pe_non))))))), (L_seq (L_if (L_tnot (L_test (Lz_call (A_cons (L_var (i := 0)) A_nil)))) (L_ret L_str) L_next) (L_seq (L_if (L_tnot (L_test (Lz_call (A_cons (L_var (i := 1)) A_nil)))) (L_ret L_str) L_next) (L_seq (L_if (L_tnot (L_test (Lz_call (A_cons (L_var (i := 2)) A_nil)))) (L_ret L_str) L_next) (L_seq (L_if (L_test (L_bin S_notIn (L_var (i := 3)) (L_c (rp_PRIVATE_WORDS T)))) (L_ret L_str) L_next) (L_seq (L_if (L_tnot (L_test (Lz_call (A_cons (L_var (i := 4)) A_nil)))) (L_ret L_str) L_next) (L_ret L_non))))))⟩)
theorem body_Rule___init__ (T : Txt K mg d) (cdv : Value) (A : Around) (outer : List Env) (s : Shared) (H : Hp) (E : XK) (hr : Room 4 (A.deeper (envOfC "Rule.__init__" (defScope s_Rule___init__) s.heap.objs.size d.f_Rule___init__ cdv))) :
    ∃ t, PSs (cxOf CX0 P w K mg base ["self", "step", "gap", "least", "private", "hours", "wrong"] "Rule.__init__" (defScope s_Rule___init__) d.f_Rule___init__ cdv A outer s H E).nox (defBody s_Rule___init__) t ∧ LS K E0 t (D_Rule___init__ (cl d)) := by
    have hu := hr.units
    have hu5 := room5 hr
    exact ⟨_, (pss_cons (ps_set (i := 6) sc_Rule___init__.nd rfl (by first | exact Or.inl rfl | exact Or.inr rfl) (pe_callR (sp := spD0 K 5 5 (D__wrong_argument (cl d))) (ok__wrong_argument T) (hr.mono (by decide)) rfl T.m__wrong_argument T.k__wrong_argument pass0 (pa_cons (pv 1) (pa_cons (pv 2) (pa_cons (pv 3) (pa_cons (pv 4) (pa_cons (pv 5) pa_nil))))))) (pss_cons (ps_if (pt_cmp (pc_notN (pv 6))) (pss_one ps_dead) pss_nil) (pss_cons (ps_fld (pv 0) (pv 1) rfl) (pss_cons (ps_fld (pv 0) (pv 2) rfl) (pss_cons (ps_fld (pv 0) (pv 3) rfl) (pss_cons (ps_fld (pv 0) (pv 4) rfl) (pss_one (ps_fld (pv 0) (pv 5) rfl)))))))), (L_seq (L_set (Lz_call (A_cons (L_var (i := 1)) (A_cons (L_var (i := 2)) (A_cons (L_var (i := 3)) (A_cons (L_var (i := 4)) (A_cons (L_var (i := 5)) A_nil))))))) (L_seq (L_if (L_test (L_notN (L_var (i := 6)))) L_dead L_next) (L_seq (L_sfld (i := 0) (fs_Rule_step T) (L_var (i := 1))) (L_seq (L_sfld (i := 0) (fs_Rule_gap T) (L_var (i := 2))) (L_seq (L_sfld (i := 0) (fs_Rule_least T) (L_var (i := 3))) (L_seq (L_sfld (i := 0) (fs_Rule_private T) (L_var (i := 4))) (L_sfld (i := 0) (fs_Rule_hours T) (L_var (i := 5)))))))))⟩
theorem okK_Rule___init____ (T : Txt K mg d) : FnK P w K mg base CX0 5 d.f_Rule___init__ 1 [] (spD0 K 1 7 (fun ρ => D_Rule___init__ (cl d) (permD 1 [(.int 1), (.int 0), (.int 0), (.str "busy"), .non] [0, 1, 2, 3, 4, 5] ρ))) :=
  mkDDK (T := D_Rule___init__ (cl d)) (N := ["self", "step", "gap", "least", "private", "hours", "wrong"]) (n := 1) (ks := []) (dd := [(.int 1), (.int 0), (.int 0), (.str "busy"), .non]) (π := [1, 2, 3, 4, 5]) T.F_Rule___init__ (by simp [dv_Rule]) sc_Rule___init__ (by decide) (by decide) (by decide) rfl (fun G => (.cons (.int _) (.cons (.int _) (.cons (.int _) (.cons (.str _) (.cons .non RepA.nil)))))) (by decide)
    (fun _ _ _ _ _ _ _ us its ws h1 h2 h3 => match us, its, ws, h1, h2, h3 with | [_], [_, _, _, _, _], [], _, _, _ => ⟨_, rfl, rfl⟩)
    (fun cdv A outer s H E hr => let ⟨t, h1, h2⟩ := body_Rule___init__ T cdv A outer s H E hr; ⟨t, h1.nox, h2⟩)
theorem ok__law_choose (T : Txt K mg d) : FnR P w K mg base CX0 1 d.f__law_choose (spD0 K 2 4 (D__law_choose (cl d))) :=
  mkDz T.F__law_choose sc__law_choose (by decide) (fun _ _ _ _ _ _ us hl => match us, hl with | [_, _], _ => rfl) (fun cdv A outer s H E hr => by
    have hu := hr.units
    have hu5 := room5 hr
    exact ⟨_, (pss_cons (ps_if (pt_cmpR op_gt (pe_ix (ix_3 (K := K)) (pv 0) pe_int (fun _ _ => rfl)) pe_int (nomark _)) (pss_cons (ps_set (i := 3) sc__law_choose.nd rfl (by first | exact Or.inl rfl | exact Or.inr rfl) (pe_op op_mod (pe_callTy call_int2 rfl T.b_int (by decide +kernel) (pa_cons (pe_ix (ix_3 (K := K)) (pv 0) pe_int (fun _ _ => rfl)) pa_nil)) (pv 1))) (pss_cons (ps_asg (pe_op op_fdiv (pe_ix (ix_3 (K := K)) (pv 0) pe_int (fun _ _ => rfl)) (pv 1)) (pg_sub (pv 0) pe_int set_list)) (pss_one (ps_ret (pv 3))))) pss_nil) (pss_cons (ps_set (i := 2) sc__law_choose.nd rfl (by first | exact Or.inl rfl | exact Or.inr rfl) (pe_op op_mod (pe_callTy call_int2 rfl T.b_int (by decide +kernel) (pa_cons (pe_op (op_add4 (K := K)) (pe_op op_mul (pe_ix (ix_3 (K := K)) (pv 0) pe_int (fun _ _ => rfl)) pe_int) pe_int) pa_nil)) pe_int)) (pss_cons (ps_asg (pe_op (op_add4 (K := K)) (pe_op op_mod (pe_callTy call_int2 rfl T.b_int (by decide +kernel) (pa_cons (pe_op (op_add4 (K := K)) (pe_op op_mul (pv 2) pe_int) pe_int) pa_nil)) pe_int) pe_int) (pg_sub (pv 0) pe_int set_list)) (pss_one (ps_ret (pe_op op_mod (pe_callTy call_int2 rfl T.b_int (by decide +kernel) (pa_cons (pe_op op_fdiv (pe_op (op_add4 (K := K)) (pe_op op_mul (pv 2) pe_int) (pe_ix (ix_3 (K := K)) (pv 0) pe_int (fun _ _ => rfl))) pe_int) pa_nil)) (pv 1))))))), (L_seq (L_if (L_test (L_bin S_gt (L_bin S_ix (L_var (i := 0)) L_int) L_int)) (L_seq (L_set (L_bin S_mod (L_cb C_int (A_cons (L_bin S_ix (L_var (i := 0)) L_int) A_nil)) (L_var (i := 1)))) (L_seq (L_put (i := 0) (L_bin S_fdiv (L_bin S_ix (L_var (i := 0)) L_int) (L_var (i := 1))) L_int) (L_ret (L_var (i := 3))))) L_next) (L_seq (L_set (L_bin S_mod (L_cb C_int (A_cons (L_bin S_add4 (L_bin S_mul (L_bin S_ix (L_var (i := 0)) L_int) L_int) L_int) A_nil)) L_int)) (L_seq (L_put (i := 0) (L_bin S_add4 (L_bin S_mod (L_cb C_int (A_cons (L_bin S_add4 (L_bin S_mul (L_var (i := 2)) L_int) L_int) A_nil)) L_int) L_int) L_int) (L_ret (L_bin S_mod (L_cb C_int (A_cons (L_bin S_fdiv (L_bin S_add4 (L_bin S_mul (L_var (i := 2)) L_int) (L_bin S_ix (L_var (i := 0)) L_int)) L_int) A_nil)) (L_var (i := 1)))))))⟩)
theorem ok__law_one_of (T : Txt K mg d) : FnR P w K mg base CX0 2 d.f__law_one_of (spD0 K 2 2 (D__law_one_of (cl d))) :=
  mkDz T.F__law_one_of sc__law_one_of (by decide) (fun _ _ _ _ _ _ us hl => match us, hl with | [_, _], _ => rfl) (fun cdv A outer s H E hr => by
    have hu := hr.units
    have hu5 := room5 hr
    exact ⟨_, (pss_one (ps_ret (pe_ix (ix_3 (K := K)) (pv 1) (pe_callR (sp := spD0 K 2 4 (D__law_choose (cl d))) (ok__law_choose T) (hr.mono (by decide)) rfl T.m__law_choose T.k__law_choose pass0 (pa_cons (pv 0) (pa_cons (pe_callB (call_len2 (K := K)) (by rfl) T.b_len PySem.boot_len (pa_cons (pv 1) pa_nil)) pa_nil))) (fun _ _ => rfl)))), (L_ret (L_bin S_ix (L_var (i := 1)) (Lz_lend (i := 0) (A_cons (L_cb C_len (A_cons (L_var (i := 1)) A_nil)) A_nil))))⟩)
end
end DD

set_option Elab.async false
set_option linter.all false
set_option maxRecDepth 100000
set_option maxHeartbeats 4000000
namespace DD
open PySem PySem.Spec PyProof.Rows L2 StX ClX DL
section
variable {P : Program} {w : World} {K : PySem.W.Frag} {mg : Str → Option Value} {base : Heap} {d : Ad}
theorem ok__law_leaf (T : Txt K mg d) : FnR P w K mg base CX0 3 d.f__law_leaf (spD0 K 1 2 (D__law_leaf (cl d))) :=
  mkDz T.F__law_leaf sc__law_leaf (by decide) (fun _ _ _ _ _ _ us hl => match us, hl with | [_], _ => rfl) (fun cdv A outer s H E hr => by
    have hu := hr.units
    have hu5 := room5 hr
    exact ⟨_, (pss_cons (ps_set (i := 1) sc__law_leaf.nd rfl (by first | exact Or.inl rfl | exact Or.inr rfl) (pe_lst (pa_cons pe_non (pa_cons pe_bl (pa_cons pe_bl (pa_cons pe_int (pa_cons pe_int (pa_cons (pe_op op_sub pe_int pe_int) (pa_cons pe_int (pa_cons pe_int (pa_cons pe_str (pa_cons pe_str (pa_cons pe_str (pa_cons pe_str (pa_cons pe_str pa_nil))))))))))))))) (pss_one (ps_ret (pe_callR (sp := spD0 K 2 2 (D__law_one_of (cl d))) (ok__law_one_of T) (hr.mono (by decide)) rfl T.m__law_one_of T.k__law_one_of pass0 (pa_cons (pv 0) (pa_cons (pe_op (op_add4 (K := K)) (pv 1) (pe_lst (pa_cons pe_str (pa_cons pe_str pa_nil)))) pa_nil)))))), (L_seq (L_set (L_lst (A_cons L_non (A_cons L_bl (A_cons L_bl (A_cons L_int (A_cons L_int (A_cons (L_bin S_sub L_int L_int) (A_cons L_int (A_cons L_int (A_cons L_str (A_cons L_str (A_cons L_str (A_cons L_str (A_cons L_str A_nil))))))))))))))) (L_ret (Lz_lend (i := 0) (A_cons (L_bin S_add4 (L_var (i := 1)) (L_lst (A_cons L_str (A_cons L_str A_nil)))) A_nil))))⟩)
theorem ok__law_any_n (T : Txt K mg d) : ∀ n, FnR P w K mg base CX0 (4 + n) d.f__law_any (spD0 K 2 5 (D__law_any_n (cl d) n))
  | 0 => fnR_stuck
  | n + 1 => by
    have hR := ok__law_any_n T n
    exact (mkDz (T := D__law_any_r (cl d) (D__law_any_n (cl d) n)) T.F__law_any sc__law_any (by decide) (fun _ _ _ _ _ _ us hl => match us, hl with | [_, _], _ => rfl) (fun cdv A outer s H E hr => by
      have hu := hr.units
      have hu5 := room5 hr
      exact ⟨_, (pss_cons (ps_set (i := 2) sc__law_any.nd rfl (by first | exact Or.inl rfl | exact Or.inr rfl) (pe_ifExp (pt_cmpR op_gt (pv 1) pe_int (nomark _)) (pe_callR (sp := spD0 K 2 4 (D__law_choose (cl d))) (ok__law_choose T) (hr.mono (by omega)) rfl T.m__law_choose T.k__law_choose pass0 (pa_cons (pv 0) (pa_cons pe_int pa_nil))) pe_int)) (pss_cons (ps_if (pt_cmpR op_gt (pv 2) pe_int (nomark _)) (pss_one (ps_ret (pe_callR (sp := spD0 K 1 2 (D__law_leaf (cl d))) (ok__law_leaf T) (hr.mono (by omega)) rfl T.m__law_leaf T.k__law_leaf pass0 (pa_cons (pv 0) pa_nil)))) pss_nil) (pss_cons (ps_setLc (i := 3) (own := [("_law_turn", 4)]) rfl sc__law_any.nd rfl rfl (by rfl) (pi_range1 rfl T.b_range (pa_cons (pe_callR (sp := spD0 K 2 4 (D__law_choose (cl d))) (ok__law_choose T) (hr.mono (by omega)) rfl T.m__law_choose T.k__law_choose pass0 (pa_cons (pv 0) (pa_cons pe_int pa_nil))) pa_nil)) (blkOk_by (N := ["_law_box", "_law_deep", "_law_form", "_law_found", "_law_turn"]) (sc := defScope s__law_any) (by decide +kernel)) (fun _ _ _ _ _ => (pg_name (i := 4) sc__law_any.nd rfl (by first | exact Or.inl rfl | exact Or.inr rfl))) (fun _ _ _ _ _ => pts_nil) (fun _ _ _ _ _ => (pe_callR (sp := spD0 K 2 5 (D__law_any_n (cl d) n)) hR (hr.mono (by omega)) rfl T.m__law_any T.k__law_any pass0 (pa_cons (pv 0) (pa_cons (pe_op op_sub (pv 1) pe_int) pa_nil))))) (pss_one (ps_ret (pe_ifExp (pt_cmpR (op_eq2 (K := K) hu) (pv 2) pe_int (nomark _)) (pe_callTy call_tuple_of rfl T.b_tuple (by decide +kernel) (pa_cons (pv 3) pa_nil)) (pv 3))))))), (L_seq (L_set (L_ifE (L_test (L_bin S_gt (L_var (i := 1)) L_int)) (Lz_lend (i := 0) (A_cons L_int A_nil)) L_int)) (L_seq (L_if (L_test (L_bin S_gt (L_var (i := 2)) L_int)) (L_ret (Lz_lend (i := 0) A_nil)) L_next) (L_seq (L_set (L_lc (Et := E0) (Ea := E0) (I_rng1 (Lz_lend (i := 0) (A_cons L_int A_nil))) (U_name (by decide)) L_yes (Lz_lend (i := 0) (A_cons (L_bin S_sub (L_var (i := 1)) L_int) A_nil)))) (L_ret (L_ifE (L_test (L_bin S_eq (L_var (i := 2)) L_int)) (L_cb C_tuple (A_cons (L_var (i := 3)) A_nil)) (L_var (i := 3)))))))⟩) : FnR P w K mg base CX0 (4 + n + 1) d.f__law_any (spD0 K 2 5 (D__law_any_r (cl d) (D__law_any_n (cl d) n))))
theorem ok__law_any (T : Txt K mg d) : FnR P w K mg base CX0 13 d.f__law_any (spD0 K 2 5 (D__law_any (cl d))) := ok__law_any_n T 9
theorem ok__law_day (T : Txt K mg d) : FnR P w K mg base CX0 3 d.f__law_day (spD0 K 3 9 (D__law_day (cl d))) :=
  mkDz T.F__law_day sc__law_day (by decide) (fun _ _ _ _ _ _ us hl => match us, hl with | [_, _, _], _ => rfl) (fun cdv A outer s H E hr => by
    have hu := hr.units
    have hu5 := room5 hr
    exact ⟨_, (pss_cons (ps_par3 (i := 4) (j := 5) (l := 6) rfl sc__law_day.nd rfl rfl rfl (by decide) (by decide) (by decide) rfl rfl rfl (pa_cons (pe_op (op_add4 (K := K)) pe_int (pe_callR (sp := spD0 K 2 4 (D__law_choose (cl d))) (ok__law_choose T) (hr.mono (by decide)) rfl T.m__law_choose T.k__law_choose pass0 (pa_cons (pv 0) (pa_cons (pv 1) pa_nil)))) (pa_cons (pe_lst pa_nil) (pa_cons pe_int pa_nil))) (by rfl)) (pss_cons (ps_for PassesOwn.never rfl (pi_range1 rfl T.b_range (pa_cons pe_int pa_nil)) (pg_name (i := 3) sc__law_day.nd rfl (by first | exact Or.inl rfl | exact Or.inr rfl)) (pss_cons (ps_set (i := 7) sc__law_day.nd rfl (by first | exact Or.inl rfl | exact Or.inr rfl) (pe_op (op_add4 (K := K)) (pv 6) (pe_callR (sp := spD0 K 2 2 (D__law_one_of (cl d))) (ok__law_one_of T) (hr.mono (by decide)) rfl T.m__law_one_of T.k__law_one_of pass0 (pa_cons (pv 0) (pa_cons (pe_lst (pa_cons pe_int (pa_cons pe_int (pa_cons pe_int (pa_cons pe_int (pa_cons pe_int (pa_cons pe_int (pa_cons pe_int pa_nil)))))))) pa_nil))))) (pss_cons (ps_set (i := 8) sc__law_day.nd rfl (by first | exact Or.inl rfl | exact Or.inr rfl) (pe_op (op_add4 (K := K)) (pv 7) (pe_callR (sp := spD0 K 2 2 (D__law_one_of (cl d))) (ok__law_one_of T) (hr.mono (by decide)) rfl T.m__law_one_of T.k__law_one_of pass0 (pa_cons (pv 0) (pa_cons (pe_lst (pa_cons pe_int (pa_cons pe_int (pa_cons pe_int (pa_cons pe_int (pa_cons pe_int (pa_cons pe_int pa_nil))))))) pa_nil))))) (pss_one (ps_if (pt_cmpR op_le (pv 8) (pv 4) (nomark _)) (pss_cons (ps_expr (pe_bm PySem.F.plainAttrs_list PySem.F.slot_list_append PySem.F.type_list_append mt_append (pv 5) (pa_cons (pe_tup (pa_cons (pv 7) (pa_cons (pv 8) (pa_cons (pe_and (pv 2) (pe_one (pe_cmpR (op_eq2 (K := K) hu) (pe_callR (sp := spD0 K 2 4 (D__law_choose (cl d))) (ok__law_choose T) (hr.mono (by decide)) rfl T.m__law_choose T.k__law_choose pass0 (pa_cons (pv 0) (pa_cons pe_int pa_nil))) pe_int (nomark _)))) pa_nil)))) pa_nil))) (pss_one (ps_set (i := 6) sc__law_day.nd rfl (by first | exact Or.inl rfl | exact Or.inr rfl) (pv 8)))) pss_nil))))) (pss_one (ps_ret (pe_tup (pa_cons (pv 4) (pa_cons (pv 5) pa_nil))))))), (L_seq (L_par3 (N_cons (L_bin S_add4 L_int (Lz_lend (i := 0) (A_cons (L_var (i := 1)) A_nil))) (N_cons (L_lst A_nil) (N_cons L_int N_nil)))) (L_seq (L_for (vs := [3]) (I_rng1 L_int) (U_name (by decide)) (L_seq (L_set (L_bin S_add4 (L_var (i := 6)) (Lz_lend (i := 0) (A_cons (L_lst (A_cons L_int (A_cons L_int (A_cons L_int (A_cons L_int (A_cons L_int (A_cons L_int (A_cons L_int A_nil)))))))) A_nil)))) (L_seq (L_set (L_bin S_add4 (L_var (i := 7)) (Lz_lend (i := 0) (A_cons (L_lst (A_cons L_int (A_cons L_int (A_cons L_int (A_cons L_int (A_cons L_int (A_cons L_int A_nil))))))) A_nil)))) (L_if (L_test (L_bin S_le (L_var (i := 8)) (L_var (i := 4)))) (L_seq (L_drop (L_mut (i := 5) M_append (A_cons (L_tup (A_cons (L_var (i := 7)) (A_cons (L_var (i := 8)) (A_cons (L_and (L_var (i := 2)) (L_bin S_eq (Lz_lend (i := 0) (A_cons L_int A_nil)) L_int)) A_nil)))) A_nil))) (L_set (L_var (i := 8)))) L_next)))) (L_ret (L_tup (A_cons (L_var (i := 4)) (A_cons (L_var (i := 5)) A_nil))))))⟩)
theorem ok__law_is_block (T : Txt K mg d) : FnR P w K mg base CX0 1 d.f__law_is_block (spD0 K 1 2 (D__law_is_block (cl d))) :=
  mkDz T.F__law_is_block sc__law_is_block (by decide) (fun _ _ _ _ _ _ us hl => match us, hl with | [_], _ => rfl) (fun cdv A outer s H E hr => by
    have hu := hr.units
    have hu5 := room5 hr
    exact ⟨_, (pss_cons (ps_if (PW.pt (pw_or (pt_not (pt_val (pe_callB call_isi (by rfl) T.b_isinstance (by decide +kernel) (pa_cons (pv 0) (pa_cons (pe_bltn (v := .ty "tuple") rfl T.b_tuple (by decide +kernel) rfl) pa_nil))))) (pw_or (pt_cmpR (op_ne2 (K := K) hu) (pe_callB (call_len2 (K := K)) (by rfl) T.b_len PySem.boot_len (pa_cons (pv 0) pa_nil)) pe_int (nomark _)) (pw_or1 (pt_not (pt_val (pe_callB call_isi (by rfl) T.b_isinstance (by decide +kernel) (pa_cons (pe_ix (ix_3 (K := K)) (pv 0) pe_int (fun _ _ => rfl)) (pa_cons (pe_bltn (v := .ty "str") rfl T.b_str (by decide +kernel) rfl) pa_nil))))))))) (pss_one (ps_ret pe_bl)) pss_nil) (pss_cons (ps_if (pt_cmpR (op_ne2 (K := K) hu) (pe_lc (own := [("_law_one", 1)]) rfl sc__law_is_block.nd (pi_seq (K := K) (pe_slice (sl_3 (K := K)) (pv 0) po_none (po_some pe_int))) (blkOk_by (N := ["_law_value", "_law_one"]) (sc := defScope s__law_is_block) (by decide +kernel)) (fun _ _ _ _ _ => (pg_name (i := 1) sc__law_is_block.nd rfl (by first | exact Or.inl rfl | exact Or.inr rfl))) (fun _ _ _ _ _ => (pts_one (PW.pt (pw_or (pt_not (pt_val (pe_callB call_isi (by rfl) T.b_isinstance (by decide +kernel) (pa_cons (pv 1) (pa_cons (pe_bltn (v := .ty "int") rfl T.b_int (by decide +kernel) rfl) pa_nil))))) (pw_or1 (pt_val (pe_callB call_isi (by rfl) T.b_isinstance (by decide +kernel) (pa_cons (pv 1) (pa_cons (pe_bltn (v := .ty "bool") rfl T.b_bool (by decide +kernel) rfl) pa_nil))))))))) (fun _ _ _ _ _ => (pv 1))) (pe_lst pa_nil) (nomark _)) (pss_one (ps_ret pe_bl)) pss_nil) (pss_one (ps_ret (pe_and (pe_chain op_le (op_lt2 (K := K) hu) pe_int (pe_ix (ix_3 (K := K)) (pv 0) pe_int (fun _ _ => rfl)) (pe_ix (ix_3 (K := K)) (pv 0) pe_int (fun _ _ => rfl))) (pe_one (pe_cmpR (op_in2 (K := K) hu5) (pe_ix (ix_3 (K := K)) (pv 0) pe_int (fun _ _ => rfl)) (pe_tup (pa_cons pe_str (pa_cons pe_str pa_nil))) rfl))))))), (L_seq (L_if (L_tor (L_tnot (L_test (L_isi (kit_ok T) (tyc T) (.ty "tuple") (L_var (i := 0))))) (L_tor (L_test (L_bin S_ne (L_cb C_len (A_cons (L_var (i := 0)) A_nil)) L_int)) (L_tnot (L_test (L_isi (kit_ok T) (tyc T) (.ty "str") (L_bin S_ix (L_var (i := 0)) L_int)))))) (L_ret L_bl) L_next) (L_seq (L_if (L_test (L_bin S_ne (L_lcS (Et := E0) (Ea := E0) (L_sl (L_var (i := 0)) O_none (O_some L_int)) (U_name (by decide)) (L_tor (L_tnot (L_test (L_isi (kit_ok T) (tyc T) (.ty "int") (L_var (i := 1))))) (L_test (L_isi (kit_ok T) (tyc T) (.ty "bool") (L_var (i := 1))))) (L_var (i := 1))) (L_lst A_nil))) (L_ret L_bl) L_next) (L_ret (L_and (L_chain S_le S_lt2 L_int (L_bin S_ix (L_var (i := 0)) L_int) (L_bin S_ix (L_var (i := 0)) L_int)) (L_bin S_in (L_bin S_ix (L_var (i := 0)) L_int) (L_tup (A_cons L_str (A_cons L_str A_nil))))))))⟩)
theorem ok__law_due (T : Txt K mg d) : FnR P w K mg base CX0 2 d.f__law_due (spD0 K 1 3 (D__law_due (cl d))) :=
  mkDz T.F__law_due sc__law_due (by decide) (fun _ _ _ _ _ _ us hl => match us, hl with | [_], _ => rfl) (fun cdv A outer s H E hr => by
    have hu := hr.units
    have hu5 := room5 hr
    exact ⟨_, (pss_cons (ps_if (PW.pt (pw_or (pt_not (pt_val (pe_callB call_isi (by rfl) T.b_isinstance (by decide +kernel) (pa_cons (pv 0) (pa_cons (pe_bltn (v := .ty "tuple") rfl T.b_tuple (by decide +kernel) rfl) pa_nil))))) (pw_or1 (pt_cmpR (op_ne2 (K := K) hu) (pe_lc (own := [("_law_one", 1)]) rfl sc__law_due.nd (pi_seq (K := K) (pv 0)) (blkOk_by (N := ["_law_value", "_law_one", "_law_other"]) (sc := defScope s__law_due) (by decide +kernel)) (fun _ _ _ _ _ => (pg_name (i := 1) sc__law_due.nd rfl (by first | exact Or.inl rfl | exact Or.inr rfl))) (fun _ _ _ _ _ => (pts_one (pt_not (pt_val (pe_callR (sp := spD0 K 1 2 (D__law_is_block (cl d))) (ok__law_is_block T) (hr.mono (by decide)) rfl T.m__law_is_block T.k__law_is_block pass0 (pa_cons (pv 1) pa_nil)))))) (fun _ _ _ _ _ => (pv 1))) (pe_lst pa_nil) (nomark _))))) (pss_one (ps_ret pe_bl)) pss_nil) (pss_one (ps_ret (pe_cmpR (op_eq2 (K := K) hu) (pe_lc (own := [("_law_one", 1), ("_law_other", 2)]) rfl sc__law_due.nd (pi_zipK (K := K) rfl T.b_zip (pa_cons (pv 0) (pa_cons (pe_slice (sl_3 (K := K)) (pv 0) (po_some pe_int) po_none) pa_nil))) (blkOk_by (N := ["_law_value", "_law_one", "_law_other"]) (sc := defScope s__law_due) (by decide +kernel)) (fun _ _ _ _ _ => (pg_tupK (K := K) (n := 2) rfl (pgs_cons (pg_name (i := 1) sc__law_due.nd rfl (by first | exact Or.inl rfl | exact Or.inr rfl)) (pgs_cons (pg_name (i := 2) sc__law_due.nd rfl (by first | exact Or.inl rfl | exact Or.inr rfl)) pgs_nil)))) (fun _ _ _ _ _ => (pts_one (pt_not (pt_cmpR (op_lt2 (K := K) hu) (pv 1) (pv 2) (nomark _))))) (fun _ _ _ _ _ => pe_int)) (pe_lst pa_nil) (nomark _))))), (L_seq (L_if (L_tor (L_tnot (L_test (L_isi (kit_ok T) (tyc T) (.ty "tuple") (L_var (i := 0))))) (L_test (L_bin S_ne (L_lcS (Et := E0) (Ea := E0) (L_var (i := 0)) (U_name (by decide)) (L_tnot (L_test (Lz_call (A_cons (L_var (i := 1)) A_nil)))) (L_var (i := 1))) (L_lst A_nil)))) (L_ret L_bl) L_next) (L_ret (L_bin S_eq (L_lc (Et := E0) (Ea := E0) (I_zip (A_cons (L_var (i := 0)) (A_cons (L_sl (L_var (i := 0)) (O_some L_int) O_none) A_nil))) (U_tup (Us_cons (U_name (by decide)) (Us_cons (U_name (by decide)) Us_nil))) (L_tnot (L_test (L_bin S_lt2 (L_var (i := 1)) (L_var (i := 2))))) L_int) (L_lst A_nil))))⟩)
theorem ok__law_rule (T : Txt K mg d) : FnR P w K mg base CX0 3 d.f__law_rule (spD0 K 2 7 (D__law_rule (cl d))) :=
  mkDz T.F__law_rule sc__law_rule (by decide) (fun _ _ _ _ _ _ us hl => match us, hl with | [_, _], _ => rfl) (fun cdv A outer s H E hr => by
    have hu := hr.units
    have hu5 := room5 hr
    exact ⟨_, (pss_cons (ps_set (i := 2) sc__law_rule.nd rfl (by first | exact Or.inl rfl | exact Or.inr rfl) (pe_callR (sp := spD0 K 2 2 (D__law_one_of (cl d))) (ok__law_one_of T) (hr.mono (by decide)) rfl T.m__law_one_of T.k__law_one_of pass0 (pa_cons (pv 0) (pa_cons (pe_lst (pa_cons pe_str (pa_cons pe_str (pa_cons pe_str (pa_cons pe_str (pa_cons pe_str pa_nil)))))) pa_nil)))) (pss_cons (ps_set (i := 3) sc__law_rule.nd rfl (by first | exact Or.inl rfl | exact Or.inr rfl) (pe_callR (sp := spD0 K 2 4 (D__law_choose (cl d))) (ok__law_choose T) (hr.mono (by decide)) rfl T.m__law_choose T.k__law_choose pass0 (pa_cons (pv 0) (pa_cons (pv 1) pa_nil)))) (pss_cons (ps_set (i := 4) sc__law_rule.nd rfl (by first | exact Or.inl rfl | exact Or.inr rfl) (pe_callR (sp := spD0 K 2 2 (D__law_one_of (cl d))) (ok__law_one_of T) (hr.mono (by decide)) rfl T.m__law_one_of T.k__law_one_of pass0 (pa_cons (pv 0) (pa_cons (pe_lst (pa_cons pe_non (pa_cons pe_non (pa_cons (pe_tup (pa_cons (pv 3) (pa_cons (pe_callB (call_min2 rfl) (by rfl) T.b_min (by decide +kernel) (pa_cons pe_int (pa_cons (pe_callTy call_int2 rfl T.b_int (by decide +kernel) (pa_cons (pe_op (op_add4 (K := K)) (pe_op (op_add4 (K := K)) (pv 3) pe_int) (pe_callR (sp := spD0 K 2 4 (D__law_choose (cl d))) (ok__law_choose T) (hr.mono (by decide)) rfl T.m__law_choose T.k__law_choose pass0 (pa_cons (pv 0) (pa_cons (pv 1) pa_nil)))) pa_nil)) pa_nil))) pa_nil))) pa_nil)))) pa_nil)))) (pss_cons (ps_par (i := 5) (j := 6) rfl sc__law_rule.nd rfl rfl (by decide) rfl rfl (pa_cons (pe_callR (sp := spD0 K 2 2 (D__law_one_of (cl d))) (ok__law_one_of T) (hr.mono (by decide)) rfl T.m__law_one_of T.k__law_one_of pass0 (pa_cons (pv 0) (pa_cons (pe_lst (pa_cons pe_int (pa_cons pe_int (pa_cons pe_int (pa_cons pe_int (pa_cons pe_int (pa_cons pe_int (pa_cons pe_int (pa_cons pe_int pa_nil))))))))) pa_nil))) (pa_cons (pe_callR (sp := spD0 K 2 2 (D__law_one_of (cl d))) (ok__law_one_of T) (hr.mono (by decide)) rfl T.m__law_one_of T.k__law_one_of pass0 (pa_cons (pv 0) (pa_cons (pe_lst (pa_cons pe_int (pa_cons pe_int (pa_cons pe_int (pa_cons pe_int (pa_cons pe_int (pa_cons pe_int (pa_cons pe_int (pa_cons pe_int pa_nil))))))))) pa_nil))) pa_nil)) (by first | rfl | exact sw2 (by rfl) (by rfl) (by rfl))) (pss_one (ps_ret (pe_tup (pa_cons (pe_callR (sp := spD0 K 2 2 (D__law_one_of (cl d))) (ok__law_one_of T) (hr.mono (by decide)) rfl T.m__law_one_of T.k__law_one_of pass0 (pa_cons (pv 0) (pa_cons (pe_lst (pa_cons pe_int (pa_cons pe_int (pa_cons pe_int (pa_cons pe_int (pa_cons pe_int (pa_cons pe_int (pa_cons pe_int (pa_cons pe_int pa_nil))))))))) pa_nil))) (pa_cons (pv 5) (pa_cons (pv 6) (pa_cons (pv 2) (pa_cons (pv 4) pa_nil)))))))))))), (L_seq (L_set (Lz_lend (i := 0) (A_cons (L_lst (A_cons L_str (A_cons L_str (A_cons L_str (A_cons L_str (A_cons L_str A_nil)))))) A_nil))) (L_seq (L_set (Lz_lend (i := 0) (A_cons (L_var (i := 1)) A_nil))) (L_seq (L_set (Lz_lend (i := 0) (A_cons (L_lst (A_cons L_non (A_cons L_non (A_cons (L_tup (A_cons (L_var (i := 3)) (A_cons (L_cb C_min (A_cons L_int (A_cons (L_cb C_int (A_cons (L_bin S_add4 (L_bin S_add4 (L_var (i := 3)) L_int) (Lz_lend (i := 0) (A_cons (L_var (i := 1)) A_nil))) A_nil)) A_nil))) A_nil))) A_nil)))) A_nil))) (L_seq (L_par (N_cons (Lz_lend (i := 0) (A_cons (L_lst (A_cons L_int (A_cons L_int (A_cons L_int (A_cons L_int (A_cons L_int (A_cons L_int (A_cons L_int (A_cons L_int A_nil))))))))) A_nil)) (N_cons (Lz_lend (i := 0) (A_cons (L_lst (A_cons L_int (A_cons L_int (A_cons L_int (A_cons L_int (A_cons L_int (A_cons L_int (A_cons L_int (A_cons L_int A_nil))))))))) A_nil)) N_nil))) (L_ret (L_tup (A_cons (Lz_lend (i := 0) (A_cons (L_lst (A_cons L_int (A_cons L_int (A_cons L_int (A_cons L_int (A_cons L_int (A_cons L_int (A_cons L_int (A_cons L_int A_nil))))))))) A_nil)) (A_cons (L_var (i := 5)) (A_cons (L_var (i := 6)) (A_cons (L_var (i := 2)) (A_cons (L_var (i := 4)) A_nil)))))))))))⟩)
theorem ok__law_seed (T : Txt K mg d) : FnR P w K mg base CX0 1 d.f__law_seed (spD0 K 2 3 (D__law_seed (cl d))) :=
  mkDz T.F__law_seed sc__law_seed (by decide) (fun _ _ _ _ _ _ us hl => match us, hl with | [_, _], _ => rfl) (fun cdv A outer s H E hr => by
    have hu := hr.units
    have hu5 := room5 hr
    exact ⟨_, (pss_cons (ps_set (i := 2) sc__law_seed.nd rfl (by first | exact Or.inl rfl | exact Or.inr rfl) (pe_op (op_add4 (K := K)) (pe_op op_mul pe_int (pv 1)) pe_int)) (pss_cons (ps_if (pt_cmpR (op_lt2 (K := K) hu) (pv 1) (pe_callB (call_len2 (K := K)) (by rfl) T.b_len PySem.boot_len (pa_cons (pv 0) pa_nil)) (nomark _)) (pss_one (ps_set (i := 2) sc__law_seed.nd rfl (by first | exact Or.inl rfl | exact Or.inr rfl) (pe_callB call_abs (by rfl) T.b_abs (by decide +kernel) (pa_cons (pe_ix (ix_3 (K := K)) (pv 0) (pv 1) (fun _ _ => rfl)) pa_nil)))) (pss_one (ps_if (pt_cmpR op_gt (pe_callB (call_len2 (K := K)) (by rfl) T.b_len PySem.boot_len (pa_cons (pv 0) pa_nil)) pe_int (nomark _)) (pss_one (ps_set (i := 2) sc__law_seed.nd rfl (by first | exact Or.inl rfl | exact Or.inr rfl) (pe_op (op_add4 (K := K)) (pv 2) (pe_op op_mul (pe_op op_mod (pe_callTy call_int2 rfl T.b_int (by decide +kernel) (pa_cons (pe_callB call_abs (by rfl) T.b_abs (by decide +kernel) (pa_cons (pe_ix (ix_3 (K := K)) (pv 0) (pe_op op_mod (pe_callTy call_int2 rfl T.b_int (by decide +kernel) (pa_cons (pv 1) pa_nil)) (pe_callB (call_len2 (K := K)) (by rfl) T.b_len PySem.boot_len (pa_cons (pv 0) pa_nil))) (fun _ _ => rfl)) pa_nil)) pa_nil)) pe_int) pe_int)))) pss_nil))) (pss_one (ps_ret (pe_lst (pa_cons (pe_ifExp (pt_cmpR op_ge (pv 2) (pe_op op_pow pe_int pe_int) (nomark _)) (pv 2) pe_int) (pa_cons (pe_op (op_add4 (K := K)) (pe_op op_mod (pe_callTy call_int2 rfl T.b_int (by decide +kernel) (pa_cons (pe_op (op_add4 (K := K)) (pe_op op_mul (pe_op op_mod (pe_callTy call_int2 rfl T.b_int (by decide +kernel) (pa_cons (pv 2) pa_nil)) pe_int) pe_int) (pe_op op_mul pe_int (pv 1))) pa_nil)) pe_int) pe_int) pa_nil))))))), (L_seq (L_set (L_bin S_add4 (L_bin S_mul L_int (L_var (i := 1))) L_int)) (L_seq (L_if (L_test (L_bin S_lt2 (L_var (i := 1)) (L_cb C_len (A_cons (L_var (i := 0)) A_nil)))) (L_set (L_cb C_abs (A_cons (L_bin S_ix (L_var (i := 0)) (L_var (i := 1))) A_nil))) (L_if (L_test (L_bin S_gt (L_cb C_len (A_cons (L_var (i := 0)) A_nil)) L_int)) (L_set (L_bin S_add4 (L_var (i := 2)) (L_bin S_mul (L_bin S_mod (L_cb C_int (A_cons (L_cb C_abs (A_cons (L_bin S_ix (L_var (i := 0)) (L_bin S_mod (L_cb C_int (A_cons (L_var (i := 1)) A_nil)) (L_cb C_len (A_cons (L_var (i := 0)) A_nil)))) A_nil)) A_nil)) L_int) L_int))) L_next)) (L_ret (L_lst (A_cons (L_ifE (L_test (L_bin S_ge (L_var (i := 2)) (L_bin S_pow L_int L_int))) (L_var (i := 2)) L_int) (A_cons (L_bin S_add4 (L_bin S_mod (L_cb C_int (A_cons (L_bin S_add4 (L_bin S_mul (L_bin S_mod (L_cb C_int (A_cons (L_var (i := 2)) A_nil)) L_int) L_int) (L_bin S_mul L_int (L_var (i := 1)))) A_nil)) L_int) L_int) A_nil))))))⟩)
theorem ok__law_in_order (T : Txt K mg d) : FnR P w K mg base CX0 1 d.f__law_in_order (spD0 K 1 5 (D__law_in_order (cl d))) :=
  mkDz T.F__law_in_order sc__law_in_order (by decide) (fun _ _ _ _ _ _ us hl => match us, hl with | [_], _ => rfl) (fun cdv A outer s H E hr => by
    have hu := hr.units
    have hu5 := room5 hr
    exact ⟨_, (pss_cons (ps_par (i := 1) (j := 2) rfl sc__law_in_order.nd rfl rfl (by decide) rfl rfl (pa_cons (pe_callTy call_list_of rfl T.b_list (by decide +kernel) (pa_cons (pv 0) pa_nil)) (pa_cons (pe_lst pa_nil) pa_nil)) (by first | rfl | exact sw2 (by rfl) (by rfl) (by rfl))) (pss_cons (ps_while PassesOwn.never (pt_cmpR (op_ne2 (K := K) hu) (pv 1) (pe_lst pa_nil) (nomark _)) (pss_cons (ps_set (i := 3) sc__law_in_order.nd rfl (by first | exact Or.inl rfl | exact Or.inr rfl) (pe_ix (ix_3 (K := K)) (pv 1) pe_int (fun _ _ => rfl))) (pss_cons (ps_for PassesOwn.never rfl (pi_seq (K := K) (pv 1)) (pg_name (i := 4) sc__law_in_order.nd rfl (by first | exact Or.inl rfl | exact Or.inr rfl)) (pss_one (ps_set (i := 3) sc__law_in_order.nd rfl (by first | exact Or.inl rfl | exact Or.inr rfl) (pe_ifExp (pt_cmpR (op_lt2 (K := K) hu) (pv 4) (pv 3) (nomark _)) (pv 4) (pv 3))))) (pss_cons (ps_expr (pe_bm PySem.F.plainAttrs_list PySem.F.slot_list_remove PySem.F.type_list_remove (mt_removeD hu) (pv 1) (pa_cons (pv 3) pa_nil))) (pss_one (ps_expr (pe_bm PySem.F.plainAttrs_list PySem.F.slot_list_append PySem.F.type_list_append mt_append (pv 2) (pa_cons (pv 3) pa_nil)))))))) (pss_one (ps_ret (pe_callTy call_tuple_of rfl T.b_tuple (by decide +kernel) (pa_cons (pv 2) pa_nil)))))), (L_seq (L_par (N_cons (L_cb C_list (A_cons (L_var (i := 0)) A_nil)) (N_cons (L_lst A_nil) N_nil))) (L_seq (L_while 100000 (L_test (L_bin S_ne (L_var (i := 1)) (L_lst A_nil))) (L_seq (L_set (L_bin S_ix (L_var (i := 1)) L_int)) (L_seq (L_forS (vs := [4]) (L_var (i := 1)) (U_name (by decide)) (L_set (L_ifE (L_test (L_bin S_lt2 (L_var (i := 4)) (L_var (i := 3)))) (L_var (i := 4)) (L_var (i := 3))))) (L_seq (L_drop (L_mut (i := 1) M_remove (A_cons (L_var (i := 3)) A_nil))) (L_drop (L_mut (i := 2) M_append (A_cons (L_var (i := 3)) A_nil))))))) (L_ret (L_cb C_tuple (A_cons (L_var (i := 2)) A_nil)))))⟩)
end
end DD

set_option Elab.async false
set_option linter.all false
set_option maxRecDepth 100000
set_option maxHeartbeats 4000000
namespace DD
open PySem PySem.Spec PyProof.Rows L2 StX ClX DL
section
variable {P : Program} {w : World} {K : PySem.W.Frag} {mg : Str → Option Value} {base : Heap} {d : Ad}
theorem ok__law_painted (T : Txt K mg d) : FnR P w K mg base CX0 1 d.f__law_painted (spD0 K 3 13 (D__law_painted (cl d))) :=
  mkDz T.F__law_painted sc__law_painted (by decide) (fun _ _ _ _ _ _ us hl => match us, hl with | [_, _, _], _ => rfl) (fun cdv A outer s H E hr => by
    have hu := hr.units
    have hu5 := room5 hr
    exact ⟨_, (pss_cons (ps_set (i := 3) sc__law_painted.nd rfl (by first | exact Or.inl rfl | exact Or.inr rfl) (pe_lst pa_nil)) (pss_cons (ps_for PassesOwn.never rfl (pi_seq (K := K) (pe_ix (ix_3 (K := K)) (pv 1) pe_int (fun _ _ => rfl))) (pg_tupK (K := K) (n := 3) rfl (pgs_cons (pg_name (i := 4) sc__law_painted.nd rfl (by first | exact Or.inl rfl | exact Or.inr rfl)) (pgs_cons (pg_name (i := 5) sc__law_painted.nd rfl (by first | exact Or.inl rfl | exact Or.inr rfl)) (pgs_cons (pg_name (i := 6) sc__law_painted.nd rfl (by first | exact Or.inl rfl | exact Or.inr rfl)) pgs_nil)))) (pss_cons (ps_set (i := 7) sc__law_painted.nd rfl (by first | exact Or.inl rfl | exact Or.inr rfl) (pe_ifExp (PW.pt (pw_and (pt_val (pv 6)) (pw_and1 (pt_cmpR (op_in2 (K := K) hu5) (pe_ix (ix_3 (K := K)) (pv 0) pe_int (fun _ _ => rfl)) (pe_tup (pa_cons pe_str (pa_cons pe_str pa_nil))) rfl)))) pe_str pe_str)) (pss_one (ps_if (PW.pt (pw_and (pt_cmpR (op_eq2 (K := K) hu) (pv 7) (pv 2) (nomark _)) (pw_and1 (pt_not (PW.pt (pw_and (pt_val (pv 6)) (pw_and1 (pt_cmpR (op_eq2 (K := K) hu) (pe_ix (ix_3 (K := K)) (pv 0) pe_int (fun _ _ => rfl)) pe_str (nomark _))))))))) (pss_cons (ps_set (i := 8) sc__law_painted.nd rfl (by first | exact Or.inl rfl | exact Or.inr rfl) (pe_op op_sub (pv 4) (pe_op op_mod (pe_callTy call_int2 rfl T.b_int (by decide +kernel) (pa_cons (pv 4) pa_nil)) (pe_ix (ix_3 (K := K)) (pv 0) pe_int (fun _ _ => rfl))))) (pss_cons (ps_set (i := 9) sc__law_painted.nd rfl (by first | exact Or.inl rfl | exact Or.inr rfl) (pe_op (op_add4 (K := K)) (pv 5) (pe_op op_mod (pe_callTy call_int2 rfl T.b_int (by decide +kernel) (pa_cons (pe_op op_sub pe_int (pv 5)) pa_nil)) (pe_ix (ix_3 (K := K)) (pv 0) pe_int (fun _ _ => rfl))))) (pss_cons (ps_set (i := 10) sc__law_painted.nd rfl (by first | exact Or.inl rfl | exact Or.inr rfl) (pe_ifExp (pt_cmpR (op_ne2 (K := K) hu) (pv 3) (pe_lst pa_nil) (nomark _)) (pe_ix (ix_3 (K := K)) (pv 3) (pe_un un_neg pe_int) (fun _ _ => rfl)) (pe_op op_sub pe_int pe_int))) (pss_cons (ps_set (i := 11) sc__law_painted.nd rfl (by first | exact Or.inl rfl | exact Or.inr rfl) (pe_and (pe_cmpR op_ge (pv 10) pe_int (nomark _)) (pe_and (pe_cmpR (op_eq2 (K := K) hu) (pv 2) pe_str (nomark _)) (pe_one (pe_cmpR (op_eq2 (K := K) hu) (pe_ix (ix_3 (K := K)) (pv 0) pe_int (fun _ _ => rfl)) pe_str (nomark _)))))) (pss_cons (ps_if (PW.pt (pw_or (pt_cmpR op_le (pe_op op_sub (pe_op op_sub (pv 8) (pv 10)) pe_int) (pe_ix (ix_3 (K := K)) (pv 0) pe_int (fun _ _ => rfl)) (nomark _)) (pw_or1 (pt_val (pv 11))))) (pss_one (ps_set (i := 8) sc__law_painted.nd rfl (by first | exact Or.inl rfl | exact Or.inr rfl) (pe_op (op_add4 (K := K)) (pv 10) pe_int))) pss_nil) (pss_one (ps_expr (pe_bm PySem.F.plainAttrs_list PySem.F.slot_list_extend PySem.F.type_list_extend mt_extend (pv 3) (pa_cons (pe_lc (own := [("_law_tick", 12)]) rfl sc__law_painted.nd (pi_range2 rfl T.b_range (pa_cons (pv 8) (pa_cons (pv 9) pa_nil))) (blkOk_by (N := ["_law_rule_here", "_law_day_here", "_law_word", "_law_found", "_law_begin", "_law_end", "_law_secret", "_law_sort", "_law_low", "_law_high", "_law_last", "_law_is_one", "_law_tick"]) (sc := defScope s__law_painted) (by decide +kernel)) (fun _ _ _ _ _ => (pg_name (i := 12) sc__law_painted.nd rfl (by first | exact Or.inl rfl | exact Or.inr rfl))) (fun _ _ _ _ _ => (pts_one (pt_cmpR (op_notIn2 (K := K) hu5) (pv 12) (pv 3) rfl))) (fun _ _ _ _ _ => (pv 12))) pa_nil))))))))) pss_nil)))) (pss_one (ps_ret (pv 3))))), (L_seq (L_set (L_lst A_nil)) (L_seq (L_forS (vs := [4, 5, 6]) (L_bin S_ix (L_var (i := 1)) L_int) (U_tup (Us_cons (U_name (by decide)) (Us_cons (U_name (by decide)) (Us_cons (U_name (by decide)) Us_nil)))) (L_seq (L_set (L_ifE (L_tand (L_test (L_var (i := 6))) (L_test (L_bin S_in (L_bin S_ix (L_var (i := 0)) L_int) (L_tup (A_cons L_str (A_cons L_str A_nil)))))) L_str L_str)) (L_if (L_tand (L_test (L_bin S_eq (L_var (i := 7)) (L_var (i := 2)))) (L_tnot (L_tand (L_test (L_var (i := 6))) (L_test (L_bin S_eq (L_bin S_ix (L_var (i := 0)) L_int) L_str))))) (L_seq (L_set (L_bin S_sub (L_var (i := 4)) (L_bin S_mod (L_cb C_int (A_cons (L_var (i := 4)) A_nil)) (L_bin S_ix (L_var (i := 0)) L_int)))) (L_seq (L_set (L_bin S_add4 (L_var (i := 5)) (L_bin S_mod (L_cb C_int (A_cons (L_bin S_sub L_int (L_var (i := 5))) A_nil)) (L_bin S_ix (L_var (i := 0)) L_int)))) (L_seq (L_set (L_ifE (L_test (L_bin S_ne (L_var (i := 3)) (L_lst A_nil))) (L_bin S_ix (L_var (i := 3)) (L_neg L_int)) (L_bin S_sub L_int L_int))) (L_seq (L_set (L_and (L_bin S_ge (L_var (i := 10)) L_int) (L_and (L_bin S_eq (L_var (i := 2)) L_str) (L_bin S_eq (L_bin S_ix (L_var (i := 0)) L_int) L_str)))) (L_seq (L_if (L_tor (L_test (L_bin S_le (L_bin S_sub (L_bin S_sub (L_var (i := 8)) (L_var (i := 10))) L_int) (L_bin S_ix (L_var (i := 0)) L_int))) (L_test (L_var (i := 11)))) (L_set (L_bin S_add4 (L_var (i := 10)) L_int)) L_next) (L_drop (L_mut (i := 3) M_extend (A_cons (L_lc (Et := E0) (Ea := E0) (I_rng2 (L_var (i := 8)) (L_var (i := 9))) (U_name (by decide)) (L_test (L_bin S_notIn (L_var (i := 12)) (L_var (i := 3)))) (L_var (i := 12))) A_nil)))))))) L_next))) (L_ret (L_var (i := 3)))))⟩)
theorem ok__law_runs (T : Txt K mg d) : FnR P w K mg base CX0 1 d.f__law_runs (spD0 K 1 3 (D__law_runs (cl d))) :=
  mkDz T.F__law_runs sc__law_runs (by decide) (fun _ _ _ _ _ _ us hl => match us, hl with | [_], _ => rfl) (fun cdv A outer s H E hr => by
    have hu := hr.units
    have hu5 := room5 hr
    exact ⟨_, (pss_cons (ps_set (i := 1) sc__law_runs.nd rfl (by first | exact Or.inl rfl | exact Or.inr rfl) (pe_lst pa_nil)) (pss_cons (ps_for PassesOwn.never rfl (pi_seq (K := K) (pv 0)) (pg_name (i := 2) sc__law_runs.nd rfl (by first | exact Or.inl rfl | exact Or.inr rfl)) (pss_one (ps_if (PW.pt (pw_and (pt_cmpR (op_ne2 (K := K) hu) (pv 1) (pe_lst pa_nil) (nomark _)) (pw_and1 (pt_cmpR (op_eq2 (K := K) hu) (pe_ix (ix_3 (K := K)) (pe_ix (ix_3 (K := K)) (pv 1) (pe_un un_neg pe_int) (fun _ _ => rfl)) pe_int (fun _ _ => rfl)) (pv 2) (nomark _))))) (pss_one (ps_asg (pe_tup (pa_cons (pe_ix (ix_3 (K := K)) (pe_ix (ix_3 (K := K)) (pv 1) (pe_un un_neg pe_int) (fun _ _ => rfl)) pe_int (fun _ _ => rfl)) (pa_cons (pe_op (op_add4 (K := K)) (pv 2) pe_int) pa_nil))) (pg_sub (pv 1) (pe_un un_neg pe_int) set_list))) (pss_one (ps_expr (pe_bm PySem.F.plainAttrs_list PySem.F.slot_list_append PySem.F.type_list_append mt_append (pv 1) (pa_cons (pe_tup (pa_cons (pv 2) (pa_cons (pe_op (op_add4 (K := K)) (pv 2) pe_int) pa_nil))) pa_nil))))))) (pss_one (ps_ret (pv 1))))), (L_seq (L_set (L_lst A_nil)) (L_seq (L_forS (vs := [2]) (L_var (i := 0)) (U_name (by decide)) (L_if (L_tand (L_test (L_bin S_ne (L_var (i := 1)) (L_lst A_nil))) (L_test (L_bin S_eq (L_bin S_ix (L_bin S_ix (L_var (i := 1)) (L_neg L_int)) L_int) (L_var (i := 2))))) (L_put (i := 1) (L_tup (A_cons (L_bin S_ix (L_bin S_ix (L_var (i := 1)) (L_neg L_int)) L_int) (A_cons (L_bin S_add4 (L_var (i := 2)) L_int) A_nil))) (L_neg L_int)) (L_drop (L_mut (i := 1) M_append (A_cons (L_tup (A_cons (L_var (i := 2)) (A_cons (L_bin S_add4 (L_var (i := 2)) L_int) A_nil))) A_nil))))) (L_ret (L_var (i := 1)))))⟩)
theorem ok__law_show (T : Txt K mg d) : FnR P w K mg base CX0 2 d.f__law_show (spD0 K 2 8 (D__law_show (cl d))) :=
  mkDz T.F__law_show sc__law_show (by decide) (fun _ _ _ _ _ _ us hl => match us, hl with | [_, _], _ => rfl) (fun cdv A outer s H E hr => by
    have hu := hr.units
    have hu5 := room5 hr
    exact ⟨_, (pss_cons (ps_set (i := 2) sc__law_show.nd rfl (by first | exact Or.inl rfl | exact Or.inr rfl) (pe_lst pa_nil)) (pss_cons (ps_for PassesOwn.never rfl (pi_seq (K := K) (pe_tup (pa_cons pe_str (pa_cons pe_str pa_nil)))) (pg_name (i := 3) sc__law_show.nd rfl (by first | exact Or.inl rfl | exact Or.inr rfl)) (pss_one (ps_for PassesOwn.never rfl (pi_seq (K := K) (pe_callR (sp := spD0 K 1 3 (D__law_runs (cl d))) (ok__law_runs T) (hr.mono (by decide)) rfl T.m__law_runs T.k__law_runs pass0 (pa_cons (pe_callR (sp := spD0 K 3 13 (D__law_painted (cl d))) (ok__law_painted T) (hr.mono (by decide)) rfl T.m__law_painted T.k__law_painted pass0 (pa_cons (pv 0) (pa_cons (pv 1) (pa_cons (pv 3) pa_nil)))) pa_nil))) (pg_tupK (K := K) (n := 2) rfl (pgs_cons (pg_name (i := 4) sc__law_show.nd rfl (by first | exact Or.inl rfl | exact Or.inr rfl)) (pgs_cons (pg_name (i := 5) sc__law_show.nd rfl (by first | exact Or.inl rfl | exact Or.inr rfl)) pgs_nil))) (pss_cons (ps_par (i := 6) (j := 7) rfl sc__law_show.nd rfl rfl (by decide) rfl rfl (pa_cons (pv 4) (pa_cons (pv 5) pa_nil)) (by first | rfl | exact sw2 (by rfl) (by rfl) (by rfl))) (pss_cons (ps_if (pt_cmp (pc_notN (pe_ix (ix_3 (K := K)) (pv 0) pe_int (fun _ _ => rfl)))) (pss_one (ps_par (i := 6) (j := 7) rfl sc__law_show.nd rfl rfl (by decide) rfl rfl (pa_cons (pe_callB (call_max2 rfl) (by rfl) T.b_max (by decide +kernel) (pa_cons (pe_callTy call_int2 rfl T.b_int (by decide +kernel) (pa_cons (pv 4) pa_nil)) (pa_cons (pe_ix (ix_3 (K := K)) (pe_ix (ix_3 (K := K)) (pv 0) pe_int (fun _ _ => rfl)) pe_int (fun _ _ => rfl)) pa_nil))) (pa_cons (pe_callB (call_min2 rfl) (by rfl) T.b_min (by decide +kernel) (pa_cons (pe_callTy call_int2 rfl T.b_int (by decide +kernel) (pa_cons (pv 5) pa_nil)) (pa_cons (pe_ix (ix_3 (K := K)) (pe_ix (ix_3 (K := K)) (pv 0) pe_int (fun _ _ => rfl)) pe_int (fun _ _ => rfl)) pa_nil))) pa_nil)) (by first | rfl | exact sw2 (by rfl) (by rfl) (by rfl)))) pss_nil) (pss_one (ps_if (PW.pt (pw_and (pt_cmpR op_ge (pe_op op_sub (pv 5) (pv 4)) (pe_ix (ix_3 (K := K)) (pv 0) pe_int (fun _ _ => rfl)) (nomark _)) (pw_and1 (pt_cmpR (op_lt2 (K := K) hu) (pv 6) (pv 7) (nomark _))))) (pss_one (ps_expr (pe_bm PySem.F.plainAttrs_list PySem.F.slot_list_append PySem.F.type_list_append mt_append (pv 2) (pa_cons (pe_tup (pa_cons (pv 6) (pa_cons (pv 7) (pa_cons (pv 3) pa_nil)))) pa_nil)))) pss_nil))))))) (pss_one (ps_ret (pe_callR (sp := spD0 K 1 5 (D__law_in_order (cl d))) (ok__law_in_order T) (hr.mono (by decide)) rfl T.m__law_in_order T.k__law_in_order pass0 (pa_cons (pv 2) pa_nil)))))), (L_seq (L_set (L_lst A_nil)) (L_seq (L_forS (vs := [3]) (L_tup (A_cons L_str (A_cons L_str A_nil))) (U_name (by decide)) (L_forS (vs := [4, 5]) (Lz_call (A_cons (Lz_call (A_cons (L_var (i := 0)) (A_cons (L_var (i := 1)) (A_cons (L_var (i := 3)) A_nil)))) A_nil)) (U_tup (Us_cons (U_name (by decide)) (Us_cons (U_name (by decide)) Us_nil))) (L_seq (L_par (N_cons (L_var (i := 4)) (N_cons (L_var (i := 5)) N_nil))) (L_seq (L_if (L_test (L_notN (L_bin S_ix (L_var (i := 0)) L_int))) (L_par (N_cons (L_cb C_max (A_cons (L_cb C_int (A_cons (L_var (i := 4)) A_nil)) (A_cons (L_bin S_ix (L_bin S_ix (L_var (i := 0)) L_int) L_int) A_nil))) (N_cons (L_cb C_min (A_cons (L_cb C_int (A_cons (L_var (i := 5)) A_nil)) (A_cons (L_bin S_ix (L_bin S_ix (L_var (i := 0)) L_int) L_int) A_nil))) N_nil))) L_next) (L_if (L_tand (L_test (L_bin S_ge (L_bin S_sub (L_var (i := 5)) (L_var (i := 4))) (L_bin S_ix (L_var (i := 0)) L_int))) (L_test (L_bin S_lt2 (L_var (i := 6)) (L_var (i := 7))))) (L_drop (L_mut (i := 2) M_append (A_cons (L_tup (A_cons (L_var (i := 6)) (A_cons (L_var (i := 7)) (A_cons (L_var (i := 3)) A_nil)))) A_nil))) L_next))))) (L_ret (Lz_call (A_cons (L_var (i := 2)) A_nil)))))⟩)
theorem ok__is_block (T : Txt K mg d) : FnR P w K mg base CX0 3 d.f__is_block (spD0 K 1 4 (D__is_block (cl d))) :=
  mkDz T.F__is_block sc__is_block (by decide) (fun _ _ _ _ _ _ us hl => match us, hl with | [_], _ => rfl) (fun cdv A outer s H E hr => by
    have hu := hr.units
    have hu5 := room5 hr
    exact ⟨_, (pss_cons (ps_if (PW.pt (pw_or (pt_not (pt_val (pe_callB call_isi (by rfl) T.b_isinstance (by decide +kernel) (pa_cons (pv 0) (pa_cons (pe_bltn (v := .ty "tuple") rfl T.b_tuple (by decide +kernel) rfl) pa_nil))))) (pw_or1 (pt_cmpR (op_ne2 (K := K) hu) (pe_callB (call_len2 (K := K)) (by rfl) T.b_len PySem.boot_len (pa_cons (pv 0) pa_nil)) pe_int (nomark _))))) (pss_one (ps_ret pe_bl)) pss_nil) (pss_cons (ps_asg (pv 0) (pg_tupK (K := K) (n := 3) rfl (pgs_cons (pg_name (i := 1) sc__is_block.nd rfl (by first | exact Or.inl rfl | exact Or.inr rfl)) (pgs_cons (pg_name (i := 2) sc__is_block.nd rfl (by first | exact Or.inl rfl | exact Or.inr rfl)) (pgs_cons (pg_name (i := 3) sc__is_block.nd rfl (by first | exact Or.inl rfl | exact Or.inr rfl)) pgs_nil))))) (pss_one (ps_ret (pe_and (pe_callR (sp := spD0 K 1 1 (D_is_number (cl d))) (ok_is_number T) (hr.mono (by decide)) rfl T.m_is_number T.k_is_number pass0 (pa_cons (pv 1) pa_nil)) (pe_and (pe_callR (sp := spD0 K 1 1 (D_is_number (cl d))) (ok_is_number T) (hr.mono (by decide)) rfl T.m_is_number T.k_is_number pass0 (pa_cons (pv 2) pa_nil)) (pe_and (pe_cmpR (op_lt2 (K := K) hu) (pv 1) (pv 2) (nomark _)) (pe_one (pe_cmpR (op_in2 (K := K) hu5) (pv 3) (pe_glob (v := .ref d.c_WORDS) rfl T.m_WORDS rfl) rfl))))))))), (L_seq (L_if (L_tor (L_tnot (L_test (L_isi (kit_ok T) (tyc T) (.ty "tuple") (L_var (i := 0))))) (L_test (L_bin S_ne (L_cb C_len (A_cons (L_var (i := 0)) A_nil)) L_int))) (L_ret L_bl) L_next) (L_seq (L_tgt (vs := [1, 2, 3]) (L_var (i := 0)) (U_tup (Us_cons (U_name (by decide)) (Us_cons (U_name (by decide)) (Us_cons (U_name (by decide)) Us_nil))))) (L_ret (L_and (Lz_call (A_cons (L_var (i := 1)) A_nil)) (L_and (Lz_call (A_cons (L_var (i := 2)) A_nil)) (L_and (L_bin S_lt2 (L_var (i := 1)) (L_var (i := 2))) (L_bin S_in (L_var (i := 3)) (L_c (rp_WORDS T)))))))))⟩)
theorem ok_is_view (T : Txt K mg d) : FnR P w K mg base CX0 4 d.f_is_view (spD0 K 1 3 (D_is_view (cl d))) :=
  mkDz T.F_is_view sc_is_view (by decide) (fun _ _ _ _ _ _ us hl => match us, hl with | [_], _ => rfl) (fun cdv A outer s H E hr => by
    have hu := hr.units
    have hu5 := room5 hr
    exact ⟨_, (pss_cons (ps_if (pt_not (pt_val (pe_callB call_isi (by rfl) T.b_isinstance (by decide +kernel) (pa_cons (pv 0) (pa_cons (pe_bltn (v := .ty "tuple") rfl T.b_tuple (by decide +kernel) rfl) pa_nil))))) (pss_one (ps_ret pe_bl)) pss_nil) (pss_cons (ps_if (pt_not (pt_val (pe_callB (cr_all rfl) (by rfl) T.b_all (by decide +kernel) (pa_cons (pe_lc (own := [("block", 2)]) rfl sc_is_view.nd (pi_seq (K := K) (pv 0)) (blkOk_by (N := ["value", "at", "block"]) (sc := defScope s_is_view) (by decide +kernel)) (fun _ _ _ _ _ => (pg_name (i := 2) sc_is_view.nd rfl (by first | exact Or.inl rfl | exact Or.inr rfl))) (fun _ _ _ _ _ => pts_nil) (fun _ _ _ _ _ => (pe_callR (sp := spD0 K 1 4 (D__is_block (cl d))) (ok__is_block T) (hr.mono (by decide)) rfl T.m__is_block T.k__is_block pass0 (pa_cons (pv 2) pa_nil)))) pa_nil)))) (pss_one (ps_ret pe_bl)) pss_nil) (pss_one (ps_ret (pe_callB (cr_all rfl) (by rfl) T.b_all (by decide +kernel) (pa_cons (pe_lc (own := [("at", 1)]) rfl sc_is_view.nd (pi_range1 rfl T.b_range (pa_cons (pe_op op_sub (pe_callB (call_len2 (K := K)) (by rfl) T.b_len PySem.boot_len (pa_cons (pv 0) pa_nil)) pe_int) pa_nil)) (blkOk_by (N := ["value", "at", "block"]) (sc := defScope s_is_view) (by decide +kernel)) (fun _ _ _ _ _ => (pg_name (i := 1) sc_is_view.nd rfl (by first | exact Or.inl rfl | exact Or.inr rfl))) (fun _ _ _ _ _ => pts_nil) (fun _ _ _ _ _ => (pe_cmpR (op_lt2 (K := K) hu) (pe_ix (ix_3 (K := K)) (pv 0) (pv 1) (fun _ _ => rfl)) (pe_ix (ix_3 (K := K)) (pv 0) (pe_op (op_add4 (K := K)) (pv 1) pe_int) (fun _ _ => rfl)) (nomark _)))) pa_nil)))))), (L_seq (L_if (L_tnot (L_test (L_isi (kit_ok T) (tyc T) (.ty "tuple") (L_var (i := 0))))) (L_ret L_bl) L_next) (L_seq (L_if (L_tnot (L_test (L_cb C_all (A_cons (L_lcS (Et := E0) (Ea := E0) (L_var (i := 0)) (U_name (by decide)) L_yes (Lz_call (A_cons (L_var (i := 2)) A_nil))) A_nil)))) (L_ret L_bl) L_next) (L_ret (L_cb C_all (A_cons (L_lc (Et := E0) (Ea := E0) (I_rng1 (L_bin S_sub (L_cb C_len (A_cons (L_var (i := 0)) A_nil)) L_int)) (U_name (by decide)) L_yes (L_bin S_lt2 (L_bin S_ix (L_var (i := 0)) (L_var (i := 1))) (L_bin S_ix (L_var (i := 0)) (L_bin S_add4 (L_var (i := 1)) L_int)))) A_nil)))))⟩)
end
end DD

set_option linter.all false
set_option maxRecDepth 100000
set_option maxHeartbeats 1000000
/-! how the functions are reckoned -/
namespace DL
open PySem PySem.Spec PyProof.Rows L2 DD
section
variable {α β : Type} {ρ : En}
@[simp] theorem r_bind_ok {a : α} {U : α → En → Res β} : (Res.ok a ρ).bind U = U a ρ := rfl
@[simp] theorem r_bind_st {U : α → En → Res β} : (Res.stuck : Res α).bind U = .stuck := rfl
@[simp] theorem r_sb_ok {a : α} {U : α → En → SR} : (Res.ok a ρ).sb U = U a ρ := rfl
@[simp] theorem r_sb_st {U : α → En → SR} : (Res.stuck : Res α).sb U = .stuck := rfl
end
@[simp] theorem q_dVar {i : Nat} {ρ : En} : dVar i ρ = (match ρ[i]? with
  | some (.val d) => .ok (.val d) ρ
  | some (.own _) | some (.bor _) | some (.lck _) => .ok (.own i) ρ
  | _ => .stuck) := rfl
@[simp] theorem q_dC {d : D} {ρ : En} : dC d ρ = (.ok (.val d) ρ) := rfl
@[simp] theorem q_dBin {op : D2} {A B : En → Res X} {ρ : En} : dBin op A B ρ = ((A ρ).bind fun a ρ1 => (B ρ1).bind fun b ρ2 => ap2 op a.settle b ρ2) := rfl
@[simp] theorem q_dIsN {A : En → Res X} {ρ : En} : dIsN A ρ = ((A ρ).bind fun a ρ1 => match deref ρ1 a with
  | some d => .ok (.val (.bl d.isNon)) ρ1
  | none => .stuck) := rfl
@[simp] theorem q_dNotN {A : En → Res X} {ρ : En} : dNotN A ρ = ((A ρ).bind fun a ρ1 => match deref ρ1 a with
  | some d => .ok (.val (.bl !d.isNon)) ρ1
  | none => .stuck) := rfl
@[simp] theorem q_dTest {A : En → Res X} {ρ : En} : dTest A ρ = ((A ρ).bind fun a ρ1 => lift (asB ρ1 a) ρ1) := rfl
@[simp] theorem q_dNot {A : En → Res X} {ρ : En} : dNot A ρ = ((A ρ).bind fun a ρ1 => lift ((asB ρ1 a).map fun b => X.val (.bl !b)) ρ1) := rfl
@[simp] theorem q_dAnd {A B : En → Res X} {ρ : En} : dAnd A B ρ = ((A ρ).bind fun a ρ1 => match asB ρ1 a with
  | some true => B ρ1
  | some false => .ok (.val (.bl false)) ρ1
  | none => .stuck) := rfl
@[simp] theorem q_dOr {A B : En → Res X} {ρ : En} : dOr A B ρ = ((A ρ).bind fun a ρ1 => match asB ρ1 a with
  | some false => B ρ1
  | some true => .ok (.val (.bl true)) ρ1
  | none => .stuck) := rfl
@[simp] theorem q_tnd {T U : En → Res Bool} {ρ : En} : tnd T U ρ = ((T ρ).bind fun a ρ1 => match a with
  | true => U ρ1
  | false => .ok false ρ1) := rfl
@[simp] theorem q_tor {T U : En → Res Bool} {ρ : En} : tor T U ρ = ((T ρ).bind fun a ρ1 => match a with
  | true => .ok true ρ1
  | false => U ρ1) := rfl
@[simp] theorem q_tnot {T : En → Res Bool} {ρ : En} : tnot T ρ = ((T ρ).bind fun a ρ1 => .ok (!a) ρ1) := rfl
@[simp] theorem q_dIfE {T : En → Res Bool} {A B : En → Res X} {ρ : En} : dIfE T A B ρ = ((T ρ).bind fun a ρ1 => match a with
  | true => A ρ1
  | false => B ρ1) := rfl
@[simp] theorem q_dChain {op op' : D2} {A B C : En → Res X} {ρ : En} : dChain op op' A B C ρ = ((A ρ).bind fun a ρ1 => (B ρ1).bind fun b ρ2 => (ap2 op a.settle b.settle ρ2).bind fun z ρ3 => match asB ρ3 z with
  | some true => (C ρ3).bind fun c ρ4 => ap2 op' b.settle c ρ4
  | some false => .ok (.val (.bl false)) ρ3
  | none => .stuck) := rfl
@[simp] theorem q_aNil  {ρ : En} : aNil  ρ = (.ok [] ρ) := rfl
@[simp] theorem q_aCons {A : En → Res X} {T : En → Res (List X)} {ρ : En} : aCons A T ρ = ((A ρ).bind fun a ρ1 => (T ρ1).bind fun as ρ2 => .ok (a.settle :: as) ρ2) := rfl
@[simp] theorem q_dTup {T : En → Res (List X)} {ρ : En} : dTup T ρ = ((T ρ).bind fun xs ρ1 => match toVals ρ1 xs with
  | some (ds, ρ2) => if ds.length ≤ sizeLine then .ok (.val (.tup ds)) ρ2 else .stuck
  | none => .stuck) := rfl
@[simp] theorem q_dLst {T : En → Res (List X)} {ρ : En} : dLst T ρ = ((T ρ).bind fun xs ρ1 => match toVals ρ1 xs with
  | some (ds, ρ2) => if ds.length ≤ sizeLine then .ok (.new (.lst ds)) ρ2 else .stuck
  | none => .stuck) := rfl
@[simp] theorem q_oNone  {ρ : En} : oNone  ρ = (.ok none ρ) := rfl
@[simp] theorem q_oSome {A : En → Res X} {ρ : En} : oSome A ρ = ((A ρ).bind fun a ρ1 => lift ((asI ρ1 a).map some) ρ1) := rfl
@[simp] theorem q_dSl {A : En → Res X} {L U : En → Res (Option Int)} {ρ : En} : dSl A L U ρ = ((A ρ).bind fun a ρ1 => (L ρ1).bind fun lo ρ2 => (U ρ2).bind fun hi ρ3 => match deref ρ3 a.settle with
  | some d => lift (opSl d lo hi) ρ3
  | none => .stuck) := rfl
@[simp] theorem q_dCB {f : List D → Option X} {T : En → Res (List X)} {ρ : En} : dCB f T ρ = ((T ρ).bind (apN f)) := rfl
@[simp] theorem q_g1 {A : En → Res X} {ρ : En} : g1 A ρ = ((A ρ).bind fun a ρ1 => lift ((asI ρ1 a).map fun n => (0, n)) ρ1) := rfl
@[simp] theorem q_g2 {A B : En → Res X} {ρ : En} : g2 A B ρ = ((A ρ).bind fun a ρ1 => (B ρ1).bind fun b ρ2 => match asI ρ2 a.settle, asI ρ2 b with
  | some i, some j => .ok (i, j) ρ2
  | _, _ => .stuck) := rfl
@[simp] theorem q_dFmt {A : En → Res X} {ρ : En} : dFmt A ρ = ((A ρ).bind fun a ρ1 => match deref ρ1 a with
  | some d => lift ((fmtD d).map fun s => X.val (.str s)) ρ1
  | none => .stuck) := rfl
@[simp] theorem q_jNil  {acc : Str} {ρ : En} : jNil  acc ρ = (.ok acc ρ) := rfl
@[simp] theorem q_jCons {A : En → Res X} {J : Str → En → Res Str} {acc : Str} {ρ : En} : jCons A J acc ρ = ((A ρ).bind fun a ρ1 => match deref ρ1 a with
  | some (.str y) => if (acc ++ y).length ≤ sizeLine then J (acc ++ y) ρ1 else .stuck
  | _ => .stuck) := rfl
@[simp] theorem q_dJoin {J : Str → En → Res Str} {ρ : En} : dJoin J ρ = ((J Str.empty ρ).bind fun s ρ1 => .ok (.val (.str s)) ρ1) := rfl
@[simp] theorem q_dMt {f : D → List D → Option X} {A : En → Res X} {T : En → Res (List X)} {ρ : En} : dMt f A T ρ = ((A ρ).bind fun a ρ1 => match deref ρ1 a with
  | some (.str s) => (T ρ1).bind fun xs ρ2 => match derefs ρ2 xs with
    | some ds => lift (f (.str s) ds) ρ2
    | none => .stuck
  | _ => .stuck) := rfl
@[simp] theorem q_sNext  {ρ : En} : sNext  ρ = (.nx ρ) := rfl
@[simp] theorem q_sSeq {S U : En → SR} {ρ : En} : sSeq S U ρ = (match S ρ with
  | .nx ρ1 => U ρ1
  | r => r) := rfl
@[simp] theorem q_sDrop {A : En → Res X} {ρ : En} : sDrop A ρ = ((A ρ).sb fun _ ρ1 => .nx ρ1) := rfl
@[simp] theorem q_sRet {A : En → Res X} {ρ : En} : sRet A ρ = ((A ρ).sb fun a ρ1 => .rt a ρ1) := rfl
@[simp] theorem q_sRetN  {ρ : En} : sRetN  ρ = (.rt (.val .non) ρ) := rfl
@[simp] theorem q_sBreak  {ρ : En} : sBreak  ρ = (.bk ρ) := rfl
@[simp] theorem q_sCont  {ρ : En} : sCont  ρ = (.ct ρ) := rfl
@[simp] theorem q_sIf {T : En → Res Bool} {S U : En → SR} {ρ : En} : sIf T S U ρ = ((T ρ).sb fun b ρ1 => match b with
  | true => S ρ1
  | false => U ρ1) := rfl
@[simp] theorem q_sSet {i : Nat} {A : En → Res X} {ρ : En} : sSet i A ρ = ((A ρ).sb fun a ρ1 => putX i a ρ1) := rfl
@[simp] theorem q_sTgt {U : Tg} {A : En → Res X} {ρ : En} : sTgt U A ρ = ((A ρ).sb fun a ρ1 => match toVal ρ1 a with
  | some (d, ρ2) => match U d ρ2 with
    | some ρ3 => .nx ρ3
    | none => .stuck
  | none => .stuck) := rfl
@[simp] theorem q_eMut {i : Nat} {f : Mu} {T : En → Res (List X)} {ρ : En} : eMut i f T ρ = (match lstAt ρ i with
  | none => .stuck
  | some _ => (T ρ).bind fun xs ρ1 => match toVals ρ1 xs with
    | none => .stuck
    | some (as, ρ2) => match lstAt ρ2 i with
      | none => .stuck
      | some ds => match f ds as with
        | none => .stuck
        | some (z, ds') => .ok (.val z) (setAt ρ2 i ds')) := rfl
@[simp] theorem q_sPut {i : Nat} {A B : En → Res X} {ρ : En} : sPut i A B ρ = ((A ρ).sb fun a ρ1 => match toVal ρ1 a with
  | none => .stuck
  | some (d, ρ2) => match lstAt ρ2 i with
    | none => .stuck
    | some _ => (B ρ2).sb fun b ρ3 => match asI ρ3 b, lstAt ρ3 i with
      | some k, some ds => match ixN ds.length k with
        | some j => .nx (setAt ρ3 i (ds.set j d))
        | none => .stuck
      | _, _ => .stuck) := rfl
@[simp] theorem q_dFld {Cs : List Addr} {f : Str} {A : En → Res X} {ρ : En} : dFld Cs f A ρ = ((A ρ).bind fun a ρ1 => match deref ρ1 a with
  | some (.ins C ks ds) => if C ∈ Cs then lift ((getF f ks ds).map X.val) ρ1 else .stuck
  | _ => .stuck) := rfl
@[simp] theorem q_sFldD {Cs : List Addr} {i : Nat} {f : Str} {A : En → Res X} {ρ : En} : sFldD Cs i f A ρ = ((A ρ).sb fun a ρ1 => match toVal ρ1 a with
  | none => .stuck
  | some (d, ρ2) => match insAt ρ2 i with
    | some (C, ks, ds) => if C ∈ Cs ∧ ks.length < 1000 then .nx (setIns ρ2 i (.ins C (putFD f d ks ds).1 (putFD f d ks ds).2)) else .stuck
    | none => .stuck) := rfl
@[simp] theorem q_nCons {A : En → Res X} {T : En → Res (List X)} {ρ : En} : nCons A T ρ = ((A ρ).bind fun a ρ1 => match a with
  | .own j => match toVal ρ1 (.own j) with
    | some (d, ρ2) => (T ρ2).bind fun as ρ3 => .ok (.val d :: as) ρ3
    | none => .stuck
  | a => (T ρ1).bind fun as ρ2 => .ok (a :: as) ρ2) := rfl
@[simp] theorem q_sMulti {is : List Nat} {T : En → Res (List X)} {ρ : En} : sMulti is T ρ = ((T ρ).sb fun xs ρ1 => puts is xs ρ1) := rfl
@[simp] theorem q_dRng1 {A : En → Res X} {ρ : En} : dRng1 A ρ = ((A ρ).bind fun a ρ1 => match asI ρ1 a with
  | some j => if -(2 ^ 62) ≤ j ∧ j < 2 ^ 62 then .ok ((List.range j.toNat).map fun i => D.int (0 + (i : Nat))) ρ1 else .stuck
  | none => .stuck) := rfl
@[simp] theorem q_dRng2 {A B : En → Res X} {ρ : En} : dRng2 A B ρ = ((A ρ).bind fun a ρ1 => (B ρ1).bind fun b ρ2 => match asI ρ2 a.settle, asI ρ2 b with
  | some i, some j => if -(2 ^ 62) ≤ i ∧ i < 2 ^ 62 ∧ -(2 ^ 62) ≤ j ∧ j < 2 ^ 62 then .ok ((List.range (j - i).toNat).map fun n => D.int (i + (n : Nat))) ρ2 else .stuck
  | _, _ => .stuck) := rfl
@[simp] theorem q_sFor {S : En → Res (List D)} {U : Tg} {B : En → SR} {ρ : En} : sFor S U B ρ = ((S ρ).sb fun ds ρ1 => forL U B ds ρ1) := rfl
@[simp] theorem q_sForS {A : En → Res X} {U : Tg} {B : En → SR} {ρ : En} : sForS A U B ρ = ((seqOf A ρ).sb fun p ρ1 => match p.1 with
  | none => forL U B p.2 ρ1
  | some i => (forL U B p.2 ρ1).unlock i) := rfl
@[simp] theorem q_dLc {S : En → Res (List D)} {vs : List Nat} {U : Tg} {T : En → Res Bool} {A : En → Res X} {ρ : En} : dLc S vs U T A ρ = ((S ρ).bind fun ds ρ1 => lcAll vs U T A ds ρ1) := rfl
@[simp] theorem q_tdYes  {ρ : En} : tdYes  ρ = (.ok true ρ) := rfl
@[simp] theorem q_dLcS {A0 : En → Res X} {vs : List Nat} {U : Tg} {T : En → Res Bool} {A : En → Res X} {ρ : En} : dLcS A0 vs U T A ρ = ((seqOf A0 ρ).bind fun p ρ1 => match p.1 with
  | none => lcAll vs U T A p.2 ρ1
  | some i => (lcAll vs U T A p.2 ρ1).unlock i) := rfl
@[simp] theorem q_dCall {n m : Nat} {T : En → SR} {A : En → Res (List X)} {ρ : En} : dCall n m T A ρ = ((A ρ).bind fun xs ρ1 => match toVals ρ1 xs with
  | some (ds, ρ2) => if ds.length = n then callV (fin (T (env0 m (ds.map .val)))) ρ2 else .stuck
  | none => .stuck) := rfl
@[simp] theorem q_dCallB {n m : Nat} {T : En → SR} {i : Nat} {A : En → Res (List X)} {ρ : En} : dCallB n m T i A ρ = ((A ρ).bind fun xs ρ1 => match toVals ρ1 xs with
  | some (ds, ρ2) => match coAt ρ2 i with
    | some o => if ds.length + 1 = n then callB (fin (T (env0 m (.bor o :: ds.map .val)))) i ρ2 else .stuck
    | none => .stuck
  | none => .stuck) := rfl
@[simp] theorem q_dMeth {C : Addr} {f : Str} {n m : Nat} {T : En → SR} {A : En → Res X} {B : En → Res (List X)} {ρ : En} : dMeth C f n m T A B ρ = ((A ρ).bind fun a ρ1 => match toVal ρ1 a with
  | some (.ins C' ks es, ρ2) => if C' = C ∧ noF f ks = true then (B ρ2).bind fun xs ρ3 => match toVals ρ3 xs with
      | some (ds, ρ4) => if ds.length + 1 = n then callV (fin (T (env0 m ((D.ins C' ks es :: ds).map .val)))) ρ4 else .stuck
      | none => .stuck
    else .stuck
  | _ => .stuck) := rfl
@[simp] theorem q_dProp {C : Addr} {m : Nat} {T : En → SR} {A : En → Res X} {ρ : En} : dProp C m T A ρ = ((A ρ).bind fun a ρ1 => match toVal ρ1 a with
  | some (.ins C' ks es, ρ2) => if C' = C then callV (fin (T (env0 m [.val (D.ins C' ks es)]))) ρ2 else .stuck
  | _ => .stuck) := rfl
@[simp] theorem q_dMake {C : Addr} {n m : Nat} {T : En → SR} {A : En → Res (List X)} {ρ : En} : dMake C n m T A ρ = ((A ρ).bind fun xs ρ1 => match toVals ρ1 xs with
  | some (ds, ρ2) => if ds.length + 1 = n then makeV (fin (T (env0 m (.bor (.ins C [] []) :: ds.map .val)))) ρ2 else .stuck
  | none => .stuck) := rfl
@[simp] theorem q_dIsi {kt : Kit} {Cs : List Addr} {us : List Value} {A : En → Res X} {ρ : En} : dIsi kt Cs us A ρ = ((A ρ).bind fun a ρ1 => match deref ρ1 a with
  | some d => if d.tyOk Cs = true then lift ((anyK kt d.ty us).map fun b => X.val (.bl b)) ρ1 else .stuck
  | none => .stuck) := rfl
@[simp] theorem q_dStrO {C : Addr} {m : Nat} {T : En → SR} {A : En → Res X} {ρ : En} : dStrO C m T A ρ = ((A ρ).bind fun a ρ1 => match toVal ρ1 a with
  | some (.ins C' ks es, ρ2) => if C' = C then callP xStr (fin (T (env0 m [.val (D.ins C' ks es)]))) ρ2 else .stuck
  | _ => .stuck) := rfl
@[simp] theorem q_dLenO {C : Addr} {m : Nat} {T : En → SR} {A : En → Res X} {ρ : En} : dLenO C m T A ρ = ((A ρ).bind fun a ρ1 => match toVal ρ1 a with
  | some (.ins C' ks es, ρ2) => if C' = C then callP xLen (fin (T (env0 m [.val (D.ins C' ks es)]))) ρ2 else .stuck
  | _ => .stuck) := rfl
@[simp] theorem q_dEqO {p : X → Option X} {C : Addr} {m : Nat} {T : En → SR} {A B : En → Res X} {ρ : En} : dEqO p C m T A B ρ = ((A ρ).bind fun a ρ1 => (B ρ1).bind fun b ρ2 => match toVal ρ2 a.settle with
  | some (.ins C' ks es, ρ3) => match toVal ρ3 b.settle with
    | some (.ins C'' ks' es', ρ4) => if C' = C ∧ C'' = C then callP p (fin (T (env0 m [.val (D.ins C' ks es), .val (D.ins C'' ks' es')]))) ρ4 else .stuck
    | _ => .stuck
  | _ => .stuck) := rfl
@[simp] theorem q_dLc2 {S : En → Res (List D)} {vs vs1 : List Nat} {U : Tg} {T : En → Res Bool} {S1 : En → Res (List D)} {U1 : Tg} {T1 : En → Res Bool} {A : En → Res X} {ρ : En} : dLc2 S vs vs1 U T S1 U1 T1 A ρ = ((S ρ).bind fun ds ρ1 => if vs.all (freeAt ρ1) = true then
    match lc2L vs vs1 U T S1 U1 T1 A ds (wipeN ρ1 vs) [] with
    | .ok es ρ2 => .ok (.new (.lst es)) ρ2
    | _ => .stuck
  else .stuck) := rfl
@[simp] theorem q_dUn {f : D → Option X} {A : En → Res X} {ρ : En} : dUn f A ρ = ((A ρ).bind fun a ρ1 => match deref ρ1 a with
  | some d => lift (f d) ρ1
  | none => .stuck) := rfl
@[simp] theorem q_dLend {n m : Nat} {T : En → SR} {i : Nat} {A : En → Res (List X)} {ρ : En} : dLend n m T i A ρ = (if (coAt ρ i).isSome then dCallB n m T i A ρ else .stuck) := rfl
@[simp] theorem q_dCMeth {C : Addr} {n m : Nat} {T : En → SR} {B : En → Res (List X)} {ρ : En} : dCMeth C n m T B ρ = ((B ρ).bind fun xs ρ1 => match toVals ρ1 xs with
  | some (ds, ρ2) => if ds.length + 1 = n then callV (fin (T (env0 m ((D.cls C :: ds).map .val)))) ρ2 else .stuck
  | none => .stuck) := rfl
@[simp] theorem q_dMakeL {C : Addr} {i n m : Nat} {T : En → SR} {A : En → Res (List X)} {ρ : En} : dMakeL C i n m T A ρ = (match ρ[i]? with
  | some (.val (.cls C')) => if C' = C then dMake C n m T A ρ else .stuck
  | _ => .stuck) := rfl
@[simp] theorem q_dSeqI {A : En → Res X} {ρ : En} : dSeqI A ρ = ((A ρ).bind fun a ρ1 => match a with
  | .val d => lift d.items ρ1
  | .new o => lift o.d.items ρ1
  | .own i => match ρ1[i]? with
    | some (.val d) => lift d.items ρ1
    | _ => .stuck) := rfl
@[simp] theorem w_eq_i {i j : Int} : eqB (.int i) (.int j) = some (decide (i = j)) := rfl
@[simp] theorem w_eq_s {i j : Str} : eqB (.str i) (.str j) = some (decide (i = j)) := rfl
@[simp] theorem w_eq_b {i j : Bool} : eqB (.bl i) (.bl j) = some (decide (i = j)) := rfl
@[simp] theorem w_eq_n : eqB .non .non = some true := rfl
section
variable {d : D} {o : O}
@[simp] theorem w_free_v : (Slot.val d).free = true := rfl
@[simp] theorem w_free_n : Slot.none.free = true := rfl
@[simp] theorem w_free_o : (Slot.own o).free = true := rfl
@[simp] theorem w_free_b : (Slot.bor o).free = false := rfl
@[simp] theorem w_free_l : (Slot.lck o).free = false := rfl
@[simp] theorem w_dd_v : (Slot.val d).dd = some d := rfl
@[simp] theorem w_dd_o : (Slot.own o).dd = some o.d := rfl
@[simp] theorem w_dd_b : (Slot.bor o).dd = some o.d := rfl
@[simp] theorem w_dd_l : (Slot.lck o).dd = some o.d := rfl
@[simp] theorem w_co_o : (Slot.own o).co = some o := rfl
@[simp] theorem w_co_b : (Slot.bor o).co = some o := rfl
end
section
variable {α : Type} {ρ : En} {d : D} {o : O} {i : Nat} {x : X}
@[simp] theorem w_fin_nx : fin (.nx ρ) = .ok (.val .non) ρ := rfl
@[simp] theorem w_fin_v : fin (.rt (.val d) ρ) = .ok (.val d) ρ := rfl
@[simp] theorem w_fin_n : fin (.rt (.new o) ρ) = .ok (.new o) ρ := rfl
@[simp] theorem w_fin_o : fin (.rt (.own i) ρ) = (match ρ[i]? with
    | some (.val d) => .ok (.val d) ρ
    | some (.own o) => .ok (.new o) ρ
    | _ => .stuck) := rfl
@[simp] theorem w_set_v : (X.val d).settle = .val d := rfl
@[simp] theorem w_set_n : (X.new o).settle = .val o.d := rfl
@[simp] theorem w_set_o : (X.own i).settle = .own i := rfl
@[simp] theorem w_O_lst {ds : List D} : (O.lst ds).d = .lst ds := rfl
@[simp] theorem w_O_ins {C : Addr} {ks : List Str} {ds : List D} : (O.ins C ks ds).d = .ins C ks ds := rfl
@[simp] theorem w_der_v : deref ρ (.val d) = some d := rfl
@[simp] theorem w_der_n : deref ρ (.new o) = some o.d := rfl
@[simp] theorem w_der_o : deref ρ (.own i) = ρ[i]?.bind Slot.dd := rfl
@[simp] theorem w_tv_v : toVal ρ (.val d) = some (d, ρ) := rfl
@[simp] theorem w_tv_n : toVal ρ (.new o) = some (o.d, ρ) := rfl
@[simp] theorem w_tv_o : toVal ρ (.own i) = (match ρ[i]? with
    | some (.val d) => some (d, ρ)
    | some (.own o) => some (o.d, ρ.set i (.val o.d))
    | _ => none) := rfl
@[simp] theorem w_lift_s {a : α} : lift (some a) ρ = .ok a ρ := rfl
@[simp] theorem w_lift_n : lift (none : Option α) ρ = .stuck := rfl
@[simp] theorem w_callP {p : X → Option X} {ρ' : En} : callP p (.ok x ρ') ρ = lift (p x) ρ := rfl
@[simp] theorem w_make {ρ' : En} (h : ρ'[0]? = some (.bor o)) : makeV (.ok (.val .non) ρ') ρ = .ok (.new o) ρ := by
  simp only [makeV, h]
end
@[simp] theorem sl_eq : (sizeLine : Nat) = 16777216 := sizeLine_eq
/-- what a def hands back -/
@[simp] def resV : Rt → Option X
  | .ok x _ => some x
  | _ => none
/-- .. and what was lent -/
@[simp] def resB : Rt → Option (X × O)
  | .ok x ρ => match (ρ[0]? : Option Slot) with
    | some (.bor o) => some (x, o)
    | _ => none
  | _ => none
def Gives (m : Nat) (T : En → SR) (ds : List D) (x : X) : Prop := resV (fin (T (env0 m (ds.map .val)))) = some x
def GivesB (m : Nat) (T : En → SR) (o : O) (ds : List D) (x : X) (o' : O) : Prop := resB (fin (T (env0 m (.bor o :: ds.map .val)))) = some (x, o')
open Classical in
@[simp] theorem q_dLstRg {T : En → Res (Int × Int)} {ρ : En} : dLstRg T ρ = ((T ρ).bind fun p ρ1 => if RgOk p.1 p.2 then .ok (.new (.lst (rgD p.1 p.2))) ρ1 else .stuck) := by
  unfold dLstRg
  rfl
theorem Gives.elim {m : Nat} {T : En → SR} {ds : List D} {x : X} (h : Gives m T ds x) : ∃ ρ', fin (T (env0 m (ds.map .val))) = .ok x ρ' := by
  unfold Gives at h
  cases e : fin (T (env0 m (ds.map .val))) with
  | ok y ρ' =>
    rw [e] at h
    cases h
    exact ⟨ρ', rfl⟩
  | err y ρ' => rw [e] at h; cases h
  | stuck => rw [e] at h; cases h
theorem GivesB.elim {m : Nat} {T : En → SR} {ds : List D} {x : X} {o o' : O} (h : GivesB m T o ds x o') : ∃ ρ', fin (T (env0 m (.bor o :: ds.map .val))) = .ok x ρ' ∧ ρ'[0]? = some (.bor o') := by
  unfold GivesB at h
  cases e : fin (T (env0 m (.bor o :: ds.map .val))) with
  | ok y ρ' =>
    rw [e] at h
    simp only [resB] at h
    split at h
    · rename_i u e2
      cases h
      exact ⟨ρ', rfl, e2⟩
    · cases h
  | err y ρ' => rw [e] at h; cases h
  | stuck => rw [e] at h; cases h
@[simp] theorem callB_ok {x : X} {ρ' ρ : En} {i : Nat} {o : O} (h : ρ'[0]? = some (.bor o)) : callB (.ok x ρ') i ρ = .ok x (reAt ρ i o) := by
  simp only [callB, h]
@[simp] theorem callV_ok {x : X} {ρ' ρ : En} : callV (.ok x ρ') ρ = .ok x ρ := rfl
@[simp] def stepL (U : Tg) (B : En → SR) (d : D) (ρ : En) : SR := match U d ρ with
  | none => .stuck
  | some ρ1 => B ρ1
theorem forL_inv {U : Tg} {B : En → SR} (W : Nat → En → Prop) {ds : List D} (h : ∀ i (hi : i < ds.length) ρ, W i ρ → ∃ ρ2, (stepL U B ds[i] ρ = .nx ρ2 ∨ stepL U B ds[i] ρ = .ct ρ2) ∧ W (i + 1) ρ2) {ρ : En} (h0 : W 0 ρ) : ∃ ρ', forL U B ds ρ = .nx ρ' ∧ W ds.length ρ' := by
  induction ds generalizing W ρ with
  | nil => exact ⟨ρ, rfl, h0⟩
  | cons d ds ih =>
    obtain ⟨ρ2, e2, w2⟩ := h 0 (by simp) ρ h0
    obtain ⟨ρ', e3, w3⟩ := ih (fun i => W (i + 1)) (fun i hi ρ hw => by
      obtain ⟨r2, q2, q3⟩ := h (i + 1) (by simpa using hi) ρ hw
      exact ⟨r2, by simpa using q2, q3⟩) w2
    refine ⟨ρ', ?_, w3⟩
    unfold forL
    have e2 : stepL U B d ρ = .nx ρ2 ∨ stepL U B d ρ = .ct ρ2 := e2
    unfold stepL at e2
    cases e1 : U d ρ with
    | none => rw [e1] at e2; rcases e2 with e2 | e2 <;> cases e2
    | some ρ1 =>
      rw [e1] at e2
      rcases e2 with e2 | e2 <;> (simp only [e2]; exact e3)
/-- a loop over range(n) -/
theorem forR_inv {U : Tg} {B : En → SR} {n : Nat} (W : Nat → En → Prop) (h : ∀ i, i < n → ∀ ρ, W i ρ → ∃ ρ2, (stepL U B (.int i) ρ = .nx ρ2 ∨ stepL U B (.int i) ρ = .ct ρ2) ∧ W (i + 1) ρ2) {ρ : En} (h0 : W 0 ρ) : ∃ ρ', forL U B ((List.range n).map fun i => D.int (i : Nat)) ρ = .nx ρ' ∧ W n ρ' := by
  obtain ⟨ρ', e, w⟩ := forL_inv (U := U) (B := B) (ds := (List.range n).map fun i => D.int (i : Nat)) W (fun i hi ρ hw => by
    simp only [List.length_map, List.length_range] at hi
    simp only [List.getElem_map, List.getElem_range]
    exact h i hi ρ hw) h0
  refine ⟨ρ', e, ?_⟩
  simpa using w
/-- the state of the draws -/
def box (b : Int × Int) : O := .lst [.int b.1, .int b.2]
theorem choose_gives {c : Cl} (b : Int × Int) {m : Int} (hm : 0 < m) (hm2 : m < 1073741824) : ∃ r b', GivesB 4 (D__law_choose c) (box b) [.int m] (.val (.int r)) (box b') ∧ 0 ≤ r ∧ r < m := by
  obtain ⟨x, y⟩ := b
  by_cases hx : 0 < x
  · refine ⟨x % m, (x / m, y), ?_, Int.emod_nonneg _ (by omega), Int.emod_lt_of_pos _ hm⟩
    simp [GivesB, D__law_choose, atI, ixN, hx, CDiv, hm, hm2, box]
  · refine ⟨((y * 40014 + 71) % 2147483563 * 2147483647 + (((y * 40014 + 71) % 2147483563 * 40692 + 4603) % 2147483629 + 1)) / 8191 % m, (x, ((y * 40014 + 71) % 2147483563 * 40692 + 4603) % 2147483629 + 1), ?_, Int.emod_nonneg _ (by omega : m ≠ 0), Int.emod_lt_of_pos _ hm⟩
    simp [GivesB, D__law_choose, atI, ixN, hx, CDiv, CMul, hm, hm2, box]
theorem atI_get {α : Type} {xs : List α} {i : Int} (h : 0 ≤ i) (h2 : i < xs.length) : ∃ x, atI xs i = some x ∧ x ∈ xs := by
  have hl : i.toNat < xs.length := by omega
  refine ⟨xs[i.toNat], ?_, List.getElem_mem hl⟩
  simp [atI, ixN, h, h2, hl]
theorem one_of_gives {c : Cl} (b : Int × Int) {ds : List D} (h0 : ds ≠ []) (h1 : ds.length ≤ 1000) : ∃ d b', GivesB 2 (D__law_one_of c) (box b) [.lst ds] (.val d) (box b') ∧ d ∈ ds := by
  have hp : 0 < ds.length := List.length_pos_iff.mpr h0
  obtain ⟨r, b', h, hr, hr2⟩ := choose_gives (c := c) b (m := (ds.length : Int)) (by omega) (by omega)
  obtain ⟨d, hd, hm⟩ := atI_get (xs := ds) hr hr2
  obtain ⟨ρ', e1, e2⟩ := h.elim
  simp at e1
  exact ⟨d, b', by simp [GivesB, D__law_one_of, e1, e2, hd], hm⟩
end DL

set_option linter.all false
set_option maxRecDepth 100000
set_option maxHeartbeats 1000000
/-! the draws -/
namespace DL
open PySem PySem.Spec PyProof.Rows L2 DD
theorem atI_ints {ns : List Int} {k : Nat} (h : k < ns.length) : atI (ns.map D.int) (k : Int) = some (.int ns[k]) := by
  have h2 : (k : Int) < ns.length := by omega
  simp [atI, ixN, h2, h]
theorem seed_gives {c : Cl} (ns : List Int) (k : Nat) : ∃ b, Gives 3 (D__law_seed c) [.scr (ns.map D.int), .int k] (.new (box b)) := by
  by_cases h1 : k < ns.length
  · have h1' : (k : Int) < ns.length := by omega
    have e := atI_ints h1
    by_cases h2 : (1000000000000000000 : Int) ≤ (if ns[k] < 0 then -ns[k] else ns[k])
    · simp [Gives, D__law_seed, CMul, CPow, h1', e, box, h2]
    · simp [Gives, D__law_seed, CMul, CPow, h1', e, box, h2]
  · have h1' : ¬ (k : Int) < ns.length := by omega
    by_cases h0 : 0 < ns.length
    · have hm : k % ns.length < ns.length := Nat.mod_lt _ h0
      have e := atI_ints (ns := ns) hm
      rw [Int.natCast_emod] at e
      by_cases h2 : (1000000000000000000 : Int) ≤ 8831 * (k : Int) + 101 + (if ns[k % ns.length] < 0 then -ns[k % ns.length] else ns[k % ns.length]) % 2147483629 * 40093
      · simp [Gives, D__law_seed, CMul, CPow, h1, h0, e, box, h2]
      · simp [Gives, D__law_seed, CMul, CPow, h1, h0, e, box, h2]
    · by_cases h2 : (1000000000000000000 : Int) ≤ 8831 * (k : Int) + 101
      · simp [Gives, D__law_seed, CMul, CPow, h1, h0, box, h2]
      · simp [Gives, D__law_seed, CMul, CPow, h1, h0, box, h2]
/-- a meeting -/
abbrev Mt := Int × Int × Bool
def mtD (m : Mt) : D := .tup [.int m.1, .int m.2.1, .bl m.2.2]
/-- meetings in their order, from a tick on -/
def Meets : Int → List Mt → Prop
  | _, [] => True
  | a, m :: ms => a ≤ m.1 ∧ m.1 < m.2.1 ∧ Meets m.2.1 ms
def endOf : Int → List Mt → Int
  | a, [] => a
  | _, m :: ms => endOf m.2.1 ms
theorem Meets.snoc {m : Mt} : ∀ {a : Int} {ms : List Mt}, Meets a ms → endOf a ms ≤ m.1 → m.1 < m.2.1 → Meets a (ms ++ [m]) ∧ endOf a (ms ++ [m]) = m.2.1
  | _, [], _, h1, h2 => ⟨⟨h1, h2, trivial⟩, rfl⟩
  | _, x :: ms, h, h1, h2 => by
    obtain ⟨p, q⟩ := Meets.snoc (a := x.2.1) h.2.2 h1 h2
    exact ⟨⟨h.1, h.2.1, p⟩, q⟩
theorem mem_int {xs : List Int} {d : D} (h : d ∈ xs.map D.int) : ∃ i ∈ xs, d = .int i := by
  obtain ⟨i, hi, e⟩ := List.mem_map.mp h
  exact ⟨i, hi, e.symm⟩
theorem day_gives {c : Cl} (b : Int × Int) {top : Int} {s : Bool} (h1 : 1 ≤ top) (h2 : top ≤ 1000) : ∃ (n : Int) (ms : List Mt) (b' : Int × Int), GivesB 9 (D__law_day c) (box b) [.int top, .bl s] (.val (.tup [.int n, .lst (ms.map mtD)])) (box b') ∧ 1 ≤ n ∧ n ≤ top ∧ Meets 0 ms ∧ endOf 0 ms ≤ n ∧ ms.length ≤ 8 := by
  obtain ⟨r, b1, g1, r0, r1⟩ := choose_gives (c := c) b (m := top) (by omega) (by omega)
  obtain ⟨ρ1, e1, e1'⟩ := g1.elim
  simp at e1
  have W := forR_inv (U := uName 3) (B := D__law_day_b1 c) (n := 8) (fun i ρ => ∃ (ms : List Mt) (b : Int × Int) (s3 s7 s8 : Slot), ρ = [.bor (box b), .val (.int top), .val (.bl s), s3, .val (.int (1 + r)), .own (.lst (ms.map mtD)), .val (.int (endOf 0 ms)), s7, s8] ∧ s3.free = true ∧ s7.free = true ∧ s8.free = true ∧ Meets 0 ms ∧ 0 ≤ endOf 0 ms ∧ endOf 0 ms ≤ 1 + r ∧ ms.length ≤ i) ?_ (ρ := [.bor (box b1), .val (.int top), .val (.bl s), .none, .val (.int (1 + r)), .own (.lst []), .val (.int 0), .none, .none]) ⟨[], b1, .none, .none, .none, rfl, rfl, rfl, rfl, trivial, Int.le_refl _, by show (0 : Int) ≤ 1 + r; omega, Nat.le_refl _⟩
  · obtain ⟨ρ', e2, ms, b', s3, s7, s8, rfl, _, _, _, hm, h0, hle, hl⟩ := W
    refine ⟨1 + r, ms, b', ?_, by omega, by omega, hm, hle, hl⟩
    simp [GivesB, D__law_day, e1, e1', e2]
  · rintro i hi ρ ⟨ms, b, s3, s7, s8, rfl, f3, f7, f8, hm, h0, hle, hl⟩
    obtain ⟨d, b2, g2, hd⟩ := one_of_gives (c := c) b (ds := [0, 0, 1, 1, 2, 3, 5].map D.int) (by simp) (by simp)
    obtain ⟨x, hx, rfl⟩ := mem_int hd
    obtain ⟨d, b3, g3, hd⟩ := one_of_gives (c := c) b2 (ds := [1, 1, 2, 3, 4, 9].map D.int) (by simp) (by simp)
    obtain ⟨y, hy, rfl⟩ := mem_int hd
    obtain ⟨z, b4, g4, z0, z1⟩ := choose_gives (c := c) b3 (m := 3) (by omega) (by omega)
    obtain ⟨ρ2, p2, q2⟩ := g2.elim
    obtain ⟨ρ3, p3, q3⟩ := g3.elim
    obtain ⟨ρ4, p4, q4⟩ := g4.elim
    simp at p2 p3 p4
    have hx0 : 0 ≤ x := by simp at hx; omega
    have hy0 : 1 ≤ y := by simp at hy; omega
    have hsz : ms.length < 16777216 := by omega
    have sn : ∀ q, Meets 0 (ms ++ [(endOf 0 ms + x, endOf 0 ms + x + y, q)]) ∧ endOf 0 (ms ++ [(endOf 0 ms + x, endOf 0 ms + x + y, q)]) = endOf 0 ms + x + y := fun q => hm.snoc (by show endOf 0 ms ≤ endOf 0 ms + x; omega) (by show endOf 0 ms + x < endOf 0 ms + x + y; omega)
    by_cases hc : endOf 0 ms + x + y ≤ 1 + r
    · have fin_ : ∀ q, 0 ≤ endOf 0 (ms ++ [(endOf 0 ms + x, endOf 0 ms + x + y, q)]) ∧ endOf 0 (ms ++ [(endOf 0 ms + x, endOf 0 ms + x + y, q)]) ≤ 1 + r ∧ (ms ++ [(endOf 0 ms + x, endOf 0 ms + x + y, q)]).length ≤ i + 1 := fun q => by
        rw [(sn q).2]
        refine ⟨by omega, hc, ?_⟩
        simp
        exact hl
      cases s
      · refine ⟨_, .inl (by simp [D__law_day_b1, p2, q2, p3, q3, f3, f7, f8, hc, hsz] <;> rfl), ms ++ [(endOf 0 ms + x, endOf 0 ms + x + y, false)], b3, .val (.int i), .val (.int (endOf 0 ms + x)), .val (.int (endOf 0 ms + x + y)), ?_, rfl, rfl, rfl, (sn false).1, fin_ false⟩
        rw [(sn false).2]
        simp [mtD]
      · refine ⟨_, .inl (by simp [D__law_day_b1, p2, q2, p3, q3, p4, q4, f3, f7, f8, hc, hsz] <;> rfl), ms ++ [(endOf 0 ms + x, endOf 0 ms + x + y, decide (z = 0))], b4, .val (.int i), .val (.int (endOf 0 ms + x)), .val (.int (endOf 0 ms + x + y)), ?_, rfl, rfl, rfl, (sn _).1, fin_ _⟩
        rw [(sn _).2]
        simp [mtD]
    · refine ⟨_, .inl (by simp [D__law_day_b1, p2, q2, p3, q3, f3, f7, f8, hc] <;> rfl), ms, b3, .val (.int i), .val (.int (endOf 0 ms + x)), .val (.int (endOf 0 ms + x + y)), rfl, rfl, rfl, rfl, hm, h0, hle, by omega⟩
/-- a rule's five -/
structure Ru where
  s : Int
  g : Int
  l : Int
  p : Str
  h : Option (Int × Int)
def hoD : Option (Int × Int) → D
  | none => .non
  | some x => .tup [.int x.1, .int x.2]
def ruD (r : Ru) : D := .tup [.int r.s, .int r.g, .int r.l, .str r.p, hoD r.h]
structure RuOk (r : Ru) : Prop where
  s : 1 ≤ r.s ∧ r.s ≤ 8
  g : 0 ≤ r.g ∧ r.g ≤ 14
  l : 0 ≤ r.l ∧ r.l ≤ 14
  p : r.p ∈ (["busy", "none", "apart", "one"] : List Str)
  h : ∀ x, r.h = some x → 0 ≤ x.1 ∧ x.1 < x.2 ∧ x.2 ≤ 48
theorem mem_str {xs : List Str} {d : D} (h : d ∈ xs.map D.str) : ∃ i ∈ xs, d = .str i := by
  obtain ⟨i, hi, e⟩ := List.mem_map.mp h
  exact ⟨i, hi, e.symm⟩
theorem rule_gives {c : Cl} (b : Int × Int) {top : Int} (h1 : 1 ≤ top) (h2 : top ≤ 47) : ∃ (r : Ru) (b' : Int × Int), GivesB 7 (D__law_rule c) (box b) [.int top] (.val (ruD r)) (box b') ∧ RuOk r := by
  obtain ⟨d, b1, g1, hd⟩ := one_of_gives (c := c) b (ds := (["busy", "busy", "none", "apart", "one"] : List Str).map D.str) (by simp) (by simp)
  obtain ⟨p, hp, rfl⟩ := mem_str hd
  obtain ⟨x, b2, g2, x0, x1⟩ := choose_gives (c := c) b1 (m := top) (by omega) (by omega)
  obtain ⟨y, b3, g3, y0, y1⟩ := choose_gives (c := c) b2 (m := top) (by omega) (by omega)
  obtain ⟨h, b4, g4, hh⟩ := one_of_gives (c := c) b3 (ds := [.non, .non, .tup [.int x, .int (if x + 1 + y < 48 then x + 1 + y else 48)]]) (by simp) (by simp)
  obtain ⟨d, b5, g5, hd⟩ := one_of_gives (c := c) b4 (ds := [0, 0, 0, 1, 2, 3, 6, 14].map D.int) (by simp) (by simp)
  obtain ⟨g, hg, rfl⟩ := mem_int hd
  obtain ⟨d, b6, g6, hd⟩ := one_of_gives (c := c) b5 (ds := [0, 0, 0, 1, 2, 3, 5, 14].map D.int) (by simp) (by simp)
  obtain ⟨l, hl, rfl⟩ := mem_int hd
  obtain ⟨d, b7, g7, hd⟩ := one_of_gives (c := c) b6 (ds := [1, 1, 2, 2, 3, 4, 5, 8].map D.int) (by simp) (by simp)
  obtain ⟨s, hs, rfl⟩ := mem_int hd
  obtain ⟨_, p1, q1⟩ := g1.elim
  obtain ⟨_, p2, q2⟩ := g2.elim
  obtain ⟨_, p3, q3⟩ := g3.elim
  obtain ⟨_, p4, q4⟩ := g4.elim
  obtain ⟨_, p5, q5⟩ := g5.elim
  obtain ⟨_, p6, q6⟩ := g6.elim
  obtain ⟨_, p7, q7⟩ := g7.elim
  simp at p1 p2 p3 p4 p5 p6 p7
  have hp' : p ∈ (["busy", "none", "apart", "one"] : List Str) := by simp at hp ⊢; exact hp
  have hs' : 1 ≤ s ∧ s ≤ 8 := by simp at hs; omega
  have hg' : 0 ≤ g ∧ g ≤ 14 := by simp at hg; omega
  have hl' : 0 ≤ l ∧ l ≤ 14 := by simp at hl; omega
  simp at hh
  rcases hh with rfl | rfl
  · refine ⟨⟨s, g, l, p, none⟩, b7, ?_, ⟨hs', hg', hl', hp', fun x e => by cases e⟩⟩
    simp [GivesB, D__law_rule, p1, q1, p2, q2, p3, q3, p4, q4, p5, q5, p6, q6, p7, q7, ruD, hoD]
  · refine ⟨⟨s, g, l, p, some (x, if x + 1 + y < 48 then x + 1 + y else 48)⟩, b7, ?_, ⟨hs', hg', hl', hp', fun z e => by cases e; dsimp only; split <;> omega⟩⟩
    simp [GivesB, D__law_rule, p1, q1, p2, q2, p3, q3, p4, q4, p5, q5, p6, q6, p7, q7, ruD, hoD]
end DL

set_option linter.all false
set_option maxRecDepth 100000
set_option maxHeartbeats 1000000
/-! days and rules are made -/
namespace DL
open PySem PySem.Spec PyProof.Rows L2 DD
@[simp] theorem k_ii : kitB "int" "int" = some true := by decide +kernel
@[simp] theorem k_ib : kitB "int" "bool" = some false := by decide +kernel
@[simp] theorem k_bb : kitB "bool" "bool" = some true := by decide +kernel
@[simp] theorem k_ll : kitB "list" "list" = some true := by decide +kernel
@[simp] theorem k_tl : kitB "tuple" "list" = some false := by decide +kernel
@[simp] theorem k_tt : kitB "tuple" "tuple" = some true := by decide +kernel
@[simp] theorem k_lt : kitB "list" "tuple" = some false := by decide +kernel
@[simp] theorem kd_ty {Cs : List Addr} {a b : String} : kitD Cs (.type a) (.type b) = kitB a b := rfl
@[simp] theorem kd_own {Cs : List Addr} {a : Addr} : kitD Cs (.ref a) (.ref a) = some true := by simp [kitD]
@[simp] theorem is_integer_v {c : Cl} {i : Int} : Gives 1 (D_is_integer c) [.int i] (.val (.bl true)) := by
  simp [Gives, D_is_integer, anyK]
theorem is_number_v {c : Cl} {i : Int} : Gives 1 (D_is_number c) [.int i] (.val (.bl (decide (0 ≤ i)))) := by
  obtain ⟨_, p⟩ := (is_integer_v (c := c) (i := i)).elim
  simp at p
  simp [Gives, D_is_number, p]
theorem is_positive_v {c : Cl} {i : Int} : Gives 1 (D_is_positive c) [.int i] (.val (.bl (decide (1 ≤ i)))) := by
  obtain ⟨_, p⟩ := (is_integer_v (c := c) (i := i)).elim
  simp at p
  simp [Gives, D_is_positive, p]
theorem is_sequence_l {c : Cl} {ds : List D} : Gives 1 (D_is_sequence c) [.lst ds] (.val (.bl true)) := by
  simp [Gives, D_is_sequence, anyK]
theorem is_sequence_t {c : Cl} {ds : List D} : Gives 1 (D_is_sequence c) [.tup ds] (.val (.bl true)) := by
  simp [Gives, D_is_sequence, anyK]
theorem is_meeting_v {c : Cl} {m : Mt} (h0 : 0 ≤ m.1) (h1 : m.1 < m.2.1) : Gives 4 (D__is_meeting c) [mtD m] (.val (.bl true)) := by
  obtain ⟨_, p⟩ := (is_number_v (c := c) (i := m.1)).elim
  obtain ⟨_, q⟩ := (is_number_v (c := c) (i := m.2.1)).elim
  have h2 : 0 ≤ m.2.1 := by omega
  simp at p q
  simp [Gives, D__is_meeting, mtD, p, q, h0, h1, h2, anyK]
theorem Meets.at : ∀ {a : Int} {ms : List Mt} {i : Nat}, Meets a ms → (hi : i < ms.length) → endOf a (ms.take i) ≤ ms[i].1 ∧ ms[i].1 < ms[i].2.1 ∧ endOf a (ms.take (i + 1)) = ms[i].2.1 ∧ a ≤ endOf a (ms.take i)
  | _, [], i, _, hi => by simp at hi
  | a, m :: ms, 0, h, _ => ⟨h.1, h.2.1, rfl, Int.le_refl _⟩
  | a, m :: ms, i + 1, h, hi => by
    obtain ⟨p, q, r, s⟩ := Meets.at (a := m.2.1) (ms := ms) (i := i) h.2.2 (by simpa using hi)
    exact ⟨p, q, r, by have := h.1; have := h.2.1; show a ≤ endOf m.2.1 (ms.take i); omega⟩
theorem endOf_le : ∀ {a : Int} {ms : List Mt} {i : Nat}, Meets a ms → endOf a (ms.take i) ≤ endOf a ms
  | _, [], i, _ => by simp
  | a, m :: ms, 0, h => by
    have : ∀ {a : Int} {ms : List Mt}, Meets a ms → a ≤ endOf a ms := by
      intro a ms
      induction ms generalizing a with
      | nil => intro _; exact Int.le_refl _
      | cons m ms ih => intro h; have := ih h.2.2; have := h.1; have := h.2.1; show a ≤ endOf m.2.1 ms; omega
    exact this h
  | a, m :: ms, i + 1, h => endOf_le (a := m.2.1) (ms := ms) (i := i) h.2.2
theorem is_sequence_s {c : Cl} {ds : List D} : Gives 1 (D_is_sequence c) [.scr ds] (.val (.bl true)) := by
  simp [Gives, D_is_sequence, anyK]
theorem are_meetings_v {c : Cl} {n : Int} {ms : List Mt} (h : Meets 0 ms) (hn : endOf 0 ms ≤ n) {d : D} (hd : d = .lst (ms.map mtD) ∨ d = .tup (ms.map mtD)) : Gives 4 (D__are_meetings c) [d, .int n] (.val (.bl true)) := by
  have hseq : Gives 1 (D_is_sequence c) [d] (.val (.bl true)) := by
    rcases hd with rfl | rfl
    · exact is_sequence_l
    · exact is_sequence_t
  obtain ⟨_, p⟩ := hseq.elim
  simp at p
  have W := forL_inv (U := uName 3) (B := D__are_meetings_b1 c) (ds := ms.map mtD) (fun i ρ => ∃ s3 : Slot, ρ = [.val d, .val (.int n), .val (.int (endOf 0 (ms.take i))), s3] ∧ s3.free = true) (fun i hi ρ ⟨s3, e, f3⟩ => by
    subst e
    simp at hi
    obtain ⟨g1, g2, g3, g4⟩ := Meets.at h hi
    have g5 := endOf_le (i := i + 1) h
    obtain ⟨_, q⟩ := (is_meeting_v (c := c) (m := ms[i]) (by omega) g2).elim
    simp [mtD] at q
    have g6 : ¬ ms[i].1 < endOf 0 (ms.take i) := by omega
    have g7 : ¬ n < ms[i].2.1 := by omega
    refine ⟨_, .inl (by simp [D__are_meetings_b1, f3, mtD, q, atI, ixN, g6, g7] <;> rfl), .val (mtD ms[i]), ?_, rfl⟩
    rw [g3]
    simp [mtD]) (ρ := [.val d, .val (.int n), .val (.int 0), .none]) ⟨.none, rfl, rfl⟩
  obtain ⟨ρ', e, s3, rfl, _⟩ := W
  rcases hd with rfl | rfl
  · simp [Gives, D__are_meetings, p, e]
  · simp [Gives, D__are_meetings, p, e]
end DL

set_option linter.all false
/-! words told apart (printed by mkstr.py) -/
namespace DL
open PySem
@[simp] theorem ne_step_gap : (Str.ofString "step" = Str.ofString "gap") = False := eq_false (by decide +kernel)
@[simp] theorem ne_step_least : (Str.ofString "step" = Str.ofString "least") = False := eq_false (by decide +kernel)
@[simp] theorem ne_step_private : (Str.ofString "step" = Str.ofString "private") = False := eq_false (by decide +kernel)
@[simp] theorem ne_step_hours : (Str.ofString "step" = Str.ofString "hours") = False := eq_false (by decide +kernel)
@[simp] theorem ne_step_length : (Str.ofString "step" = Str.ofString "length") = False := eq_false (by decide +kernel)
@[simp] theorem ne_step_meetings : (Str.ofString "step" = Str.ofString "meetings") = False := eq_false (by decide +kernel)
@[simp] theorem ne_step_shortest : (Str.ofString "step" = Str.ofString "shortest") = False := eq_false (by decide +kernel)
@[simp] theorem ne_step_most : (Str.ofString "step" = Str.ofString "most") = False := eq_false (by decide +kernel)
@[simp] theorem ne_step_known : (Str.ofString "step" = Str.ofString "known") = False := eq_false (by decide +kernel)
@[simp] theorem ne_step_busy : (Str.ofString "step" = Str.ofString "busy") = False := eq_false (by decide +kernel)
@[simp] theorem ne_step_none : (Str.ofString "step" = Str.ofString "none") = False := eq_false (by decide +kernel)
@[simp] theorem ne_step_apart : (Str.ofString "step" = Str.ofString "apart") = False := eq_false (by decide +kernel)
@[simp] theorem ne_step_one : (Str.ofString "step" = Str.ofString "one") = False := eq_false (by decide +kernel)
@[simp] theorem ne_gap_step : (Str.ofString "gap" = Str.ofString "step") = False := eq_false (by decide +kernel)
@[simp] theorem ne_gap_least : (Str.ofString "gap" = Str.ofString "least") = False := eq_false (by decide +kernel)
@[simp] theorem ne_gap_private : (Str.ofString "gap" = Str.ofString "private") = False := eq_false (by decide +kernel)
@[simp] theorem ne_gap_hours : (Str.ofString "gap" = Str.ofString "hours") = False := eq_false (by decide +kernel)
@[simp] theorem ne_gap_length : (Str.ofString "gap" = Str.ofString "length") = False := eq_false (by decide +kernel)
@[simp] theorem ne_gap_meetings : (Str.ofString "gap" = Str.ofString "meetings") = False := eq_false (by decide +kernel)
@[simp] theorem ne_gap_shortest : (Str.ofString "gap" = Str.ofString "shortest") = False := eq_false (by decide +kernel)
@[simp] theorem ne_gap_most : (Str.ofString "gap" = Str.ofString "most") = False := eq_false (by decide +kernel)
@[simp] theorem ne_gap_known : (Str.ofString "gap" = Str.ofString "known") = False := eq_false (by decide +kernel)
@[simp] theorem ne_gap_busy : (Str.ofString "gap" = Str.ofString "busy") = False := eq_false (by decide +kernel)
@[simp] theorem ne_gap_none : (Str.ofString "gap" = Str.ofString "none") = False := eq_false (by decide +kernel)
@[simp] theorem ne_gap_apart : (Str.ofString "gap" = Str.ofString "apart") = False := eq_false (by decide +kernel)
@[simp] theorem ne_gap_one : (Str.ofString "gap" = Str.ofString "one") = False := eq_false (by decide +kernel)
@[simp] theorem ne_least_step : (Str.ofString "least" = Str.ofString "step") = False := eq_false (by decide +kernel)
@[simp] theorem ne_least_gap : (Str.ofString "least" = Str.ofString "gap") = False := eq_false (by decide +kernel)
@[simp] theorem ne_least_private : (Str.ofString "least" = Str.ofString "private") = False := eq_false (by decide +kernel)
@[simp] theorem ne_least_hours : (Str.ofString "least" = Str.ofString "hours") = False := eq_false (by decide +kernel)
@[simp] theorem ne_least_length : (Str.ofString "least" = Str.ofString "length") = False := eq_false (by decide +kernel)
@[simp] theorem ne_least_meetings : (Str.ofString "least" = Str.ofString "meetings") = False := eq_false (by decide +kernel)
@[simp] theorem ne_least_shortest : (Str.ofString "least" = Str.ofString "shortest") = False := eq_false (by decide +kernel)
@[simp] theorem ne_least_most : (Str.ofString "least" = Str.ofString "most") = False := eq_false (by decide +kernel)
@[simp] theorem ne_least_known : (Str.ofString "least" = Str.ofString "known") = False := eq_false (by decide +kernel)
@[simp] theorem ne_least_busy : (Str.ofString "least" = Str.ofString "busy") = False := eq_false (by decide +kernel)
@[simp] theorem ne_least_none : (Str.ofString "least" = Str.ofString "none") = False := eq_false (by decide +kernel)
@[simp] theorem ne_least_apart : (Str.ofString "least" = Str.ofString "apart") = False := eq_false (by decide +kernel)
@[simp] theorem ne_least_one : (Str.ofString "least" = Str.ofString "one") = False := eq_false (by decide +kernel)
@[simp] theorem ne_private_step : (Str.ofString "private" = Str.ofString "step") = False := eq_false (by decide +kernel)
@[simp] theorem ne_private_gap : (Str.ofString "private" = Str.ofString "gap") = False := eq_false (by decide +kernel)
@[simp] theorem ne_private_least : (Str.ofString "private" = Str.ofString "least") = False := eq_false (by decide +kernel)
@[simp] theorem ne_private_hours : (Str.ofString "private" = Str.ofString "hours") = False := eq_false (by decide +kernel)
@[simp] theorem ne_private_length : (Str.ofString "private" = Str.ofString "length") = False := eq_false (by decide +kernel)
@[simp] theorem ne_private_meetings : (Str.ofString "private" = Str.ofString "meetings") = False := eq_false (by decide +kernel)
@[simp] theorem ne_private_shortest : (Str.ofString "private" = Str.ofString "shortest") = False := eq_false (by decide +kernel)
@[simp] theorem ne_private_most : (Str.ofString "private" = Str.ofString "most") = False := eq_false (by decide +kernel)
@[simp] theorem ne_private_known : (Str.ofString "private" = Str.ofString "known") = False := eq_false (by decide +kernel)
@[simp] theorem ne_private_busy : (Str.ofString "private" = Str.ofString "busy") = False := eq_false (by decide +kernel)
@[simp] theorem ne_private_none : (Str.ofString "private" = Str.ofString "none") = False := eq_false (by decide +kernel)
@[simp] theorem ne_private_apart : (Str.ofString "private" = Str.ofString "apart") = False := eq_false (by decide +kernel)
@[simp] theorem ne_private_one : (Str.ofString "private" = Str.ofString "one") = False := eq_false (by decide +kernel)
@[simp] theorem ne_hours_step : (Str.ofString "hours" = Str.ofString "step") = False := eq_false (by decide +kernel)
@[simp] theorem ne_hours_gap : (Str.ofString "hours" = Str.ofString "gap") = False := eq_false (by decide +kernel)
@[simp] theorem ne_hours_least : (Str.ofString "hours" = Str.ofString "least") = False := eq_false (by decide +kernel)
@[simp] theorem ne_hours_private : (Str.ofString "hours" = Str.ofString "private") = False := eq_false (by decide +kernel)
@[simp] theorem ne_hours_length : (Str.ofString "hours" = Str.ofString "length") = False := eq_false (by decide +kernel)
@[simp] theorem ne_hours_meetings : (Str.ofString "hours" = Str.ofString "meetings") = False := eq_false (by decide +kernel)
@[simp] theorem ne_hours_shortest : (Str.ofString "hours" = Str.ofString "shortest") = False := eq_false (by decide +kernel)
@[simp] theorem ne_hours_most : (Str.ofString "hours" = Str.ofString "most") = False := eq_false (by decide +kernel)
@[simp] theorem ne_hours_known : (Str.ofString "hours" = Str.ofString "known") = False := eq_false (by decide +kernel)
@[simp] theorem ne_hours_busy : (Str.ofString "hours" = Str.ofString "busy") = False := eq_false (by decide +kernel)
@[simp] theorem ne_hours_none : (Str.ofString "hours" = Str.ofString "none") = False := eq_false (by decide +kernel)
@[simp] theorem ne_hours_apart : (Str.ofString "hours" = Str.ofString "apart") = False := eq_false (by decide +kernel)
@[simp] theorem ne_hours_one : (Str.ofString "hours" = Str.ofString "one") = False := eq_false (by decide +kernel)
@[simp] theorem ne_length_step : (Str.ofString "length" = Str.ofString "step") = False := eq_false (by decide +kernel)
@[simp] theorem ne_length_gap : (Str.ofString "length" = Str.ofString "gap") = False := eq_false (by decide +kernel)
@[simp] theorem ne_length_least : (Str.ofString "length" = Str.ofString "least") = False := eq_false (by decide +kernel)
@[simp] theorem ne_length_private : (Str.ofString "length" = Str.ofString "private") = False := eq_false (by decide +kernel)
@[simp] theorem ne_length_hours : (Str.ofString "length" = Str.ofString "hours") = False := eq_false (by decide +kernel)
@[simp] theorem ne_length_meetings : (Str.ofString "length" = Str.ofString "meetings") = False := eq_false (by decide +kernel)
@[simp] theorem ne_length_shortest : (Str.ofString "length" = Str.ofString "shortest") = False := eq_false (by decide +kernel)
@[simp] theorem ne_length_most : (Str.ofString "length" = Str.ofString "most") = False := eq_false (by decide +kernel)
@[simp] theorem ne_length_known : (Str.ofString "length" = Str.ofString "known") = False := eq_false (by decide +kernel)
@[simp] theorem ne_length_busy : (Str.ofString "length" = Str.ofString "busy") = False := eq_false (by decide +kernel)
@[simp] theorem ne_length_none : (Str.ofString "length" = Str.ofString "none") = False := eq_false (by decide +kernel)
@[simp] theorem ne_length_apart : (Str.ofString "length" = Str.ofString "apart") = False := eq_false (by decide +kernel)
@[simp] theorem ne_length_one : (Str.ofString "length" = Str.ofString "one") = False := eq_false (by decide +kernel)
@[simp] theorem ne_meetings_step : (Str.ofString "meetings" = Str.ofString "step") = False := eq_false (by decide +kernel)
@[simp] theorem ne_meetings_gap : (Str.ofString "meetings" = Str.ofString "gap") = False := eq_false (by decide +kernel)
@[simp] theorem ne_meetings_least : (Str.ofString "meetings" = Str.ofString "least") = False := eq_false (by decide +kernel)
@[simp] theorem ne_meetings_private : (Str.ofString "meetings" = Str.ofString "private") = False := eq_false (by decide +kernel)
@[simp] theorem ne_meetings_hours : (Str.ofString "meetings" = Str.ofString "hours") = False := eq_false (by decide +kernel)
@[simp] theorem ne_meetings_length : (Str.ofString "meetings" = Str.ofString "length") = False := eq_false (by decide +kernel)
@[simp] theorem ne_meetings_shortest : (Str.ofString "meetings" = Str.ofString "shortest") = False := eq_false (by decide +kernel)
@[simp] theorem ne_meetings_most : (Str.ofString "meetings" = Str.ofString "most") = False := eq_false (by decide +kernel)
@[simp] theorem ne_meetings_known : (Str.ofString "meetings" = Str.ofString "known") = False := eq_false (by decide +kernel)
@[simp] theorem ne_meetings_busy : (Str.ofString "meetings" = Str.ofString "busy") = False := eq_false (by decide +kernel)
@[simp] theorem ne_meetings_none : (Str.ofString "meetings" = Str.ofString "none") = False := eq_false (by decide +kernel)
@[simp] theorem ne_meetings_apart : (Str.ofString "meetings" = Str.ofString "apart") = False := eq_false (by decide +kernel)
@[simp] theorem ne_meetings_one : (Str.ofString "meetings" = Str.ofString "one") = False := eq_false (by decide +kernel)
@[simp] theorem ne_shortest_step : (Str.ofString "shortest" = Str.ofString "step") = False := eq_false (by decide +kernel)
@[simp] theorem ne_shortest_gap : (Str.ofString "shortest" = Str.ofString "gap") = False := eq_false (by decide +kernel)
@[simp] theorem ne_shortest_least : (Str.ofString "shortest" = Str.ofString "least") = False := eq_false (by decide +kernel)
@[simp] theorem ne_shortest_private : (Str.ofString "shortest" = Str.ofString "private") = False := eq_false (by decide +kernel)
@[simp] theorem ne_shortest_hours : (Str.ofString "shortest" = Str.ofString "hours") = False := eq_false (by decide +kernel)
@[simp] theorem ne_shortest_length : (Str.ofString "shortest" = Str.ofString "length") = False := eq_false (by decide +kernel)
@[simp] theorem ne_shortest_meetings : (Str.ofString "shortest" = Str.ofString "meetings") = False := eq_false (by decide +kernel)
@[simp] theorem ne_shortest_most : (Str.ofString "shortest" = Str.ofString "most") = False := eq_false (by decide +kernel)
@[simp] theorem ne_shortest_known : (Str.ofString "shortest" = Str.ofString "known") = False := eq_false (by decide +kernel)
@[simp] theorem ne_shortest_busy : (Str.ofString "shortest" = Str.ofString "busy") = False := eq_false (by decide +kernel)
@[simp] theorem ne_shortest_none : (Str.ofString "shortest" = Str.ofString "none") = False := eq_false (by decide +kernel)
@[simp] theorem ne_shortest_apart : (Str.ofString "shortest" = Str.ofString "apart") = False := eq_false (by decide +kernel)
@[simp] theorem ne_shortest_one : (Str.ofString "shortest" = Str.ofString "one") = False := eq_false (by decide +kernel)
@[simp] theorem ne_most_step : (Str.ofString "most" = Str.ofString "step") = False := eq_false (by decide +kernel)
@[simp] theorem ne_most_gap : (Str.ofString "most" = Str.ofString "gap") = False := eq_false (by decide +kernel)
@[simp] theorem ne_most_least : (Str.ofString "most" = Str.ofString "least") = False := eq_false (by decide +kernel)
@[simp] theorem ne_most_private : (Str.ofString "most" = Str.ofString "private") = False := eq_false (by decide +kernel)
@[simp] theorem ne_most_hours : (Str.ofString "most" = Str.ofString "hours") = False := eq_false (by decide +kernel)
@[simp] theorem ne_most_length : (Str.ofString "most" = Str.ofString "length") = False := eq_false (by decide +kernel)
@[simp] theorem ne_most_meetings : (Str.ofString "most" = Str.ofString "meetings") = False := eq_false (by decide +kernel)
@[simp] theorem ne_most_shortest : (Str.ofString "most" = Str.ofString "shortest") = False := eq_false (by decide +kernel)
@[simp] theorem ne_most_known : (Str.ofString "most" = Str.ofString "known") = False := eq_false (by decide +kernel)
@[simp] theorem ne_most_busy : (Str.ofString "most" = Str.ofString "busy") = False := eq_false (by decide +kernel)
@[simp] theorem ne_most_none : (Str.ofString "most" = Str.ofString "none") = False := eq_false (by decide +kernel)
@[simp] theorem ne_most_apart : (Str.ofString "most" = Str.ofString "apart") = False := eq_false (by decide +kernel)
@[simp] theorem ne_most_one : (Str.ofString "most" = Str.ofString "one") = False := eq_false (by decide +kernel)
@[simp] theorem ne_known_step : (Str.ofString "known" = Str.ofString "step") = False := eq_false (by decide +kernel)
@[simp] theorem ne_known_gap : (Str.ofString "known" = Str.ofString "gap") = False := eq_false (by decide +kernel)
@[simp] theorem ne_known_least : (Str.ofString "known" = Str.ofString "least") = False := eq_false (by decide +kernel)
@[simp] theorem ne_known_private : (Str.ofString "known" = Str.ofString "private") = False := eq_false (by decide +kernel)
@[simp] theorem ne_known_hours : (Str.ofString "known" = Str.ofString "hours") = False := eq_false (by decide +kernel)
@[simp] theorem ne_known_length : (Str.ofString "known" = Str.ofString "length") = False := eq_false (by decide +kernel)
@[simp] theorem ne_known_meetings : (Str.ofString "known" = Str.ofString "meetings") = False := eq_false (by decide +kernel)
@[simp] theorem ne_known_shortest : (Str.ofString "known" = Str.ofString "shortest") = False := eq_false (by decide +kernel)
@[simp] theorem ne_known_most : (Str.ofString "known" = Str.ofString "most") = False := eq_false (by decide +kernel)
@[simp] theorem ne_known_busy : (Str.ofString "known" = Str.ofString "busy") = False := eq_false (by decide +kernel)
@[simp] theorem ne_known_none : (Str.ofString "known" = Str.ofString "none") = False := eq_false (by decide +kernel)
@[simp] theorem ne_known_apart : (Str.ofString "known" = Str.ofString "apart") = False := eq_false (by decide +kernel)
@[simp] theorem ne_known_one : (Str.ofString "known" = Str.ofString "one") = False := eq_false (by decide +kernel)
@[simp] theorem ne_busy_step : (Str.ofString "busy" = Str.ofString "step") = False := eq_false (by decide +kernel)
@[simp] theorem ne_busy_gap : (Str.ofString "busy" = Str.ofString "gap") = False := eq_false (by decide +kernel)
@[simp] theorem ne_busy_least : (Str.ofString "busy" = Str.ofString "least") = False := eq_false (by decide +kernel)
@[simp] theorem ne_busy_private : (Str.ofString "busy" = Str.ofString "private") = False := eq_false (by decide +kernel)
@[simp] theorem ne_busy_hours : (Str.ofString "busy" = Str.ofString "hours") = False := eq_false (by decide +kernel)
@[simp] theorem ne_busy_length : (Str.ofString "busy" = Str.ofString "length") = False := eq_false (by decide +kernel)
@[simp] theorem ne_busy_meetings : (Str.ofString "busy" = Str.ofString "meetings") = False := eq_false (by decide +kernel)
@[simp] theorem ne_busy_shortest : (Str.ofString "busy" = Str.ofString "shortest") = False := eq_false (by decide +kernel)
@[simp] theorem ne_busy_most : (Str.ofString "busy" = Str.ofString "most") = False := eq_false (by decide +kernel)
@[simp] theorem ne_busy_known : (Str.ofString "busy" = Str.ofString "known") = False := eq_false (by decide +kernel)
@[simp] theorem ne_busy_none : (Str.ofString "busy" = Str.ofString "none") = False := eq_false (by decide +kernel)
@[simp] theorem ne_busy_apart : (Str.ofString "busy" = Str.ofString "apart") = False := eq_false (by decide +kernel)
@[simp] theorem ne_busy_one : (Str.ofString "busy" = Str.ofString "one") = False := eq_false (by decide +kernel)
@[simp] theorem ne_none_step : (Str.ofString "none" = Str.ofString "step") = False := eq_false (by decide +kernel)
@[simp] theorem ne_none_gap : (Str.ofString "none" = Str.ofString "gap") = False := eq_false (by decide +kernel)
@[simp] theorem ne_none_least : (Str.ofString "none" = Str.ofString "least") = False := eq_false (by decide +kernel)
@[simp] theorem ne_none_private : (Str.ofString "none" = Str.ofString "private") = False := eq_false (by decide +kernel)
@[simp] theorem ne_none_hours : (Str.ofString "none" = Str.ofString "hours") = False := eq_false (by decide +kernel)
@[simp] theorem ne_none_length : (Str.ofString "none" = Str.ofString "length") = False := eq_false (by decide +kernel)
@[simp] theorem ne_none_meetings : (Str.ofString "none" = Str.ofString "meetings") = False := eq_false (by decide +kernel)
@[simp] theorem ne_none_shortest : (Str.ofString "none" = Str.ofString "shortest") = False := eq_false (by decide +kernel)
@[simp] theorem ne_none_most : (Str.ofString "none" = Str.ofString "most") = False := eq_false (by decide +kernel)
@[simp] theorem ne_none_known : (Str.ofString "none" = Str.ofString "known") = False := eq_false (by decide +kernel)
@[simp] theorem ne_none_busy : (Str.ofString "none" = Str.ofString "busy") = False := eq_false (by decide +kernel)
@[simp] theorem ne_none_apart : (Str.ofString "none" = Str.ofString "apart") = False := eq_false (by decide +kernel)
@[simp] theorem ne_none_one : (Str.ofString "none" = Str.ofString "one") = False := eq_false (by decide +kernel)
@[simp] theorem ne_apart_step : (Str.ofString "apart" = Str.ofString "step") = False := eq_false (by decide +kernel)
@[simp] theorem ne_apart_gap : (Str.ofString "apart" = Str.ofString "gap") = False := eq_false (by decide +kernel)
@[simp] theorem ne_apart_least : (Str.ofString "apart" = Str.ofString "least") = False := eq_false (by decide +kernel)
@[simp] theorem ne_apart_private : (Str.ofString "apart" = Str.ofString "private") = False := eq_false (by decide +kernel)
@[simp] theorem ne_apart_hours : (Str.ofString "apart" = Str.ofString "hours") = False := eq_false (by decide +kernel)
@[simp] theorem ne_apart_length : (Str.ofString "apart" = Str.ofString "length") = False := eq_false (by decide +kernel)
@[simp] theorem ne_apart_meetings : (Str.ofString "apart" = Str.ofString "meetings") = False := eq_false (by decide +kernel)
@[simp] theorem ne_apart_shortest : (Str.ofString "apart" = Str.ofString "shortest") = False := eq_false (by decide +kernel)
@[simp] theorem ne_apart_most : (Str.ofString "apart" = Str.ofString "most") = False := eq_false (by decide +kernel)
@[simp] theorem ne_apart_known : (Str.ofString "apart" = Str.ofString "known") = False := eq_false (by decide +kernel)
@[simp] theorem ne_apart_busy : (Str.ofString "apart" = Str.ofString "busy") = False := eq_false (by decide +kernel)
@[simp] theorem ne_apart_none : (Str.ofString "apart" = Str.ofString "none") = False := eq_false (by decide +kernel)
@[simp] theorem ne_apart_one : (Str.ofString "apart" = Str.ofString "one") = False := eq_false (by decide +kernel)
@[simp] theorem ne_one_step : (Str.ofString "one" = Str.ofString "step") = False := eq_false (by decide +kernel)
@[simp] theorem ne_one_gap : (Str.ofString "one" = Str.ofString "gap") = False := eq_false (by decide +kernel)
@[simp] theorem ne_one_least : (Str.ofString "one" = Str.ofString "least") = False := eq_false (by decide +kernel)
@[simp] theorem ne_one_private : (Str.ofString "one" = Str.ofString "private") = False := eq_false (by decide +kernel)
@[simp] theorem ne_one_hours : (Str.ofString "one" = Str.ofString "hours") = False := eq_false (by decide +kernel)
@[simp] theorem ne_one_length : (Str.ofString "one" = Str.ofString "length") = False := eq_false (by decide +kernel)
@[simp] theorem ne_one_meetings : (Str.ofString "one" = Str.ofString "meetings") = False := eq_false (by decide +kernel)
@[simp] theorem ne_one_shortest : (Str.ofString "one" = Str.ofString "shortest") = False := eq_false (by decide +kernel)
@[simp] theorem ne_one_most : (Str.ofString "one" = Str.ofString "most") = False := eq_false (by decide +kernel)
@[simp] theorem ne_one_known : (Str.ofString "one" = Str.ofString "known") = False := eq_false (by decide +kernel)
@[simp] theorem ne_one_busy : (Str.ofString "one" = Str.ofString "busy") = False := eq_false (by decide +kernel)
@[simp] theorem ne_one_none : (Str.ofString "one" = Str.ofString "none") = False := eq_false (by decide +kernel)
@[simp] theorem ne_one_apart : (Str.ofString "one" = Str.ofString "apart") = False := eq_false (by decide +kernel)
@[simp] theorem ne_but_step : (Str.ofString "but" = Str.ofString "step") = False := eq_false (by decide +kernel)
@[simp] theorem ne_but_gap : (Str.ofString "but" = Str.ofString "gap") = False := eq_false (by decide +kernel)
@[simp] theorem ne_but_least : (Str.ofString "but" = Str.ofString "least") = False := eq_false (by decide +kernel)
@[simp] theorem ne_but_private : (Str.ofString "but" = Str.ofString "private") = False := eq_false (by decide +kernel)
@[simp] theorem ne_but_hours : (Str.ofString "but" = Str.ofString "hours") = False := eq_false (by decide +kernel)
@[simp] theorem ne_but_length : (Str.ofString "but" = Str.ofString "length") = False := eq_false (by decide +kernel)
@[simp] theorem ne_but_meetings : (Str.ofString "but" = Str.ofString "meetings") = False := eq_false (by decide +kernel)
@[simp] theorem ne_but_shortest : (Str.ofString "but" = Str.ofString "shortest") = False := eq_false (by decide +kernel)
@[simp] theorem ne_but_most : (Str.ofString "but" = Str.ofString "most") = False := eq_false (by decide +kernel)
@[simp] theorem ne_but_known : (Str.ofString "but" = Str.ofString "known") = False := eq_false (by decide +kernel)
@[simp] theorem ne_without_step : (Str.ofString "without" = Str.ofString "step") = False := eq_false (by decide +kernel)
@[simp] theorem ne_without_gap : (Str.ofString "without" = Str.ofString "gap") = False := eq_false (by decide +kernel)
@[simp] theorem ne_without_least : (Str.ofString "without" = Str.ofString "least") = False := eq_false (by decide +kernel)
@[simp] theorem ne_without_private : (Str.ofString "without" = Str.ofString "private") = False := eq_false (by decide +kernel)
@[simp] theorem ne_without_hours : (Str.ofString "without" = Str.ofString "hours") = False := eq_false (by decide +kernel)
@[simp] theorem ne_without_length : (Str.ofString "without" = Str.ofString "length") = False := eq_false (by decide +kernel)
@[simp] theorem ne_without_meetings : (Str.ofString "without" = Str.ofString "meetings") = False := eq_false (by decide +kernel)
@[simp] theorem ne_without_shortest : (Str.ofString "without" = Str.ofString "shortest") = False := eq_false (by decide +kernel)
@[simp] theorem ne_without_most : (Str.ofString "without" = Str.ofString "most") = False := eq_false (by decide +kernel)
@[simp] theorem ne_without_known : (Str.ofString "without" = Str.ofString "known") = False := eq_false (by decide +kernel)
@[simp] theorem ne_having_step : (Str.ofString "having" = Str.ofString "step") = False := eq_false (by decide +kernel)
@[simp] theorem ne_having_gap : (Str.ofString "having" = Str.ofString "gap") = False := eq_false (by decide +kernel)
@[simp] theorem ne_having_least : (Str.ofString "having" = Str.ofString "least") = False := eq_false (by decide +kernel)
@[simp] theorem ne_having_private : (Str.ofString "having" = Str.ofString "private") = False := eq_false (by decide +kernel)
@[simp] theorem ne_having_hours : (Str.ofString "having" = Str.ofString "hours") = False := eq_false (by decide +kernel)
@[simp] theorem ne_having_length : (Str.ofString "having" = Str.ofString "length") = False := eq_false (by decide +kernel)
@[simp] theorem ne_having_meetings : (Str.ofString "having" = Str.ofString "meetings") = False := eq_false (by decide +kernel)
@[simp] theorem ne_having_shortest : (Str.ofString "having" = Str.ofString "shortest") = False := eq_false (by decide +kernel)
@[simp] theorem ne_having_most : (Str.ofString "having" = Str.ofString "most") = False := eq_false (by decide +kernel)
@[simp] theorem ne_having_known : (Str.ofString "having" = Str.ofString "known") = False := eq_false (by decide +kernel)
@[simp] theorem ne_knowing_step : (Str.ofString "knowing" = Str.ofString "step") = False := eq_false (by decide +kernel)
@[simp] theorem ne_knowing_gap : (Str.ofString "knowing" = Str.ofString "gap") = False := eq_false (by decide +kernel)
@[simp] theorem ne_knowing_least : (Str.ofString "knowing" = Str.ofString "least") = False := eq_false (by decide +kernel)
@[simp] theorem ne_knowing_private : (Str.ofString "knowing" = Str.ofString "private") = False := eq_false (by decide +kernel)
@[simp] theorem ne_knowing_hours : (Str.ofString "knowing" = Str.ofString "hours") = False := eq_false (by decide +kernel)
@[simp] theorem ne_knowing_length : (Str.ofString "knowing" = Str.ofString "length") = False := eq_false (by decide +kernel)
@[simp] theorem ne_knowing_meetings : (Str.ofString "knowing" = Str.ofString "meetings") = False := eq_false (by decide +kernel)
@[simp] theorem ne_knowing_shortest : (Str.ofString "knowing" = Str.ofString "shortest") = False := eq_false (by decide +kernel)
@[simp] theorem ne_knowing_most : (Str.ofString "knowing" = Str.ofString "most") = False := eq_false (by decide +kernel)
@[simp] theorem ne_knowing_known : (Str.ofString "knowing" = Str.ofString "known") = False := eq_false (by decide +kernel)
@[simp] theorem ne_lets_step : (Str.ofString "lets" = Str.ofString "step") = False := eq_false (by decide +kernel)
@[simp] theorem ne_lets_gap : (Str.ofString "lets" = Str.ofString "gap") = False := eq_false (by decide +kernel)
@[simp] theorem ne_lets_least : (Str.ofString "lets" = Str.ofString "least") = False := eq_false (by decide +kernel)
@[simp] theorem ne_lets_private : (Str.ofString "lets" = Str.ofString "private") = False := eq_false (by decide +kernel)
@[simp] theorem ne_lets_hours : (Str.ofString "lets" = Str.ofString "hours") = False := eq_false (by decide +kernel)
@[simp] theorem ne_lets_length : (Str.ofString "lets" = Str.ofString "length") = False := eq_false (by decide +kernel)
@[simp] theorem ne_lets_meetings : (Str.ofString "lets" = Str.ofString "meetings") = False := eq_false (by decide +kernel)
@[simp] theorem ne_lets_shortest : (Str.ofString "lets" = Str.ofString "shortest") = False := eq_false (by decide +kernel)
@[simp] theorem ne_lets_most : (Str.ofString "lets" = Str.ofString "most") = False := eq_false (by decide +kernel)
@[simp] theorem ne_lets_known : (Str.ofString "lets" = Str.ofString "known") = False := eq_false (by decide +kernel)
end DL

set_option linter.all false
set_option maxRecDepth 100000
set_option maxHeartbeats 1000000
/-! rules and days, made -/
namespace DL
open PySem PySem.Spec PyProof.Rows L2 DD
def HoOk (h : Option (Int × Int)) : Prop := ∀ x, h = some x → 0 ≤ x.1 ∧ x.1 < x.2
theorem pyEq_s {a b : Str} : pyEq (.str a) (.str b) = decide (a = b) := by
  show PyData.eqv (.str a) (.str b) = _
  simp [PyData.eqv]
  try rfl
theorem pyEq_i {a b : Int} : pyEq (.int a) (.int b) = decide (a = b) := by
  show PyData.eqv (.int a) (.int b) = _
  simp [PyData.eqv]
  try rfl
theorem inD_s {s : Str} {xs : List Str} : inD (.str s) (xs.map D.str) = decide (s ∈ xs) := by
  induction xs with
  | nil => rfl
  | cons x xs ih =>
    rw [List.map_cons]
    show (pyEq (.str x) (.str s) || inD (.str s) (xs.map D.str)) = _
    rw [ih, pyEq_s]
    by_cases h : x = s
    · simp [h]
    · have h' : ¬ s = x := fun e => h e.symm
      simp [h, h']
theorem inD_i {i : Int} {xs : List Int} : inD (.int i) (xs.map D.int) = decide (i ∈ xs) := by
  induction xs with
  | nil => rfl
  | cons x xs ih =>
    rw [List.map_cons]
    show (pyEq (.int x) (.int i) || inD (.int i) (xs.map D.int)) = _
    rw [ih, pyEq_i]
    by_cases h : x = i
    · simp [h]
    · have h' : ¬ i = x := fun e => h e.symm
      simp [h, h']
theorem flat_s {xs : List Str} : (xs.map D.str).all D.flat = true := by simp [D.flat]
theorem flat_i {xs : List Int} : (xs.map D.int).all D.flat = true := by simp [D.flat]
theorem in_strs {s : Str} {xs : List Str} : opInB (.str s) (.tup (xs.map D.str)) = some (decide (s ∈ xs)) := by
  show (if _ then some (inD (.str s) (xs.map D.str)) else _) = _
  rw [if_pos ⟨rfl, flat_s⟩, inD_s]
theorem in_ints {i : Int} {xs : List Int} : opInB (.int i) (.lst (xs.map D.int)) = some (decide (i ∈ xs)) := by
  show (if _ then some (inD (.int i) (xs.map D.int)) else _) = _
  rw [if_pos ⟨rfl, flat_i⟩, inD_i]
@[simp] theorem in_s4 {s a b c d : Str} : opInB (.str s) (.tup [.str a, .str b, .str c, .str d]) = some (decide (s ∈ [a, b, c, d])) := in_strs (xs := [a, b, c, d])
@[simp] theorem in_s2 {s a b : Str} : opInB (.str s) (.tup [.str a, .str b]) = some (decide (s ∈ [a, b])) := in_strs (xs := [a, b])
/-- what a rule must be -/
structure RuIn (r : Ru) : Prop where
  s : 1 ≤ r.s
  g : 0 ≤ r.g
  l : 0 ≤ r.l
  p : r.p ∈ (["busy", "none", "apart", "one"] : List Str)
  h : HoOk r.h
theorem RuOk.ri {r : Ru} (h : RuOk r) : RuIn r := ⟨h.s.1, h.g.1, h.l.1, h.p, fun x e => ⟨(h.h x e).1, (h.h x e).2.1⟩⟩
theorem are_hours_v {c : Cl} {h : Option (Int × Int)} (ok : HoOk h) : Gives 3 (D__are_hours c) [hoD h] (.val (.bl true)) := by
  cases h with
  | none => simp [Gives, D__are_hours, hoD]
  | some x =>
    obtain ⟨h1, h2⟩ := ok x rfl
    obtain ⟨_, p⟩ := (is_number_v (c := c) (i := x.1)).elim
    obtain ⟨_, q⟩ := (is_number_v (c := c) (i := x.2)).elim
    have h3 : 0 ≤ x.2 := by omega
    simp at p q
    simp [Gives, D__are_hours, hoD, p, q, h1, h2, h3, anyK]
theorem wrong_v {c : Cl} {r : Ru} (ok : RuIn r) : Gives 5 (D__wrong_argument c) [.int r.s, .int r.g, .int r.l, .str r.p, hoD r.h] (.val .non) := by
  obtain ⟨_, p1⟩ := (is_positive_v (c := c) (i := r.s)).elim
  obtain ⟨_, p2⟩ := (is_number_v (c := c) (i := r.g)).elim
  obtain ⟨_, p3⟩ := (is_number_v (c := c) (i := r.l)).elim
  obtain ⟨_, p4⟩ := (are_hours_v (c := c) ok.h).elim
  have h1 := ok.s
  have h2 := ok.g
  have h3 := ok.l
  have h4 := ok.p
  simp at p1 p2 p3 p4 h4
  rcases h4 with e | e | e | e <;> simp [Gives, D__wrong_argument, p1, p2, p3, p4, h1, h2, h3, e]
def ruO (c : Cl) (r : Ru) : O := .ins c.Rule ["step", "gap", "least", "private", "hours"] [.int r.s, .int r.g, .int r.l, .str r.p, hoD r.h]
/-- a rule, a day, as data -/
def rvD (c : Cl) (r : Ru) : D := .ins c.Rule ["step", "gap", "least", "private", "hours"] [.int r.s, .int r.g, .int r.l, .str r.p, hoD r.h]
def dvD (c : Cl) (n : Int) (ms : List Mt) : D := .ins c.Day ["length", "meetings"] [.int n, .tup (ms.map mtD)]
theorem rule_init {c : Cl} {r : Ru} (ok : RuIn r) : GivesB 7 (fun ρ => D_Rule___init__ c (fillD 6 [] ρ)) (.ins c.Rule [] []) [.int r.s, .int r.g, .int r.l, .str r.p, hoD r.h] (.val .non) (ruO c r) := by
  obtain ⟨_, p⟩ := (wrong_v (c := c) ok).elim
  simp at p
  simp [GivesB, D_Rule___init__, fillD, p, ruO]
def dyO (c : Cl) (n : Int) (ms : List Mt) : O := .ins c.Day ["length", "meetings"] [.int n, .tup (ms.map mtD)]
theorem day_init {c : Cl} {n : Int} {ms : List Mt} (h1 : 1 ≤ n) (h : Meets 0 ms) (hn : endOf 0 ms ≤ n) {d : D} (hd : d = .lst (ms.map mtD) ∨ d = .tup (ms.map mtD)) : GivesB 3 (fun ρ => D_Day___init__ c (fillD 3 [] ρ)) (.ins c.Day [] []) [.int n, d] (.val .non) (dyO c n ms) := by
  obtain ⟨_, p⟩ := (are_meetings_v (c := c) h hn hd).elim
  obtain ⟨_, p1⟩ := (is_positive_v (c := c) (i := n)).elim
  simp at p p1
  rcases hd with rfl | rfl
  · simp [GivesB, D_Day___init__, fillD, p, p1, h1, dyO]
  · simp [GivesB, D_Day___init__, fillD, p, p1, h1, dyO]
theorem day_init1 {c : Cl} {n : Int} (h1 : 1 ≤ n) : GivesB 3 (fun ρ => D_Day___init__ c (fillD 2 [(.tup [])] ρ)) (.ins c.Day [] []) [.int n] (.val .non) (dyO c n []) := by
  obtain ⟨_, p⟩ := (are_meetings_v (c := c) (n := n) (ms := []) trivial (by show (0 : Int) ≤ n; omega) (.inr rfl)).elim
  obtain ⟨_, p1⟩ := (is_positive_v (c := c) (i := n)).elim
  simp at p p1
  simp [GivesB, D_Day___init__, fillD, p, p1, h1, dyO]
end DL

set_option linter.all false
set_option maxRecDepth 100000
set_option maxHeartbeats 1000000
/-! things that are told by data, in their order -/
namespace DL
open PySem PySem.Spec PyProof.Rows L2 DD
@[simp] theorem atI_zero {α : Type} {a : α} {L : List α} : atI (a :: L) 0 = some a := by
  have : (0 : Int) < (L.length : Int) + 1 := by omega
  simp [atI, ixN, this]
@[simp] theorem atI_one {α : Type} {a b : α} {L : List α} : atI (a :: b :: L) 1 = some b := by
  have : (1 : Int) < (L.length : Int) + 1 + 1 := by omega
  simp [atI, ixN, this]
@[simp] theorem atI_two {α : Type} {a b d : α} {L : List α} : atI (a :: b :: d :: L) 2 = some d := by
  have : (2 : Int) < (L.length : Int) + 1 + 1 + 1 := by omega
  simp [atI, ixN, this]
@[simp] theorem atI_three {α : Type} {a b d e : α} {L : List α} : atI (a :: b :: d :: e :: L) 3 = some e := by
  have : (3 : Int) < (L.length : Int) + 1 + 1 + 1 + 1 := by omega
  simp [atI, ixN, this]
@[simp] theorem atI_four {α : Type} {a b d e f : α} {L : List α} : atI (a :: b :: d :: e :: f :: L) 4 = some f := by
  have : (4 : Int) < (L.length : Int) + 1 + 1 + 1 + 1 + 1 := by omega
  simp [atI, ixN, this]
@[simp] theorem ixN_last {n : Nat} : ixN (n + 1) (-1) = some n := by
  have h1 : ¬ (0 : Int) ≤ -1 := by omega
  have h3 : (1 : Int) ≤ (n : Int) + 1 := by omega
  have h4 : (-1 + ((n : Int) + 1)).toNat = n := by omega
  simp [ixN, h3, h4]
@[simp] theorem atI_last {α : Type} {a : α} {L : List α} : atI (L ++ [a]) (-1) = some a := by
  unfold atI
  rw [List.length_append, List.length_singleton, ixN_last]
  simp
@[simp] theorem set_last {α : Type} {a b : α} {L : List α} : (L ++ [a]).set L.length b = L ++ [b] := by
  simp
theorem erase_perm {α : Type} : ∀ {L : List α} {j : Nat} (h : j < L.length), (L[j] :: L.eraseIdx j).Perm L
  | [], j, h => by simp at h
  | a :: L, 0, _ => .refl _
  | a :: L, j + 1, h => by
    have := erase_perm (L := L) (j := j) (by simpa using h)
    show (L[j]'(by simpa using h) :: a :: L.eraseIdx j).Perm (a :: L)
    exact (List.Perm.swap ..).trans (this.cons a)
theorem erase_map {α γ : Type} (f : α → γ) : ∀ (L : List α) (j : Nat), (L.map f).eraseIdx j = (L.eraseIdx j).map f
  | [], _ => rfl
  | _ :: _, 0 => rfl
  | a :: L, j + 1 => by
    show f a :: (L.map f).eraseIdx j = f a :: (L.eraseIdx j).map f
    rw [erase_map f L j]
/-- things that can be sorted -/
structure Bord {β : Type} (enc : β → D) (key : β → PyData) : Prop where
  py : ∀ b, (enc b).py = some (key b)
  inj : ∀ a b, PySem.W.keyToks (key a) = PySem.W.keyToks (key b) → a = b
  al : ∀ a b, PySem.W.alike (key a) (key b) = true
  tup : ∀ a, ∃ x r, key a = .tuple (x :: r)
  pl : ∀ a, (key a).plain = true
  dp : ∀ a, (key a).depth ≤ 50
  lt : ∀ a b, opLt (enc a) (enc b) = opLtD (enc a) (enc b)
  cl : ∀ a, (key a).canLay0 = true
section
variable {β : Type} {enc : β → D} {key : β → PyData}
abbrev leK (key : β → PyData) : β → β → Bool := PySem.W.dataLe false key
noncomputable def srt (key : β → PyData) (L : List β) : List β := L.mergeSort (leK key)
theorem leK_def {a b : β} : leK key a b = !PySem.W.dataLt (key b) (key a) := rfl
theorem leK_total : PySem.W.TotalLe (leK key) := PySem.W.sortLe_total _ _ _
theorem Bord.anti (o : Bord enc key) {a b : β} (h : leK key a b = true) (h2 : leK key b a = true) : a = b := by
  refine o.inj a b (PyProof.Rows.lex_total (O := itemOrd) _ _ ?_ ?_)
  · have : (!PySem.W.dataLt (key a) (key b)) = true := h2
    show PySem.W.dataLt (key a) (key b) = false
    simpa using this
  · have : (!PySem.W.dataLt (key b) (key a)) = true := h
    show PySem.W.dataLt (key b) (key a) = false
    simpa using this
theorem Bord.eqv (o : Bord enc key) {a b : β} : PyData.eqv (key a) (key b) = true ↔ a = b := by
  refine ⟨fun h => o.inj a b ((PySem.W.toks_eqv _ _ (o.al a b)).1 h), ?_⟩
  rintro rfl
  exact PySem.W.eqv_refl_alike _ (o.al a a)
theorem Bord.opLt (o : Bord enc key) {a b : β} : opLt (enc a) (enc b) = some (.val (.bl (!leK key b a))) := by
  rw [o.lt, opLtD, o.py, o.py]
  show (if PySem.W.alike (key a) (key b) = true ∧ (key a).depth ≤ 60 then _ else _) = _
  rw [if_pos ⟨o.al a b, by have := o.dp a; omega⟩, leK_def, Bool.not_not]
theorem Bord.pyA (o : Bord enc key) : ∀ L : List β, D.pyA (L.map enc) = some (L.map key)
  | [] => rfl
  | a :: L => by
    rw [List.map_cons, List.map_cons]
    simp only [D.pyA, o.py, o.pyA L]
theorem Bord.plainA (o : Bord enc key) : ∀ L : List β, PyData.plainAll (L.map key) = true
  | [] => rfl
  | a :: L => by
    rw [List.map_cons]
    show ((key a).plain && PyData.plainAll (L.map key)) = true
    rw [o.pl, o.plainA L]
    rfl
theorem Bord.sorted (o : Bord enc key) (L : List β) : fSorted [.lst (L.map enc)] = some (.new (.lst ((srt key L).map enc))) := by
  have e : (L.map enc).zip (L.map key) = L.map fun b => (enc b, key b) := by
    rw [List.zip_map']
  have h1 : PySem.W.AllAlike (L.map key) := by
    intro d hd d' hd'
    obtain ⟨a, _, rfl⟩ := List.mem_map.mp hd
    obtain ⟨b, _, rfl⟩ := List.mem_map.mp hd'
    exact o.al a b
  have h2 : PySem.W.Sortable (L.map key) := .inl fun d hd => by
    obtain ⟨a, _, rfl⟩ := List.mem_map.mp hd
    exact o.tup a
  have h3 : ∀ p ∈ L.map key, p.depth ≤ 50 := fun d hd => by
    obtain ⟨a, _, rfl⟩ := List.mem_map.mp hd
    exact o.dp a
  unfold fSorted
  simp only [o.pyA L]
  rw [if_pos ⟨h1, h2, h3⟩, e]
  have m : (L.mergeSort (leK key)).map (fun b => (enc b, key b)) = (L.map fun b => (enc b, key b)).mergeSort leP := List.map_mergeSort (fun a _ b _ => rfl)
  rw [← m, List.map_map]
  rfl
theorem srt_perm (L : List β) : (srt key L).Perm L := List.mergeSort_perm _ _
theorem srt_pw (L : List β) : (srt key L).Pairwise fun a b => leK key a b = true := PySem.W.sort_pairwise leK_total L
theorem Bord.uniq (o : Bord enc key) {L M : List β} (h : M.Perm L) (hp : M.Pairwise fun a b => leK key a b = true) : M = srt key L :=
  List.Perm.eq_of_pairwise (fun a b _ _ h1 h2 => o.anti h1 h2) hp (srt_pw L) (h.trans (srt_perm L).symm)
theorem Bord.remove (o : Bord enc key) {L : List β} {a : β} (h : a ∈ L) : ∃ M, (a :: M).Perm L ∧ M.length + 1 = L.length ∧ mRemove (L.map enc) [enc a] = some (.non, M.map enc) := by
  have hs : ∃ j, PySem.SeqAt.dataPlace (L.map key) (key a) = some j ∧ ∃ (hj : j < L.length), L[j] = a := by
    unfold PySem.SeqAt.dataPlace
    cases e : (L.map key).findIdx? fun y => PyData.eqv y (key a) with
    | none =>
      rw [List.findIdx?_eq_none_iff] at e
      have := e (key a) (List.mem_map_of_mem h)
      rw [o.eqv.mpr rfl] at this
      cases this
    | some j =>
      rw [List.findIdx?_eq_some_iff_getElem] at e
      obtain ⟨hj, h1, _⟩ := e
      have hj' : j < L.length := by simpa using hj
      refine ⟨j, rfl, hj', ?_⟩
      rw [List.getElem_map] at h1
      exact o.eqv.mp h1
  obtain ⟨j, e, hj, rfl⟩ := hs
  refine ⟨L.eraseIdx j, erase_perm hj, ?_, ?_⟩
  · rw [List.length_eraseIdx_of_lt hj]
    omega
  · unfold mRemove
    simp only [o.pyA L, o.py]
    rw [if_pos ⟨o.plainA L, o.pl _, by have := o.dp L[j]; omega⟩, e]
    show some (D.non, (L.map enc).eraseIdx j) = _
    rw [erase_map]
theorem Bord.clA (o : Bord enc key) : ∀ L : List β, PyData.canLayAll0 (L.map key) = true
  | [] => rfl
  | a :: L => by
    rw [List.map_cons]
    simp only [PyData.canLayAll0, o.cl a, o.clA L, Bool.and_self]
theorem Bord.dpA (o : Bord enc key) : ∀ L : List β, PyData.depthAll (L.map key) ≤ 50
  | [] => by simp [PyData.depthAll]
  | a :: L => by
    rw [List.map_cons]
    simp only [PyData.depthAll]
    have := o.dp a
    have := o.dpA L
    omega
theorem Bord.shl (o : Bord enc key) (L : List β) : SeqAt.shaped (.list (L.map key)) = true := by
  unfold SeqAt.shaped
  simp only [PyData.canLay0, o.clA L, Bool.true_and, PyData.depth]
  have := o.dpA L
  simp
  omega
theorem Bord.sht (o : Bord enc key) (L : List β) : SeqAt.shaped (.tuple (L.map key)) = true := by
  unfold SeqAt.shaped
  simp only [PyData.canLay0, o.clA L, Bool.true_and, PyData.depth]
  have := o.dpA L
  simp
  omega
@[simp] theorem eqB_nil : eqB (.lst []) (.lst []) = some true := rfl
theorem Bord.eqB_nil (o : Bord enc key) (L : List β) : eqB (.lst (L.map enc)) (.lst []) = some L.isEmpty := by
  have h : (D.lst (L.map enc)).py = some (.list (L.map key)) := by simp only [D.py, o.pyA L, Option.map]
  show (match (D.lst (L.map enc)).py, (D.lst []).py with
    | some p, some q => if SeqAt.shaped p = true ∧ SeqAt.shaped q = true then some (PyData.eqv p q) else none
    | _, _ => match D.lst (L.map enc), D.lst [] with
      | .lst ds, .lst es => if ds.length = es.length then none else some false
      | _, _ => none) = _
  rw [h]
  show (if SeqAt.shaped (.list (L.map key)) = true ∧ SeqAt.shaped (.list []) = true then some (PyData.eqv (.list (L.map key)) (.list [])) else none) = _
  rw [if_pos ⟨o.shl L, rfl⟩]
  cases L with
  | nil => rfl
  | cons a L => rfl
theorem Bord.eqB_self (o : Bord enc key) (L : List β) : eqB (.tup (L.map enc)) (.tup (L.map enc)) = some true := by
  have h : (D.tup (L.map enc)).py = some (.tuple (L.map key)) := by simp only [D.py, o.pyA L, Option.map]
  show (match (D.tup (L.map enc)).py, (D.tup (L.map enc)).py with
    | some p, some q => if SeqAt.shaped p = true ∧ SeqAt.shaped q = true then some (PyData.eqv p q) else none
    | _, _ => match D.tup (L.map enc), D.tup (L.map enc) with
      | .lst ds, .lst es => if ds.length = es.length then none else some false
      | _, _ => none) = _
  rw [h]
  show (if SeqAt.shaped (.tuple (L.map key)) = true ∧ SeqAt.shaped (.tuple (L.map key)) = true then some (PyData.eqv (.tuple (L.map key)) (.tuple (L.map key))) else none) = _
  rw [if_pos ⟨o.sht L, o.sht L⟩]
  have := SeqAt.eqvAll_refl (L.map key) (o.clA L)
  rw [PyData.eqv, this]
end
/-- blocks: is the word "private"? -/
abbrev Bk := Int × Int × Bool
def wd (p : Bool) : Str := if p then "private" else "busy"
@[simp] theorem wd_t : wd true = "private" := rfl
@[simp] theorem wd_f : wd false = "busy" := rfl
theorem wd_inj {p q : Bool} (h : wd p = wd q) : p = q := by
  cases p <;> cases q <;> first | rfl | (exact absurd h (by decide +kernel))
def bkD (b : Bk) : D := .tup [.int b.1, .int b.2.1, .str (wd b.2.2)]
def bkP (b : Bk) : PyData := .tuple [.int b.1, .int b.2.1, .str (wd b.2.2)]
theorem bkO : Bord bkD bkP where
  py _ := rfl
  inj a b h := by
    obtain ⟨x, y, z⟩ := a
    obtain ⟨x', y', z'⟩ := b
    simp [bkP, PySem.W.keyToks, PySem.W.keyToksAll] at h
    obtain ⟨rfl, rfl, h⟩ := h
    rw [wd_inj (PySem.W.str_of_cps (by first | exact h | rw [h]) : wd z = wd z')]
  al _ _ := rfl
  tup _ := ⟨_, _, rfl⟩
  pl _ := rfl
  dp b := by simp [bkP, PyData.depth, PyData.depthAll]
  lt _ _ := rfl
  cl b := by
    obtain ⟨x, y, z⟩ := b
    cases z <;> exact (by simp [bkP, PyData.canLay0, PyData.canLayAll0]; decide +kernel)
end DL

set_option linter.all false
set_option maxRecDepth 100000
set_option maxHeartbeats 1000000
/-! the laws' own sorting -/
namespace DL
open PySem PySem.Spec PyProof.Rows L2 DD
section
variable {β : Type} {enc : β → D} {key : β → PyData} {c : Cl}
theorem order_least (o : Bord enc key) {L : List β} {a : β} {v : Slot} {f : O} {s4 : Slot} (f4 : s4.free = true) (h0 : a ∈ L) : ∃ (m : β) (s5 : Slot), forL (uName 4) (D__law_in_order_b1 c) (L.map enc) [v, .lck (.lst (L.map enc)), .own f, .val (enc a), s4] = .nx [v, .lck (.lst (L.map enc)), .own f, .val (enc m), s5] ∧ s5.free = true ∧ m ∈ L ∧ ∀ x ∈ L, leK key m x = true := by
  obtain ⟨ρ', e, m, s4, rfl, h4, hm, hl⟩ := forL_inv (U := uName 4) (B := D__law_in_order_b1 c) (ds := L.map enc) (fun i ρ => ∃ (m : β) (s4 : Slot), ρ = [v, .lck (.lst (L.map enc)), .own f, .val (enc m), s4] ∧ s4.free = true ∧ m ∈ L ∧ ∀ x ∈ L.take i, leK key m x = true) (fun i hi ρ hw => by
    obtain ⟨m, s4, rfl, f4, hm, hl⟩ := hw
    simp at hi
    cases hc : leK key m L[i] with
    | true =>
      refine ⟨_, .inl (by simp [-opLt, D__law_in_order_b1, f4, o.opLt, hc] <;> rfl), m, .val (enc L[i]), by simp, rfl, hm, fun x hx => ?_⟩
      rw [List.take_add_one, List.mem_append] at hx
      rcases hx with hx | hx
      · exact hl x hx
      · simp [hi] at hx
        subst hx
        exact hc
    | false =>
      refine ⟨_, .inl (by simp [-opLt, D__law_in_order_b1, f4, o.opLt, hc] <;> rfl), L[i], .val (enc L[i]), by simp, rfl, List.getElem_mem hi, fun x hx => ?_⟩
      have hlt : leK key L[i] m = true := by
        rcases (leK_total (key := key)).total m L[i] with h | h
        · rw [h] at hc
          cases hc
        · exact h
      rw [List.take_add_one, List.mem_append] at hx
      rcases hx with hx | hx
      · exact (leK_total (key := key)).trans _ _ _ hlt (hl x hx)
      · simp [hi] at hx
        subst hx
        exact (leK_total (key := key)).refl _) (ρ := [v, .lck (.lst (L.map enc)), .own f, .val (enc a), s4]) ⟨a, s4, rfl, f4, h0, fun x hx => by simp at hx⟩
  refine ⟨m, s4, e, h4, hm, fun x hx => hl x ?_⟩
  simpa using hx
theorem order_loop (o : Bord enc key) {v : Slot} : ∀ (n : Nat) (L F : List β) {s3 s4 : Slot}, s3.free = true → s4.free = true → L.length = n → L.length + F.length < 1000 → F.Pairwise (fun a b => leK key a b = true) → (∀ a ∈ F, ∀ b ∈ L, leK key a b = true) → ∀ k, n < k → ∃ (M : List β) (s5 s6 : Slot), whl (dTest (dBin opNe (dVar 1) (dLst aNil))) (D__law_in_order_b2 c) k [v, .own (.lst (L.map enc)), .own (.lst (F.map enc)), s3, s4] = .nx [v, .own (.lst []), .own (.lst (M.map enc)), s5, s6] ∧ M.Perm (F ++ L) ∧ M.Pairwise (fun a b => leK key a b = true)
  | 0, L, F, s3, s4, f3, f4, hn, hz, hp, hq, k + 1, hk => by
    obtain rfl : L = [] := List.length_eq_zero_iff.mp hn
    refine ⟨F, s3, s4, ?_, by simp, hp⟩
    simp [whl]
  | n + 1, L, F, s3, s4, f3, f4, hn, hz, hp, hq, k + 1, hk => by
    cases L with
    | nil => cases hn
    | cons a L =>
      obtain ⟨m, s4', e, f4', hm, hl⟩ := order_least (c := c) o (a := a) (L := a :: L) (v := v) (f := .lst (F.map enc)) f4 List.mem_cons_self
      obtain ⟨M, pm, lm, er⟩ := o.remove hm
      obtain ⟨M', s3', s4'', e2, p2, q2⟩ := order_loop o (v := v) n M (F ++ [m]) (s3 := .val (enc m)) rfl f4' (by simp at lm hn; omega) (by simp at lm hz ⊢; omega) (by
        rw [List.pairwise_append]
        refine ⟨hp, by simp, fun x hx y hy => ?_⟩
        simp at hy
        subst hy
        exact hq x hx _ hm) (fun x hx b hb => by
        have hb' : b ∈ a :: L := pm.subset (List.mem_cons_of_mem _ hb)
        rw [List.mem_append] at hx
        rcases hx with hx | hx
        · exact hq x hx b hb'
        · simp at hx
          subst hx
          exact hl b hb') k (by omega)
      refine ⟨M', s3', s4'', ?_, p2.trans ?_, q2⟩
      · rw [← e2]
        have hz2 : F.length < 16777216 := by simp at hz; omega
        have en := o.eqB_nil (a :: L)
        simp at e er en
        simp [whl, D__law_in_order_b2, f3, e, er, en, hz2]
      · rw [List.append_assoc]
        exact List.Perm.append_left F pm
theorem in_order_v (o : Bord enc key) {L : List β} (hz : L.length < 1000) : Gives 5 (D__law_in_order c) [.lst (L.map enc)] (.val (.tup ((srt key L).map enc))) := by
  obtain ⟨M, s3, s4, e, p, q⟩ := order_loop (c := c) o (v := .val (.lst (L.map enc))) L.length L [] (s3 := .none) (s4 := .none) rfl rfl rfl (by simpa using hz) (by simp) (by simp) 100000 (by omega)
  obtain rfl := o.uniq (L := L) (by simpa using p) q
  simp at e
  simp [Gives, D__law_in_order, sWhile, e]
end
end DL

set_option linter.all false
set_option maxRecDepth 100000
set_option maxHeartbeats 1000000
/-! a day is shown -/
namespace DL
open PySem PySem.Spec PyProof.Rows L2 DD
/-- a comprehension, step by step -/
theorem lc_fm {α : Type} {vs : List Nat} {U : Tg} {T : En → Res Bool} {A : En → Res X} {enc : α → D} (f : α → Option D) {ρ : En} : ∀ {L : List α} {acc : List D}, (∀ x ∈ L, ∀ ds acc, acc.length < 100000 → lcL vs U T A (enc x :: ds) ρ acc = lcL vs U T A ds ρ (acc ++ (f x).toList)) → L.length + acc.length ≤ 100000 → lcL vs U T A (L.map enc) ρ acc = .ok (acc ++ L.filterMap f) ρ
  | [], acc, _, _ => by simp [lcL]
  | x :: L, acc, h, hz => by
    rw [List.map_cons, h x List.mem_cons_self _ _ (by simp at hz; omega), lc_fm f (L := L) (fun y hy => h y (List.mem_cons_of_mem _ hy)) (by
      simp at hz ⊢
      cases f x <;> simp <;> omega)]
    cases e : f x <;> simp [List.filterMap_cons, e]
def dn (t s : Int) : Int := t / s * s
def up (t s : Int) : Int := (t + s - 1) / s * s
theorem put_down_v {c : Cl} {t s : Int} (h : 1 ≤ s) (h2 : s ≤ 1000) : Gives 2 (D_put_down c) [.int t, .int s] (.val (.int (dn t s))) := by
  have h3 : 0 < s := by omega
  have h4 : CDiv t s := ⟨h3, by omega⟩
  have h5 : ∀ i, CMul i s := fun i => .inr ⟨by omega, by omega⟩
  simp [Gives, D_put_down, h4, h5, dn]
theorem put_up_v {c : Cl} {t s : Int} (h : 1 ≤ s) (h2 : s ≤ 1000) : Gives 2 (D_put_up c) [.int t, .int s] (.val (.int (up t s))) := by
  have h3 : 0 < s := by omega
  have h4 : ∀ i, CDiv i s := fun i => ⟨h3, by omega⟩
  have h5 : ∀ i, CMul i s := fun i => .inr ⟨by omega, by omega⟩
  simp [Gives, D_put_up, h4, h5, up]
/-- the word of a meeting -/
def wordOf (p : Str) (priv : Bool) : Option Bool := if priv = false ∨ p = "busy" then some false else if p = "none" then none else some true
def wordD : Option Bool → D
  | none => .non
  | some w => .str (wd w)
theorem word_v {c : Cl} {r : Ru} {b : Bool} : Gives 2 (D_word_shown c) [rvD c r, .bl b] (.val (wordD (wordOf r.p b))) := by
  cases b
  · simp [Gives, D_word_shown, rvD, wordOf, wordD]
  · by_cases h : r.p = "busy"
    · simp [Gives, D_word_shown, rvD, wordOf, wordD, h]
    · by_cases h2 : r.p = "none"
      · simp [Gives, D_word_shown, rvD, wordOf, wordD, h2]
      · simp [Gives, D_word_shown, rvD, wordOf, wordD, h, h2]
def spanOf (r : Ru) (w : Bool) (m : Mt) : Option (Int × Int) := if wordOf r.p m.2.2 = some w then some (dn m.1 r.s, up m.2.1 r.s) else none
def seD (x : Int × Int) : D := .tup [.int x.1, .int x.2]
/-- what must be known of a rule to show by it -/
structure RuSh (r : Ru) : Prop extends RuIn r where
  s2 : r.s ≤ 1000
theorem wordD_eq {o : Option Bool} {w : Bool} : eqB (wordD o) (.str (wd w)) = some (decide (o = some w)) := by
  cases o with
  | none => cases w <;> decide +kernel
  | some v => cases v <;> cases w <;> simp [wordD] <;> decide +kernel
theorem spans_v {c : Cl} {r : Ru} (ok : RuSh r) {n : Int} {ms : List Mt} (hz : ms.length ≤ 1000) {w : Bool} : Gives 7 (D__meeting_spans c) [rvD c r, dvD c n ms, .str (wd w)] (.new (.lst ((ms.filterMap (spanOf r w)).map seD))) := by
  have L := lc_fm (vs := [4, 5, 6]) (U := uTup 3 (usCons (uName 4) (usCons (uName 5) (usCons (uName 6) usNil)))) (T := dTest (dBin opEq (dCall 2 2 (D_word_shown c) (aCons (dVar 0) (aCons (dVar 6) aNil))) (dVar 2))) (A := dTup (aCons (dCall 2 2 (D_put_down c) (aCons (dVar 4) (aCons (dVar 3) aNil))) (aCons (dCall 2 2 (D_put_up c) (aCons (dVar 5) (aCons (dVar 3) aNil))) aNil))) (enc := mtD) (fun m => (spanOf r w m).map seD) (ρ := [.val (rvD c r), .val (dvD c n ms), .val (.str (wd w)), .val (.int r.s), .none, .none, .none]) (L := ms) (acc := []) (fun m hm ds acc ha => by
    obtain ⟨_, p⟩ := (word_v (c := c) (r := r) (b := m.2.2)).elim
    obtain ⟨_, p1⟩ := (put_down_v (c := c) (t := m.1) ok.s ok.s2).elim
    obtain ⟨_, p2⟩ := (put_up_v (c := c) (t := m.2.1) ok.s ok.s2).elim
    simp at p p1 p2
    have ha' : acc.length < 16777216 := by omega
    by_cases h : wordOf r.p m.2.2 = some w
    · simp [lcL, mtD, p, p1, p2, wordD_eq, h, ha', spanOf, seD]
    · simp [lcL, mtD, p, p1, p2, wordD_eq, h, ha', spanOf, seD]) (by simp; omega)
  simp [rvD, dvD] at L
  simp [Gives, D__meeting_spans, rvD, dvD, lcAll, L, List.map_filterMap]
end DL

set_option linter.all false
set_option maxRecDepth 100000
set_option maxHeartbeats 1000000
/-! spans are joined -/
namespace DL
open PySem PySem.Spec PyProof.Rows L2 DD
def isJ (r : Ru) (w : Bool) (e b : Int) : Prop := (w = true ∧ r.p = "one") ∨ b - e ≤ r.g
instance {r : Ru} {w : Bool} {e b : Int} : Decidable (isJ r w e b) := by
  unfold isJ
  infer_instance
theorem is_joined_v {c : Cl} {r : Ru} {w : Bool} {e b : Int} : Gives 4 (D_is_joined c) [rvD c r, .str (wd w), .int e, .int b] (.val (.bl (decide (isJ r w e b)))) := by
  by_cases h : r.p = "one"
  · cases w <;> simp [Gives, D_is_joined, rvD, h, isJ]
  · cases w <;> simp [Gives, D_is_joined, rvD, h, isJ]
def jn (r : Ru) (w : Bool) (J : List (Int × Int)) (x : Int × Int) : List (Int × Int) := match J.getLast? with
  | some y => if isJ r w y.2 x.1 then J.dropLast ++ [(y.1, x.2)] else J ++ [x]
  | none => J ++ [x]
theorem jn_nil {r : Ru} {w : Bool} {x : Int × Int} : jn r w [] x = [x] := rfl
theorem jn_snoc {r : Ru} {w : Bool} {J : List (Int × Int)} {x y : Int × Int} : jn r w (J ++ [y]) x = if isJ r w y.2 x.1 then J ++ [(y.1, x.2)] else J ++ [y] ++ [x] := by
  simp [jn]
theorem jn_len {r : Ru} {w : Bool} {J : List (Int × Int)} {x : Int × Int} : (jn r w J x).length ≤ J.length + 1 := by
  rcases List.eq_nil_or_concat J with rfl | ⟨J', y, rfl⟩
  · simp [jn_nil]
  · rw [List.concat_eq_append, jn_snoc]
    split <;> simp
theorem joined_v {c : Cl} {r : Ru} {w : Bool} {S : List (Int × Int)} (hz : S.length ≤ 1000) : Gives 6 (D__joined_spans c) [rvD c r, .str (wd w), .lst (S.map seD)] (.new (.lst ((S.foldl (jn r w) []).map seD))) := by
  obtain ⟨ρ', e, J, s4, s5, rfl, _, _, _, hJ⟩ := forL_inv (U := uTup 2 (usCons (uName 4) (usCons (uName 5) usNil))) (B := D__joined_spans_b1 c) (ds := S.map seD) (fun i ρ => ∃ (J : List (Int × Int)) (s4 s5 : Slot), ρ = [.val (rvD c r), .val (.str (wd w)), .val (.lst (S.map seD)), .own (.lst (J.map seD)), s4, s5] ∧ s4.free = true ∧ s5.free = true ∧ J.length ≤ i ∧ J = (S.take i).foldl (jn r w) []) (fun i hi ρ hw => by
    obtain ⟨J, s4, s5, rfl, f4, f5, hl, hJ⟩ := hw
    simp at hi
    have e1 : (S.take (i + 1)).foldl (jn r w) [] = jn r w J S[i] := by
      rw [List.take_add_one, List.foldl_append, ← hJ]
      simp [hi]
    refine ⟨_, ?_, jn r w J S[i], .val (.int S[i].1), .val (.int S[i].2), rfl, rfl, rfl, ?_, e1.symm⟩
    · refine .inl ?_
      rcases List.eq_nil_or_concat J with rfl | ⟨J', y, rfl⟩
      · simp [D__joined_spans_b1, f4, f5, seD, jn_nil]
      · rw [List.concat_eq_append] at hl ⊢
        have hl' : J'.length + 1 < 16777216 := by simp at hl; omega
        obtain ⟨_, p⟩ := (is_joined_v (c := c) (r := r) (w := w) (e := y.2) (b := S[i].1)).elim
        simp at p
        rw [jn_snoc]
        by_cases hj : isJ r w y.2 S[i].1
        · simp [D__joined_spans_b1, f4, f5, seD, p, hj, hl']
        · simp [D__joined_spans_b1, f4, f5, seD, p, hj, hl']
    · have := jn_len (r := r) (w := w) (J := J) (x := S[i])
      omega) (ρ := [.val (rvD c r), .val (.str (wd w)), .val (.lst (S.map seD)), .own (.lst []), .none, .none]) ⟨[], .none, .none, rfl, rfl, rfl, Nat.le_refl _, rfl⟩
  simp at hJ
  simp [Gives, D__joined_spans, e, hJ]
end DL

set_option linter.all false
set_option maxRecDepth 100000
set_option maxHeartbeats 1000000
/-! spans are cut, blocks are shown -/
namespace DL
open PySem PySem.Spec PyProof.Rows L2 DD
def mx (i j : Int) : Int := if i < j then j else i
def mn (i j : Int) : Int := if j < i then j else i
def cutOf (r : Ru) (x : Int × Int) : Option (Int × Int) := if x.2 - x.1 < r.l then none else match r.h with
  | none => some x
  | some h => if mx x.1 h.1 < mn x.2 h.2 then some (mx x.1 h.1, mn x.2 h.2) else none
def cuD : Option (Int × Int) → D
  | none => .non
  | some x => seD x
theorem span_shown_v {c : Cl} {r : Ru} {x : Int × Int} : Gives 5 (D_span_shown c) [rvD c r, .int x.1, .int x.2] (.val (cuD (cutOf r x))) := by
  by_cases h : x.2 - x.1 < r.l
  · simp [Gives, D_span_shown, rvD, cutOf, h, cuD]
  · cases e : r.h with
    | none => simp [Gives, D_span_shown, rvD, cutOf, h, cuD, e, hoD, seD]
    | some y =>
      by_cases h2 : mx x.1 y.1 < mn x.2 y.2
      · have h3 := h2
        unfold mx mn at h3
        simp [Gives, D_span_shown, rvD, cutOf, h, cuD, e, hoD, seD, h2, h3, mx, mn]
      · have h3 := h2
        unfold mx mn at h3
        simp [Gives, D_span_shown, rvD, cutOf, h, cuD, e, hoD, seD, h2, h3, mx, mn]
def jnd (r : Ru) (w : Bool) (ms : List Mt) : List (Int × Int) := (ms.filterMap (spanOf r w)).foldl (jn r w) []
def blk (r : Ru) (w : Bool) (ms : List Mt) : List Bk := ((jnd r w ms).filterMap (cutOf r)).map fun x => (x.1, x.2, w)
theorem jn_fold_len {r : Ru} {w : Bool} : ∀ {S J : List (Int × Int)}, (S.foldl (jn r w) J).length ≤ J.length + S.length
  | [], J => Nat.le_refl _
  | x :: S, J => by
    have h1 := jn_fold_len (r := r) (w := w) (S := S) (J := jn r w J x)
    have h2 := jn_len (r := r) (w := w) (J := J) (x := x)
    show (S.foldl (jn r w) (jn r w J x)).length ≤ J.length + (S.length + 1)
    omega
theorem jnd_len {r : Ru} {w : Bool} {ms : List Mt} : (jnd r w ms).length ≤ ms.length := by
  have h1 := jn_fold_len (r := r) (w := w) (S := ms.filterMap (spanOf r w)) (J := [])
  have h2 := List.length_filterMap_le (spanOf r w) ms
  unfold jnd
  simp at h1
  omega
theorem blk_len {r : Ru} {w : Bool} {ms : List Mt} : (blk r w ms).length ≤ ms.length := by
  have h1 := jnd_len (r := r) (w := w) (ms := ms)
  have h2 := List.length_filterMap_le (cutOf r) (jnd r w ms)
  unfold blk
  simp
  omega
theorem blocks_v {c : Cl} {r : Ru} (ok : RuSh r) {n : Int} {ms : List Mt} (hz : ms.length ≤ 1000) {w : Bool} : Gives 8 (D__blocks c) [rvD c r, dvD c n ms, .str (wd w)] (.new (.lst ((blk r w ms).map bkD))) := by
  obtain ⟨_, p1⟩ := (spans_v (c := c) ok (n := n) (w := w) hz).elim
  obtain ⟨_, p2⟩ := (joined_v (c := c) (r := r) (w := w) (S := ms.filterMap (spanOf r w)) (by have := List.length_filterMap_le (spanOf r w) ms; omega)).elim
  have hl := jnd_len (r := r) (w := w) (ms := ms)
  have L1 := lc_fm (vs := [6, 7]) (U := uTup 2 (usCons (uName 6) (usCons (uName 7) usNil))) (T := tdYes) (A := dCall 3 5 (D_span_shown c) (aCons (dVar 0) (aCons (dVar 6) (aCons (dVar 7) aNil)))) (enc := seD) (fun x => some (cuD (cutOf r x))) (ρ := [.val (rvD c r), .val (dvD c n ms), .val (.str (wd w)), .lck (.lst ((jnd r w ms).map seD)), .none, .none, .none, .none]) (L := jnd r w ms) (acc := []) (fun x hx ds acc ha => by
    obtain ⟨_, p⟩ := (span_shown_v (c := c) (r := r) (x := x)).elim
    simp at p
    have ha' : acc.length < 16777216 := by omega
    simp [lcL, seD, p, ha']) (by simp; omega)
  have L2 := lc_fm (vs := [5]) (U := uName 5) (T := dTest (dNotN (dVar 5))) (A := dTup (aCons (dBin opIx (dVar 5) (dC (.int 0))) (aCons (dBin opIx (dVar 5) (dC (.int 1))) (aCons (dVar 2) aNil)))) (enc := cuD) (fun o => o.map fun x => bkD (x.1, x.2, w)) (ρ := [.val (rvD c r), .val (dvD c n ms), .val (.str (wd w)), .own (.lst ((jnd r w ms).map seD)), .lck (.lst (((jnd r w ms).map (cutOf r)).map cuD)), .none, .none, .none]) (L := (jnd r w ms).map (cutOf r)) (acc := []) (fun o ho ds acc ha => by
    have ha' : acc.length < 16777216 := by omega
    cases o with
    | none => simp [lcL, cuD]
    | some x => simp [lcL, cuD, seD, ha', bkD]) (by simp; omega)
  simp at p1 p2 L1 L2
  simp [Gives, D__blocks, p1, p2, lcAll, jnd, Function.comp_def] at L1 L2 ⊢
  simp [L1, L2, blk, jnd, List.map_filterMap, Function.comp_def]
theorem lc_id {L : List Bk} {ρ : En} {i : Nat} {acc : List D} (h : ρ[i]? = some .none) (hz : L.length + acc.length ≤ 100000) : lcL [i] (uName i) tdYes (dVar i) (L.map bkD) ρ acc = .ok (acc ++ L.map bkD) ρ := by
  have := lc_fm (vs := [i]) (U := uName i) (T := tdYes) (A := dVar i) (enc := bkD) (fun x => some (bkD x)) (ρ := ρ) (L := L) (acc := acc) (fun x hx ds acc ha => by
    have ha' : acc.length < 16777216 := by omega
    obtain ⟨hi, h'⟩ := List.getElem?_eq_some_iff.mp h
    have e : ρ.set i .none = ρ := by
      rw [← h']
      exact List.set_getElem_self hi
    have e2 : (ρ.set i (.val (bkD x)))[i]? = some (.val (bkD x)) := List.getElem?_set_self hi
    have e3 : (Slot.none : Slot).free = true := rfl
    simp [lcL, h, ha', e, e2, e3]) hz
  rw [this]
  simp
def showL (r : Ru) (ms : List Mt) : List Bk := blk r false ms ++ blk r true ms
theorem show_v {c : Cl} {r : Ru} (ok : RuSh r) {n : Int} {ms : List Mt} (hz : ms.length ≤ 1000) : Gives 4 (D_show c) [rvD c r, dvD c n ms] (.val (.tup ((srt bkP (showL r ms)).map bkD))) := by
  obtain ⟨_, p1⟩ := (blocks_v (c := c) ok (n := n) (w := false) hz).elim
  obtain ⟨_, p2⟩ := (blocks_v (c := c) ok (n := n) (w := true) hz).elim
  have h1 := blk_len (r := r) (w := false) (ms := ms)
  have h2 := blk_len (r := r) (w := true) (ms := ms)
  have i1 := lc_id (L := blk r false ms) (ρ := [.val (rvD c r), .val (dvD c n ms), .val (.str "busy"), .none]) (i := 3) (acc := []) rfl (by simp; omega)
  have i2 := lc_id (L := blk r true ms) (ρ := [.val (rvD c r), .val (dvD c n ms), .val (.str "private"), .none]) (i := 3) (acc := (blk r false ms).map bkD) rfl (by simp; omega)
  have i3 := bkO.sorted (showL r ms)
  simp at p1 p2 i1 i2
  simp [showL] at i3
  simp [Gives, D_show, lc2L, p1, p2, i1, i2, i3, showL]
end DL

set_option linter.all false
set_option maxRecDepth 100000
set_option maxHeartbeats 1000000
/-! ticks and runs -/
namespace DL
open PySem PySem.Spec PyProof.Rows L2 DD
def tk (b e : Int) : List Int := (List.range (e - b).toNat).map fun n => b + (n : Nat)
def flat (J : List (Int × Int)) : List Int := J.flatMap fun x => tk x.1 x.2
theorem mem_tk {b e t : Int} : t ∈ tk b e ↔ b ≤ t ∧ t < e := by
  simp only [tk, List.mem_map, List.mem_range]
  constructor
  · rintro ⟨n, h, rfl⟩
    omega
  · rintro ⟨h1, h2⟩
    exact ⟨(t - b).toNat, by omega, by omega⟩
theorem tk_snoc {b e : Int} (h : b ≤ e) : tk b (e + 1) = tk b e ++ [e] := by
  have h1 : (e + 1 - b).toNat = (e - b).toNat + 1 := by omega
  have h2 : b + ((e - b).toNat : Int) = e := by omega
  rw [tk, h1, List.range_succ, List.map_append]
  simp only [List.map_cons, List.map_nil, h2]
  rfl
theorem tk_self {b : Int} : tk b b = [] := by simp [tk]
theorem tk_add {a b : Int} (h : a ≤ b) : ∀ {n : Nat}, tk a b ++ tk b (b + (n : Nat)) = tk a (b + (n : Nat))
  | 0 => by
    simp [tk_self]
  | n + 1 => by
    have e : b + ((n + 1 : Nat) : Int) = b + (n : Nat) + 1 := by omega
    rw [e, tk_snoc (by omega), ← List.append_assoc, tk_add h, tk_snoc (by omega)]
theorem tk_app {a b e : Int} (h : a ≤ b) (h2 : b ≤ e) : tk a b ++ tk b e = tk a e := by
  have := tk_add h (n := (e - b).toNat)
  rwa [show b + ((e - b).toNat : Int) = e by omega] at this
theorem tk_len {b e : Int} (h : b ≤ e) : ((tk b e).length : Int) = e - b := by
  simp [tk]
  omega
/-- spans in their order, not touching, up to a tick -/
structure Spc (a : Int) (J : List (Int × Int)) : Prop where
  one : ∀ x ∈ J, 0 ≤ x.1 ∧ x.1 < x.2 ∧ x.2 ≤ a
  two : J.Pairwise fun x y => x.2 < y.1
theorem Spc.nil {a : Int} : Spc a [] := ⟨fun x h => by simp at h, .nil⟩
theorem Spc.mono {a b : Int} {J : List (Int × Int)} (h : Spc a J) (hb : a ≤ b) : Spc b J := ⟨fun x hx => by have := h.one x hx; omega, h.two⟩
theorem Spc.init {a : Int} {J : List (Int × Int)} {y : Int × Int} (h : Spc a (J ++ [y])) : Spc y.1 J := ⟨fun x hx => by
  have h1 := h.one x (by simp [hx])
  have h2 := (List.pairwise_append.mp h.two).2.2 x hx y (by simp)
  omega, (List.pairwise_append.mp h.two).1⟩
theorem Spc.snoc {a b : Int} {J : List (Int × Int)} {y : Int × Int} (h : Spc a J) (h0 : 0 ≤ y.1) (h1 : ∀ x ∈ J, x.2 < y.1) (h2 : y.1 < y.2) (h3 : y.2 ≤ b) (h4 : a ≤ b) : Spc b (J ++ [y]) := ⟨fun x hx => by
  rw [List.mem_append] at hx
  rcases hx with hx | hx
  · have := h.one x hx
    omega
  · simp at hx
    subst hx
    omega, by
  rw [List.pairwise_append]
  refine ⟨h.two, by simp, fun x hx z hz => ?_⟩
  simp at hz
  subst hz
  exact h1 x hx⟩
theorem flat_snoc {J : List (Int × Int)} {y : Int × Int} : flat (J ++ [y]) = flat J ++ tk y.1 y.2 := by simp [flat]
theorem mem_flat {a : Int} {J : List (Int × Int)} (h : Spc a J) {t : Int} (ht : t ∈ flat J) : 0 ≤ t ∧ t < a := by
  simp only [flat, List.mem_flatMap] at ht
  obtain ⟨x, hx, h1⟩ := ht
  have h2 := mem_tk.mp h1
  have h3 := h.one x hx
  omega
theorem flat_len {a : Int} (ha : 0 ≤ a) : ∀ {J : List (Int × Int)}, Spc a J → ((flat J).length : Int) ≤ a := by
  intro J
  generalize hn : J.length = n
  induction n generalizing J a with
  | zero =>
    intro _
    rw [List.length_eq_zero_iff.mp hn]
    simpa [flat] using ha
  | succ n ih =>
    intro h
    rcases List.eq_nil_or_concat J with rfl | ⟨J', y, rfl⟩
    · cases hn
    · rw [List.concat_eq_append] at h hn ⊢
      have h1 := h.one y (by simp)
      have h2 := ih h1.1 (J := J') (by simp at hn; omega) h.init
      have h3 := tk_len (b := y.1) (e := y.2) (by omega)
      rw [flat_snoc, List.length_append]
      omega
/-- the laws' runs -/
def rn (F : List (Int × Int)) (t : Int) : List (Int × Int) := match F.getLast? with
  | some y => if y.2 = t then F.dropLast ++ [(y.1, t + 1)] else F ++ [(t, t + 1)]
  | none => F ++ [(t, t + 1)]
theorem rn_nil {t : Int} : rn [] t = [(t, t + 1)] := rfl
theorem rn_snoc {F : List (Int × Int)} {y : Int × Int} {t : Int} : rn (F ++ [y]) t = if y.2 = t then F ++ [(y.1, t + 1)] else F ++ [y] ++ [(t, t + 1)] := by
  simp [rn]
theorem rn_new {F : List (Int × Int)} {t : Int} (h : ∀ x ∈ F, x.2 < t) : rn F t = F ++ [(t, t + 1)] := by
  rcases List.eq_nil_or_concat F with rfl | ⟨F', y, rfl⟩
  · rfl
  · rw [List.concat_eq_append] at h ⊢
    have := h y (by simp)
    rw [rn_snoc, if_neg (by omega)]
theorem rn_tk {F : List (Int × Int)} {b : Int} (h : ∀ x ∈ F, x.2 < b) : ∀ {n : Nat}, (tk b (b + ((n + 1 : Nat) : Int))).foldl rn F = F ++ [(b, b + ((n + 1 : Nat) : Int))]
  | 0 => by
    rw [show b + ((0 + 1 : Nat) : Int) = b + 1 by omega, tk_snoc (Int.le_refl b), tk_self]
    exact rn_new h
  | n + 1 => by
    have e : b + ((n + 1 + 1 : Nat) : Int) = b + ((n + 1 : Nat) : Int) + 1 := by omega
    rw [e, tk_snoc (by omega), List.foldl_append, rn_tk h]
    show rn _ _ = _
    rw [rn_snoc, if_pos rfl]
theorem rn_flat : ∀ {J F : List (Int × Int)}, (∀ x ∈ J, x.1 < x.2) → (F ++ J).Pairwise (fun x y => x.2 < y.1) → (flat J).foldl rn F = F ++ J
  | [], F, _, _ => by simp [flat]
  | y :: J, F, h1, h2 => by
    have hy := h1 y (by simp)
    have e : y.2 = y.1 + (((y.2 - y.1).toNat - 1 + 1 : Nat) : Int) := by omega
    have e1 : (tk y.1 y.2).foldl rn F = F ++ [y] := by
      have := rn_tk (F := F) (b := y.1) (fun x hx => (List.pairwise_append.mp h2).2.2 x hx y (by simp)) (n := (y.2 - y.1).toNat - 1)
      rw [← e] at this
      exact this
    have e2 : flat (y :: J) = tk y.1 y.2 ++ flat J := by simp [flat]
    rw [e2, List.foldl_append, e1, rn_flat (fun x hx => h1 x (by simp [hx])) (by simpa using h2)]
    simp
theorem rn_len {F : List (Int × Int)} {t : Int} : (rn F t).length ≤ F.length + 1 := by
  rcases List.eq_nil_or_concat F with rfl | ⟨F', y, rfl⟩
  · simp [rn_nil]
  · rw [List.concat_eq_append, rn_snoc]
    split <;> simp
/-! steps -/
theorem dn_law {b s : Int} : b - b % s = dn b s := by
  have := Int.emod_add_mul_ediv b s
  rw [dn, Int.mul_comm]
  omega
theorem up_law {e s : Int} (h : 1 ≤ s) : e + (0 - e) % s = up e s := by
  have h1 := Int.emod_add_mul_ediv (e + s - 1) s
  have h2 := Int.emod_nonneg (e + s - 1) (by omega : s ≠ 0)
  have h3 := Int.emod_lt_of_pos (e + s - 1) (by omega : 0 < s)
  have h4 : (0 - e) % s = (up e s - e) % s := by
    rw [show up e s - e = (0 - e) + s * ((e + s - 1) / s) by rw [up, Int.mul_comm]; omega, Int.add_mul_emod_self_left]
  rw [h4, Int.emod_eq_of_lt (by rw [up, Int.mul_comm]; omega) (by rw [up, Int.mul_comm]; omega)]
  omega
theorem dn_le {b s : Int} (h : 1 ≤ s) : dn b s ≤ b ∧ b < dn b s + s := by
  have h1 := Int.emod_add_mul_ediv b s
  have h2 := Int.emod_nonneg b (by omega : s ≠ 0)
  have h3 := Int.emod_lt_of_pos b (by omega : 0 < s)
  rw [dn, Int.mul_comm]
  omega
theorem dn_nonneg {b s : Int} (h : 1 ≤ s) (hb : 0 ≤ b) : 0 ≤ dn b s := Int.mul_nonneg (Int.ediv_nonneg hb (by omega)) (by omega)
theorem le_up {e s : Int} (h : 1 ≤ s) : e ≤ up e s ∧ up e s < e + s := by
  have h1 := Int.emod_add_mul_ediv (e + s - 1) s
  have h2 := Int.emod_nonneg (e + s - 1) (by omega : s ≠ 0)
  have h3 := Int.emod_lt_of_pos (e + s - 1) (by omega : 0 < s)
  rw [up, Int.mul_comm]
  omega
theorem up_mono {a b s : Int} (h : 1 ≤ s) (hab : a ≤ b) : up a s ≤ up b s := Int.mul_le_mul_of_nonneg_right (Int.ediv_le_ediv (by omega) (by omega)) (by omega)
end DL

set_option linter.all false
set_option maxRecDepth 100000
set_option maxHeartbeats 1000000
/-! the law's own showing -/
namespace DL
open PySem PySem.Spec PyProof.Rows L2 DD
theorem eqB_lst_nil {β : Type} {enc : β → D} {key : β → PyData} (py : ∀ b, (enc b).py = some (key b)) (cl : ∀ b, (key b).canLay0 = true) (dp : ∀ b, (key b).depth ≤ 50) (L : List β) : eqB (.lst (L.map enc)) (.lst []) = some L.isEmpty := by
  have h1 : ∀ L : List β, D.pyA (L.map enc) = some (L.map key) := by
    intro L
    induction L with
    | nil => rfl
    | cons a L ih =>
      rw [List.map_cons, List.map_cons]
      simp only [D.pyA, py, ih]
  have h2 : ∀ L : List β, PyData.canLayAll0 (L.map key) = true := by
    intro L
    induction L with
    | nil => rfl
    | cons a L ih =>
      rw [List.map_cons]
      simp only [PyData.canLayAll0, cl a, ih, Bool.and_self]
  have h3 : ∀ L : List β, PyData.depthAll (L.map key) ≤ 50 := by
    intro L
    induction L with
    | nil => simp [PyData.depthAll]
    | cons a L ih =>
      rw [List.map_cons]
      simp only [PyData.depthAll]
      have := dp a
      omega
  have hs : SeqAt.shaped (.list (L.map key)) = true := by
    unfold SeqAt.shaped
    simp only [PyData.canLay0, h2 L, Bool.true_and, PyData.depth]
    have := h3 L
    simp
    omega
  have h : (D.lst (L.map enc)).py = some (.list (L.map key)) := by simp only [D.py, h1 L, Option.map]
  show (match (D.lst (L.map enc)).py, (D.lst []).py with
    | some p, some q => if SeqAt.shaped p = true ∧ SeqAt.shaped q = true then some (PyData.eqv p q) else none
    | _, _ => match D.lst (L.map enc), D.lst [] with
      | .lst ds, .lst es => if ds.length = es.length then none else some false
      | _, _ => none) = _
  rw [h]
  show (if SeqAt.shaped (.list (L.map key)) = true ∧ SeqAt.shaped (.list []) = true then some (PyData.eqv (.list (L.map key)) (.list [])) else none) = _
  rw [if_pos ⟨hs, rfl⟩]
  cases L with
  | nil => rfl
  | cons a L => rfl
theorem eqB_ints_nil (L : List Int) : eqB (.lst (L.map D.int)) (.lst []) = some L.isEmpty := eqB_lst_nil (key := PyData.int) (fun _ => rfl) (fun _ => rfl) (fun b => by simp [PyData.depth]) L
theorem eqB_se_nil (L : List (Int × Int)) : eqB (.lst (L.map seD)) (.lst []) = some L.isEmpty := eqB_lst_nil (key := fun x => PyData.tuple [.int x.1, .int x.2]) (fun _ => rfl) (fun _ => rfl) (fun b => by simp [PyData.depth, PyData.depthAll]) L
theorem runs_v {c : Cl} {L : List Int} (hz : L.length ≤ 100000) : Gives 3 (D__law_runs c) [.lst (L.map D.int)] (.new (.lst ((L.foldl rn []).map seD))) := by
  obtain ⟨ρ', e, F, s2, rfl, _, _, hF⟩ := forL_inv (U := uName 2) (B := D__law_runs_b1 c) (ds := L.map D.int) (fun i ρ => ∃ (F : List (Int × Int)) (s2 : Slot), ρ = [.val (.lst (L.map D.int)), .own (.lst (F.map seD)), s2] ∧ s2.free = true ∧ F.length ≤ i ∧ F = (L.take i).foldl rn []) (fun i hi ρ hw => by
    obtain ⟨F, s2, rfl, f2, hl, hF⟩ := hw
    simp at hi
    have e1 : (L.take (i + 1)).foldl rn [] = rn F L[i] := by
      rw [List.take_add_one, List.foldl_append, ← hF]
      simp [hi]
    refine ⟨_, ?_, rn F L[i], .val (.int L[i]), rfl, rfl, ?_, e1.symm⟩
    · refine .inl ?_
      have en := eqB_se_nil F
      rcases List.eq_nil_or_concat F with rfl | ⟨F', y, rfl⟩
      · simp at en
        simp [D__law_runs_b1, f2, seD, rn_nil, en]
      · rw [List.concat_eq_append] at hl en ⊢
        have hl' : F'.length + 1 < 16777216 := by simp at hl; omega
        have hE : (F' ++ [y]).isEmpty = false := by cases F' <;> rfl
        rw [hE] at en
        simp [seD] at en
        rw [rn_snoc]
        by_cases hj : y.2 = L[i]
        · rw [if_pos hj]
          rw [hj] at en
          simp [D__law_runs_b1, f2, seD, en, hj]
        · simp [D__law_runs_b1, f2, seD, en, hj, hl']
    · have := rn_len (F := F) (t := L[i])
      omega) (ρ := [.val (.lst (L.map D.int)), .own (.lst []), .none]) ⟨[], .none, rfl, rfl, Nat.le_refl _, rfl⟩
  simp at hF
  simp [Gives, D__law_runs, e, hF]
/-- the tuple of a rule, of a day, in the laws -/
def dtD (n : Int) (ms : List Mt) : D := .tup [.int n, .lst (ms.map mtD)]
theorem endOf_nonneg : ∀ {a : Int} {ms : List Mt}, 0 ≤ a → Meets a ms → a ≤ endOf a ms
  | a, [], _, _ => Int.le_refl _
  | a, m :: ms, h0, h => by
    have := endOf_nonneg (a := m.2.1) (by have := h.1; have := h.2.1; omega) h.2.2
    have := h.1
    have := h.2.1
    show a ≤ endOf m.2.1 ms
    omega
/-- what painting does with a meeting of the word -/
noncomputable def PB : En → SR :=
  (sSeq (sSet 8 (dBin opSub (dVar 4) (dBin opMod (dCB fInt (aCons (dVar 4) aNil)) (dBin opIx (dVar 0) (dC (.int 0)))))) (sSeq (sSet 9 (dBin opAdd (dVar 5) (dBin opMod (dCB fInt (aCons (dBin opSub (dC (.int 0)) (dVar 5)) aNil)) (dBin opIx (dVar 0) (dC (.int 0)))))) (sSeq (sSet 10 (dIfE (dTest (dBin opNe (dVar 3) (dLst aNil))) (dBin opIx (dVar 3) (dUn opNeg (dC (.int 1)))) (dBin opSub (dC (.int 0)) (dC (.int 99))))) (sSeq (sSet 11 (dAnd (dBin opGe (dVar 10) (dC (.int 0))) (dAnd (dBin opEq (dVar 2) (dC (.str "private"))) (dBin opEq (dBin opIx (dVar 0) (dC (.int 3))) (dC (.str "one")))))) (sSeq (sIf (tor (dTest (dBin opLe (dBin opSub (dBin opSub (dVar 8) (dVar 10)) (dC (.int 1))) (dBin opIx (dVar 0) (dC (.int 1))))) (dTest (dVar 11))) (sSet 8 (dBin opAdd (dVar 10) (dC (.int 1)))) sNext) (sDrop (eMut 3 mExtend (aCons (dLc (dRng2 (dVar 8) (dVar 9)) [12] (uName 12) (dTest (dBin opNotIn (dVar 12) (dVar 3))) (dVar 12)) aNil))))))))
theorem pb_eq {c : Cl} : D__law_painted_b1 c = (sSeq (sSet 7 (dIfE (tnd (dTest (dVar 6)) (dTest (dBin opIn (dBin opIx (dVar 0) (dC (.int 3))) (dTup (aCons (dC (.str "apart")) (aCons (dC (.str "one")) aNil)))))) (dC (.str "private")) (dC (.str "busy")))) (sIf (tnd (dTest (dBin opEq (dVar 7) (dVar 2))) (tnot (tnd (dTest (dVar 6)) (dTest (dBin opEq (dBin opIx (dVar 0) (dC (.int 3))) (dC (.str "none"))))))) PB sNext)) := rfl
theorem wd_p {w : Bool} : (wd w = "private") = (w = true) := by cases w <;> simp [wd] <;> decide +kernel
/-- the ticks that are not there yet -/
theorem lc_tk {Fd : List Int} {b e : Int} {v0 v1 v2 v4 v5 v6 v7 v8 v9 v10 v11 : Slot} (hz : (tk b e).length ≤ 90000) (hn : ∀ t ∈ tk b e, t ∉ Fd) : lcL [12] (uName 12) (dTest (dBin opNotIn (dVar 12) (dVar 3))) (dVar 12) ((List.range (e - b).toNat).map fun n => D.int (b + (n : Nat))) [v0, v1, v2, .own (.lst (Fd.map D.int)), v4, v5, v6, v7, v8, v9, v10, v11, .none] [] = .ok ((tk b e).map D.int) [v0, v1, v2, .own (.lst (Fd.map D.int)), v4, v5, v6, v7, v8, v9, v10, v11, .none] := by
  have L := lc_fm (vs := [12]) (U := uName 12) (T := dTest (dBin opNotIn (dVar 12) (dVar 3))) (A := dVar 12) (enc := D.int) (fun t => if t ∈ Fd then none else some (.int t)) (ρ := [v0, v1, v2, .own (.lst (Fd.map D.int)), v4, v5, v6, v7, v8, v9, v10, v11, .none]) (L := tk b e) (acc := []) (fun t ht ds acc ha => by
    have ha' : acc.length < 16777216 := by omega
    by_cases h : t ∈ Fd
    · simp [lcL, in_ints, h]
    · simp [lcL, in_ints, h, ha']) (by simp; omega)
  have e1 : (tk b e).map D.int = (List.range (e - b).toNat).map fun n => D.int (b + (n : Nat)) := by
    rw [tk, List.map_map]
    rfl
  have e2 : ∀ L : List Int, L.filterMap (fun t => if t ∈ Fd then none else some (D.int t)) = (L.filter fun t => decide (t ∉ Fd)).map D.int := by
    intro L
    induction L with
    | nil => rfl
    | cons a L ih => by_cases h : a ∈ Fd <;> simp [List.filterMap_cons, h, ih]
  have e3 : (tk b e).filter (fun t => decide (t ∉ Fd)) = tk b e := List.filter_eq_self.mpr fun t ht => by simpa using hn t ht
  rw [e1, e2, e3] at L
  rw [L]
  rfl
theorem up_law' {e s : Int} (h : 1 ≤ s) : e + -e % s = up e s := by
  have := up_law (e := e) h
  rwa [Int.zero_sub] at this
theorem pb_nil {r : Ru} (ok : RuOk r) {w p : Bool} {b e : Int} (hb : 0 ≤ b) (he : b < e) (he2 : e ≤ 1000) {d1 : Slot} {s7 s8 s9 s10 s11 : Slot} (f8 : s8.free = true) (f9 : s9.free = true) (f10 : s10.free = true) (f11 : s11.free = true) : ∃ t8 t9 t10 t11 : Slot, PB [.val (ruD r), d1, .val (.str (wd w)), .own (.lst []), .val (.int b), .val (.int e), .val (.bl p), s7, s8, s9, s10, s11, .none] = .nx [.val (ruD r), d1, .val (.str (wd w)), .own (.lst ((tk (dn b r.s) (up e r.s)).map D.int)), .val (.int b), .val (.int e), .val (.bl p), s7, t8, t9, t10, t11, .none] ∧ t8.free = true ∧ t9.free = true ∧ t10.free = true ∧ t11.free = true := by
  have hs := ok.s
  have hs0 : 0 < r.s := by omega
  have hg := ok.g
  have h1 := dn_nonneg (b := b) hs.1 hb
  have h2 := dn_le (b := b) hs.1
  have h3 := le_up (e := e) hs.1
  have hl := tk_len (b := dn b r.s) (e := up e r.s) (by omega)
  have L := lc_tk (Fd := []) (b := dn b r.s) (e := up e r.s) (v0 := .val (ruD r)) (v1 := d1) (v2 := .val (.str (wd w))) (v4 := .val (.int b)) (v5 := .val (.int e)) (v6 := .val (.bl p)) (v7 := s7) (v8 := .val (.int (dn b r.s))) (v9 := .val (.int (up e r.s))) (v10 := .val (.int (-99))) (v11 := .val (.bl false)) (by omega) (by simp)
  simp [ruD] at L
  have c1 : ¬ dn b r.s - -99 - 1 ≤ r.g := by omega
  have c2 : ¬ dn b r.s + 99 - 1 ≤ r.g := by omega
  have r1 : -4611686018427387904 ≤ dn b r.s := by omega
  have r2 : dn b r.s < 4611686018427387904 := by omega
  have r3 : -4611686018427387904 ≤ up e r.s := by omega
  have r4 : up e r.s < 4611686018427387904 := by omega
  have r5 : (tk (dn b r.s) (up e r.s)).length ≤ 16777216 := by omega
  refine ⟨.val (.int (dn b r.s)), .val (.int (up e r.s)), .val (.int (-99)), .val (.bl false), by simp [PB, ruD, hs0, dn_law, up_law' hs.1, f8, f9, f10, f11, c1, c2, lcAll, L, r1, r2, r3, r4, r5], ?_, ?_, ?_, ?_⟩ <;> rfl
theorem pb_cons {r : Ru} (ok : RuOk r) {w p : Bool} {b e z : Int} {G : List Int} (hG : ∀ t ∈ G, t < z) (hb : 0 ≤ b) (he : b < e) (he2 : e ≤ 1000) (hz : 0 ≤ z) (hz2 : z + 1 ≤ up e r.s) (hGl : G.length ≤ 5000) {d1 : Slot} {s7 s8 s9 s10 s11 : Slot} (f8 : s8.free = true) (f9 : s9.free = true) (f10 : s10.free = true) (f11 : s11.free = true) : ∃ t8 t9 t10 t11 : Slot, PB [.val (ruD r), d1, .val (.str (wd w)), .own (.lst ((G ++ [z]).map D.int)), .val (.int b), .val (.int e), .val (.bl p), s7, s8, s9, s10, s11, .none] = .nx [.val (ruD r), d1, .val (.str (wd w)), .own (.lst ((G ++ [z] ++ tk (if isJ r w (z + 1) (dn b r.s) then z + 1 else dn b r.s) (up e r.s)).map D.int)), .val (.int b), .val (.int e), .val (.bl p), s7, t8, t9, t10, t11, .none] ∧ t8.free = true ∧ t9.free = true ∧ t10.free = true ∧ t11.free = true := by
  have hs := ok.s
  have hs0 : 0 < r.s := by omega
  have hg := ok.g
  have h1 := dn_nonneg (b := b) hs.1 hb
  have h2 := dn_le (b := b) hs.1
  have h3 := le_up (e := e) hs.1
  have r3 : -4611686018427387904 ≤ up e r.s := by omega
  have r4 : up e r.s < 4611686018427387904 := by omega
  have en := eqB_ints_nil (G ++ [z])
  have hE : (G ++ [z]).isEmpty = false := by cases G <;> rfl
  rw [hE] at en
  simp at en
  have z0 : ¬ z < 0 := by omega
  by_cases hj : isJ r w (z + 1) (dn b r.s)
  · have hl := tk_len (b := z + 1) (e := up e r.s) (by omega)
    have r1 : -4611686018427387904 ≤ z + 1 := by omega
    have r2 : z + 1 < 4611686018427387904 := by omega
    have r5 : G.length + ((tk (z + 1) (up e r.s)).length + 1) ≤ 16777216 := by omega
    have r6 : G.length + 1 + (tk (z + 1) (up e r.s)).length ≤ 16777216 := by omega
    have L := fun v0 v1 v2 v4 v5 v6 v7 v8 v9 v10 v11 => lc_tk (Fd := G ++ [z]) (b := z + 1) (e := up e r.s) (v0 := v0) (v1 := v1) (v2 := v2) (v4 := v4) (v5 := v5) (v6 := v6) (v7 := v7) (v8 := v8) (v9 := v9) (v10 := v10) (v11 := v11) (by omega) (fun t ht hx => by
      have h5 := mem_tk.mp ht
      rw [List.mem_append] at hx
      rcases hx with hx | hx
      · have := hG t hx
        omega
      · simp at hx
        omega)
    simp at L
    rw [if_pos hj]
    refine ⟨.val (.int (z + 1)), .val (.int (up e r.s)), .val (.int z), .val (.bl (w && decide (r.p = "one"))), ?_, rfl, rfl, rfl, rfl⟩
    unfold isJ at hj
    by_cases c1 : dn b r.s - z - 1 ≤ r.g
    · cases w
      · simp [PB, ruD, hs0, dn_law, up_law' hs.1, f8, f9, f10, f11, c1, lcAll, L, r1, r2, r3, r4, r5, r6, en, z0, hz]
      · simp [PB, ruD, hs0, dn_law, up_law' hs.1, f8, f9, f10, f11, c1, lcAll, L, r1, r2, r3, r4, r5, r6, en, z0, hz]
    · have c2 : w = true ∧ r.p = "one" := hj.resolve_right (by omega)
      obtain ⟨rfl, c3⟩ := c2
      simp [PB, ruD, hs0, dn_law, up_law' hs.1, f8, f9, f10, f11, c1, c3, lcAll, L, r1, r2, r3, r4, r5, r6, en, z0, hz]
  · rw [if_neg hj]
    unfold isJ at hj
    have c0 : ¬ dn b r.s - (z + 1) ≤ r.g := fun h => hj (.inr h)
    have c1 : ¬ dn b r.s - z - 1 ≤ r.g := by omega
    have c2 : ¬ (w = true ∧ r.p = "one") := fun h => hj (.inl h)
    have hl := tk_len (b := dn b r.s) (e := up e r.s) (by omega)
    have r1 : -4611686018427387904 ≤ dn b r.s := by omega
    have r2 : dn b r.s < 4611686018427387904 := by omega
    have r5 : G.length + ((tk (dn b r.s) (up e r.s)).length + 1) ≤ 16777216 := by omega
    have r6 : G.length + 1 + (tk (dn b r.s) (up e r.s)).length ≤ 16777216 := by omega
    have L := fun v0 v1 v2 v4 v5 v6 v7 v8 v9 v10 v11 => lc_tk (Fd := G ++ [z]) (b := dn b r.s) (e := up e r.s) (v0 := v0) (v1 := v1) (v2 := v2) (v4 := v4) (v5 := v5) (v6 := v6) (v7 := v7) (v8 := v8) (v9 := v9) (v10 := v10) (v11 := v11) (by omega) (fun t ht hx => by
      have h5 := mem_tk.mp ht
      rw [List.mem_append] at hx
      rcases hx with hx | hx
      · have := hG t hx
        omega
      · simp at hx
        omega)
    simp at L
    refine ⟨.val (.int (dn b r.s)), .val (.int (up e r.s)), .val (.int z), .val (.bl false), ?_, rfl, rfl, rfl, rfl⟩
    cases w
    · simp [PB, ruD, hs0, dn_law, up_law' hs.1, f8, f9, f10, f11, c1, lcAll, L, r1, r2, r3, r4, r5, r6, en, z0, hz]
    · have c3 : ¬ r.p = "one" := fun h => c2 ⟨rfl, h⟩
      simp [PB, ruD, hs0, dn_law, up_law' hs.1, f8, f9, f10, f11, c1, c3, lcAll, L, r1, r2, r3, r4, r5, r6, en, z0, hz]
end DL

set_option linter.all false
set_option maxRecDepth 100000
set_option maxHeartbeats 1000000
/-! painting -/
namespace DL
open PySem PySem.Spec PyProof.Rows L2 DD
theorem pb_in {c : Cl} {r : Ru} (ok : RuOk r) {w p : Bool} (h : wordOf r.p p = some w) {d1 F v4 v5 s7 s8 s9 s10 s11 : Slot} (f7 : s7.free = true) : ∃ t7 : Slot, D__law_painted_b1 c [.val (ruD r), d1, .val (.str (wd w)), F, v4, v5, .val (.bl p), s7, s8, s9, s10, s11, .none] = PB [.val (ruD r), d1, .val (.str (wd w)), F, v4, v5, .val (.bl p), t7, s8, s9, s10, s11, .none] ∧ t7.free = true := by
  refine ⟨.val (.str (wd w)), ?_, rfl⟩
  rw [pb_eq]
  cases p
  · simp [wordOf] at h
    subst h
    simp [ruD, f7]
  · have h4 := ok.p
    simp at h4
    rcases h4 with e | e | e | e
    · simp [wordOf, e] at h
      subst h
      simp [ruD, f7, e]
    · simp [wordOf, e] at h
    · simp [wordOf, e] at h
      subst h
      simp [ruD, f7, e]
    · simp [wordOf, e] at h
      subst h
      simp [ruD, f7, e]
theorem pb_out {c : Cl} {r : Ru} (ok : RuOk r) {w p : Bool} (h : ¬ wordOf r.p p = some w) {d1 F v4 v5 s7 s8 s9 s10 s11 : Slot} (f7 : s7.free = true) : ∃ t7 : Slot, D__law_painted_b1 c [.val (ruD r), d1, .val (.str (wd w)), F, v4, v5, .val (.bl p), s7, s8, s9, s10, s11, .none] = .nx [.val (ruD r), d1, .val (.str (wd w)), F, v4, v5, .val (.bl p), t7, s8, s9, s10, s11, .none] ∧ t7.free = true := by
  have ne1 : ¬ (Str.ofString "busy" = Str.ofString "private") := by decide +kernel
  have ne2 : ¬ (Str.ofString "private" = Str.ofString "busy") := by decide +kernel
  rw [pb_eq]
  cases p
  · simp [wordOf] at h
    subst h
    refine ⟨.val (.str "busy"), ?_, rfl⟩
    simp [ruD, f7, ne1, ne2]
  · have h4 := ok.p
    simp at h4
    rcases h4 with e | e | e | e
    · simp [wordOf, e] at h
      subst h
      refine ⟨.val (.str "busy"), ?_, rfl⟩
      simp [ruD, f7, e, ne1, ne2]
    · refine ⟨.val (.str "busy"), ?_, rfl⟩
      cases w <;> simp [ruD, f7, e, ne1, ne2]
    · simp [wordOf, e] at h
      subst h
      refine ⟨.val (.str "private"), ?_, rfl⟩
      simp [ruD, f7, e, ne1, ne2]
    · simp [wordOf, e] at h
      subst h
      refine ⟨.val (.str "private"), ?_, rfl⟩
      simp [ruD, f7, e, ne1, ne2]
theorem painted_v {c : Cl} {r : Ru} (ok : RuOk r) {n : Int} {ms : List Mt} (hm : Meets 0 ms) (hn : endOf 0 ms ≤ 1000) {w : Bool} : Gives 13 (D__law_painted c) [ruD r, dtD n ms, .str (wd w)] (.new (.lst ((flat (jnd r w ms)).map D.int))) ∧ Spc 2000 (jnd r w ms) := by
  have h1s := ok.s.1
  obtain ⟨ρ', e, J, a, s4, s5, s6, s7, s8, s9, s10, s11, rfl, _, _, _, _, _, _, _, _, hJ, hS, ha⟩ := forL_inv (U := uTup 3 (usCons (uName 4) (usCons (uName 5) (usCons (uName 6) usNil)))) (B := D__law_painted_b1 c) (ds := ms.map mtD) (fun i ρ => ∃ (J : List (Int × Int)) (a : Int) (s4 s5 s6 s7 s8 s9 s10 s11 : Slot), ρ = [.val (ruD r), .val (dtD n ms), .val (.str (wd w)), .own (.lst ((flat J).map D.int)), s4, s5, s6, s7, s8, s9, s10, s11, .none] ∧ s4.free = true ∧ s5.free = true ∧ s6.free = true ∧ s7.free = true ∧ s8.free = true ∧ s9.free = true ∧ s10.free = true ∧ s11.free = true ∧ J = ((ms.take i).filterMap (spanOf r w)).foldl (jn r w) [] ∧ Spc (up (endOf 0 (ms.take i)) r.s) J ∧ True) (fun i hi ρ hw => by
    obtain ⟨J, a, s4, s5, s6, s7, s8, s9, s10, s11, rfl, f4, f5, f6, f7, f8, f9, f10, f11, hJ, hS, _⟩ := hw
    simp at hi
    obtain ⟨g1, g2, g3, g4⟩ := Meets.at hm hi
    have g5 := endOf_le (i := i + 1) hm
    have e1 : ((ms.take (i + 1)).filterMap (spanOf r w)).foldl (jn r w) [] = match spanOf r w ms[i] with
      | some x => jn r w J x
      | none => J := by
      rw [List.take_add_one, List.filterMap_append, List.foldl_append, ← hJ]
      cases e : spanOf r w ms[i] <;> simp [hi, e]
    have g6 : 0 ≤ endOf 0 (ms.take i) := g4
    have g7 : endOf 0 (ms.take (i + 1)) ≤ 1000 := by omega
    have hst : stepL (uTup 3 (usCons (uName 4) (usCons (uName 5) (usCons (uName 6) usNil)))) (D__law_painted_b1 c) (ms.map mtD)[i] [.val (ruD r), .val (dtD n ms), .val (.str (wd w)), .own (.lst ((flat J).map D.int)), s4, s5, s6, s7, s8, s9, s10, s11, .none] = D__law_painted_b1 c [.val (ruD r), .val (dtD n ms), .val (.str (wd w)), .own (.lst ((flat J).map D.int)), .val (.int ms[i].1), .val (.int ms[i].2.1), .val (.bl ms[i].2.2), s7, s8, s9, s10, s11, .none] := by
      simp [mtD, f4, f5, f6]
    rw [hst]
    have hup : up (endOf 0 (ms.take i)) r.s ≤ up (endOf 0 (ms.take (i + 1))) r.s := up_mono h1s (by omega)
    by_cases hw : wordOf r.p ms[i].2.2 = some w
    · have hx : spanOf r w ms[i] = some (dn ms[i].1 r.s, up ms[i].2.1 r.s) := by simp [spanOf, hw]
      rw [hx] at e1
      dsimp only at e1
      obtain ⟨t7, e7, ft7⟩ := pb_in (c := c) ok hw (d1 := .val (dtD n ms)) (F := .own (.lst ((flat J).map D.int))) (v4 := .val (.int ms[i].1)) (v5 := .val (.int ms[i].2.1)) (s8 := s8) (s9 := s9) (s10 := s10) (s11 := s11) f7
      rw [e7]
      have d1 := dn_nonneg (b := ms[i].1) h1s (by omega)
      have d2 := dn_le (b := ms[i].1) h1s
      have d3 := le_up (e := ms[i].2.1) h1s
      rw [g3] at hup
      rcases List.eq_nil_or_concat J with hJ0 | ⟨J', y, hJ0⟩
      · subst hJ0
        obtain ⟨t8, t9, t10, t11, ep, q8, q9, q10, q11⟩ := pb_nil ok (w := w) (p := ms[i].2.2) (b := ms[i].1) (e := ms[i].2.1) (by omega) g2 (by omega) (d1 := .val (dtD n ms)) (s7 := t7) f8 f9 f10 f11
        refine ⟨_, .inl ep, jn r w [] (dn ms[i].1 r.s, up ms[i].2.1 r.s), 0, .val (.int ms[i].1), .val (.int ms[i].2.1), .val (.bl ms[i].2.2), t7, t8, t9, t10, t11, by rw [jn_nil]; simp [flat], rfl, rfl, rfl, ft7, q8, q9, q10, q11, e1.symm, ?_, trivial⟩
        rw [jn_nil, g3]
        exact Spc.snoc (J := []) (y := (dn ms[i].1 r.s, up ms[i].2.1 r.s)) (a := 0) Spc.nil d1 (fun x hx => by simp at hx) (by show dn ms[i].1 r.s < up ms[i].2.1 r.s; omega) (Int.le_refl _) (by show 0 ≤ up ms[i].2.1 r.s; omega)
      · rw [List.concat_eq_append] at hJ0
        subst hJ0
        have hy := hS.one y (by simp)
        have hy2 : tk y.1 y.2 = tk y.1 (y.2 - 1) ++ [y.2 - 1] := by
          have := tk_snoc (b := y.1) (e := y.2 - 1) (by omega)
          rwa [show y.2 - 1 + 1 = y.2 by omega] at this
        have hfl : flat (J' ++ [y]) = (flat J' ++ tk y.1 (y.2 - 1)) ++ [y.2 - 1] := by rw [flat_snoc, hy2, List.append_assoc]
        have hfn := flat_len (a := up (endOf 0 (ms.take i)) r.s) (by omega) hS
        have hu2 := le_up (e := endOf 0 (ms.take i)) h1s
        have hs8 := ok.s.2
        obtain ⟨t8, t9, t10, t11, ep, q8, q9, q10, q11⟩ := pb_cons ok (w := w) (p := ms[i].2.2) (b := ms[i].1) (e := ms[i].2.1) (z := y.2 - 1) (G := flat J' ++ tk y.1 (y.2 - 1)) (fun t ht => by
          rw [List.mem_append] at ht
          rcases ht with ht | ht
          · have := mem_flat hS.init ht
            omega
          · have := mem_tk.mp ht
            omega) (by omega) g2 (by omega) (by omega) (by omega) (by
          rw [hfl, List.length_append] at hfn
          omega) (d1 := .val (dtD n ms)) (s7 := t7) f8 f9 f10 f11
        rw [← hfl, show y.2 - 1 + 1 = y.2 by omega] at ep
        refine ⟨_, .inl ep, jn r w (J' ++ [y]) (dn ms[i].1 r.s, up ms[i].2.1 r.s), 0, .val (.int ms[i].1), .val (.int ms[i].2.1), .val (.bl ms[i].2.2), t7, t8, t9, t10, t11, ?_, rfl, rfl, rfl, ft7, q8, q9, q10, q11, e1.symm, ?_, trivial⟩
        · rw [jn_snoc]
          by_cases hj : isJ r w y.2 (dn ms[i].1 r.s)
          · rw [if_pos hj, if_pos hj, flat_snoc, flat_snoc, List.append_assoc, tk_app (by omega) (by omega)]
          · rw [if_neg hj, if_neg hj, flat_snoc (J := J' ++ [y])]
        · rw [jn_snoc, g3]
          by_cases hj : isJ r w y.2 (dn ms[i].1 r.s)
          · rw [if_pos hj]
            exact Spc.snoc (J := J') (y := (y.1, up ms[i].2.1 r.s)) (a := y.1) hS.init hy.1 (fun x hx => by
              exact (List.pairwise_append.mp hS.two).2.2 x hx y (by simp)) (by show y.1 < up ms[i].2.1 r.s; omega) (Int.le_refl _) (by show y.1 ≤ up ms[i].2.1 r.s; omega)
          · rw [if_neg hj]
            have hj2 : ¬ dn ms[i].1 r.s - y.2 ≤ r.g := fun h => hj (.inr h)
            have hg := ok.g.1
            exact Spc.snoc (J := J' ++ [y]) (y := (dn ms[i].1 r.s, up ms[i].2.1 r.s)) hS d1 (fun x hx => by
              rw [List.mem_append] at hx
              show x.2 < dn ms[i].1 r.s
              rcases hx with hx | hx
              · have h5 := (List.pairwise_append.mp hS.two).2.2 x hx y (by simp)
                omega
              · simp at hx
                subst hx
                omega) (by show dn ms[i].1 r.s < up ms[i].2.1 r.s; omega) (Int.le_refl _) hup
    · have hx : spanOf r w ms[i] = none := by simp [spanOf, hw]
      rw [hx] at e1
      dsimp only at e1
      obtain ⟨t7, e7, ft7⟩ := pb_out (c := c) ok hw (d1 := .val (dtD n ms)) (F := .own (.lst ((flat J).map D.int))) (v4 := .val (.int ms[i].1)) (v5 := .val (.int ms[i].2.1)) (s8 := s8) (s9 := s9) (s10 := s10) (s11 := s11) f7
      rw [e7]
      exact ⟨_, .inl rfl, J, 0, .val (.int ms[i].1), .val (.int ms[i].2.1), .val (.bl ms[i].2.2), t7, s8, s9, s10, s11, rfl, rfl, rfl, rfl, ft7, f8, f9, f10, f11, e1.symm, hS.mono hup, trivial⟩) (ρ := [.val (ruD r), .val (dtD n ms), .val (.str (wd w)), .own (.lst []), .none, .none, .none, .none, .none, .none, .none, .none, .none]) ⟨[], 0, .none, .none, .none, .none, .none, .none, .none, .none, rfl, rfl, rfl, rfl, rfl, rfl, rfl, rfl, rfl, rfl, Spc.nil, trivial⟩
  simp at hJ
  have hS' : Spc 2000 J := hS.mono (by
    have := (le_up (e := endOf 0 (ms.take (ms.map mtD).length)) h1s).2
    have := endOf_le (i := (ms.map mtD).length) hm
    have := ok.s.2
    omega)
  refine ⟨?_, by rw [jnd, ← hJ]; exact hS'⟩
  rw [jnd, ← hJ]
  simp [dtD] at e
  simp [Gives, D__law_painted, e, dtD]
end DL

set_option linter.all false
set_option maxRecDepth 100000
set_option maxHeartbeats 1000000
/-! the law's view -/
namespace DL
open PySem PySem.Spec PyProof.Rows L2 DD
theorem lshow_step {c : Cl} {r : Ru} {w : Bool} {x : Int × Int} (hx : x.1 < x.2) {F : List Bk} (hz : F.length < 100000) {d1 s4 s5 s6 s7 : Slot} (f4 : s4.free = true) (f5 : s5.free = true) (f6 : s6.free = true) (f7 : s7.free = true) : ∃ t6 t7 : Slot, stepL (uTup 2 (usCons (uName 4) (usCons (uName 5) usNil))) (D__law_show_b1 c) (seD x) [.val (ruD r), d1, .own (.lst (F.map bkD)), .val (.str (wd w)), s4, s5, s6, s7] = .nx [.val (ruD r), d1, .own (.lst ((F ++ (cutOf r x).toList.map fun x => (x.1, x.2, w)).map bkD)), .val (.str (wd w)), .val (.int x.1), .val (.int x.2), t6, t7] ∧ t6.free = true ∧ t7.free = true := by
  have hz' : F.length < 16777216 := by omega
  cases e : r.h with
  | none =>
    refine ⟨.val (.int x.1), .val (.int x.2), ?_, rfl, rfl⟩
    by_cases h : x.2 - x.1 < r.l
    · have h' : ¬ r.l ≤ x.2 - x.1 := by omega
      simp [D__law_show_b1, ruD, seD, hoD, f4, f5, f6, f7, e, cutOf, h, h', hx]
    · have h' : r.l ≤ x.2 - x.1 := by omega
      simp [D__law_show_b1, ruD, seD, hoD, f4, f5, f6, f7, e, cutOf, h, h', hx, hz', bkD]
  | some y =>
    refine ⟨.val (.int (mx x.1 y.1)), .val (.int (mn x.2 y.2)), ?_, rfl, rfl⟩
    by_cases h2 : mx x.1 y.1 < mn x.2 y.2
    · have h3 := h2
      unfold mx mn at h3
      by_cases h : x.2 - x.1 < r.l
      · have h' : ¬ r.l ≤ x.2 - x.1 := by omega
        simp [D__law_show_b1, ruD, seD, hoD, f4, f5, f6, f7, e, cutOf, h, h', h2, h3, mx, mn]
      · have h' : r.l ≤ x.2 - x.1 := by omega
        simp [D__law_show_b1, ruD, seD, hoD, f4, f5, f6, f7, e, cutOf, h, h', h2, h3, mx, mn, hz', bkD]
    · have h3 := h2
      unfold mx mn at h3
      by_cases h : x.2 - x.1 < r.l
      · have h' : ¬ r.l ≤ x.2 - x.1 := by omega
        simp [D__law_show_b1, ruD, seD, hoD, f4, f5, f6, f7, e, cutOf, h, h', h2, h3, mx, mn]
      · have h' : r.l ≤ x.2 - x.1 := by omega
        simp [D__law_show_b1, ruD, seD, hoD, f4, f5, f6, f7, e, cutOf, h, h', h2, h3, mx, mn]
theorem lshow_loop {c : Cl} {r : Ru} {w : Bool} {J : List (Int × Int)} (hJ : ∀ x ∈ J, x.1 < x.2) {F : List Bk} (hz : F.length + J.length < 100000) {d1 s4 s5 s6 s7 : Slot} (f4 : s4.free = true) (f5 : s5.free = true) (f6 : s6.free = true) (f7 : s7.free = true) : ∃ t4 t5 t6 t7 : Slot, forL (uTup 2 (usCons (uName 4) (usCons (uName 5) usNil))) (D__law_show_b1 c) (J.map seD) [.val (ruD r), d1, .own (.lst (F.map bkD)), .val (.str (wd w)), s4, s5, s6, s7] = .nx [.val (ruD r), d1, .own (.lst ((F ++ (J.filterMap (cutOf r)).map fun x => (x.1, x.2, w)).map bkD)), .val (.str (wd w)), t4, t5, t6, t7] ∧ t4.free = true ∧ t5.free = true ∧ t6.free = true ∧ t7.free = true := by
  obtain ⟨ρ', e, t4, t5, t6, t7, rfl, g4, g5, g6, g7⟩ := forL_inv (U := uTup 2 (usCons (uName 4) (usCons (uName 5) usNil))) (B := D__law_show_b1 c) (ds := J.map seD) (fun i ρ => ∃ s4 s5 s6 s7 : Slot, ρ = [.val (ruD r), d1, .own (.lst ((F ++ ((J.take i).filterMap (cutOf r)).map fun x => (x.1, x.2, w)).map bkD)), .val (.str (wd w)), s4, s5, s6, s7] ∧ s4.free = true ∧ s5.free = true ∧ s6.free = true ∧ s7.free = true) (fun i hi ρ hw => by
    obtain ⟨s4, s5, s6, s7, rfl, f4, f5, f6, f7⟩ := hw
    have hi' : i < J.length := by simpa using hi
    have hl := List.length_filterMap_le (cutOf r) (J.take i)
    have hl2 : (J.take i).length ≤ J.length := by rw [List.length_take]; omega
    obtain ⟨t6, t7, e, g6, g7⟩ := lshow_step (c := c) (r := r) (w := w) (x := J[i]) (hJ _ (List.getElem_mem hi')) (F := F ++ ((J.take i).filterMap (cutOf r)).map fun x => (x.1, x.2, w)) (by simp; omega) (d1 := d1) f4 f5 f6 f7
    rw [List.getElem_map]
    refine ⟨_, .inl e, .val (.int J[i].1), .val (.int J[i].2), t6, t7, ?_, rfl, rfl, g6, g7⟩
    have : (J.take (i + 1)).filterMap (cutOf r) = (J.take i).filterMap (cutOf r) ++ (cutOf r J[i]).toList := by
      rw [List.take_add_one, List.filterMap_append]
      cases e : cutOf r J[i] <;> simp [hi', e]
    rw [this]
    simp) (ρ := [.val (ruD r), d1, .own (.lst (F.map bkD)), .val (.str (wd w)), s4, s5, s6, s7]) ⟨s4, s5, s6, s7, by simp, f4, f5, f6, f7⟩
  refine ⟨t4, t5, t6, t7, ?_, g4, g5, g6, g7⟩
  rw [e]
  simp
theorem law_show_v {c : Cl} {r : Ru} (ok : RuOk r) {n : Int} {ms : List Mt} (hm : Meets 0 ms) (hn : endOf 0 ms ≤ 1000) (hz : ms.length ≤ 400) : Gives 8 (D__law_show c) [ruD r, dtD n ms] (.val (.tup ((srt bkP (showL r ms)).map bkD))) := by
  have run : ∀ w : Bool, ∃ ρ, fin (D__law_painted c [.val (ruD r), .val (dtD n ms), .val (.str (wd w)), .none, .none, .none, .none, .none, .none, .none, .none, .none, .none]) = .ok (.new (.lst ((flat (jnd r w ms)).map D.int))) ρ := fun w => by
    obtain ⟨ρ, e⟩ := (painted_v (c := c) ok (n := n) hm hn (w := w)).1.elim
    exact ⟨ρ, by simpa using e⟩
  have run2 : ∀ w : Bool, ∃ ρ, fin (D__law_runs c [.val (.lst ((flat (jnd r w ms)).map D.int)), .none, .none]) = .ok (.new (.lst ((jnd r w ms).map seD))) ρ := fun w => by
    have hS := (painted_v (c := c) ok (n := n) hm hn (w := w)).2
    have hl := flat_len (a := 2000) (by omega) hS
    obtain ⟨ρ, e⟩ := (runs_v (c := c) (L := flat (jnd r w ms)) (by omega)).elim
    rw [rn_flat (fun x hx => (hS.one x hx).2.1) (by simpa using hS.two)] at e
    exact ⟨ρ, by simpa using e⟩
  obtain ⟨_, a1⟩ := run false
  obtain ⟨_, a2⟩ := run true
  obtain ⟨_, b1⟩ := run2 false
  obtain ⟨_, b2⟩ := run2 true
  have l1 := jnd_len (r := r) (w := false) (ms := ms)
  have l2 := jnd_len (r := r) (w := true) (ms := ms)
  have m1 := blk_len (r := r) (w := false) (ms := ms)
  have m2 := blk_len (r := r) (w := true) (ms := ms)
  obtain ⟨t4, t5, t6, t7, e1, g4, g5, g6, g7⟩ := lshow_loop (c := c) (r := r) (w := false) (J := jnd r false ms) (fun x hx => ((painted_v (c := c) ok (n := n) hm hn (w := false)).2.one x hx).2.1) (F := []) (by simp; omega) (d1 := .val (dtD n ms)) (s4 := .none) (s5 := .none) (s6 := .none) (s7 := .none) rfl rfl rfl rfl
  obtain ⟨u4, u5, u6, u7, e2, _, _, _, _⟩ := lshow_loop (c := c) (r := r) (w := true) (J := jnd r true ms) (fun x hx => ((painted_v (c := c) ok (n := n) hm hn (w := true)).2.one x hx).2.1) (F := blk r false ms) (by omega) (d1 := .val (dtD n ms)) g4 g5 g6 g7
  obtain ⟨_, o⟩ := (in_order_v (c := c) bkO (L := showL r ms) (by rw [showL, List.length_append]; omega)).elim
  simp at a1 a2 b1 b2 e1 e2 o
  have bl : ∀ w, (jnd r w ms).filterMap (cutOf r) = (jnd r w ms).filterMap (cutOf r) := fun _ => rfl
  simp [blk] at e2
  simp [showL, blk] at o
  simp [Gives, D__law_show, forL, D__law_show_b2, a1, a2, b1, b2, e1, e2, o, showL, blk]
end DL

set_option linter.all false
set_option maxRecDepth 100000
set_option maxHeartbeats 1000000
/-! texts of days and rules -/
namespace DL
open PySem PySem.Spec PyProof.Rows L2 DD
def In (i : Int) : Prop := 0 ≤ i ∧ i ≤ 1100
theorem In.log {i : Int} (h : In i) : i.natAbs.log2 < 1920 := by
  have := Nat.log2_le_self i.natAbs
  have := h.1
  have := h.2
  omega
/-- the text of a number -/
def iT (i : Int) : Str := Str.ofString (toString i)
@[simp] theorem iT_r {i : Int} : Str.ofString i.repr = iT i := rfl
@[simp] theorem iT_s {i : Int} : Str.ofString (toString i) = iT i := rfl
theorem In.len {i : Int} (h : In i) : (iT i).length ≤ 5 := by
  have e := int_text_length_le10 (a := i) (k := 4) (by decide) (by have := h.1; have := h.2; omega)
  show (Str.ofString (toString i)).length ≤ 5
  rw [PySem.ofString_length]
  omega
@[simp] theorem e_app {x : Str} : Str.empty ++ x = x := Str.empty_append x
@[simp] theorem app_e {x : Str} : x ++ Str.ofString "" = x := Str.append_empty x
@[simp] theorem l_dash : (Str.ofString "-").length = 1 := by decide +kernel
@[simp] theorem l_priv : (Str.ofString " private").length = 8 := by decide +kernel
@[simp] theorem l_nil : (Str.ofString "").length = 0 := by decide +kernel
@[simp] theorem l_colon : (Str.ofString ": ").length = 2 := by decide +kernel
@[simp] theorem l_comma : (Str.ofString ", ").length = 2 := by decide +kernel
@[simp] theorem l_sp : (Str.ofString " ").length = 1 := by decide +kernel
theorem allS_map {α : Type} {f : α → Str} : ∀ L : List α, allS (L.map fun x => D.str (f x)) = some (L.map f)
  | [] => rfl
  | a :: L => by
    rw [List.map_cons, List.map_cons]
    simp only [allS, allS_map L, Option.map]
def mtT (m : Mt) : Str := if m.2.2 then iT m.1 ++ ("-" : Str) ++ iT m.2.1 ++ (" private" : Str) else iT m.1 ++ ("-" : Str) ++ iT m.2.1
theorem mtT_len {m : Mt} (h : In m.1) (h2 : In m.2.1) : (mtT m).length ≤ 20 := by
  have := h.len
  have := h2.len
  unfold mtT
  split <;> simp only [Str.length_append, l_dash, l_priv] <;> omega
theorem meeting_text_v {c : Cl} {m : Mt} (h : In m.1) (h2 : In m.2.1) : Gives 4 (D__meeting_text c) [mtD m] (.val (.str (mtT m))) := by
  obtain ⟨a, b, p⟩ := m
  have h1l : (iT a).length ≤ 5 := h.len
  have h2l : (iT b).length ≤ 5 := h2.len
  have h1g : a.natAbs.log2 < 1920 := h.log
  have h2g : b.natAbs.log2 < 1920 := h2.log
  have f2 : (iT a).length ≤ 16777216 := by omega
  have f3 : (iT a).length ≤ 16777215 := by omega
  have f4 : (iT a).length + 1 + (iT b).length ≤ 16777216 := by omega
  have f5 : (iT a).length + 1 + (iT b).length ≤ 16777208 := by omega
  cases p <;> simp [Gives, D__meeting_text, mtD, mtT, h1g, h2g, f2, f3, f4, f5, Str.length_append]
theorem strOk_app {x y : Str} : PyData.strOk (x ++ y) = (PyData.strOk x && PyData.strOk y) := by
  unfold PyData.strOk
  rw [Str.cps_append, Array.all_append]
theorem mtT_ok {m : Mt} (h : In m.1) (h2 : In m.2.1) : PyData.strOk (mtT m) = true := by
  have a : PyData.strOk (iT m.1) = true := okInt h.1
  have b : PyData.strOk (iT m.2.1) = true := okInt h2.1
  have e1 : PyData.strOk ("-" : Str) = true := by decide +kernel
  have e2 : PyData.strOk (" private" : Str) = true := by decide +kernel
  unfold mtT
  split <;> simp only [strOk_app, a, b, e1, e2, Bool.and_self]
theorem pyA_strs : ∀ L : List Str, D.pyA (L.map D.str) = some (L.map PyData.str)
  | [] => rfl
  | a :: L => by
    rw [List.map_cons, List.map_cons]
    simp only [D.pyA, D.py, pyA_strs L]
theorem eqB_strs_nil {L : List Str} (h : ∀ x ∈ L, PyData.strOk x = true) : eqB (.lst (L.map D.str)) (.lst []) = some L.isEmpty := by
  have e : (D.lst (L.map D.str)).py = some (.list (L.map PyData.str)) := by simp only [D.py, pyA_strs L, Option.map]
  show (match (D.lst (L.map D.str)).py, (D.lst []).py with
    | some p, some q => if SeqAt.shaped p = true ∧ SeqAt.shaped q = true then some (PyData.eqv p q) else none
    | _, _ => match D.lst (L.map D.str), D.lst [] with
      | .lst ds, .lst es => if ds.length = es.length then none else some false
      | _, _ => none) = _
  rw [e]
  show (if SeqAt.shaped (.list (L.map PyData.str)) = true ∧ SeqAt.shaped (.list []) = true then some (PyData.eqv (.list (L.map PyData.str)) (.list [])) else none) = _
  rw [if_pos ⟨shapedStrs h, rfl⟩]
  cases L with
  | nil => rfl
  | cons a L => rfl
def InM (ms : List Mt) : Prop := ∀ m ∈ ms, In m.1 ∧ In m.2.1
def msT (ms : List Mt) : Str := if ms = [] then "-" else Txt.join ", " (ms.map mtT)
def dyT (n : Int) (ms : List Mt) : Str := iT n ++ (": " : Str) ++ msT ms
theorem sum_mt {ms : List Mt} (h : InM ms) : ((ms.map mtT).map (·.length)).sum ≤ ms.length * 20 := by
  have := sum_le (f := fun m => (mtT m).length) (k := 20) (xs := ms) fun m hm => mtT_len (h m hm).1 (h m hm).2
  rw [List.map_map]
  exact this
theorem msT_len {ms : List Mt} (h : InM ms) (hz : ms.length ≤ 400) : (msT ms).length ≤ 10000 := by
  unfold msT
  split
  · simp
  · have h1 := join_len (s := (", " : Str)) (xs := ms.map mtT)
    have h2 := sum_mt h
    simp only [l_comma, List.length_map] at h1
    omega
theorem meetings_text_v {c : Cl} {ms : List Mt} (h : InM ms) (hz : ms.length ≤ 400) : Gives 2 (D__meetings_text c) [.tup (ms.map mtD)] (.val (.str (msT ms))) := by
  have L := lc_fm (vs := [1]) (U := uName 1) (T := tdYes) (A := dCall 1 4 (D__meeting_text c) (aCons (dVar 1) aNil)) (enc := mtD) (fun m => some (.str (mtT m))) (ρ := [.val (.tup (ms.map mtD)), .none]) (L := ms) (acc := []) (fun m hm ds acc ha => by
    obtain ⟨_, p⟩ := (meeting_text_v (c := c) (h m hm).1 (h m hm).2).elim
    simp at p
    have ha' : acc.length < 16777216 := by omega
    simp [lcL, p, ha']) (by simp; omega)
  have hs := sum_mt h
  have hs2 : ((ms.map mtT).map (·.length)).sum + (ms.map mtT).length * 2 ≤ 16777216 := by rw [List.length_map]; omega
  have hA := allS_map (f := mtT) ms
  simp [Function.comp_def] at L hs2 hA
  cases ms with
  | nil => simp [Gives, D__meetings_text, msT]
  | cons m ms =>
    have h0 : ¬ ((ms.length : Int) + 1 = 0) := by omega
    simp [Function.comp_def] at L hs2 hA
    simp [Gives, D__meetings_text, msT, lcAll, L, hA, hs2, h0, Function.comp_def]
end DL

set_option linter.all false
set_option maxRecDepth 100000
set_option maxHeartbeats 1000000
/-! texts of days and rules -/
namespace DL
open PySem PySem.Spec PyProof.Rows L2 DD
theorem day_str_v {c : Cl} {n : Int} {ms : List Mt} (hn : In n) (h : InM ms) (hz : ms.length ≤ 400) : Gives 1 (D_Day___str__ c) [dvD c n ms] (.val (.str (dyT n ms))) := by
  obtain ⟨_, p⟩ := (meetings_text_v (c := c) h hz).elim
  simp at p
  have l1 := hn.len
  have l2 := msT_len h hz
  have f1 : n.natAbs.log2 < 1920 := hn.log
  have f2 : (iT n).length ≤ 16777216 := by omega
  have f3 : (iT n).length ≤ 16777214 := by omega
  have f4 : (iT n).length + 2 + (msT ms).length ≤ 16777216 := by omega
  have f5 : (msT ms).length ≤ 16777216 := by omega
  simp [Gives, D_Day___str__, dvD, p, f1, f2, f3, f4, f5, Str.length_append, dyT]
theorem law_day_text_v {c : Cl} {n : Int} {ms : List Mt} (hn : In n) (h : InM ms) (hz : ms.length ≤ 400) : Gives 5 (D__law_day_text c) [dtD n ms] (.val (.str (dyT n ms))) := by
  have L := lc_fm (vs := [2, 3, 4]) (U := uTup 3 (usCons (uName 2) (usCons (uName 3) (usCons (uName 4) usNil)))) (T := tdYes) (A := dBin opAdd (dBin opAdd (dBin opAdd (dCB fStr (aCons (dVar 2) aNil)) (dC (.str "-"))) (dCB fStr (aCons (dVar 3) aNil))) (dIfE (dTest (dVar 4)) (dC (.str " private")) (dC (.str "")))) (enc := mtD) (fun m => some (.str (mtT m))) (ρ := [.val (dtD n ms), .none, .none, .none, .none]) (L := ms) (acc := []) (fun m hm ds acc ha => by
    obtain ⟨h1, h2⟩ := h m hm
    have ha' : acc.length < 16777216 := by omega
    have l1 : (iT m.1).length ≤ 5 := h1.len
    have l2 : (iT m.2.1).length ≤ 5 := h2.len
    have g1 := h1.log
    have g2 := h2.log
    have f3 : (iT m.1).length ≤ 16777215 := by omega
    have f4 : (iT m.1).length + 1 + (iT m.2.1).length ≤ 16777216 := by omega
    have f5 : (iT m.1).length + 1 + (iT m.2.1).length ≤ 16777208 := by omega
    obtain ⟨a, b, p⟩ := m
    cases p
    · simp at g1 g2 f3 f4 f5
      simp [lcL, ha', mtD, mtT, g1, g2, f3, f4, f5, Str.length_append]
    · simp at g1 g2 f3 f4 f5
      simp [lcL, ha', mtD, mtT, g1, g2, f3, f4, f5, Str.length_append]) (by simp; omega)
  have hs := sum_mt h
  have hs2 : ((ms.map mtT).map (·.length)).sum + (ms.map mtT).length * 2 ≤ 16777216 := by rw [List.length_map]; omega
  have hA := allS_map (f := mtT) ms
  have en := eqB_strs_nil (L := ms.map mtT) (fun x hx => by
    obtain ⟨m, hm, rfl⟩ := List.mem_map.mp hx
    exact mtT_ok (h m hm).1 (h m hm).2)
  have l1 := hn.len
  have l2 := msT_len h hz
  have f1 : n.natAbs.log2 < 1920 := hn.log
  have f3 : (iT n).length ≤ 16777214 := by omega
  have f4 : (iT n).length + 2 + (msT ms).length ≤ 16777216 := by omega
  cases ms with
  | nil =>
    simp [dtD] at L
    simp [msT] at f4
    simp [Gives, D__law_day_text, msT, dtD, lcAll, L, f1, f3, f4, Str.length_append, dyT]
  | cons m ms =>
    simp [Function.comp_def] at L hs2 hA en
    simp [msT] at f4
    simp [dtD] at L
    simp [Gives, D__law_day_text, msT, dtD, lcAll, L, f1, f3, f4, hA, en, hs2, Str.length_append, dyT, Function.comp_def]
/-- the text of a rule -/
def hoT : Option (Int × Int) → Str
  | none => ""
  | some x => (" hours " : Str) ++ iT x.1 ++ ("-" : Str) ++ iT x.2
def ruT (r : Ru) : Str := ("step " : Str) ++ iT r.s ++ (" gap " : Str) ++ iT r.g ++ (" least " : Str) ++ iT r.l ++ (" private " : Str) ++ r.p ++ hoT r.h
@[simp] theorem l_hours : (Str.ofString " hours ").length = 7 := by decide +kernel
@[simp] theorem l_step : (Str.ofString "step ").length = 5 := by decide +kernel
@[simp] theorem l_gap : (Str.ofString " gap ").length = 5 := by decide +kernel
@[simp] theorem l_least : (Str.ofString " least ").length = 7 := by decide +kernel
@[simp] theorem l_private : (Str.ofString " private ").length = 9 := by decide +kernel
/-- rules whose numbers are small -/
structure RuT (r : Ru) : Prop where
  s : In r.s
  g : In r.g
  l : In r.l
  p : r.p.length ≤ 5
  h : ∀ x, r.h = some x → In x.1 ∧ In x.2
theorem RuOk.t {r : Ru} (h : RuOk r) : RuT r := by
  have h1 := h.s
  have h2 := h.g
  have h3 := h.l
  refine ⟨⟨by omega, by omega⟩, ⟨by omega, by omega⟩, ⟨by omega, by omega⟩, ?_, fun x e => ?_⟩
  · have := h.p
    simp at this
    rcases this with e | e | e | e <;> rw [e] <;> decide +kernel
  · have := h.h x e
    exact ⟨⟨by omega, by omega⟩, ⟨by omega, by omega⟩⟩
theorem hoT_len {h : Option (Int × Int)} (ok : ∀ x, h = some x → In x.1 ∧ In x.2) : (hoT h).length ≤ 18 := by
  cases h with
  | none => simp [hoT]
  | some x =>
    have h1 := (ok x rfl).1.len
    have h2 := (ok x rfl).2.len
    simp only [hoT, Str.length_append, l_hours, l_dash]
    omega
theorem hours_text_v {c : Cl} {h : Option (Int × Int)} (ok : ∀ x, h = some x → In x.1 ∧ In x.2) : Gives 1 (D__hours_text c) [hoD h] (.val (.str (hoT h))) := by
  cases h with
  | none => simp [Gives, D__hours_text, hoD, hoT]
  | some x =>
    have l1 := (ok x rfl).1.len
    have l2 := (ok x rfl).2.len
    have g1 := (ok x rfl).1.log
    have g2 := (ok x rfl).2.log
    have f3 : 7 + (iT x.1).length ≤ 16777216 := by omega
    have f4 : 7 + (iT x.1).length ≤ 16777215 := by omega
    have f5 : 7 + (iT x.1).length + 1 + (iT x.2).length ≤ 16777216 := by omega
    simp [Gives, D__hours_text, hoD, hoT, g1, g2, f3, f4, f5, Str.length_append]
theorem rule_str_v {c : Cl} {r : Ru} (ok : RuT r) : Gives 1 (D_Rule___str__ c) [rvD c r] (.val (.str (ruT r))) := by
  obtain ⟨_, p⟩ := (hours_text_v (c := c) ok.h).elim
  simp at p
  have l1 := ok.s.len
  have l2 := ok.g.len
  have l3 := ok.l.len
  have l4 := ok.p
  have l5 := hoT_len ok.h
  have g1 := ok.s.log
  have g2 := ok.g.log
  have g3 := ok.l.log
  have f0 : r.p.length ≤ 16777216 := by omega
  have f00 : (hoT r.h).length ≤ 16777216 := by omega
  have a1 : 5 + (iT r.s).length ≤ 16777216 := by omega
  have a2 : 5 + (iT r.s).length ≤ 16777211 := by omega
  have a3 : 5 + (iT r.s).length + 5 + (iT r.g).length ≤ 16777216 := by omega
  have a4 : 5 + (iT r.s).length + 5 + (iT r.g).length ≤ 16777209 := by omega
  have a5 : 5 + (iT r.s).length + 5 + (iT r.g).length + 7 + (iT r.l).length ≤ 16777216 := by omega
  have a6 : 5 + (iT r.s).length + 5 + (iT r.g).length + 7 + (iT r.l).length ≤ 16777207 := by omega
  have a7 : 5 + (iT r.s).length + 5 + (iT r.g).length + 7 + (iT r.l).length + 9 + r.p.length ≤ 16777216 := by omega
  have a8 : 5 + (iT r.s).length + 5 + (iT r.g).length + 7 + (iT r.l).length + 9 + r.p.length + (hoT r.h).length ≤ 16777216 := by omega
  simp [Gives, D_Rule___str__, rvD, p, g1, g2, g3, f0, f00, a1, a2, a3, a4, a5, a6, a7, a8, Str.length_append, ruT]
end DL

set_option linter.all false
set_option maxRecDepth 100000
set_option maxHeartbeats 1000000
/-! the law's text of a rule -/
namespace DL
open PySem PySem.Spec PyProof.Rows L2 DD
theorem join_one {s x : Str} : Txt.join s [x] = x := by
  rw [show Txt.join s [x] = Str.join s [x] from StrLaws.glued_eq_join s [x]]
  rfl
theorem join_cons {s x y : Str} {l : List Str} : Txt.join s (x :: y :: l) = x ++ (s ++ Txt.join s (y :: l)) := by
  rw [show Txt.join s (x :: y :: l) = Str.join s (x :: y :: l) from StrLaws.glued_eq_join _ _, show Txt.join s (y :: l) = Str.join s (y :: l) from StrLaws.glued_eq_join _ _]
  show x ++ s ++ Str.join s (y :: l) = _
  rw [Str.append_assoc]
def ruW1 (r : Ru) : List Str := [("step" : Str), iT r.s, ("gap" : Str), iT r.g, ("least" : Str), iT r.l, ("private" : Str), r.p]
def ruW2 : Option (Int × Int) → List Str
  | none => []
  | some x => [("hours" : Str), iT x.1 ++ ("-" : Str) ++ iT x.2]
def ruW (r : Ru) : List Str := ruW1 r ++ ruW2 r.h
theorem ruW_join {r : Ru} : Txt.join " " (ruW r) = ruT r := by
  have e1 : ("step " : Str) = ("step" : Str) ++ (" " : Str) := by decide +kernel
  have e2 : (" gap " : Str) = (" " : Str) ++ ("gap" : Str) ++ (" " : Str) := by decide +kernel
  have e3 : (" least " : Str) = (" " : Str) ++ ("least" : Str) ++ (" " : Str) := by decide +kernel
  have e4 : (" private " : Str) = (" " : Str) ++ ("private" : Str) ++ (" " : Str) := by decide +kernel
  have e5 : (" hours " : Str) = (" " : Str) ++ ("hours" : Str) ++ (" " : Str) := by decide +kernel
  obtain ⟨s, g, l, p, h⟩ := r
  cases h with
  | none =>
    simp only [ruW, ruW1, ruW2, ruT, hoT, List.append_nil, join_one, join_cons, e1, e2, e3, e4, Str.append_assoc, app_e]
  | some x =>
    simp only [ruW, ruW1, ruW2, ruT, hoT, List.cons_append, List.nil_append, join_one, join_cons, e1, e2, e3, e4, e5, Str.append_assoc]
theorem law_rule_text_v {c : Cl} {r : Ru} (ok : RuT r) : Gives 2 (D__law_rule_text c) [ruD r] (.val (.str (ruT r))) := by
  have l1 := ok.s.len
  have l2 := ok.g.len
  have l3 := ok.l.len
  have l4 := ok.p
  have g1 := ok.s.log
  have g2 := ok.g.log
  have g3 := ok.l.log
  have k1 : (Str.ofString "step").length = 4 := by decide +kernel
  have k2 : (Str.ofString "gap").length = 3 := by decide +kernel
  have k3 : (Str.ofString "least").length = 5 := by decide +kernel
  have k4 : (Str.ofString "private").length = 7 := by decide +kernel
  have k5 : (Str.ofString "hours").length = 5 := by decide +kernel
  have hj := ruW_join (r := r)
  cases e : r.h with
  | none =>
    have hs : ((ruW r).map (·.length)).sum + (ruW r).length * 1 ≤ 16777216 := by
      simp [ruW, ruW1, ruW2, e, k1, k2, k3, k4]
      omega
    simp [ruW, ruW1, ruW2, e, k1, k2, k3, k4] at hs hj
    simp [Gives, D__law_rule_text, ruD, hoD, e, g1, g2, g3, k1, k2, k3, k4, hs, hj]
  | some x =>
    have m1 := (ok.h x e).1.len
    have m2 := (ok.h x e).2.len
    have n1 := (ok.h x e).1.log
    have n2 := (ok.h x e).2.log
    have f3 : (iT x.1).length ≤ 16777215 := by omega
    have f4 : (iT x.1).length + 1 + (iT x.2).length ≤ 16777216 := by omega
    have hs : ((ruW r).map (·.length)).sum + (ruW r).length * 1 ≤ 16777216 := by
      simp [ruW, ruW1, ruW2, e, k1, k2, k3, k4, k5, Str.length_append]
      omega
    simp [ruW, ruW1, ruW2, e, k1, k2, k3, k4, k5, Str.length_append] at hs hj
    simp [Gives, D__law_rule_text, ruD, hoD, e, g1, g2, g3, k1, k2, k3, k4, k5, n1, n2, f3, f4, hs, hj, Str.length_append]
end DL

set_option linter.all false
set_option maxRecDepth 100000
set_option maxHeartbeats 1000000
/-! rules: equal, normal, alike; but -/
namespace DL
open PySem PySem.Spec PyProof.Rows L2 DD
theorem eqB_tup {ds es : List D} {ps qs : List PyData} (h1 : D.pyA ds = some ps) (h2 : D.pyA es = some qs) (s1 : SeqAt.shaped (.tuple ps) = true) (s2 : SeqAt.shaped (.tuple qs) = true) : eqB (.tup ds) (.tup es) = some (PyData.eqvAll ps qs) := by
  have e1 : (D.tup ds).py = some (.tuple ps) := by simp only [D.py, h1, Option.map]
  have e2 : (D.tup es).py = some (.tuple qs) := by simp only [D.py, h2, Option.map]
  show (match (D.tup ds).py, (D.tup es).py with
    | some p, some q => if SeqAt.shaped p = true ∧ SeqAt.shaped q = true then some (PyData.eqv p q) else none
    | _, _ => match D.tup ds, D.tup es with
      | .lst ds, .lst es => if ds.length = es.length then none else some false
      | _, _ => none) = _
  rw [e1, e2]
  show (if SeqAt.shaped (.tuple ps) = true ∧ SeqAt.shaped (.tuple qs) = true then some (PyData.eqv (.tuple ps) (.tuple qs)) else none) = _
  rw [if_pos ⟨s1, s2⟩, PyData.eqv]
theorem eqB_lst {ds es : List D} {ps qs : List PyData} (h1 : D.pyA ds = some ps) (h2 : D.pyA es = some qs) (s1 : SeqAt.shaped (.list ps) = true) (s2 : SeqAt.shaped (.list qs) = true) : eqB (.lst ds) (.lst es) = some (PyData.eqvAll ps qs) := by
  have e1 : (D.lst ds).py = some (.list ps) := by simp only [D.py, h1, Option.map]
  have e2 : (D.lst es).py = some (.list qs) := by simp only [D.py, h2, Option.map]
  show (match (D.lst ds).py, (D.lst es).py with
    | some p, some q => if SeqAt.shaped p = true ∧ SeqAt.shaped q = true then some (PyData.eqv p q) else none
    | _, _ => match D.lst ds, D.lst es with
      | .lst ds, .lst es => if ds.length = es.length then none else some false
      | _, _ => none) = _
  rw [e1, e2]
  show (if SeqAt.shaped (.list ps) = true ∧ SeqAt.shaped (.list qs) = true then some (PyData.eqv (.list ps) (.list qs)) else none) = _
  rw [if_pos ⟨s1, s2⟩, PyData.eqv]
theorem sh_b4 {a b c d : Bool} : SeqAt.shaped (.list [.bool a, .bool b, .bool c, .bool d]) = true := by
  simp [SeqAt.shaped, PyData.canLay0, PyData.canLayAll0, PyData.depth, PyData.depthAll]
@[simp] theorem eq_b4 {a b c d a' b' c' d' : Bool} : eqB (.lst [.bl a, .bl b, .bl c, .bl d]) (.lst [.bl a', .bl b', .bl c', .bl d']) = some (decide (a = a' ∧ b = b' ∧ c = c' ∧ d = d')) := by
  rw [eqB_lst (ps := [.bool a, .bool b, .bool c, .bool d]) (qs := [.bool a', .bool b', .bool c', .bool d']) rfl rfl sh_b4 sh_b4]
  cases a <;> cases b <;> cases c <;> cases d <;> cases a' <;> cases b' <;> cases c' <;> cases d' <;> rfl
def w4 (p : Str) : Prop := p ∈ (["busy", "none", "apart", "one"] : List Str)
theorem w4_ok {p : Str} (h : w4 p) : PyData.strOk p = true := by
  simp [w4] at h
  rcases h with rfl | rfl | rfl | rfl <;> decide +kernel
theorem sh_r4 {s g l : Int} {p : Str} (h : PyData.strOk p = true) : SeqAt.shaped (.tuple [.int s, .int g, .int l, .str p]) = true := by
  simp [SeqAt.shaped, PyData.canLay0, PyData.canLayAll0, PyData.depth, PyData.depthAll, h]
theorem eq_r4 {s g l s' g' l' : Int} {p p' : Str} (h : w4 p) (h' : w4 p') : eqB (.tup [.int s, .int g, .int l, .str p]) (.tup [.int s', .int g', .int l', .str p']) = some (decide (s = s' ∧ g = g' ∧ l = l' ∧ p = p')) := by
  rw [eqB_tup (ps := [.int s, .int g, .int l, .str p]) (qs := [.int s', .int g', .int l', .str p']) rfl rfl (sh_r4 (w4_ok h)) (sh_r4 (w4_ok h'))]
  congr 1
  rw [Bool.eq_iff_iff]
  simp [PyData.eqvAll, PyData.eqv]
theorem sh_2 {s g : Int} : SeqAt.shaped (.tuple [.int s, .int g]) = true := by
  simp [SeqAt.shaped, PyData.canLay0, PyData.canLayAll0, PyData.depth, PyData.depthAll]
theorem eq_ho {a b : Option (Int × Int)} : eqB (hoD a) (hoD b) = some (decide (a = b)) := by
  cases a with
  | none => cases b <;> rfl
  | some x =>
    cases b with
    | none => rfl
    | some y =>
      obtain ⟨x1, x2⟩ := x
      obtain ⟨y1, y2⟩ := y
      show eqB (.tup [.int x1, .int x2]) (.tup [.int y1, .int y2]) = _
      rw [eqB_tup (ps := [.int x1, .int x2]) (qs := [.int y1, .int y2]) rfl rfl sh_2 sh_2]
      congr 1
      rw [Bool.eq_iff_iff]
      simp [PyData.eqvAll, PyData.eqv]
theorem Ru.ext {a b : Ru} (h1 : a.s = b.s) (h2 : a.g = b.g) (h3 : a.l = b.l) (h4 : a.p = b.p) (h5 : a.h = b.h) : a = b := by
  cases a; cases b
  cases h1; cases h2; cases h3; cases h4; cases h5
  rfl
instance : DecidableEq Ru := fun a b => if h : a.s = b.s ∧ a.g = b.g ∧ a.l = b.l ∧ a.p = b.p ∧ a.h = b.h then .isTrue (Ru.ext h.1 h.2.1 h.2.2.1 h.2.2.2.1 h.2.2.2.2) else .isFalse fun e => h (by subst e; exact ⟨rfl, rfl, rfl, rfl, rfl⟩)
theorem rule_eq_v {c : Cl} {a b : Ru} : Gives 2 (D_Rule___eq__ c) [rvD c a, rvD c b] (.val (.bl (decide (a = b)))) := by
  have e : decide (a = b) = (decide (a.s = b.s) && (decide (a.g = b.g) && (decide (a.l = b.l) && (decide (a.p = b.p) && decide (a.h = b.h))))) := by
    rw [Bool.eq_iff_iff]
    simp
    constructor
    · rintro rfl
      exact ⟨rfl, rfl, rfl, rfl, rfl⟩
    · rintro ⟨h1, h2, h3, h4, h5⟩
      exact Ru.ext h1 h2 h3 h4 h5
  rw [e]
  have h5 := eq_ho (a := a.h) (b := b.h)
  by_cases h1 : a.s = b.s
  · by_cases h2 : a.g = b.g
    · by_cases h3 : a.l = b.l
      · by_cases h4 : a.p = b.p
        · simp [Gives, D_Rule___eq__, rvD, h5, anyK, kitD, h1, h2, h3, h4]
        · simp [Gives, D_Rule___eq__, rvD, anyK, kitD, h1, h2, h3, h4]
      · simp [Gives, D_Rule___eq__, rvD, anyK, kitD, h1, h2, h3]
    · simp [Gives, D_Rule___eq__, rvD, anyK, kitD, h1, h2]
  · simp [Gives, D_Rule___eq__, rvD, anyK, kitD, h1]
/-- the normal rule -/
def ruN (r : Ru) : Ru := ⟨r.s, r.g / r.s * r.s, if r.l ≤ r.s then 0 else (r.l + r.s - 1) / r.s * r.s, r.p, r.h⟩
structure RuB (r : Ru) : Prop extends RuIn r where
  s2 : r.s ≤ 8
  g2 : r.g ≤ 1000
  l2 : r.l ≤ 1000
theorem mul_div_le {a s : Int} (h : 0 < s) : a / s * s ≤ a ∧ a - s < a / s * s := by
  have h1 := Int.mul_ediv_add_emod a s
  have h2 := Int.emod_nonneg a (Int.ne_of_gt h)
  have h3 := Int.emod_lt_of_pos a h
  rw [Int.mul_comm] at h1
  omega
theorem ruN_in {r : Ru} (ok : RuB r) : RuIn (ruN r) := by
  have h := ok.s
  have hg := ok.g
  have hl := ok.l
  refine ⟨ok.s, ?_, ?_, ok.p, ok.h⟩
  · exact Int.mul_nonneg (Int.ediv_nonneg hg (by omega)) (by omega)
  · show 0 ≤ (if r.l ≤ r.s then 0 else (r.l + r.s - 1) / r.s * r.s)
    split
    · exact Int.le_refl 0
    · exact Int.mul_nonneg (Int.ediv_nonneg (by omega) (by omega)) (by omega)
theorem normal_v {c : Cl} {r : Ru} (ok : RuB r) : Gives 4 (D_Rule_normal_2 c) [rvD c r] (.new (ruO c (ruN r))) := by
  obtain ⟨_, p, q⟩ := (rule_init (c := c) (ruN_in ok)).elim
  have h1 := ok.s
  have h2 := ok.s2
  have h3 := ok.g
  have h4 := ok.l
  have h5 := ok.g2
  have h6 := ok.l2
  have d1 : ∀ x, CDiv x r.s := fun x => ⟨by omega, by omega⟩
  have m1 : ∀ x, CMul x r.s := fun x => .inr ⟨by omega, by omega⟩
  by_cases h7 : r.l ≤ r.s
  · simp [ruN, h7] at p q
    simp [Gives, D_Rule_normal_2, rvD, d1, m1, h7, p, q, ruN]
  · simp [ruN, h7] at p q
    simp [Gives, D_Rule_normal_2, rvD, d1, m1, h7, p, q, ruN]
theorem normal_parts_v {c : Cl} {r : Ru} (ok : RuB r) : Gives 2 (D__normal_parts c) [rvD c r] (.val (.tup [.int (ruN r).s, .int (ruN r).g, .int (ruN r).l, .str (ruN r).p])) := by
  obtain ⟨_, p⟩ := (normal_v (c := c) ok).elim
  simp [rvD, ruO] at p
  simp [Gives, D__normal_parts, rvD, p]
/-- shown alike -/
def ruA (a b : Ru) : Bool := decide ((ruN a).s = (ruN b).s ∧ (ruN a).g = (ruN b).g ∧ (ruN a).l = (ruN b).l ∧ (ruN a).p = (ruN b).p)
theorem alike_v {c : Cl} {a b : Ru} (oa : RuB a) (ob : RuB b) : Gives 2 (D_alike c) [rvD c a, rvD c b] (.val (.bl (ruA a b))) := by
  obtain ⟨_, p1⟩ := (normal_parts_v (c := c) oa).elim
  obtain ⟨_, p2⟩ := (normal_parts_v (c := c) ob).elim
  have e := eq_r4 (s := (ruN a).s) (g := (ruN a).g) (l := (ruN a).l) (s' := (ruN b).s) (g' := (ruN b).g) (l' := (ruN b).l) (p := (ruN a).p) (p' := (ruN b).p) oa.p ob.p
  simp [rvD] at p1 p2
  simp [Gives, D_alike, rvD, p1, p2, e, ruA]
theorem ceil_eq {l s : Int} (h : 1 ≤ s) : l + (0 - l) % s = (l + s - 1) / s * s := by
  have a1 := Int.mul_ediv_add_emod (l + s - 1) s
  have a2 := Int.emod_nonneg (l + s - 1) (show s ≠ 0 by omega)
  have a3 := Int.emod_lt_of_pos (l + s - 1) (show 0 < s by omega)
  have b1 := Int.mul_ediv_add_emod (0 - l) s
  have b2 := Int.emod_nonneg (0 - l) (show s ≠ 0 by omega)
  have b3 := Int.emod_lt_of_pos (0 - l) (show 0 < s by omega)
  rw [Int.mul_comm] at a1
  generalize (l + s - 1) / s = q at *
  generalize (0 - l) / s = t at *
  generalize (l + s - 1) % s = u at *
  generalize (0 - l) % s = v at *
  have key : t = -q := by
    have h1 : s * (t + q) < s := by
      rw [Int.mul_add, Int.mul_comm s q]
      omega
    have h2 : -s < s * (t + q) := by
      rw [Int.mul_add, Int.mul_comm s q]
      omega
    have h3 : t + q < 1 := by
      rcases Int.lt_or_le (t + q) 1 with z | z
      · exact z
      · have := Int.mul_le_mul_of_nonneg_left z (show 0 ≤ s by omega)
        omega
    have h4 : -1 < t + q := by
      rcases Int.lt_or_le (-1) (t + q) with z | z
      · exact z
      · have := Int.mul_le_mul_of_nonneg_left z (show 0 ≤ s by omega)
        omega
    omega
  subst key
  rw [Int.mul_neg, Int.mul_comm] at b1
  omega
theorem ceil_big {l s : Int} (h : 1 ≤ s) : s < (l + s - 1) / s * s ↔ s < l := by
  have a1 := Int.mul_ediv_add_emod (l + s - 1) s
  have a2 := Int.emod_nonneg (l + s - 1) (show s ≠ 0 by omega)
  have a3 := Int.emod_lt_of_pos (l + s - 1) (show 0 < s by omega)
  rw [Int.mul_comm] at a1
  constructor
  · intro z
    rcases Int.lt_or_le s l with y | y
    · exact y
    · have : (l + s - 1) / s * s ≤ 2 * s - 1 := by omega
      have h2 : (l + s - 1) / s < 2 := by
        rcases Int.lt_or_le ((l + s - 1) / s) 2 with z | z
        · exact z
        · have := Int.mul_le_mul_of_nonneg_right z (show 0 ≤ s by omega)
          omega
      have h3 : (l + s - 1) / s * s ≤ 1 * s := Int.mul_le_mul_of_nonneg_right (by omega) (by omega)
      omega
  · intro z
    omega
theorem law_normal_v {c : Cl} {r : Ru} (ok : RuB r) : Gives 3 (D__law_normal c) [ruD r] (.val (ruD (ruN r))) := by
  have h1 := ok.s
  have h2 := ok.s2
  have c1 := ceil_eq (l := r.l) h1
  have c2 := ceil_big (l := r.l) h1
  have g1 : r.g - r.g % r.s = r.g / r.s * r.s := by
    have := Int.mul_ediv_add_emod r.g r.s
    rw [Int.mul_comm] at this
    omega
  have p1 : 0 < r.s := by omega
  simp at c1
  by_cases h7 : r.l ≤ r.s
  · have h8 : ¬ r.s < (r.l + r.s - 1) / r.s * r.s := by omega
    simp [Gives, D__law_normal, ruD, ruN, h7, p1, g1, c1, h8]
  · have h8 : r.s < (r.l + r.s - 1) / r.s * r.s := by omega
    simp [Gives, D__law_normal, ruD, ruN, h7, p1, g1, c1, h8]
theorem ruN_idem {r : Ru} (h : 1 ≤ r.s) : ruN (ruN r) = ruN r := by
  have hs : r.s ≠ 0 := by omega
  have e1 : r.g / r.s * r.s / r.s = r.g / r.s := Int.mul_ediv_cancel _ hs
  refine Ru.ext rfl (by show r.g / r.s * r.s / r.s * r.s = _; rw [e1]; rfl) ?_ rfl rfl
  show (if (if r.l ≤ r.s then 0 else (r.l + r.s - 1) / r.s * r.s) ≤ r.s then 0 else ((if r.l ≤ r.s then 0 else (r.l + r.s - 1) / r.s * r.s) + r.s - 1) / r.s * r.s) = (if r.l ≤ r.s then 0 else (r.l + r.s - 1) / r.s * r.s)
  by_cases h7 : r.l ≤ r.s
  · rw [if_pos h7, if_pos (by omega)]
  · have h8 := (ceil_big (l := r.l) h).mpr (by omega)
    rw [if_neg h7, if_neg (by omega)]
    have e2 : ((r.l + r.s - 1) / r.s * r.s + r.s - 1) / r.s = (r.l + r.s - 1) / r.s := by
      have : (r.l + r.s - 1) / r.s * r.s + r.s - 1 = (r.s - 1) + (r.l + r.s - 1) / r.s * r.s := by omega
      rw [this, Int.add_mul_ediv_right _ _ hs, Int.ediv_eq_zero_of_lt (by omega) (by omega)]
      omega
    rw [e2]
end DL

set_option linter.all false
set_option maxRecDepth 100000
set_option maxHeartbeats 1000000
/-! texts that are read: numbers, spans, rules -/
namespace DL
open PySem PySem.Spec PyProof.Rows L2 DD
/-- a number that a text can have -/
def Sm (i : Int) : Prop := 0 ≤ i ∧ i ≤ 99
theorem Sm.in {i : Int} (h : Sm i) : In i := ⟨h.1, by have := h.2; omega⟩
theorem tl_iT {i : Int} (h : 0 ≤ i) : TL.tl (iT i) = TL.numL i.toNat := tl_int h
theorem numeral_v {c : Cl} {i : Int} (h : Sm i) : Gives 1 (D_is_numeral c) [.str (iT i)] (.val (.bl true)) := by
  obtain ⟨n, rfl, hn⟩ := nat_of h.1 h.2
  obtain ⟨f1, f2, f3, f4⟩ := num_facts hn
  have e : intT (n : Int) = iT (n : Int) := rfl
  rw [e] at f1 f2 f3 f4
  have z1 : ¬ (2 : Int) < ((iT (n : Int)).length : Int) := by omega
  have z2 : (iT (n : Int)).length ≤ 16777216 := by omega
  by_cases h1 : (iT (n : Int)).length = 1
  · simp [Gives, D_is_numeral, f_isascii, f_isdecimal, f1, f2, h1]
  · obtain ⟨d, l, e2, hc⟩ := f4.resolve_left h1
    have z3 : atI (iT (n : Int)).cps.toList 0 = some d := by rw [e2]; exact atI_nat (j := 0) rfl
    have z4 : ¬ ((iT (n : Int)).length : Int) = 1 := by omega
    have z5 : ¬ (⟨#[d]⟩ : Str) = Str.ofString "0" := fun e => hc (by
      have := congrArg (fun s : Str => s.cps.toList) e
      exact List.head_eq_of_cons_eq (show [d] = [48] from this))
    simp [Gives, D_is_numeral, f_isascii, f_isdecimal, f1, f2, h1, z1, z2, z3, z4, z5]
theorem read_number_v {c : Cl} {i : Int} (h : Sm i) : Gives 1 (D_read_number c) [.str (iT i)] (.val (.int i)) := by
  obtain ⟨_, p⟩ := (numeral_v (c := c) h).elim
  have hl := h.in.len
  have e : PySem.intText? (iT i) = some i := by
    obtain ⟨n, rfl, hn⟩ := nat_of h.1 h.2
    exact TL.int_num (Nat.le_trans (TL.numL_len (k := 2) (by decide) (by omega)) (by decide))
  have z : (iT i).length ≤ 640 := by omega
  simp at p
  simp [Gives, D_read_number, p, e, z]
/-- the text of two numbers -/
def spT (a b : Int) : Str := iT a ++ ("-" : Str) ++ iT b
theorem spT_len {a b : Int} (h : In a) (h2 : In b) : (spT a b).length ≤ 11 := by
  have := h.len
  have := h2.len
  simp only [spT, Str.length_append, l_dash]
  omega
theorem split_sp {a b : Int} (hb : 0 ≤ a) (he : 0 ≤ b) : Txt.split (spT a b) ("-" : Str) = [iT a, iT b] := by
  have h := TL.split_join (y := ("-" : Str)) (s := 45) (S := []) (by decide +kernel) (by decide +kernel) (parts := [iT a, iT b]) (by simp) (by
    intro p hp
    simp only [List.mem_cons, List.not_mem_nil, or_false] at hp
    rcases hp with rfl | rfl
    · rw [tl_iT hb]; exact TL.numL_free (by omega)
    · rw [tl_iT he]; exact TL.numL_free (by omega))
  rw [TL.join_eq] at h
  rw [← h]
  congr 1
theorem read_span_v {c : Cl} {a b : Int} (h : Sm a) (h2 : Sm b) : Gives 2 (D_read_span c) [.str (spT a b)] (.val (.tup [.int a, .int b])) := by
  obtain ⟨_, p1⟩ := (read_number_v (c := c) h).elim
  obtain ⟨_, p2⟩ := (read_number_v (c := c) h2).elim
  have hl := spT_len h.in h2.in
  have z : (spT a b).length ≤ 16777214 := by omega
  have e := split_sp (a := a) (b := b) h.1 h2.1
  simp at p1 p2
  simp [Gives, D_read_span, f_split, e, z, p1, p2]
/-- numbers that are read again -/
structure RuS (r : Ru) : Prop where
  s : Sm r.s
  g : Sm r.g
  l : Sm r.l
  p : w4 r.p
  h : ∀ x, r.h = some x → Sm x.1 ∧ Sm x.2
theorem w4_len {p : Str} (h : w4 p) : p.length ≤ 5 := by
  simp [w4] at h
  rcases h with rfl | rfl | rfl | rfl <;> decide +kernel
theorem RuS.t {r : Ru} (h : RuS r) : RuT r := ⟨h.s.in, h.g.in, h.l.in, w4_len h.p, fun x e => ⟨(h.h x e).1.in, (h.h x e).2.in⟩⟩
theorem free32 {i : Int} (h : 0 ≤ i) : 32 ∉ TL.tl (iT i) := by rw [tl_iT h]; exact TL.numL_free (by omega)
theorem w4_free {p : Str} (h : w4 p) : 32 ∉ TL.tl p := by
  simp [w4] at h
  rcases h with rfl | rfl | rfl | rfl <;> decide +kernel
theorem sp_free {a b : Int} (h : 0 ≤ a) (h2 : 0 ≤ b) : 32 ∉ TL.tl (spT a b) := by
  unfold spT
  rw [TL.tl_append, TL.tl_append]
  intro hm
  rcases List.mem_append.mp hm with hm | hm
  · rcases List.mem_append.mp hm with hm | hm
    · exact free32 h hm
    · exact absurd hm (by decide +kernel)
  · exact free32 h2 hm
theorem split_ru {r : Ru} (h : RuS r) : Txt.split (ruT r) (" " : Str) = ruW r := by
  rw [← ruW_join]
  refine TL.split_join (y := (" " : Str)) (s := 32) (S := []) (by decide +kernel) (by decide +kernel) (by simp [ruW, ruW1]) fun p hp => ?_
  unfold ruW at hp
  rcases List.mem_append.mp hp with hp | hp
  · simp only [ruW1, List.mem_cons, List.not_mem_nil, or_false] at hp
    rcases hp with rfl | rfl | rfl | rfl | rfl | rfl | rfl | rfl
    · decide +kernel
    · exact free32 h.s.1
    · decide +kernel
    · exact free32 h.g.1
    · decide +kernel
    · exact free32 h.l.1
    · decide +kernel
    · exact w4_free h.p
  · cases e : r.h with
    | none => rw [e] at hp; cases hp
    | some x =>
      rw [e] at hp
      simp only [ruW2, List.mem_cons, List.not_mem_nil, or_false] at hp
      rcases hp with rfl | rfl
      · decide +kernel
      · exact sp_free (h.h x e).1.1 (h.h x e).2.1
theorem read_private_v {c : Cl} {p : Str} (h : w4 p) : Gives 1 (D__read_private c) [.str p] (.val (.str p)) := by
  simp [w4] at h
  rcases h with e | e | e | e <;> simp [Gives, D__read_private, e]
theorem read_hours_v {c : Cl} {h : Option (Int × Int)} (ok : ∀ x, h = some x → Sm x.1 ∧ Sm x.2) : Gives 1 (D__read_hours c) [.lst ((ruW2 h).map D.str)] (.val (hoD h)) := by
  cases h with
  | none => simp [Gives, D__read_hours, ruW2, hoD]
  | some x =>
    obtain ⟨h1, h2⟩ := ok x rfl
    obtain ⟨_, p⟩ := (read_span_v (c := c) h1 h2).elim
    simp [spT] at p
    simp [Gives, D__read_hours, ruW2, hoD, p]
@[simp] theorem q_dSl3 {st : Int} {A : En → Res X} {L U : En → Res (Option Int)} {ρ : En} : dSl3 st A L U ρ = ((A ρ).bind fun a ρ1 => (L ρ1).bind fun lo ρ2 => (U ρ2).bind fun hi ρ3 => match deref ρ3 a.settle with
  | some d => lift (opSl3 st d lo hi) ρ3
  | none => .stuck) := rfl
@[simp] theorem q_dEqOS {C : Addr} {m : Nat} {T : En → SR} {A B : En → Res X} {ρ : En} : dEqOS C m T A B ρ = ((A ρ).bind fun a ρ1 => (B ρ1).bind fun b ρ2 => match toVal ρ2 a.settle with
  | some (.ins C' ks es, ρ3) => match toVal ρ3 b.settle with
    | some (.str z, ρ4) => if C' = C then callP xBl (fin (T (env0 m [.val (D.ins C' ks es), .val (D.str z)]))) ρ4 else .stuck
    | _ => .stuck
  | _ => .stuck) := rfl
theorem pk8a {a b d e f g h i : D} : pickS [a, b, d, e, f, g, h, i] (some 0) (some 7) 2 = [a, d, f, h] := rfl
theorem pk8b {a b d e f g h i : D} : pickS [a, b, d, e, f, g, h, i] (some 1) (some 6) 2 = [b, e, g] := rfl
theorem pk10a {a b d e f g h i j k : D} : pickS [a, b, d, e, f, g, h, i, j, k] (some 0) (some 7) 2 = [a, d, f, h] := rfl
theorem pk10b {a b d e f g h i j k : D} : pickS [a, b, d, e, f, g, h, i, j, k] (some 1) (some 6) 2 = [b, e, g] := rfl
theorem eqB_strs {l l' : List Str} (o : ∀ x ∈ l, PyData.strOk x = true) (o' : ∀ x ∈ l', PyData.strOk x = true) : eqB (.lst (l.map D.str)) (.lst (l'.map D.str)) = some (decide (l = l')) := by
  rw [eqB_lst (pyA_strs l) (pyA_strs l') (shapedStrs o) (shapedStrs o'), eqvStrs]
theorem eq_rw : eqB (.lst [.str "step", .str "gap", .str "least", .str "private"]) (.lst [.str "step", .str "gap", .str "least", .str "private"]) = some true := by
  have ok : ∀ x ∈ (["step", "gap", "least", "private"] : List Str), PyData.strOk x = true := fun x hx => by
    simp only [List.mem_cons, List.not_mem_nil, or_false] at hx
    rcases hx with rfl | rfl | rfl | rfl <;> decide +kernel
  have := eqB_strs (l := ["step", "gap", "least", "private"]) (l' := ["step", "gap", "least", "private"]) ok ok
  simpa using this
theorem ct8 {a b d e f g h i : D} : cutD [a, b, d, e, f, g, h, i] (some 8) none = [] := rfl
theorem ct10 {a b d e f g h i j k : D} : cutD [a, b, d, e, f, g, h, i, j, k] (some 8) none = [j, k] := rfl
theorem at8 {a b d e f g h i : D} : atI [a, b, d, e, f, g, h, i] 7 = some i := rfl
theorem at10 {a b d e f g h i j k : D} : atI [a, b, d, e, f, g, h, i, j, k] 7 = some i := rfl
theorem ruT_len {r : Ru} (ok : RuS r) : (ruT r).length ≤ 100 := by
  have l1 := ok.s.in.len
  have l2 := ok.g.in.len
  have l3 := ok.l.in.len
  have l4 := w4_len ok.p
  have l5 := hoT_len (h := r.h) ok.t.h
  simp only [ruT, Str.length_append, l_step, l_gap, l_least, l_private]
  omega
theorem any_str {Cs : List Addr} : anyK (kitD Cs) (.type "str") [.type "str"] = some true := rfl
theorem rule_read_v {c : Cl} {r : Ru} (ok : RuS r) (oi : RuIn r) : Gives 7 (D_Rule_read c) [.cls c.Rule, .str (ruT r)] (.new (ruO c r)) := by
  obtain ⟨_, p1⟩ := (read_number_v (c := c) ok.s).elim
  obtain ⟨_, p2⟩ := (read_number_v (c := c) ok.g).elim
  obtain ⟨_, p3⟩ := (read_number_v (c := c) ok.l).elim
  obtain ⟨_, p4⟩ := (read_private_v (c := c) ok.p).elim
  obtain ⟨_, p5⟩ := (read_hours_v (c := c) ok.h).elim
  obtain ⟨_, p6, q6⟩ := (rule_init (c := c) oi).elim
  have e := split_ru ok
  have hl := ruT_len ok
  have z : (ruT r).length ≤ 16777214 := by omega
  simp at p1 p2 p3 p4 p5 p6
  cases eh : r.h with
  | none =>
    simp [eh, ruW2, hoD] at p5 p6
    simp [eh, ruO, hoD] at q6
    simp [Gives, D_Rule_read, f_split, any_str, e, z, p1, p2, p3, p4, p5, p6, q6, ruW, ruW1, ruW2, eh, opSl3, pk8a, pk8b, eq_rw, ct8, at8, lcAll, lcL, tdYes, ruO, hoD]
  | some x =>
    simp [eh, ruW2, hoD] at p5 p6
    simp [eh, ruO, hoD] at q6
    simp [Gives, D_Rule_read, f_split, any_str, e, z, p1, p2, p3, p4, p5, p6, q6, ruW, ruW1, ruW2, eh, opSl3, pk10a, pk10b, eq_rw, ct10, at10, lcAll, lcL, tdYes, ruO, hoD]
end DL

set_option linter.all false
set_option maxRecDepth 100000
set_option maxHeartbeats 1000000
/-! days: equal, read, without a meeting, with one -/
namespace DL
open PySem PySem.Spec PyProof.Rows L2 DD
theorem shaped_all {ps : List PyData} (h1 : PyData.canLayAll0 ps = true) (h2 : PyData.depthAll ps ≤ 50) : SeqAt.shaped (.tuple ps) = true := by
  unfold SeqAt.shaped
  simp only [PyData.canLay0, h1, Bool.true_and, PyData.depth]
  simp
  omega
theorem eqB_self {ds : List D} {ps : List PyData} (h : D.pyA ds = some ps) (h1 : PyData.canLayAll0 ps = true) (h2 : PyData.depthAll ps ≤ 50) : eqB (.tup ds) (.tup ds) = some true := by
  rw [eqB_tup h h (shaped_all h1 h2) (shaped_all h1 h2), SeqAt.eqvAll_refl ps h1]
def mtP (m : Mt) : PyData := .tuple [.int m.1, .int m.2.1, .bool m.2.2]
theorem mt_pyA : ∀ ms : List Mt, D.pyA (ms.map mtD) = some (ms.map mtP)
  | [] => rfl
  | m :: ms => by
    rw [List.map_cons, List.map_cons]
    have : D.py (mtD m) = some (mtP m) := rfl
    simp only [D.pyA, this, mt_pyA ms]
theorem mt_lay : ∀ ms : List Mt, PyData.canLayAll0 (ms.map mtP) = true
  | [] => rfl
  | m :: ms => by
    rw [List.map_cons]
    have : PyData.canLay0 (mtP m) = true := by simp [mtP, PyData.canLay0, PyData.canLayAll0]
    simp only [PyData.canLayAll0, this, mt_lay ms, Bool.and_self]
theorem mt_dep : ∀ ms : List Mt, PyData.depthAll (ms.map mtP) ≤ 50
  | [] => by simp [PyData.depthAll]
  | m :: ms => by
    rw [List.map_cons]
    have h1 : PyData.depth (mtP m) ≤ 50 := by simp [mtP, PyData.depth, PyData.depthAll]
    have h2 := mt_dep ms
    simp only [PyData.depthAll]
    omega
theorem eq_mts {ms : List Mt} : eqB (.tup (ms.map mtD)) (.tup (ms.map mtD)) = some true := eqB_self (mt_pyA ms) (mt_lay ms) (mt_dep ms)
theorem day_eq_v {c : Cl} {n : Int} {ms : List Mt} : Gives 2 (D_Day___eq__ c) [dvD c n ms, dvD c n ms] (.val (.bl true)) := by
  have k : anyK (kitD [c.Day, c.Rule, c.Frame]) (.ref c.Day) [.ref c.Day] = some true := by simp [anyK, kitD]
  have e := eq_mts (ms := ms)
  simp [Gives, D_Day___eq__, dvD, k, e]
/-! ### read -/
def MtSm2 (m : Mt) : Prop := Sm m.1 ∧ Sm m.2.1
theorem free44 {i : Int} (h : 0 ≤ i) : 44 ∉ TL.tl (iT i) := by rw [tl_iT h]; exact TL.numL_free (by omega)
theorem sp_free44 {a b : Int} (h : 0 ≤ a) (h2 : 0 ≤ b) : 44 ∉ TL.tl (spT a b) := by
  unfold spT
  rw [TL.tl_append, TL.tl_append]
  intro hm
  rcases List.mem_append.mp hm with hm | hm
  · rcases List.mem_append.mp hm with hm | hm
    · exact free44 h hm
    · exact absurd hm (by decide +kernel)
  · exact free44 h2 hm
theorem mt_sp {m : Mt} : mtT m = if m.2.2 then spT m.1 m.2.1 ++ (" private" : Str) else spT m.1 m.2.1 := rfl
theorem mt_free {m : Mt} (h : MtSm2 m) : 44 ∉ TL.tl (mtT m) := by
  rw [mt_sp]
  have h1 := sp_free44 h.1.1 h.2.1
  split
  · rw [TL.tl_append]
    intro hm
    rcases List.mem_append.mp hm with hm | hm
    · exact h1 hm
    · exact absurd hm (by decide +kernel)
  · exact h1
theorem msT_join {ms : List Mt} (hn : ms ≠ []) : msT ms = Txt.join (", " : Str) (ms.map mtT) := by
  unfold msT
  cases ms with
  | nil => exact absurd rfl hn
  | cons m ms => rfl
theorem split_ms {ms : List Mt} (h : ∀ m ∈ ms, MtSm2 m) (hn : ms ≠ []) : Txt.split (msT ms) (", " : Str) = ms.map mtT := by
  rw [msT_join hn]
  refine TL.split_join (y := (", " : Str)) (s := 44) (S := [32]) (by decide +kernel) (by decide +kernel) (by simpa using hn) fun p hp => ?_
  obtain ⟨m, hm, rfl⟩ := List.mem_map.mp hp
  exact mt_free (h m hm)
theorem mtT_ne_dash {m : Mt} (h : MtSm2 m) : mtT m ≠ ("-" : Str) := by
  intro e
  have z2 := congrArg (fun x : Str => (TL.tl x).length) e
  have l1 : 0 < (TL.numL m.1.toNat).length := List.length_pos_iff.mpr (TL.numL_ne _)
  have l2 : 0 < (TL.numL m.2.1.toNat).length := List.length_pos_iff.mpr (TL.numL_ne _)
  have e0 : (TL.tl ("-" : Str)).length = 1 := by decide +kernel
  simp only [e0] at z2
  rw [mt_sp] at z2
  have hs : (TL.tl (spT m.1 m.2.1)).length = (TL.numL m.1.toNat).length + 1 + (TL.numL m.2.1.toNat).length := by
    unfold spT
    rw [TL.tl_append, TL.tl_append, tl_iT h.1.1, tl_iT h.2.1, List.length_append, List.length_append, e0]
  split at z2
  · rw [TL.tl_append, List.length_append, hs] at z2
    omega
  · rw [hs] at z2
    omega
theorem ms_dash {ms : List Mt} (h : ∀ m ∈ ms, MtSm2 m) (hn : ms ≠ []) : msT ms ≠ ("-" : Str) := by
  intro e
  have z := split_ms h hn
  rw [e, show Txt.split ("-" : Str) (", " : Str) = [("-" : Str)] from by decide +kernel] at z
  cases ms with
  | nil => exact hn rfl
  | cons m ms => exact mtT_ne_dash (h m List.mem_cons_self) (List.cons.inj z).1.symm
theorem part_dy {n : Int} {ms : List Mt} (h : 0 ≤ n) : Txt.partition (dyT n ms) (": " : Str) = (iT n, (": " : Str), msT ms) := by
  unfold dyT
  exact TL.partition_app (y := (": " : Str)) (s := 58) (S := [32]) (by decide +kernel) (by rw [tl_iT h]; exact TL.numL_free (by omega))
open PySem.Builtin PySem.Builtin.Str in
theorem rs_yes {x y : Str} (hy : 0 < y.length) : Txt.removesuffix (x ++ y) y = x := by
  unfold Txt.removesuffix
  have e : (x ++ y).length - y.length = x.length := by rw [Str.length_append]; omega
  have h1 : y.length ≤ (x ++ y).length := by rw [Str.length_append]; omega
  have h2 : subAt (x ++ y) y x.length = true := by
    rw [StrLaws.subAt_eq]
    rw [show (x ++ y).cps.toList = x.cps.toList ++ y.cps.toList from TL.tl_append x y]
    rw [List.drop_left' (TL.len_tl x).symm, List.take_of_length_le (by rw [TL.len_tl y]; exact Nat.le_refl _)]
    exact beq_self_eq_true _
  rw [e, h2, decide_eq_true h1]
  show Txt.affix (x ++ y) (some (0, x.length)) = x
  unfold Txt.affix
  have h3 : (x.length - 0 == (x ++ y).length) = false := by
    rw [Str.length_append]
    simp
    omega
  show (if (x.length - 0 == (x ++ y).length) = true then x ++ y else strSub (x ++ y) 0 x.length) = x
  rw [h3]
  show strSub (x ++ y) 0 x.length = x
  suffices h : TL.tl (strSub (x ++ y) 0 x.length) = TL.tl x from (List.cons.inj (TL.map_tl_inj (l := [strSub (x ++ y) 0 x.length]) (m := [x]) (congrArg (fun z => [z]) h))).1
  rw [show TL.tl (strSub (x ++ y) 0 x.length) = _ from StrLaws.strSub_toList _ _ _, show (x ++ y).cps.toList = x.cps.toList ++ y.cps.toList from TL.tl_append x y]
  rw [List.drop_zero, Nat.sub_zero, List.take_left' (TL.len_tl x).symm]
open PySem.Builtin PySem.Builtin.Str in
theorem rs_no {x y : Str} {c : Nat} (hc : c ∈ TL.tl y) (hx : c ∉ TL.tl x) : Txt.removesuffix x y = x := by
  unfold Txt.removesuffix
  have h2 : subAt x y (x.length - y.length) = false := by
    rw [StrLaws.subAt_eq]
    refine beq_eq_false_iff_ne.mpr fun e => hx ?_
    have : c ∈ (x.cps.toList.drop (x.length - y.length)).take y.length := by rw [e]; exact hc
    exact List.mem_of_mem_drop (List.mem_of_mem_take this)
  rw [h2, Bool.and_false]
  rfl
theorem read_meeting_v {c : Cl} {m : Mt} (h : MtSm2 m) : Gives 4 (D__read_meeting c) [.str (mtT m)] (.val (mtD m)) := by
  obtain ⟨_, p⟩ := (read_span_v (c := c) h.1 h.2).elim
  have hl := mtT_len h.1.in h.2.in
  have z : (mtT m).length ≤ 16777216 := by omega
  have hr : Txt.removesuffix (mtT m) (" private" : Str) = spT m.1 m.2.1 := by
    rw [mt_sp]
    split
    · exact rs_yes (by decide +kernel)
    · exact rs_no (c := 32) (by decide +kernel) (sp_free h.1.1 h.2.1)
  have hd : decide (spT m.1 m.2.1 = mtT m) = !m.2.2 := by
    rw [mt_sp]
    cases e : m.2.2
    · simp
    · simp
      intro e2
      have := congrArg Str.length e2
      rw [Str.length_append] at this
      simp at this
  simp at p
  by_cases e : spT m.1 m.2.1 = mtT m
  · have e3 : m.2.2 = false := by simpa [e] using hd
    simp [Gives, D__read_meeting, f_removesuffix, hr, z, p, mtD, e3]
    simp [e] at p ⊢
  · have e3 : m.2.2 = true := by simpa [e] using hd
    simp [Gives, D__read_meeting, f_removesuffix, hr, z, p, mtD, e, e3]
theorem read_meetings_v {c : Cl} {ms : List Mt} (h : ∀ m ∈ ms, MtSm2 m) (hz : ms.length ≤ 400) : Gives 2 (D__read_meetings c) [.str (msT ms)] (.new (.lst (ms.map mtD))) := by
  by_cases hn : ms = []
  · subst hn
    have e : msT [] = Str.ofString "-" := rfl
    simp [Gives, D__read_meetings, e]
  · have hi : InM ms := fun m hm => ⟨(h m hm).1.in, (h m hm).2.in⟩
    have hl := msT_len hi hz
    have e1 := split_ms h hn
    have e2 : ¬ msT ms = Str.ofString "-" := ms_dash h hn
    have z : (msT ms).length ≤ 16777214 := by omega
    have lc : ∀ ρ : En, ρ = [.val (.str (msT ms)), .none] → lcL [1] (uName 1) tdYes (dCall 1 4 (D__read_meeting c) (aCons (dVar 1) aNil)) (ms.map fun m => D.str (mtT m)) ρ [] = .ok ([] ++ ms.filterMap fun m => some (mtD m)) ρ := fun ρ hρ => by
      subst hρ
      refine lc_fm (enc := fun m => D.str (mtT m)) (fun m => some (mtD m)) (fun m hm ds acc ha => ?_) (by simp; omega)
      obtain ⟨_, p⟩ := (read_meeting_v (c := c) (h m hm)).elim
      simp at p
      have ha' : acc.length < 16777216 := by omega
      simp [lcL, tdYes, p, ha']
    have lc2 := lc _ rfl
    simp [List.map_map] at lc2
    have em : (ms.map mtT).map D.str = ms.map fun m => D.str (mtT m) := by rw [List.map_map]; rfl
    simp [Gives, D__read_meetings, f_split, e1, e2, z, lcAll, em, lc2]
theorem day_read_v {c : Cl} {n : Int} {ms : List Mt} (hn : Sm n) (h1 : 1 ≤ n) (hm : Meets 0 ms) (he : endOf 0 ms ≤ n) (h : ∀ m ∈ ms, MtSm2 m) (hz : ms.length ≤ 400) : Gives 5 (D_Day_read c) [.cls c.Day, .str (dyT n ms)] (.new (dyO c n ms)) := by
  obtain ⟨_, p1⟩ := (read_number_v (c := c) hn).elim
  obtain ⟨_, p2⟩ := (read_meetings_v (c := c) h hz).elim
  obtain ⟨_, p3, q3⟩ := (day_init (c := c) h1 hm he (.inl rfl)).elim
  have hi : InM ms := fun m hm => ⟨(h m hm).1.in, (h m hm).2.in⟩
  have hl := msT_len hi hz
  have hl2 := hn.in.len
  have e := part_dy (n := n) (ms := ms) hn.1
  have z : (dyT n ms).length ≤ 16777216 := by
    unfold dyT
    simp only [Str.length_append, l_colon]
    omega
  simp at p1 p2 p3
  simp [Gives, D_Day_read, f_partition, any_str, e, z, p1, p2, p3, q3]
theorem cutD_to {xs : List D} {k : Nat} : cutD xs none (some (k : Int)) = xs.take k := by
  unfold cutD
  rw [HT.sIx_none, HT.sIx_nat, Nat.sub_zero, List.drop_zero]
  by_cases h : k ≤ xs.length
  · rw [Nat.min_eq_left h]
  · rw [Nat.min_eq_right (by omega), List.take_length, List.take_of_length_le (by omega)]
theorem cutD_from {xs : List D} {k : Nat} : cutD xs (some (k : Int)) none = xs.drop k := by
  unfold cutD
  rw [HT.sIx_none, HT.sIx_nat]
  by_cases h : k ≤ xs.length
  · rw [Nat.min_eq_left h, List.take_of_length_le (by rw [List.length_drop] <;> omega)]
  · rw [Nat.min_eq_right (by omega), List.drop_length, List.drop_of_length_le (by omega)]
    simp
theorem Meets.weak {a b : Int} (h : a ≤ b) : ∀ {ms : List Mt}, Meets b ms → Meets a ms
  | [], _ => trivial
  | m :: ms, hm => ⟨by have := hm.1; omega, hm.2⟩
theorem endOf_tail {m : Mt} {t : List Mt} {n : Int} (h0 : 0 ≤ n) (h : endOf 0 (m :: t) ≤ n) : endOf 0 t ≤ n := by
  cases t with
  | nil => exact h0
  | cons x t => exact h
theorem without0_v {c : Cl} {n : Int} {m : Mt} {t : List Mt} (h1 : 1 ≤ n) (hm : Meets 0 (m :: t)) (he : endOf 0 (m :: t) ≤ n) (hz : t.length ≤ 400) : Gives 2 (D_Day_without c) [dvD c n (m :: t), .int 0] (.new (dyO c n t)) := by
  have hm1 : 0 ≤ m.2.1 := by
    have a := hm.1
    have b := hm.2.1
    omega
  have w : Meets 0 t := Meets.weak hm1 hm.2.2
  obtain ⟨_, p, q⟩ := (day_init (c := c) h1 w (endOf_tail (by omega) he) (.inr rfl)).elim
  have c1 : cutD (mtD m :: t.map mtD) none (some 0) = [] := by
    have := cutD_to (xs := mtD m :: t.map mtD) (k := 0)
    simpa using this
  have c2 : cutD (mtD m :: t.map mtD) (some 1) none = t.map mtD := by
    have := cutD_from (xs := mtD m :: t.map mtD) (k := 1)
    simpa using this
  have z : t.length ≤ 16777215 := by omega
  have z2 : t.length ≤ 16777216 := by omega
  have z3 : ¬ ((t.length : Int) + 1 ≤ 0) := by omega
  simp at p
  simp [Gives, D_Day_without, dvD, c1, c2, p, q, z, z2, z3]
theorem having_v {c : Cl} : Gives 4 (D_Day_having_2 c) [dvD c 40 [], mtD (3, 5, true)] (.new (dyO c 40 [(3, 5, true)])) := by
  have w : Meets 0 [((3 : Int), (5 : Int), true)] := ⟨by decide, by decide, trivial⟩
  obtain ⟨_, p, q⟩ := (day_init (c := c) (n := 40) (by decide) w (by decide) (.inr rfl)).elim
  obtain ⟨_, p2⟩ := (is_meeting_v (c := c) (m := (3, 5, true)) (by decide) (by decide)).elim
  have c1 : cutD ([] : List D) none (some 0) = [] := rfl
  have c2 : cutD ([] : List D) (some 0) none = [] := rfl
  simp [mtD] at p p2
  simp [Gives, D_Day_having_2, dvD, mtD, c1, c2, p, q, p2, lcAll, lcL]
theorem day_len_v {c : Cl} {n : Int} {ms : List Mt} (hz : ms.length ≤ 400) : Gives 1 (D_Day___len__ c) [dvD c n ms] (.val (.int ms.length)) := by
  have z : ms.length ≤ 16777216 := by omega
  simp [Gives, D_Day___len__, dvD, z]
theorem meets_sm : ∀ {a n : Int} {ms : List Mt}, 0 ≤ a → n ≤ 99 → Meets a ms → endOf a ms ≤ n → ∀ m ∈ ms, MtSm2 m
  | _, _, [], _, _, _, _ => fun m hm => by simp at hm
  | a, n, m :: ms, h0, hn, h, he => fun x hx => by
    have h1 := h.1
    have h2 := h.2.1
    have h3 := endOf_nonneg (a := m.2.1) (ms := ms) (by omega) h.2.2
    have h4 : endOf m.2.1 ms ≤ n := he
    rcases List.mem_cons.mp hx with rfl | hx
    · exact ⟨⟨by omega, by omega⟩, ⟨by omega, by omega⟩⟩
    · exact meets_sm (a := m.2.1) (by omega) hn h.2.2 he x hx
end DL

set_option linter.all false
set_option maxRecDepth 100000
set_option maxHeartbeats 1000000
/-! what repr tells of a view -/
namespace DL
open PySem PySem.Spec PyProof.Rows L2 DD
def BIn (b : Bk) : Prop := (0 ≤ b.1 ∧ b.1 ≤ 3000) ∧ 0 ≤ b.2.1 ∧ b.2.1 ≤ 3000
theorem nlen3 {i : Int} (h0 : 0 ≤ i) (h : i ≤ 3000) : (Str.ofString (toString i)).length ≤ 5 := by
  have e := int_text_length_le10 (a := i) (k := 4) (by decide) (by omega)
  rw [PySem.ofString_length]
  omega
theorem log3 {i : Int} (h0 : 0 ≤ i) (h : i ≤ 3000) : i.natAbs.log2 < 1920 := by
  by_cases hz : i.natAbs = 0
  · rw [hz]
    decide
  · have := (Nat.log2_lt hz (k := 12)).mpr (by omega)
    omega
theorem bk_show : ∀ {L : List Bk}, (∀ x ∈ L, BIn x) → PyData.showableAll (L.map bkP) = true ∧ PyData.hasDictAll (L.map bkP) = false ∧ piled (PyData.shownAll (L.map bkP)) ≤ L.length * 60
  | [], _ => ⟨rfl, rfl, Nat.zero_le _⟩
  | b :: L, h => by
    obtain ⟨h1, h2, h3⟩ := bk_show (L := L) fun x hx => h x (List.mem_cons_of_mem _ hx)
    obtain ⟨⟨i0, i1⟩, j0, j1⟩ := h b (List.mem_cons_self ..)
    refine ⟨?_, ?_, ?_⟩
    · show ((decide (b.1.natAbs.log2 < 1920) && (decide (b.2.1.natAbs.log2 < 1920) && (true && true))) && PyData.showableAll (L.map bkP)) = true
      rw [h1, decide_eq_true (log3 i0 i1), decide_eq_true (log3 j0 j1)]
      rfl
    · show ((false || (false || (false || false))) || PyData.hasDictAll (L.map bkP)) = false
      rw [h2]
      rfl
    · show piled (tupleText [Str.ofString (toString b.1), Str.ofString (toString b.2.1), PyData.shown (.str (wd b.2.2))] :: PyData.shownAll (L.map bkP)) ≤ _
      have z := fmt_text [Str.ofString (toString b.1), Str.ofString (toString b.2.1), PyData.shown (.str (wd b.2.2))]
      have hb : (PyData.shown (.str (wd b.2.2))).length ≤ 9 := by cases b.2.2 <;> decide +kernel
      have l1 := nlen3 i0 i1
      have l2 := nlen3 j0 j1
      rw [piled_cons, piled_cons, piled_cons, piled_nil] at z
      rw [piled_cons]
      simp only [List.length_cons]
      omega
theorem repr_view {L : List Bk} (h : ∀ x ∈ L, BIn x) (hz : L.length ≤ 1000) : ∃ s : Str, fRepr [.tup (L.map bkD)] = some (X.val (D.str s)) := by
  obtain ⟨h1, h2, h3⟩ := bk_show h
  have e : (D.tup (L.map bkD)).py = some (.tuple (L.map bkP)) := by simp only [D.py, bkO.pyA L, Option.map]
  have z := fmt_text (PyData.shownAll (L.map bkP))
  have dp := bkO.dpA L
  refine ⟨(PyData.tuple (L.map bkP)).shown, ?_⟩
  show (match (D.tup (L.map bkD)).py with
    | some p => if p.showable = true ∧ p.hasDict = false ∧ p.depth ≤ 60 ∧ p.shown.length ≤ sizeLine then some (X.val (D.str p.shown)) else none
    | none => none) = _
  rw [e]
  dsimp only
  rw [if_pos]
  refine ⟨h1, h2, ?_, ?_⟩
  · show PyData.depthAll (L.map bkP) + 1 ≤ 60
    omega
  · show (tupleText (PyData.shownAll (L.map bkP))).length ≤ sizeLine
    rw [sizeLine_eq]
    omega
theorem shown_in {r : Ru} (ok : RuOk r) {ms : List Mt} (hm : Meets 0 ms) (hn : endOf 0 ms ≤ 1000) {c : Cl} {n : Int} : ∀ b ∈ showL r ms, BIn b := by
  have one : ∀ w, ∀ b ∈ blk r w ms, BIn b := fun w b hb => by
    have hS := (painted_v (c := c) ok (n := n) hm hn (w := w)).2
    simp only [blk, List.mem_map, List.mem_filterMap] at hb
    obtain ⟨x, ⟨y, hy, e⟩, rfl⟩ := hb
    have h1 := hS.one y hy
    unfold cutOf at e
    split at e
    · cases e
    · cases eh : r.h with
      | none =>
        rw [eh] at e
        cases e
        exact ⟨⟨by simp; omega, by simp; omega⟩, by simp; omega, by simp; omega⟩
      | some z =>
        rw [eh] at e
        have h2 := ok.h z eh
        dsimp only at e
        split at e
        · cases e
          unfold mx mn BIn
          dsimp only
          refine ⟨⟨?_, ?_⟩, ?_, ?_⟩ <;> split <;> omega
        · cases e
  intro b hb
  rw [showL, List.mem_append] at hb
  exact hb.elim (one _ b) (one _ b)
end DL

set_option linter.all false
set_option maxRecDepth 100000
set_option maxHeartbeats 1000000
/-! views: what is one, their texts -/
namespace DL
open PySem PySem.Spec PyProof.Rows L2 DD
/-- a block with small numbers -/
def BkS (b : Bk) : Prop := Sm b.1 ∧ Sm b.2.1 ∧ b.1 < b.2.1
theorem cutOf_in {r : Ru} {x y : Int × Int} (h : cutOf r x = some y) (hx : x.1 < x.2) : x.1 ≤ y.1 ∧ y.1 < y.2 ∧ y.2 ≤ x.2 := by
  unfold cutOf at h
  split at h
  · cases h
  · cases eh : r.h with
    | none =>
      rw [eh] at h
      cases h
      omega
    | some z =>
      rw [eh] at h
      dsimp only at h
      split at h
      · rename_i hl
        cases h
        refine ⟨?_, hl, ?_⟩
        · show x.1 ≤ mx x.1 z.1
          unfold mx
          split <;> omega
        · show mn x.2 z.2 ≤ x.2
          unfold mn
          split <;> omega
      · cases h
theorem jn_end {r : Ru} {w : Bool} {B : Int} {J : List (Int × Int)} {x : Int × Int} (hx : x.2 ≤ B) (hJ : ∀ y ∈ J, y.2 ≤ B) : ∀ y ∈ jn r w J x, y.2 ≤ B := by
  intro y hy
  unfold jn at hy
  split at hy
  · split at hy
    · rcases List.mem_append.mp hy with hy | hy
      · exact hJ y (List.dropLast_subset _ hy)
      · obtain rfl := List.mem_singleton.mp hy
        exact hx
    · rcases List.mem_append.mp hy with hy | hy
      · exact hJ y hy
      · obtain rfl := List.mem_singleton.mp hy
        exact hx
  · rcases List.mem_append.mp hy with hy | hy
    · exact hJ y hy
    · obtain rfl := List.mem_singleton.mp hy
      exact hx
theorem jn_fold_end {r : Ru} {w : Bool} {B : Int} : ∀ {S J : List (Int × Int)}, (∀ x ∈ S, x.2 ≤ B) → (∀ y ∈ J, y.2 ≤ B) → ∀ y ∈ S.foldl (jn r w) J, y.2 ≤ B
  | [], J, _, hJ => hJ
  | x :: S, J, hS, hJ => jn_fold_end (S := S) (J := jn r w J x) (fun z hz => hS z (List.mem_cons_of_mem _ hz)) (jn_end (hS x List.mem_cons_self) hJ)
theorem meets_end : ∀ {a n : Int} {ms : List Mt}, Meets a ms → endOf a ms ≤ n → 0 ≤ a → ∀ m ∈ ms, m.2.1 ≤ n
  | _, _, [], _, _, _ => fun m hm => by simp at hm
  | a, n, m :: ms, h, he, h0 => fun x hx => by
    have h1 := h.1
    have h2 := h.2.1
    have h3 := endOf_nonneg (a := m.2.1) (ms := ms) (by omega) h.2.2
    have h4 : endOf m.2.1 ms ≤ n := he
    rcases List.mem_cons.mp hx with rfl | hx
    · omega
    · exact meets_end (a := m.2.1) h.2.2 he (by omega) x hx
theorem jnd_end {r : Ru} (ok : RuOk r) {w : Bool} {ms : List Mt} {n : Int} (hm : Meets 0 ms) (he : endOf 0 ms ≤ n) : ∀ y ∈ jnd r w ms, y.2 ≤ n + 8 := by
  refine jn_fold_end (fun x hx => ?_) (fun y hy => by simp at hy)
  obtain ⟨m, hm1, e⟩ := List.mem_filterMap.mp hx
  unfold spanOf at e
  split at e
  · cases e
    have := (le_up (e := m.2.1) (s := r.s) ok.s.1).2
    have := meets_end hm he (Int.le_refl 0) m hm1
    have := ok.s.2
    show up m.2.1 r.s ≤ n + 8
    omega
  · cases e
theorem shown_sm {c : Cl} {r : Ru} (ok : RuOk r) {ms : List Mt} {n : Int} (hm : Meets 0 ms) (he : endOf 0 ms ≤ n) (hn : n ≤ 90) : ∀ b ∈ showL r ms, BkS b := by
  have one : ∀ w, ∀ b ∈ blk r w ms, BkS b := fun w b hb => by
    have hS := (painted_v (c := c) ok (n := n) hm (by omega) (w := w)).2
    simp only [blk, List.mem_map, List.mem_filterMap] at hb
    obtain ⟨x, ⟨y, hy, e⟩, rfl⟩ := hb
    have h1 := hS.one y hy
    have h2 := jnd_end ok hm he y hy
    have h3 := cutOf_in e h1.2.1
    exact ⟨⟨by show 0 ≤ x.1; omega, by show x.1 ≤ 99; omega⟩, ⟨by show 0 ≤ x.2; omega, by show x.2 ≤ 99; omega⟩, h3.2.1⟩
  intro b hb
  rw [showL, List.mem_append] at hb
  exact hb.elim (one _ b) (one _ b)
theorem pw_nodup {L : List (Int × Int)} {f : Int × Int → Option (Int × Int)} (h1 : ∀ x ∈ L, x.1 < x.2) (hf : ∀ x y, f x = some y → x.1 < x.2 → x.1 ≤ y.1 ∧ y.1 < y.2 ∧ y.2 ≤ x.2) (h : L.Pairwise fun x y => x.2 < y.1) : (L.filterMap f).Pairwise fun x y => x.2 < y.1 := by
  rw [List.pairwise_filterMap]
  refine h.imp_of_mem fun {x y} hx hy hxy a ea b eb => ?_
  have := hf x a ea (h1 x hx)
  have := hf y b eb (h1 y hy)
  omega
theorem show_nodup {c : Cl} {r : Ru} (ok : RuOk r) {ms : List Mt} {n : Int} (hm : Meets 0 ms) (he : endOf 0 ms ≤ n) (hn : n ≤ 90) : (showL r ms).Nodup := by
  have one : ∀ w, (blk r w ms).Nodup := fun w => by
    have hS := (painted_v (c := c) ok (n := n) hm (by omega) (w := w)).2
    have h1 := pw_nodup (f := cutOf r) (fun x hx => (hS.one x hx).2.1) (fun x y e h => cutOf_in e h) hS.two
    have h2 : ∀ x ∈ (jnd r w ms).filterMap (cutOf r), x.1 < x.2 := fun x hx => by
      obtain ⟨y, hy, e⟩ := List.mem_filterMap.mp hx
      exact (cutOf_in e (hS.one y hy).2.1).2.1
    unfold blk
    rw [List.Nodup, List.pairwise_map]
    refine h1.imp_of_mem fun {x y} hx hy hxy e => ?_
    have e1 : x.1 = y.1 := (Prod.mk.inj e).1
    have := h2 x hx
    omega
  unfold showL
  rw [List.nodup_append]
  refine ⟨one false, one true, fun a ha b hb e => ?_⟩
  subst e
  simp only [blk, List.mem_map] at ha hb
  obtain ⟨x, _, rfl⟩ := ha
  obtain ⟨y, _, e⟩ := hb
  have := (Prod.mk.inj (Prod.mk.inj e).2).2
  cases this
/-- a view -/
structure VwOk (L : List Bk) : Prop where
  s : ∀ b ∈ L, BkS b
  o : ∀ (i : Nat) (h : i + 1 < L.length), leK bkP L[i + 1] L[i] = false
  z : L.length ≤ 100
theorem shown_ok {c : Cl} {r : Ru} (ok : RuOk r) {ms : List Mt} {n : Int} (hm : Meets 0 ms) (he : endOf 0 ms ≤ n) (hn : n ≤ 90) (hz : ms.length ≤ 50) : VwOk (srt bkP (showL r ms)) := by
  have p := srt_perm (key := bkP) (showL r ms)
  refine ⟨fun b hb => shown_sm (c := c) ok hm he hn b (p.subset hb), fun i h => ?_, ?_⟩
  · have hp := List.pairwise_iff_getElem.mp (srt_pw (key := bkP) (showL r ms)) i (i + 1) (by omega) h (by omega)
    have hd : (srt bkP (showL r ms)).Nodup := p.nodup_iff.mpr (show_nodup (c := c) ok hm he hn)
    cases e : leK bkP (srt bkP (showL r ms))[i + 1] (srt bkP (showL r ms))[i] with
    | false => rfl
    | true =>
      have := bkO.anti hp e
      have := (List.getElem_inj hd).mp this
      omega
  · rw [p.length_eq, showL, List.length_append]
    have h1 := blk_len (r := r) (w := false) (ms := ms)
    have h2 := blk_len (r := r) (w := true) (ms := ms)
    omega
theorem is_block_v {c : Cl} {b : Bk} (h : BkS b) : Gives 4 (D__is_block c) [bkD b] (.val (.bl true)) := by
  obtain ⟨_, p1⟩ := (is_number_v (c := c) (i := b.1)).elim
  obtain ⟨_, p2⟩ := (is_number_v (c := c) (i := b.2.1)).elim
  have h1 := h.1.1
  have h2 := h.2.1.1
  have h3 := h.2.2
  simp at p1 p2
  obtain ⟨x, y, w⟩ := b
  cases w <;> simp [Gives, D__is_block, bkD, anyK, p1, p2, h1, h2, h3]
theorem allB_t : ∀ n : Nat, allB (List.replicate n (.bl true)) = some (List.replicate n true)
  | 0 => rfl
  | n + 1 => by
    rw [List.replicate_succ, List.replicate_succ]
    simp [allB, allB_t n]
theorem fm_const {α : Type} {d : D} : ∀ L : List α, (L.filterMap fun _ => some d) = List.replicate L.length d
  | [] => rfl
  | a :: L => by
    rw [List.filterMap_cons]
    simp [fm_const L, List.replicate_succ]
theorem atI_bk {L : List Bk} {k : Nat} (h : k < L.length) : atI (L.map bkD) (k : Int) = some (bkD L[k]) := by
  exact atI_nat (j := k) (by simp [h])
theorem is_view_v {c : Cl} {L : List Bk} (h : VwOk L) : Gives 3 (D_is_view c) [.tup (L.map bkD)] (.val (.bl true)) := by
  have lc1 : ∀ ρ : En, ρ = [.val (.tup (L.map bkD)), .none, .none] → lcL [2] (uName 2) tdYes (dCall 1 4 (D__is_block c) (aCons (dVar 2) aNil)) (L.map bkD) ρ [] = .ok ([] ++ L.filterMap fun _ => some (.bl true)) ρ := fun ρ hρ => by
    subst hρ
    refine lc_fm (enc := bkD) (fun _ => some (.bl true)) (fun b hb ds acc ha => ?_) (by have := h.z; simp; omega)
    obtain ⟨_, p⟩ := (is_block_v (c := c) (h.s b hb)).elim
    simp at p
    have ha' : acc.length < 16777216 := by omega
    simp [lcL, tdYes, p, ha']
  have lc2 : ∀ ρ : En, ρ = [.val (.tup (L.map bkD)), .none, .none] → lcL [1] (uName 1) tdYes (dBin opLt (dBin opIx (dVar 0) (dVar 1)) (dBin opIx (dVar 0) (dBin opAdd (dVar 1) (dC (.int 1))))) ((List.range (L.length - 1)).map fun i => D.int (i : Nat)) ρ [] = .ok ([] ++ (List.range (L.length - 1)).filterMap fun _ => some (.bl true)) ρ := fun ρ hρ => by
    subst hρ
    refine lc_fm (enc := fun i : Nat => D.int (i : Nat)) (fun _ => some (.bl true)) (fun i hi ds acc ha => ?_) (by have := h.z; simp; omega)
    have hi2 : i + 1 < L.length := by have := List.mem_range.mp hi; omega
    have a1 := atI_bk (L := L) (k := i) (by omega)
    have a2 := atI_bk (L := L) (k := i + 1) hi2
    have a3 : ((i + 1 : Nat) : Int) = (i : Int) + 1 := rfl
    rw [a3] at a2
    have o := bkO.opLt (a := L[i]) (b := L[i + 1])
    rw [h.o i hi2] at o
    have ha' : acc.length < 16777216 := by omega
    simp [-opLt, lcL, tdYes, a1, a2, o, ha']
  have l1 := lc1 _ rfl
  have l2 := lc2 _ rfl
  rw [fm_const] at l1 l2
  have t1 := allB_t L.length
  have t2 := allB_t (L.length - 1)
  have b1 : ∀ n : Nat, (List.replicate n true).all id = true := fun n => by simp
  obtain ⟨k, hk⟩ : ∃ k : Int, (L.length : Int) = k := ⟨_, rfl⟩
  have hz := h.z
  have k0 : 0 ≤ k := by omega
  have k1 : k ≤ 100 := by omega
  have z2 : k < 9223372036854775808 := by omega
  have z3 : -4611686018427387904 ≤ k - 1 := by omega
  have z4 : k - 1 < 4611686018427387904 := by omega
  have ek : (k - 1).toNat = L.length - 1 := by omega
  simp only [List.nil_append, List.length_range] at l1 l2
  simp [-opLt, Gives, D_is_view, anyK, lcAll, hk, k0, z2, z3, z4, ek, l1, l2, t1, t2]
def bkT (b : Bk) : Str := spT b.1 b.2.1 ++ (" " : Str) ++ wd b.2.2
def vwT (L : List Bk) : Str := if L = [] then "-" else Txt.join ", " (L.map bkT)
theorem wd_len {w : Bool} : (wd w).length ≤ 7 := by cases w <;> decide +kernel
theorem bkT_len {b : Bk} (h : BkS b) : (bkT b).length ≤ 20 := by
  have h1 := spT_len h.1.in h.2.1.in
  have h2 := wd_len (w := b.2.2)
  simp only [bkT, Str.length_append, l_sp]
  omega
theorem view_text_v {c : Cl} {L : List Bk} (h : VwOk L) : Gives 4 (D_view_text c) [.tup (L.map bkD)] (.val (.str (vwT L))) := by
  by_cases hn : L = []
  · subst hn
    have e : vwT [] = Str.ofString "-" := rfl
    simp [Gives, D_view_text, e]
  · have hz := h.z
    have lc : ∀ ρ : En, ρ = [.val (.tup (L.map bkD)), .none, .none, .none] → lcL [1, 2, 3] (uTup 3 (usCons (uName 1) (usCons (uName 2) (usCons (uName 3) usNil)))) tdYes (dJoin (jCons (dFmt (dVar 1)) (jCons (dC (.str "-")) (jCons (dFmt (dVar 2)) (jCons (dC (.str " ")) (jCons (dFmt (dVar 3)) jNil)))))) (L.map bkD) ρ [] = .ok ([] ++ L.filterMap fun b => some (D.str (bkT b))) ρ := fun ρ hρ => by
      subst hρ
      refine lc_fm (enc := bkD) (fun b => some (D.str (bkT b))) (fun b hb ds acc ha => ?_) (by simp; omega)
      have hs := h.s b hb
      have l1 := hs.1.in.len
      have l2 := hs.2.1.in.len
      have g1 := hs.1.in.log
      have g2 := hs.2.1.in.log
      have w1 := wd_len (w := b.2.2)
      have ha' : acc.length < 16777216 := by omega
      have f1 : (iT b.1).length ≤ 16777216 := by omega
      have f2 : (iT b.1).length ≤ 16777215 := by omega
      have f3 : (iT b.1).length + 1 + (iT b.2.1).length ≤ 16777216 := by omega
      have f4 : (iT b.1).length + 1 + (iT b.2.1).length ≤ 16777215 := by omega
      have f5 : (iT b.1).length + 1 + (iT b.2.1).length + 1 + (wd b.2.2).length ≤ 16777216 := by omega
      have f6 : (wd b.2.2).length ≤ 16777216 := by omega
      simp [lcL, tdYes, bkD, ha', f6, g1, g2, f1, f2, f3, f4, f5, Str.length_append, bkT, spT]
    have l := lc _ rfl
    have hl : ∀ b ∈ L, (bkT b).length ≤ 20 := fun b hb => bkT_len (h.s b hb)
    have hne : ¬ L.length = 0 := fun e => hn (List.length_eq_zero_iff.mp e)
    have e1 : L.filterMap (fun b => some (D.str (bkT b))) = L.map fun b => D.str (bkT b) := by simp
    have e2 := allS_map (f := bkT) L
    have e3 : vwT L = Txt.join ", " (L.map bkT) := by simp [vwT, hn]
    have e4 : (L.map ((fun x : Str => x.length) ∘ bkT)).sum + L.length * 2 ≤ 16777216 := by
      have := sum_le (f := (fun x : Str => x.length) ∘ bkT) (k := 20) (xs := L) fun b hb => hl b hb
      omega
    rw [e1] at l
    simp at l
    simp [Gives, D_view_text, hne, lcAll, l, e2, e3, e4]
theorem bk_sp {b : Bk} : Txt.split (bkT b) (" " : Str) = [spT b.1 b.2.1, wd b.2.2] ∨ ¬ BkS b := by
  by_cases h : BkS b
  · left
    have z := TL.split_join (y := (" " : Str)) (s := 32) (S := []) (by decide +kernel) (by decide +kernel) (parts := [spT b.1 b.2.1, wd b.2.2]) (by simp) (by
      intro p hp
      simp only [List.mem_cons, List.not_mem_nil, or_false] at hp
      rcases hp with rfl | rfl
      · exact sp_free h.1.1 h.2.1.1
      · cases b.2.2 <;> decide +kernel)
    rw [TL.join_eq] at z
    rw [← z]
    congr 1
  · exact .inr h
theorem read_block_v {c : Cl} {b : Bk} (h : BkS b) : Gives 4 (D__read_block c) [.str (bkT b)] (.val (bkD b)) := by
  obtain ⟨_, p⟩ := (read_span_v (c := c) h.1 h.2.1).elim
  have hl := bkT_len h
  have z : (bkT b).length ≤ 16777214 := by omega
  have e := (bk_sp (b := b)).resolve_right fun n => n h
  simp at p
  simp [Gives, D__read_block, f_split, e, z, p, bkD]
theorem bk_free {b : Bk} (h : BkS b) : 44 ∉ TL.tl (bkT b) := by
  unfold bkT
  rw [TL.tl_append, TL.tl_append]
  intro hm
  rcases List.mem_append.mp hm with hm | hm
  · rcases List.mem_append.mp hm with hm | hm
    · exact sp_free44 h.1.1 h.2.1.1 hm
    · exact absurd hm (by decide +kernel)
  · revert hm
    cases b.2.2 <;> decide +kernel
theorem split_vw {L : List Bk} (h : ∀ b ∈ L, BkS b) (hn : L ≠ []) : Txt.split (vwT L) (", " : Str) = L.map bkT := by
  have e : vwT L = Txt.join ", " (L.map bkT) := by simp [vwT, hn]
  rw [e]
  refine TL.split_join (y := (", " : Str)) (s := 44) (S := [32]) (by decide +kernel) (by decide +kernel) (by simpa using hn) fun p hp => ?_
  obtain ⟨b, hb, rfl⟩ := List.mem_map.mp hp
  exact bk_free (h b hb)
theorem vw_dash {L : List Bk} (h : ∀ b ∈ L, BkS b) (hn : L ≠ []) : vwT L ≠ ("-" : Str) := by
  intro e
  have z := split_vw h hn
  rw [e, show Txt.split ("-" : Str) (", " : Str) = [("-" : Str)] from by decide +kernel] at z
  cases L with
  | nil => exact hn rfl
  | cons b L =>
    have z1 : ("-" : Str) = bkT b := (List.cons.inj z).1
    have z2 := (bk_sp (b := b)).resolve_right fun n => n (h b List.mem_cons_self)
    rw [← z1, show Txt.split ("-" : Str) (" " : Str) = [("-" : Str)] from by decide +kernel] at z2
    have z3 := congrArg List.length z2
    simp at z3
theorem read_view_v {c : Cl} {L : List Bk} (h : VwOk L) : Gives 4 (D_read_view c) [.str (vwT L)] (.val (.tup (L.map bkD))) := by
  obtain ⟨_, p0⟩ := (is_view_v (c := c) h).elim
  by_cases hn : L = []
  · subst hn
    have e : vwT [] = Str.ofString "-" := rfl
    simp at p0
    simp [Gives, D_read_view, any_str, e, lcAll, lcL, p0]
  · have hz := h.z
    have hl : ∀ b ∈ L, (bkT b).length ≤ 20 := fun b hb => bkT_len (h.s b hb)
    have e1 := split_vw h.s hn
    have e2 : ¬ vwT L = Str.ofString "-" := vw_dash h.s hn
    have zl : (vwT L).length ≤ 16777214 := by
      have e3 : vwT L = Txt.join ", " (L.map bkT) := by simp [vwT, hn]
      rw [e3]
      have a := join_len (s := ", ") (xs := L.map bkT)
      have b := sum_le (f := (fun x : Str => x.length) ∘ bkT) (k := 20) (xs := L) fun b hb => hl b hb
      rw [List.map_map, List.length_map, l_comma] at a
      have b2 : (L.map ((fun x : Str => x.length) ∘ bkT)).sum ≤ L.length * 20 := b
      omega
    have lc : ∀ ρ : En, ρ = [.val (.str (vwT L)), .lck (.lst (L.map fun b => D.str (bkT b))), .none, .none] → lcL [3] (uName 3) tdYes (dCall 1 4 (D__read_block c) (aCons (dVar 3) aNil)) (L.map fun b => D.str (bkT b)) ρ [] = .ok ([] ++ L.filterMap fun b => some (bkD b)) ρ := fun ρ hρ => by
      subst hρ
      refine lc_fm (enc := fun b => D.str (bkT b)) (fun b => some (bkD b)) (fun b hb ds acc ha => ?_) (by simp; omega)
      obtain ⟨_, p⟩ := (read_block_v (c := c) (h.s b hb)).elim
      simp at p
      have ha' : acc.length < 16777216 := by omega
      simp [lcL, tdYes, p, ha']
    have l := lc _ rfl
    have em : (L.map bkT).map D.str = L.map fun b => D.str (bkT b) := by rw [List.map_map]; rfl
    simp at l p0
    simp [Gives, D_read_view, f_split, any_str, e1, e2, zl, lcAll, em, l, p0]
end DL

set_option linter.all false
set_option maxRecDepth 100000
set_option maxHeartbeats 1000000
/-! frames: drawn, made, equal -/
namespace DL
open PySem PySem.Spec PyProof.Rows L2 DD
abbrev Kn := Int × Bool
structure Fr where
  n : Int
  s : Int
  m : Option Int
  p : Bool
  ks : List Kn
def knD (k : Kn) : D := .tup [.int k.1, .bl k.2]
def moD : Option Int → D
  | none => .non
  | some i => .int i
def frD (f : Fr) : D := .tup [.int f.n, .int f.s, moD f.m, .bl f.p, .lst (f.ks.map knD)]
def frO (c : Cl) (f : Fr) : O := .ins c.Frame ["length", "shortest", "most", "private", "known"] [.int f.n, .int f.s, moD f.m, .bl f.p, .tup (f.ks.map knD)]
def fvD (c : Cl) (f : Fr) : D := .ins c.Frame ["length", "shortest", "most", "private", "known"] [.int f.n, .int f.s, moD f.m, .bl f.p, .tup (f.ks.map knD)]
structure FrIn (f : Fr) : Prop where
  n : 1 ≤ f.n
  s : 1 ≤ f.s
  m : ∀ i, f.m = some i → 0 ≤ i
  k : ∀ x ∈ f.ks, 0 ≤ x.1 ∧ x.1 < f.n
  z : f.ks.length ≤ 50
theorem rngI {A : En → Res X} {ρ ρ1 : En} {x : Int} (h : A ρ = .ok (.val (.int x)) ρ1) (h0 : 0 ≤ x) (h1 : x ≤ 1000) : dRng1 A ρ = .ok ((List.range x.toNat).map fun i => D.int (i : Nat)) ρ1 := by
  have r1 : -4611686018427387904 ≤ x := by omega
  have r2 : x < 4611686018427387904 := by omega
  simp [h, r1, r2]
theorem frame_loop {c : Cl} {b : Int × Int} {n : Int} (h1 : 1 ≤ n) (h2 : n ≤ 1000) {v1 v2 : Slot} {N : Nat} (hN : N ≤ 40) : ∃ (b' : Int × Int) (ks : List Kn) (t3 : Slot), forL (uName 3) (D__law_frame_b1 c) ((List.range N).map fun i => D.int (i : Nat)) [.bor (box b), v1, v2, .none, .none, .val (.int n), .own (.lst [])] = .nx [.bor (box b'), v1, v2, t3, .none, .val (.int n), .own (.lst (ks.map knD))] ∧ t3.free = true ∧ ks.length ≤ N ∧ ∀ x ∈ ks, 0 ≤ x.1 ∧ x.1 < n := by
  obtain ⟨ρ', e, b', ks, t3, rfl, g3, hl, hk⟩ := forR_inv (U := uName 3) (B := D__law_frame_b1 c) (n := N) (fun i ρ => ∃ (b : Int × Int) (ks : List Kn) (s3 : Slot), ρ = [.bor (box b), v1, v2, s3, .none, .val (.int n), .own (.lst (ks.map knD))] ∧ s3.free = true ∧ ks.length ≤ i ∧ ∀ x ∈ ks, 0 ≤ x.1 ∧ x.1 < n) (fun i hi ρ hw => by
    obtain ⟨b, ks, s3, rfl, f3, hl, hk⟩ := hw
    obtain ⟨x, b1, g1, x0, x1⟩ := choose_gives (c := c) b (m := n) (by omega) (by omega)
    obtain ⟨y, b2, g2, y0, y1⟩ := choose_gives (c := c) b1 (m := 2) (by omega) (by omega)
    obtain ⟨_, p1, q1⟩ := g1.elim
    obtain ⟨_, p2, q2⟩ := g2.elim
    simp at p1 p2
    have z : ks.length < 16777216 := by omega
    refine ⟨_, .inl (by simp [D__law_frame_b1, f3, p1, q1, p2, q2, z] <;> rfl), b2, ks ++ [(x, decide (y = 0))], .val (.int i), ?_, rfl, by simp; omega, fun k hk' => ?_⟩
    · simp [knD]
    · rcases List.mem_append.mp hk' with h | h
      · exact hk k h
      · obtain rfl := List.mem_singleton.mp h
        exact ⟨x0, x1⟩) (ρ := [.bor (box b), v1, v2, .none, .none, .val (.int n), .own (.lst [])]) ⟨b, [], .none, rfl, rfl, Nat.le_refl 0, fun x h => by simp at h⟩
  exact ⟨b', ks, t3, e, g3, hl, hk⟩
theorem frame_gives {c : Cl} (b : Int × Int) {top : Int} (h1 : 1 ≤ top) (h2 : top ≤ 90) : ∃ (f : Fr) (b' : Int × Int), GivesB 7 (D__law_frame c) (box b) [.int top, .bl true] (.val (frD f)) (box b') ∧ FrIn f ∧ f.n ≤ top ∧ f.s ≤ 90 ∧ (∀ i, f.m = some i → i ≤ 90) ∧ f.ks.length ≤ 2 := by
  obtain ⟨x, b1, g1, x0, x1⟩ := choose_gives (c := c) b (m := top) (by omega) (by omega)
  obtain ⟨d, b2, g2, hd⟩ := one_of_gives (c := c) b1 (ds := [0, 0, 0, 1, 2].map D.int) (by simp) (by simp)
  obtain ⟨N, hN, rfl⟩ := mem_int hd
  have hN2 : 0 ≤ N ∧ N ≤ 2 := by simp at hN; omega
  obtain ⟨b3, ks, t3, e3, g3, hl, hk⟩ := frame_loop (c := c) (b := b2) (n := 1 + x) (by omega) (by omega) (v1 := .val (.int top)) (v2 := .val (.bl true)) (N := N.toNat) (by omega)
  obtain ⟨y, b4, g4, y0, y1⟩ := choose_gives (c := c) b3 (m := 4) (by omega) (by omega)
  obtain ⟨d, b5, g5, hm⟩ := one_of_gives (c := c) b4 (ds := [.non, .non, .int y]) (by simp) (by simp)
  obtain ⟨d2, b6, g6, hd2⟩ := one_of_gives (c := c) b5 (ds := [1, 1, 2, 3].map D.int) (by simp) (by simp)
  obtain ⟨s, hs, rfl⟩ := mem_int hd2
  have hs2 : 1 ≤ s ∧ s ≤ 3 := by simp at hs; omega
  obtain ⟨z, b7, g7, z0, z1⟩ := choose_gives (c := c) b6 (m := 3) (by omega) (by omega)
  obtain ⟨_, p1, q1⟩ := g1.elim
  obtain ⟨_, p2, q2⟩ := g2.elim
  obtain ⟨_, p4, q4⟩ := g4.elim
  obtain ⟨_, p5, q5⟩ := g5.elim
  obtain ⟨_, p6, q6⟩ := g6.elim
  obtain ⟨_, p7, q7⟩ := g7.elim
  have r1 : -4611686018427387904 ≤ N := by omega
  have r2 : N < 4611686018427387904 := by omega
  simp at p1 p2 p4 p5 p6 p7 hm
  rcases hm with rfl | rfl
  · refine ⟨⟨1 + x, s, none, decide (z = 0), ks⟩, b7, ?_, ⟨by show 1 ≤ 1 + x; omega, hs2.1, (fun i e => nomatch e), hk, by show ks.length ≤ 50; omega⟩, by show 1 + x ≤ top; omega, by show s ≤ 90; omega, (fun i e => nomatch e), by show ks.length ≤ 2; omega⟩
    simp [GivesB, D__law_frame, p1, q1, p2, q2, r1, r2, e3, p4, q4, p5, q5, p6, q6, p7, q7, frD, moD]
  · refine ⟨⟨1 + x, s, some y, decide (z = 0), ks⟩, b7, ?_, ⟨by show 1 ≤ 1 + x; omega, hs2.1, (fun i e => by cases e; exact y0), hk, by show ks.length ≤ 50; omega⟩, by show 1 + x ≤ top; omega, by show s ≤ 90; omega, (fun i e => by cases e; omega), by show ks.length ≤ 2; omega⟩
    simp [GivesB, D__law_frame, p1, q1, p2, q2, r1, r2, e3, p4, q4, p5, q5, p6, q6, p7, q7, frD, moD]
theorem is_known_v {c : Cl} {k : Kn} {n : Int} (h : 0 ≤ k.1 ∧ k.1 < n) : Gives 4 (D__is_known c) [knD k, .int n] (.val (.bl true)) := by
  obtain ⟨_, p⟩ := (is_number_v (c := c) (i := k.1)).elim
  have h1 := h.1
  have h2 := h.2
  simp at p
  simp [Gives, D__is_known, knD, anyK, p, h1, h2]
theorem are_known_v {c : Cl} {n : Int} {ks : List Kn} (h : ∀ x ∈ ks, 0 ≤ x.1 ∧ x.1 < n) (hz : ks.length ≤ 60) {d : D} (hd : d = .lst (ks.map knD) ∨ d = .tup (ks.map knD)) : Gives 3 (D__are_known c) [d, .int n] (.val (.bl true)) := by
  have lc : lcL [2] (uName 2) tdYes (dCall 2 4 (D__is_known c) (aCons (dVar 2) (aCons (dVar 1) aNil))) (ks.map knD) [.val d, .val (.int n), .none] [] = .ok ([] ++ ks.filterMap fun _ => some (.bl true)) [.val d, .val (.int n), .none] := by
    refine lc_fm (enc := knD) (fun _ => some (.bl true)) (fun k hk ds acc ha => ?_) (by simp; omega)
    obtain ⟨_, p⟩ := (is_known_v (c := c) (h k hk)).elim
    simp at p
    have ha' : acc.length < 16777216 := by omega
    simp [lcL, tdYes, p, ha']
  rw [fm_const] at lc
  have t1 := allB_t ks.length
  rcases hd with rfl | rfl
  · obtain ⟨_, p⟩ := (is_sequence_l (c := c) (ds := ks.map knD)).elim
    simp at p lc
    simp [Gives, D__are_known, p, lcAll, lc, t1]
  · obtain ⟨_, p⟩ := (is_sequence_t (c := c) (ds := ks.map knD)).elim
    simp at p lc
    simp [Gives, D__are_known, p, lcAll, lc, t1]
theorem wrong_f_v {c : Cl} {f : Fr} (ok : FrIn f) {d : D} (hd : d = .lst (f.ks.map knD) ∨ d = .tup (f.ks.map knD)) : Gives 5 (D_wrong_argument_frames c) [.int f.n, .int f.s, moD f.m, .bl f.p, d] (.val .non) := by
  obtain ⟨_, p1⟩ := (is_positive_v (c := c) (i := f.n)).elim
  obtain ⟨_, p2⟩ := (is_positive_v (c := c) (i := f.s)).elim
  obtain ⟨_, p4⟩ := (are_known_v (c := c) ok.k (by have := ok.z; omega) hd).elim
  have h1 := ok.n
  have h2 := ok.s
  cases e : f.m with
  | none =>
    simp at p1 p2 p4
    simp [Gives, D_wrong_argument_frames, moD, anyK, p1, p2, p4, h1, h2]
  | some i =>
    obtain ⟨_, p3⟩ := (is_number_v (c := c) (i := i)).elim
    have h3 := ok.m i e
    simp at p1 p2 p3 p4
    simp [Gives, D_wrong_argument_frames, moD, anyK, p1, p2, p3, p4, h1, h2, h3]
theorem frame_init {c : Cl} {f : Fr} (ok : FrIn f) {d : D} (hd : d = .lst (f.ks.map knD) ∨ d = .tup (f.ks.map knD)) : GivesB 7 (fun ρ => D_Frame___init__ c (fillD 6 [] ρ)) (.ins c.Frame [] []) [.int f.n, .int f.s, moD f.m, .bl f.p, d] (.val .non) (frO c f) := by
  obtain ⟨_, p⟩ := (wrong_f_v (c := c) ok hd).elim
  have hz := ok.z
  have z : f.ks.length ≤ 16777216 := by omega
  simp at p
  rcases hd with rfl | rfl
  · simp [GivesB, D_Frame___init__, fillD, p, frO, z]
  · simp [GivesB, D_Frame___init__, fillD, p, frO, z]
def knP (k : Kn) : PyData := .tuple [.int k.1, .bool k.2]
theorem kn_pyA : ∀ ks : List Kn, D.pyA (ks.map knD) = some (ks.map knP)
  | [] => rfl
  | k :: ks => by
    rw [List.map_cons, List.map_cons]
    have : D.py (knD k) = some (knP k) := rfl
    simp only [D.pyA, this, kn_pyA ks]
theorem kn_lay : ∀ ks : List Kn, PyData.canLayAll0 (ks.map knP) = true
  | [] => rfl
  | k :: ks => by
    rw [List.map_cons]
    have : PyData.canLay0 (knP k) = true := by simp [knP, PyData.canLay0, PyData.canLayAll0]
    simp only [PyData.canLayAll0, this, kn_lay ks, Bool.and_self]
theorem kn_dep : ∀ ks : List Kn, PyData.depthAll (ks.map knP) ≤ 50
  | [] => by simp [PyData.depthAll]
  | k :: ks => by
    rw [List.map_cons]
    have h1 : PyData.depth (knP k) ≤ 50 := by simp [knP, PyData.depth, PyData.depthAll]
    have h2 := kn_dep ks
    simp only [PyData.depthAll]
    omega
theorem frame_eq_v {c : Cl} {f : Fr} : Gives 2 (D_Frame___eq__ c) [fvD c f, fvD c f] (.val (.bl true)) := by
  have k : anyK (kitD [c.Day, c.Rule, c.Frame]) (.ref c.Frame) [.ref c.Frame] = some true := by simp [anyK, kitD]
  have e := eqB_self (kn_pyA f.ks) (kn_lay f.ks) (kn_dep f.ks)
  have e2 : eqB (moD f.m) (moD f.m) = some true := by cases f.m <;> simp [moD]
  simp [Gives, D_Frame___eq__, fvD, k, e, e2]
theorem knowing_v {c : Cl} {f : Fr} (ok : FrIn f) (hz : f.ks.length ≤ 40) : Gives 3 (D_Frame_knowing c) [fvD c f, .int 0, .bl true] (.new (frO c { f with ks := f.ks ++ [(0, true)] })) := by
  have ok2 : FrIn { f with ks := f.ks ++ [(0, true)] } := ⟨ok.n, ok.s, ok.m, fun x hx => by
    rcases List.mem_append.mp hx with h | h
    · exact ok.k x h
    · obtain rfl := List.mem_singleton.mp h
      exact ⟨Int.le_refl 0, by have := ok.n; show (0 : Int) < f.n; omega⟩, by simp; omega⟩
  obtain ⟨_, p, q⟩ := (frame_init (c := c) ok2 (.inr rfl)).elim
  have z : f.ks.length ≤ 16777215 := by omega
  simp [knD] at p
  simp [Gives, D_Frame_knowing, fvD, p, q, z]
end DL

set_option linter.all false
set_option maxRecDepth 100000
set_option maxHeartbeats 1000000
/-! texts of frames -/
namespace DL
open PySem PySem.Spec PyProof.Rows L2 DD
abbrev SPC : Str := " "
abbrev Jn (l : List Str) : Str := Str.join SPC l
def phr (a y : Str) : Str := a ++ SPC ++ y
def Rj (l l' : List Str) : Prop := (l = [] ↔ l' = []) ∧ Jn l = Jn l'
theorem Rj.refl (l : List Str) : Rj l l := ⟨Iff.rfl, rfl⟩
theorem Rj.cons {l l' : List Str} (x : Str) (r : Rj l l') : Rj (x :: l) (x :: l') := by
  refine ⟨by simp, ?_⟩
  obtain ⟨r1, r2⟩ := r
  cases l with
  | nil =>
    obtain rfl := r1.mp rfl
    rfl
  | cons y l =>
    cases l' with
    | nil => exact absurd (r1.mpr rfl) (by simp)
    | cons y' l' =>
      show x ++ SPC ++ Jn (y :: l) = x ++ SPC ++ Jn (y' :: l')
      rw [r2]
theorem Rj.phr {l l' : List Str} (a y : Str) (r : Rj l l') : Rj (DL.phr a y :: l) (a :: y :: l') := by
  refine ⟨by simp, ?_⟩
  have h := (r.cons y).2
  rw [show Jn (DL.phr a y :: l) = a ++ SPC ++ Jn (y :: l) from StrLaws.join_shift SPC a y l]
  show _ = a ++ SPC ++ Jn (y :: l')
  rw [h]
def kwT (b : Bool) : Str := if b = true then "taken" else "free"
def kT (k : Kn) : Str := phr (kwT k.2) (iT k.1)
def kP (ks : List Kn) : List Str := ks.map kT
def kW (ks : List Kn) : List Str := ks.flatMap fun k => [kwT k.2, iT k.1]
def pW (p : Bool) : List Str := if p = true then ["private"] else []
def mP : Option Int → List Str
  | none => []
  | some i => [phr "most" (iT i)]
def mW : Option Int → List Str
  | none => []
  | some i => ["most", iT i]
def fP (f : Fr) : List Str := phr "length" (iT f.n) :: phr "shortest" (iT f.s) :: (mP f.m ++ (pW f.p ++ kP f.ks))
def tailW (m : Option Int) (p : Bool) (ks : List Kn) : List Str := mW m ++ (pW p ++ kW ks)
def fW (f : Fr) : List Str := "length" :: iT f.n :: "shortest" :: iT f.s :: tailW f.m f.p f.ks
theorem rj_k : ∀ ks, Rj (kP ks) (kW ks)
  | [] => .refl _
  | k :: ks => (rj_k ks).phr _ _
theorem rj_p {p : Bool} {l l' : List Str} (r : Rj l l') : Rj (pW p ++ l) (pW p ++ l') := by
  cases p with
  | false => exact r
  | true => exact r.cons _
theorem rj_m {m : Option Int} {l l' : List Str} (r : Rj l l') : Rj (mP m ++ l) (mW m ++ l') := by
  cases m with
  | none => exact r
  | some i => exact r.phr _ _
theorem fP_fW (f : Fr) : Jn (fP f) = Jn (fW f) := (((rj_m (rj_p (rj_k f.ks))).phr _ _).phr _ _).2
def frT (f : Fr) : Str := Txt.join " " (fP f)
/-- numbers that a text can have -/
structure FrS (f : Fr) : Prop extends FrIn f where
  sn : f.n ≤ 99
  ss : f.s ≤ 99
  sm : ∀ i, f.m = some i → i ≤ 99
theorem FrS.n' {f : Fr} (h : FrS f) : Sm f.n := ⟨by have := h.n; omega, h.sn⟩
theorem FrS.s' {f : Fr} (h : FrS f) : Sm f.s := ⟨by have := h.s; omega, h.ss⟩
theorem FrS.m' {f : Fr} (h : FrS f) {i : Int} (e : f.m = some i) : Sm i := ⟨h.m i e, h.sm i e⟩
theorem FrS.k' {f : Fr} (h : FrS f) {x : Kn} (hx : x ∈ f.ks) : Sm x.1 := ⟨(h.k x hx).1, by have := (h.k x hx).2; have := h.sn; omega⟩
theorem fW_free {f : Fr} (z : FrS f) : ∀ x ∈ fW f, 32 ∉ TL.tl x := by
  intro x hx
  unfold fW tailW at hx
  rw [List.mem_cons, List.mem_cons, List.mem_cons, List.mem_cons, List.mem_append, List.mem_append] at hx
  rcases hx with rfl | rfl | rfl | rfl | hx | hx | hx
  · decide +kernel
  · exact free32 z.n'.1
  · decide +kernel
  · exact free32 z.s'.1
  · cases e : f.m with
    | none => rw [e] at hx; cases hx
    | some i =>
      rw [e] at hx
      rcases List.mem_cons.mp hx with rfl | hx
      · decide +kernel
      · obtain rfl := List.mem_singleton.mp hx
        exact free32 (z.m' e).1
  · unfold pW at hx
    split at hx
    · obtain rfl := List.mem_singleton.mp hx
      decide +kernel
    · cases hx
  · obtain ⟨y, hy, hx⟩ := List.mem_flatMap.mp hx
    rcases List.mem_cons.mp hx with rfl | hx
    · cases y.2 <;> decide +kernel
    · obtain rfl := List.mem_singleton.mp hx
      exact free32 (z.k' hy).1
theorem split_fr {f : Fr} (z : FrS f) : Txt.split (frT f) SPC = fW f := by
  have h := TL.split_join (y := SPC) (s := 32) (S := []) (by decide +kernel) (by decide +kernel) (parts := fW f) (by simp [fW]) (fW_free z)
  have e : frT f = Txt.join SPC (fW f) := by
    unfold frT
    rw [TL.join_eq, TL.join_eq]
    exact fP_fW f
  rw [e]
  exact h
theorem ph_l {x : Str} : Str.ofString "length " ++ x = phr "length" x := by
  rw [show Str.ofString "length " = Str.ofString "length" ++ Str.ofString " " by decide +kernel]
  rfl
theorem ph_s {x : Str} : Str.ofString "shortest " ++ x = phr "shortest" x := by
  rw [show Str.ofString "shortest " = Str.ofString "shortest" ++ Str.ofString " " by decide +kernel]
  rfl
theorem ph_m {x : Str} : Str.ofString "most " ++ x = phr "most" x := by
  rw [show Str.ofString "most " = Str.ofString "most" ++ Str.ofString " " by decide +kernel]
  rfl
theorem ph_t {x : Str} : Str.ofString "taken " ++ x = phr "taken" x := by
  rw [show Str.ofString "taken " = Str.ofString "taken" ++ Str.ofString " " by decide +kernel]
  rfl
theorem ph_f {x : Str} : Str.ofString "free " ++ x = phr "free" x := by
  rw [show Str.ofString "free " = Str.ofString "free" ++ Str.ofString " " by decide +kernel]
  rfl
theorem ll_l : (Str.ofString "length ").length = 7 := by decide +kernel
theorem ll_s : (Str.ofString "shortest ").length = 9 := by decide +kernel
theorem ll_m : (Str.ofString "most ").length = 5 := by decide +kernel
theorem ll_t : (Str.ofString "taken ").length = 6 := by decide +kernel
theorem ll_f : (Str.ofString "free ").length = 5 := by decide +kernel
theorem pair_words_v {c : Cl} {k : Kn} (h : Sm k.1) : Gives 3 (D__pair_words c) [knD k] (.val (.str (kT k))) := by
  obtain ⟨i, b⟩ := k
  have l := h.in.len
  have g := h.in.log
  have f1 : (phr (Str.ofString "taken") (iT i)).length ≤ 16777216 := by rw [← ph_t, Str.length_append, ll_t]; simp at l; omega
  have f2 : (phr (Str.ofString "free") (iT i)).length ≤ 16777216 := by rw [← ph_f, Str.length_append, ll_f]; simp at l; omega
  simp at g
  cases b <;> simp [Gives, D__pair_words, knD, kT, kwT, g, f1, f2, ph_t, ph_f, ll_t, ll_f]
theorem words_v {c : Cl} {f : Fr} (h : FrS f) (hz : f.ks.length ≤ 40) : Gives 3 (D__frame_words c) [fvD c f] (.new (.lst ((fP f).map D.str))) := by
  have l1 := h.n'.in.len
  have g1 := h.n'.in.log
  have l2 := h.s'.in.len
  have g2 := h.s'.in.log
  have f1 : (phr (Str.ofString "length") (iT f.n)).length ≤ 16777216 := by rw [← ph_l, Str.length_append, ll_l]; omega
  have f2 : (phr (Str.ofString "shortest") (iT f.s)).length ≤ 16777216 := by rw [← ph_s, Str.length_append, ll_s]; omega
  have z : f.ks.length ≤ 16777000 := by omega
  have lc : ∀ o : O, lcL [2] (uName 2) tdYes (dCall 1 3 (D__pair_words c) (aCons (dVar 2) aNil)) (f.ks.map knD) [.val (fvD c f), .own o, .none] [] = .ok ([] ++ f.ks.filterMap fun k => some (D.str (kT k))) [.val (fvD c f), .own o, .none] := fun o => by
    refine lc_fm (enc := knD) (fun k => some (D.str (kT k))) (fun k hk ds acc ha => ?_) (by simp; omega)
    obtain ⟨_, p⟩ := (pair_words_v (c := c) (h.k' hk)).elim
    simp at p
    have ha' : acc.length < 16777216 := by omega
    simp [lcL, tdYes, p, ha']
  have e1 : f.ks.filterMap (fun k => some (D.str (kT k))) = (kP f.ks).map D.str := by
    rw [kP, List.map_map]
    simp
  rw [e1] at lc
  have hk : (kP f.ks).length = f.ks.length := by simp [kP]
  have w1 : 4 + f.ks.length ≤ 16777216 := by omega
  have w2 : 3 + f.ks.length ≤ 16777216 := by omega
  have w3 : 2 + f.ks.length ≤ 16777216 := by omega
  cases em : f.m with
  | none =>
    cases ep : f.p
    · simp [fvD, em, ep, moD] at lc
      simp [Gives, D__frame_words, fvD, em, ep, moD, g1, g2, f1, f2, ph_l, ph_s, ll_l, ll_s, lcAll, lc, hk, w3, fP, mP, pW]
    · simp [fvD, em, ep, moD] at lc
      simp [Gives, D__frame_words, fvD, em, ep, moD, g1, g2, f1, f2, ph_l, ph_s, ll_l, ll_s, lcAll, lc, hk, w2, fP, mP, pW]
  | some i =>
    have g3 := (h.m' em).in.log
    have l3 := (h.m' em).in.len
    have f3 : (phr (Str.ofString "most") (iT i)).length ≤ 16777216 := by rw [← ph_m, Str.length_append, ll_m]; omega
    cases ep : f.p
    · simp [fvD, em, ep, moD] at lc
      simp [Gives, D__frame_words, fvD, em, ep, moD, g1, g2, g3, f1, f2, f3, ph_l, ph_s, ph_m, ll_l, ll_s, ll_m, lcAll, lc, hk, w2, fP, mP, pW]
    · simp [fvD, em, ep, moD] at lc
      simp [Gives, D__frame_words, fvD, em, ep, moD, g1, g2, g3, f1, f2, f3, ph_l, ph_s, ph_m, ll_l, ll_s, ll_m, lcAll, lc, hk, w1, fP, mP, pW]
theorem phr_len {a y : Str} : (phr a y).length = a.length + 1 + y.length := by
  unfold phr
  rw [Str.length_append, Str.length_append]
  rfl
theorem fP_len {f : Fr} (h : FrS f) : ∀ x ∈ fP f, x.length ≤ 30 := by
  have a1 : (Str.ofString "length").length = 6 := by decide +kernel
  have a2 : (Str.ofString "shortest").length = 8 := by decide +kernel
  have a3 : (Str.ofString "most").length = 4 := by decide +kernel
  have a4 : (Str.ofString "private").length = 7 := by decide +kernel
  have a5 : ∀ b, (kwT b).length ≤ 5 := fun b => by cases b <;> decide +kernel
  intro x hx
  unfold fP at hx
  rw [List.mem_cons, List.mem_cons, List.mem_append, List.mem_append] at hx
  rcases hx with rfl | rfl | hx | hx | hx
  · have := h.n'.in.len; rw [phr_len, a1]; omega
  · have := h.s'.in.len; rw [phr_len, a2]; omega
  · cases e : f.m with
    | none => rw [e] at hx; cases hx
    | some i =>
      rw [e] at hx
      obtain rfl := List.mem_singleton.mp hx
      have := (h.m' e).in.len; rw [phr_len, a3]; omega
  · unfold pW at hx
    split at hx
    · obtain rfl := List.mem_singleton.mp hx
      rw [a4]; omega
    · cases hx
  · obtain ⟨k, hk, rfl⟩ := List.mem_map.mp hx
    have := (h.k' hk).in.len
    have := a5 k.2
    rw [kT, phr_len]; omega
theorem fP_cnt {f : Fr} : (fP f).length ≤ f.ks.length + 4 := by
  have h1 : (mP f.m).length ≤ 1 := by cases f.m <;> simp [mP]
  have h2 : (pW f.p).length ≤ 1 := by cases f.p <;> simp [pW]
  simp only [fP, List.length_cons, List.length_append, kP, List.length_map]
  omega
theorem frame_str_v {c : Cl} {f : Fr} (h : FrS f) (hz : f.ks.length ≤ 40) : Gives 1 (D_Frame___str__ c) [fvD c f] (.val (.str (frT f))) := by
  obtain ⟨_, p⟩ := (words_v (c := c) h hz).elim
  have e : allS ((fP f).map D.str) = some (fP f) := by
    have := allS_map (f := fun x => x) (fP f)
    simpa using this
  have hs := sum_le (f := fun x : Str => x.length) (k := 30) (xs := fP f) (fP_len h)
  have hc := fP_cnt (f := f)
  have z : ((fP f).map fun x : Str => x.length).sum + (fP f).length ≤ 16777216 := by omega
  simp at p
  simp [Gives, D_Frame___str__, p, e, z, frT]
theorem frT_len {f : Fr} (h : FrS f) (hz : f.ks.length ≤ 40) : (frT f).length ≤ 5000 := by
  have hs := sum_le (f := fun x : Str => x.length) (k := 30) (xs := fP f) (fP_len h)
  have hc := fP_cnt (f := f)
  have a := join_len (s := " ") (xs := fP f)
  rw [l_sp] at a
  unfold frT
  omega
end DL

set_option linter.all false
set_option maxRecDepth 100000
set_option maxHeartbeats 1000000
/-! frames read -/
namespace DL
open PySem PySem.Spec PyProof.Rows L2 DD
@[simp] theorem q_dRng3 {T : En → Res (List X)} {ρ : En} : dRng3 T ρ = ((T ρ).bind fun xs ρ1 => lift ((derefs ρ1 xs).bind rng3D) ρ1) := rfl
theorem r3_0 : rng3D [.int 0, .int 0, .int 2] = some [] := by
  have e : (Builtin.Range.rangeSize 0 0 2).toNat = 0 := by decide
  have h : RgC 0 0 2 0 := by unfold RgC; decide
  simp [rng3D, e, h]
theorem r3_2 : rng3D [.int 0, .int 2, .int 2] = some [.int 0] := by
  have e : (Builtin.Range.rangeSize 0 2 2).toNat = 1 := by decide
  have h : RgC 0 2 2 1 := by unfold RgC; decide
  simp [rng3D, e, h, List.range_succ]
theorem r3_4 : rng3D [.int 0, .int 4, .int 2] = some [.int 0, .int 2] := by
  have e : (Builtin.Range.rangeSize 0 4 2).toNat = 2 := by decide
  have h : RgC 0 4 2 2 := by unfold RgC; decide
  simp [rng3D, e, h, List.range_succ]
theorem read_pair_v {c : Cl} {k : Kn} (h : Sm k.1) : Gives 2 (D__read_pair c) [.str (kwT k.2), .str (iT k.1)] (.val (knD k)) := by
  obtain ⟨i, b⟩ := k
  obtain ⟨_, p⟩ := (read_number_v (c := c) h).elim
  simp at p
  have e : ¬ Str.ofString "free" = Str.ofString "taken" := by decide +kernel
  cases b <;> simp [Gives, D__read_pair, kwT, knD, p, e]
theorem read_known_v {c : Cl} {ks : List Kn} (h : ∀ x ∈ ks, Sm x.1) (hz : ks.length ≤ 2) : Gives 2 (D__read_known c) [.lst ((kW ks).map D.str)] (.new (.lst (ks.map knD))) := by
  match ks, hz with
  | [], _ => simp [Gives, D__read_known, kW, r3_0, lcL, lcAll]
  | [a], _ =>
    obtain ⟨_, p⟩ := (read_pair_v (c := c) (h a (by simp))).elim
    simp at p
    simp [Gives, D__read_known, kW, r3_2, lcL, lcAll, tdYes, p]
  | [a, b], _ =>
    obtain ⟨_, p⟩ := (read_pair_v (c := c) (h a (by simp))).elim
    obtain ⟨_, p2⟩ := (read_pair_v (c := c) (h b (by simp))).elim
    simp at p p2
    simp [Gives, D__read_known, kW, r3_4, lcL, lcAll, tdYes, p, p2]
theorem eq_one {x : Str} (a b : Str) (ha : PyData.strOk a = true) (hb : PyData.strOk b = true) : eqB (.lst [.str a]) (.lst [.str b]) = some (decide (a = b)) := by
  have h := eqB_strs (l := [a]) (l' := [b]) (by simpa using ha) (by simpa using hb)
  simp at h
  exact h
theorem ct_0 : cutD [] none (some 1) = [] := rfl
theorem ct_1 {x : D} {L : List D} : cutD (x :: L) none (some 1) = [x] := by
  have := cutD_to (xs := x :: L) (k := 1)
  simpa using this
theorem ct_f1 {x : D} {L : List D} : cutD (x :: L) (some 1) none = L := by
  have := cutD_from (xs := x :: L) (k := 1)
  simpa using this
theorem ct_f2 {x y : D} {L : List D} : cutD (x :: y :: L) (some 2) none = L := by
  have := cutD_from (xs := x :: y :: L) (k := 2)
  simpa using this
theorem ct_f4 {x y z w : D} {L : List D} : cutD (x :: y :: z :: w :: L) (some 4) none = L := by
  have := cutD_from (xs := x :: y :: z :: w :: L) (k := 4)
  simpa using this
theorem eq_el : eqB (.lst []) (.lst [.str "most"]) = some false := by
  have h := eqB_strs (l := []) (l' := ["most"]) (by simp) (by simp; decide +kernel)
  simpa using h
theorem eq_ep : eqB (.lst []) (.lst [.str "private"]) = some false := by
  have h := eqB_strs (l := []) (l' := ["private"]) (by simp) (by simp; decide +kernel)
  simpa using h
theorem eq_om {a : Str} (h : a ≠ Str.ofString "most") (o : PyData.strOk a = true) : eqB (.lst [.str a]) (.lst [.str "most"]) = some false := by
  rw [eq_one (x := a) a "most" o (by decide +kernel)]
  simp [h]
theorem eq_op {a : Str} (h : a ≠ Str.ofString "private") (o : PyData.strOk a = true) : eqB (.lst [.str a]) (.lst [.str "private"]) = some false := by
  rw [eq_one (x := a) a "private" o (by decide +kernel)]
  simp [h]
theorem at_1 {x y : D} {L : List D} : atI (x :: y :: L) 1 = some y := atI_nat (j := 1) (by simp)
theorem at_3 {x y z w : D} {L : List D} : atI (x :: y :: z :: w :: L) 3 = some w := atI_nat (j := 3) (by simp)
theorem sb4 {n : Nat} : sliceBounds (some 0) (some 3) (some 2) (n + 4) = (0, 3, 2) := by
  simp [sliceBounds]
  try omega
theorem pk4 {x y z w : D} {L : List D} : pickS (x :: y :: z :: w :: L) (some 0) (some 3) 2 = [x, z] := by
  unfold pickS
  rw [show (x :: y :: z :: w :: L).length = L.length + 4 from rfl, sb4]
  rw [show sliceRange 0 3 2 = [0, 2] by decide]
  simp
def NotF (w : Str) (l : List Str) : Prop := ∀ x t, l = x :: t → x ≠ w ∧ PyData.strOk x = true
theorem read_most_v {c : Cl} {m : Option Int} (h : ∀ i, m = some i → Sm i) {l : List Str} (hl : NotF "most" l) (hz : l.length ≤ 100) : Gives 1 (D__read_most c) [.lst ((mW m ++ l).map D.str)] (.val (.tup [moD m, .lst (l.map D.str)])) := by
  cases m with
  | none =>
    cases l with
    | nil => simp [Gives, D__read_most, mW, ct_0, eq_el, moD]
    | cons x t =>
      obtain ⟨hx, ho⟩ := hl x t rfl
      have e := eq_om hx ho
      simp [Gives, D__read_most, mW, ct_1, e, moD]
  | some i =>
    obtain ⟨_, p⟩ := (read_number_v (c := c) (h i rfl)).elim
    have e := eq_one (x := "") "most" "most" (by decide +kernel) (by decide +kernel)
    simp at p e
    have z1 : decide ((l.length : Int) + 1 + 1 < 2) = false := by simp; omega
    have z2 : (l.length : Int) + 1 + 1 < 9223372036854775808 := by omega
    have z3 : 0 ≤ (l.length : Int) + 1 + 1 := by omega
    simp [Gives, D__read_most, mW, ct_1, ct_f2, e, moD, p, at_1, z1, z2, z3]
theorem read_privf_v {c : Cl} {b : Bool} {l : List Str} (hl : NotF "private" l) (hz : l.length ≤ 100) : Gives 1 (D_read_private_frames c) [.lst ((pW b ++ l).map D.str)] (.val (.tup [.bl b, .lst (l.map D.str)])) := by
  cases b with
  | false =>
    cases l with
    | nil => simp [Gives, D_read_private_frames, pW, ct_0, eq_ep]
    | cons x t =>
      obtain ⟨hx, ho⟩ := hl x t rfl
      have e := eq_op hx ho
      simp [Gives, D_read_private_frames, pW, ct_1, e]
  | true =>
    have e := eq_one (x := "") "private" "private" (by decide +kernel) (by decide +kernel)
    simp at e
    simp [Gives, D_read_private_frames, pW, ct_1, ct_f1, e]
end DL

set_option linter.all false
set_option maxRecDepth 100000
set_option maxHeartbeats 2000000
/-! frames read, days let -/
namespace DL
open PySem PySem.Spec PyProof.Rows L2 DD
theorem kwT_ne {b : Bool} {w : Str} (h1 : Str.ofString "taken" ≠ w) (h2 : Str.ofString "free" ≠ w) : kwT b ≠ w ∧ PyData.strOk (kwT b) = true := by
  cases b
  · exact ⟨h2, by decide +kernel⟩
  · exact ⟨h1, by decide +kernel⟩
theorem nf_k {ks : List Kn} {w : Str} (h1 : Str.ofString "taken" ≠ w) (h2 : Str.ofString "free" ≠ w) : NotF w (kW ks) := by
  intro x t e
  cases ks with
  | nil => cases e
  | cons k ks =>
    cases e
    exact kwT_ne h1 h2
theorem nf_p {p : Bool} {ks : List Kn} {w : Str} (h1 : Str.ofString "taken" ≠ w) (h2 : Str.ofString "free" ≠ w) (h3 : Str.ofString "private" ≠ w) : NotF w (pW p ++ kW ks) := by
  cases p with
  | false => exact nf_k h1 h2
  | true =>
    intro x t e
    cases e
    exact ⟨h3, by decide +kernel⟩
theorem kW_len {ks : List Kn} : (kW ks).length = ks.length * 2 := by
  induction ks with
  | nil => rfl
  | cons k ks ih =>
    show (kW ks).length + 2 = _
    rw [ih]
    simp
    omega
theorem eq_ls : eqB (.lst [.str "length", .str "shortest"]) (.lst [.str "length", .str "shortest"]) = some true := by
  have ok : ∀ x ∈ (["length", "shortest"] : List Str), PyData.strOk x = true := fun x hx => by
    simp only [List.mem_cons, List.not_mem_nil, or_false] at hx
    rcases hx with rfl | rfl <;> decide +kernel
  have := eqB_strs (l := ["length", "shortest"]) (l' := ["length", "shortest"]) ok ok
  simpa using this
theorem frame_read_v {c : Cl} {f : Fr} (z : FrS f) (hz : f.ks.length ≤ 2) : Gives 8 (D_Frame_read c) [.cls c.Frame, .str (frT f)] (.new (frO c f)) := by
  obtain ⟨_, p1⟩ := (read_number_v (c := c) z.n').elim
  obtain ⟨_, p2⟩ := (read_number_v (c := c) z.s').elim
  have hk := kW_len (ks := f.ks)
  have hp : (pW f.p).length ≤ 1 := by cases f.p <;> simp [pW]
  have hm : (mW f.m).length ≤ 2 := by cases f.m <;> simp [mW]
  obtain ⟨_, p3⟩ := (read_most_v (c := c) (m := f.m) (l := pW f.p ++ kW f.ks) (fun i e => z.m' e) (nf_p (by decide +kernel) (by decide +kernel) (by decide +kernel)) (by simp; omega)).elim
  obtain ⟨_, p4⟩ := (read_privf_v (c := c) (b := f.p) (l := kW f.ks) (nf_k (by decide +kernel) (by decide +kernel)) (by omega)).elim
  obtain ⟨_, p5⟩ := (read_known_v (c := c) (ks := f.ks) (fun x hx => z.k' hx) hz).elim
  obtain ⟨_, p6, q6⟩ := (frame_init (c := c) z.toFrIn (.inl rfl)).elim
  have e : Txt.split (frT f) (Str.ofString " ") = fW f := split_fr z
  have hl := frT_len z (by omega)
  have zl : (frT f).length ≤ 16777214 := by omega
  have n1 : decide (((mW f.m).length : Int) + (((pW f.p).length : Int) + ((kW f.ks).length : Int)) + 1 + 1 + 1 + 1 < 4) = false := by
    have := Int.natCast_nonneg (mW f.m).length
    have := Int.natCast_nonneg (pW f.p).length
    have := Int.natCast_nonneg (kW f.ks).length
    simp
    omega
  have n2 : ((mW f.m).length : Int) + (((pW f.p).length : Int) + ((kW f.ks).length : Int)) + 1 + 1 + 1 + 1 < 9223372036854775808 := by omega
  have n3 : 0 ≤ ((mW f.m).length : Int) + (((pW f.p).length : Int) + ((kW f.ks).length : Int)) + 1 + 1 + 1 + 1 := by omega
  simp [tailW] at p1 p2 p3 p4 p5 p6
  simp [frO] at q6
  simp [Gives, D_Frame_read, f_split, any_str, e, zl, fW, tailW, opSl3, pk4, eq_ls, at_1, at_3, ct_f4, p1, p2, p3, p4, p5, p6, q6, n1, n2, n3, frO]
end DL

set_option linter.all false
set_option maxRecDepth 100000
set_option maxHeartbeats 2000000
/-! which days a frame lets -/
namespace DL
open PySem PySem.Spec PyProof.Rows L2 DD
theorem in_intsT {i : Int} {xs : List Int} : opInB (.int i) (.tup (xs.map D.int)) = some (decide (i ∈ xs)) := by
  show (if _ then some (inD (.int i) (xs.map D.int)) else _) = _
  rw [if_pos ⟨rfl, flat_i⟩, inD_i]
theorem lc_idI {L : List Int} {ρ : En} {i : Nat} {acc : List D} (h : ρ[i]? = some .none) (hz : L.length + acc.length ≤ 100000) : lcL [i] (uName i) tdYes (dVar i) (L.map D.int) ρ acc = .ok (acc ++ L.map D.int) ρ := by
  have := lc_fm (vs := [i]) (U := uName i) (T := tdYes) (A := dVar i) (enc := D.int) (fun x => some (D.int x)) (ρ := ρ) (L := L) (acc := acc) (fun x hx ds acc ha => by
    have ha' : acc.length < 16777216 := by omega
    obtain ⟨hi, h'⟩ := List.getElem?_eq_some_iff.mp h
    have e : ρ.set i .none = ρ := by
      rw [← h']
      exact List.set_getElem_self hi
    have e2 : (ρ.set i (.val (D.int x)))[i]? = some (.val (D.int x)) := List.getElem?_set_self hi
    have e3 : (Slot.none : Slot).free = true := rfl
    simp [lcL, h, ha', e, e2, e3]) hz
  rw [this]
  simp
theorem rng_ints {a : Int} {n : Nat} : ((List.range n).map fun i => D.int (a + (i : Nat))) = ((List.range n).map fun i => a + ((i : Nat) : Int)).map D.int := by
  rw [List.map_map]
  rfl
theorem taken_loop {dv : Slot} : ∀ {ms : List Mt} {acc : List D}, (∀ m ∈ ms, MtSm2 m) → ms.length * 100 + acc.length ≤ 90000 →
    ∃ L : List Int, lc2L [1, 2] [2] (uName 1) tdYes (dRng2 (dBin opIx (dVar 1) (dC (.int 0))) (dBin opIx (dVar 1) (dC (.int 1)))) (uName 2) tdYes (dVar 2) (ms.map mtD) [dv, .none, .none] acc = .ok (acc ++ L.map D.int) [dv, .none, .none] ∧ L.length ≤ ms.length * 100
  | [], acc, _, _ => ⟨[], by simp [lc2L], by simp⟩
  | m :: ms, acc, h, hz => by
    obtain ⟨hb, he⟩ := h m List.mem_cons_self
    have hb1 := hb.1
    have hb2 := hb.2
    have he1 := he.1
    have he2 := he.2
    obtain ⟨M, hM⟩ : ∃ M : List Int, ((List.range (m.2.1 - m.1).toNat).map fun i => m.1 + ((i : Nat) : Int)) = M := ⟨_, rfl⟩
    have hl : M.length ≤ 100 := by
      rw [← hM]
      simp
      omega
    have i1 := lc_idI (L := M) (ρ := [dv, .val (mtD m), .none]) (i := 2) (acc := acc) rfl (by simp at hz; omega)
    obtain ⟨L, e, hL⟩ := taken_loop (dv := dv) (ms := ms) (acc := acc ++ M.map D.int) (fun x hx => h x (List.mem_cons_of_mem _ hx)) (by simp at hz ⊢; omega)
    refine ⟨M ++ L, ?_, by simp at hL ⊢; omega⟩
    have r1 : -4611686018427387904 ≤ m.1 := by omega
    have r2 : m.1 < 4611686018427387904 := by omega
    have r3 : -4611686018427387904 ≤ m.2.1 := by omega
    have r4 : m.2.1 < 4611686018427387904 := by omega
    rw [List.map_cons]
    unfold lc2L
    have rr := rng_ints (a := m.1) (n := (m.2.1 - m.1).toNat)
    rw [hM] at rr
    simp [mtD] at i1
    simp [mtD, r1, r2, r3, r4, rr, i1, e]
theorem taken_v {c : Cl} {n : Int} {ms : List Mt} (h : ∀ m ∈ ms, MtSm2 m) (hz : ms.length ≤ 100) : ∃ L : List Int, Gives 3 (D_Day_taken_2 c) [dvD c n ms] (.val (.tup (L.map D.int))) := by
  obtain ⟨L, e, hL⟩ := taken_loop (dv := .val (dvD c n ms)) (ms := ms) (acc := []) h (by simp; omega)
  refine ⟨L, ?_⟩
  have z : L.length ≤ 16777216 := by omega
  simp [dvD] at e
  simp [Gives, D_Day_taken_2, dvD, e, z]
theorem forL_alt {U : Tg} {B : En → SR} (W : En → Prop) (Q : X → Prop) : ∀ {ds : List D}, (∀ d ∈ ds, ∀ ρ, W ρ → (∃ ρ2, stepL U B d ρ = .nx ρ2 ∧ W ρ2) ∨ ∃ x ρ2, stepL U B d ρ = .rt x ρ2 ∧ Q x) → ∀ {ρ : En}, W ρ → (∃ ρ2, forL U B ds ρ = .nx ρ2 ∧ W ρ2) ∨ ∃ x ρ2, forL U B ds ρ = .rt x ρ2 ∧ Q x
  | [], _, ρ, w => .inl ⟨ρ, rfl, w⟩
  | d :: ds, h, ρ, w => by
    rcases h d List.mem_cons_self ρ w with ⟨ρ2, e, w2⟩ | ⟨x, ρ2, e, q⟩
    · have ih := forL_alt W Q (ds := ds) (fun d hd => h d (List.mem_cons_of_mem _ hd)) w2
      unfold stepL at e
      unfold forL
      cases e1 : U d ρ with
      | none => rw [e1] at e; cases e
      | some ρ1 =>
        rw [e1] at e
        simp only [e]
        exact ih
    · right
      refine ⟨x, ρ2, ?_, q⟩
      unfold stepL at e
      unfold forL
      cases e1 : U d ρ with
      | none => rw [e1] at e; cases e
      | some ρ1 =>
        rw [e1] at e
        simp only [e]
end DL

set_option linter.all false
set_option maxRecDepth 100000
set_option maxHeartbeats 2000000
/-! which days a frame lets -/
namespace DL
open PySem PySem.Spec PyProof.Rows L2 DD
noncomputable def letsT (c : Cl) : En → SR := (sSeq (sForS (dFld [c.Day] "meetings" (dVar 1)) (uTup 3 (usCons (uName 3) (usCons (uName 4) (usCons (uName 5) usNil)))) (D_Frame_lets_b1 c)) (sSeq (sSet 2 (dProp c.Day 3 (D_Day_taken_2 c) (dVar 1))) (sRet (dCB fAll (aCons (dLcS (dFld [c.Frame] "known" (dVar 0)) [6, 7] (uTup 2 (usCons (uName 6) (usCons (uName 7) usNil))) tdYes (dBin opEq (dBin opIn (dVar 6) (dVar 2)) (dVar 7))) aNil)))))
theorem lets_eq {c : Cl} : D_Frame_lets c = (sSeq (sIf (tor (dTest (dBin opNe (dFld [c.Day, c.Frame] "length" (dVar 1)) (dFld [c.Day, c.Frame] "length" (dVar 0)))) (tnd (dTest (dNotN (dFld [c.Frame] "most" (dVar 0)))) (dTest (dBin opGt (dCB fLen (aCons (dFld [c.Day] "meetings" (dVar 1)) aNil)) (dFld [c.Frame] "most" (dVar 0)))))) (sRet (dC (.bl false))) sNext) (letsT c)) := rfl
theorem lets_b1 {c : Cl} {f : Fr} {d1 : Slot} {m : Mt} {s3 s4 s5 : Slot} (f3 : s3.free = true) (f4 : s4.free = true) (f5 : s5.free = true) :
    (∃ t3 t4 t5 : Slot, stepL (uTup 3 (usCons (uName 3) (usCons (uName 4) (usCons (uName 5) usNil)))) (D_Frame_lets_b1 c) (mtD m) [.val (fvD c f), d1, .none, s3, s4, s5, .none, .none] = .nx [.val (fvD c f), d1, .none, t3, t4, t5, .none, .none] ∧ t3.free = true ∧ t4.free = true ∧ t5.free = true) ∨
    ∃ ρ', stepL (uTup 3 (usCons (uName 3) (usCons (uName 4) (usCons (uName 5) usNil)))) (D_Frame_lets_b1 c) (mtD m) [.val (fvD c f), d1, .none, s3, s4, s5, .none, .none] = .rt (.val (.bl false)) ρ' := by
  obtain ⟨a, b, w⟩ := m
  obtain ⟨n, s, mo, p, ks⟩ := f
  by_cases h : b - a < s
  · right
    refine ⟨[.val (fvD c ⟨n, s, mo, p, ks⟩), d1, .none, .val (.int a), .val (.int b), .val (.bl w), .none, .none], ?_⟩
    simp [D_Frame_lets_b1, fvD, mtD, f3, f4, f5, h]
  · cases w
    · left
      refine ⟨.val (.int a), .val (.int b), .val (.bl false), ?_, rfl, rfl, rfl⟩
      simp [D_Frame_lets_b1, fvD, mtD, f3, f4, f5, h]
    · cases p
      · right
        refine ⟨[.val (fvD c ⟨n, s, mo, false, ks⟩), d1, .none, .val (.int a), .val (.int b), .val (.bl true), .none, .none], ?_⟩
        simp [D_Frame_lets_b1, fvD, mtD, f3, f4, f5, h]
      · left
        refine ⟨.val (.int a), .val (.int b), .val (.bl true), ?_, rfl, rfl, rfl⟩
        simp [D_Frame_lets_b1, fvD, mtD, f3, f4, f5, h]
theorem allB_bl : ∀ (L : List Bool), ∃ bs, allB (L.map D.bl) = some bs
  | [] => ⟨[], rfl⟩
  | b :: L => by
    obtain ⟨bs, e⟩ := allB_bl L
    exact ⟨b :: bs, by simp [allB, e]⟩
theorem lets_tail {c : Cl} {f : Fr} {n : Int} {ms : List Mt} (h : ∀ m ∈ ms, MtSm2 m) (hz : ms.length ≤ 100) (hk : f.ks.length ≤ 100) :
    ∃ (b : Bool) (ρ' : En), letsT c [.val (fvD c f), .val (dvD c n ms), .none, .none, .none, .none, .none, .none] = .rt (.val (.bl b)) ρ' := by
  have loop := forL_alt (U := uTup 3 (usCons (uName 3) (usCons (uName 4) (usCons (uName 5) usNil)))) (B := D_Frame_lets_b1 c)
    (fun ρ => ∃ s3 s4 s5 : Slot, ρ = [.val (fvD c f), .val (dvD c n ms), .none, s3, s4, s5, .none, .none] ∧ s3.free = true ∧ s4.free = true ∧ s5.free = true)
    (fun x => x = .val (.bl false)) (ds := ms.map mtD) (fun d hd ρ hw => by
      obtain ⟨m, hm, rfl⟩ := List.mem_map.mp hd
      obtain ⟨s3, s4, s5, rfl, f3, f4, f5⟩ := hw
      rcases lets_b1 (c := c) (f := f) (d1 := .val (dvD c n ms)) (m := m) f3 f4 f5 with ⟨t3, t4, t5, e, g3, g4, g5⟩ | ⟨ρ', e⟩
      · exact .inl ⟨_, e, t3, t4, t5, rfl, g3, g4, g5⟩
      · exact .inr ⟨_, _, e, rfl⟩) (ρ := [.val (fvD c f), .val (dvD c n ms), .none, .none, .none, .none, .none, .none]) ⟨_, _, _, rfl, rfl, rfl, rfl⟩
  rcases loop with ⟨ρ2, e, s3, s4, s5, rfl, f3, f4, f5⟩ | ⟨x, ρ2, e, rfl⟩
  · obtain ⟨L, p⟩ := taken_v (c := c) (n := n) h hz
    obtain ⟨_, p⟩ := p.elim
    have lc : ∀ ρ : En, ρ = [.val (fvD c f), .val (dvD c n ms), .val (.tup (L.map D.int)), s3, s4, s5, .none, .none] → lcL [6, 7] (uTup 2 (usCons (uName 6) (usCons (uName 7) usNil))) tdYes (dBin opEq (dBin opIn (dVar 6) (dVar 2)) (dVar 7)) (f.ks.map knD) ρ [] = .ok ([] ++ f.ks.filterMap fun k => some (D.bl (decide (decide (k.1 ∈ L) = k.2)))) ρ := fun ρ hρ => by
      subst hρ
      refine lc_fm (enc := knD) (fun k => some (D.bl (decide (decide (k.1 ∈ L) = k.2)))) (fun k hk ds acc ha => ?_) (by simp; omega)
      have ha' : acc.length < 16777216 := by omega
      simp [lcL, tdYes, knD, in_intsT, ha']
    have l := lc _ rfl
    have e2 : (f.ks.filterMap fun k => some (D.bl (decide (decide (k.1 ∈ L) = k.2)))) = (f.ks.map fun k => (decide (decide (k.1 ∈ L) = k.2))).map D.bl := by
      rw [List.map_map]
      simp
      try rfl
    rw [e2] at l
    obtain ⟨bs, e3⟩ := allB_bl (f.ks.map fun k => (decide (decide (k.1 ∈ L) = k.2)))
    refine ⟨bs.all id, [.val (fvD c f), .val (dvD c n ms), .val (.tup (L.map D.int)), s3, s4, s5, .none, .none], ?_⟩
    simp [fvD, dvD] at e p l e3
    simp [letsT, fvD, dvD, e, p, l, e3, lcAll]
  · refine ⟨false, ρ2, ?_⟩
    simp [fvD, dvD] at e
    simp [letsT, fvD, dvD, e]
theorem lets_v {c : Cl} {f : Fr} {n : Int} {ms : List Mt} (h : ∀ m ∈ ms, MtSm2 m) (hz : ms.length ≤ 100) (hk : f.ks.length ≤ 100) : ∃ b : Bool, Gives 8 (D_Frame_lets c) [fvD c f, dvD c n ms] (.val (.bl b)) := by
  obtain ⟨b, ρ', e⟩ := lets_tail (c := c) (f := f) (n := n) h hz hk
  by_cases h1 : n = f.n
  · subst h1
    cases em : f.m with
    | none =>
      refine ⟨b, ?_⟩
      simp [fvD, dvD, em, moD] at e
      simp [Gives, lets_eq, fvD, dvD, em, moD, e]
    | some i =>
      have z1 : (ms.length : Int) < 9223372036854775808 := by omega
      by_cases h2 : i < ms.length
      · refine ⟨false, ?_⟩
        simp [Gives, lets_eq, fvD, dvD, em, moD, h2, z1]
      · refine ⟨b, ?_⟩
        simp [fvD, dvD, em, moD] at e
        simp [Gives, lets_eq, fvD, dvD, em, moD, h2, z1, e]
  · refine ⟨false, ?_⟩
    simp [Gives, lets_eq, fvD, dvD, h1]
end DL

set_option linter.all false
set_option maxRecDepth 100000
set_option maxHeartbeats 1000000
/-! views of views: facts of spans -/
namespace DL
open PySem PySem.Spec PyProof.Rows L2 DD
def Mul (s : Int) (x : Int × Int) : Prop := s ∣ x.1 ∧ s ∣ x.2
theorem jn_all {P : Int × Int → Prop} {r : Ru} {w : Bool} (hP : ∀ x y, P x → P y → P (x.1, y.2)) {J : List (Int × Int)} {x : Int × Int} (hx : P x) (hJ : ∀ y ∈ J, P y) : ∀ y ∈ jn r w J x, P y := by
  intro y hy
  rcases J.eq_nil_or_concat with rfl | ⟨I, z, rfl⟩
  · rw [jn_nil] at hy
    obtain rfl := List.mem_singleton.mp hy
    exact hx
  · rw [List.concat_eq_append] at hJ hy
    rw [jn_snoc] at hy
    split at hy
    · rcases List.mem_append.mp hy with hy | hy
      · exact hJ y (List.mem_append.mpr (.inl hy))
      · obtain rfl := List.mem_singleton.mp hy
        exact hP _ _ (hJ z (by simp)) hx
    · rcases List.mem_append.mp hy with hy | hy
      · exact hJ y hy
      · obtain rfl := List.mem_singleton.mp hy
        exact hx
theorem jn_fold_all {P : Int × Int → Prop} {r : Ru} {w : Bool} (hP : ∀ x y, P x → P y → P (x.1, y.2)) : ∀ {S J : List (Int × Int)}, (∀ x ∈ S, P x) → (∀ y ∈ J, P y) → ∀ y ∈ S.foldl (jn r w) J, P y
  | [], J, _, hJ => hJ
  | x :: S, J, hS, hJ => jn_fold_all hP (S := S) (J := jn r w J x) (fun y hy => hS y (List.mem_cons_of_mem _ hy)) (jn_all hP (hS x List.mem_cons_self) hJ)
theorem jn_eq {P : Int × Int → Prop} {r r' : Ru} {w : Bool} (h : ∀ x y, P x → P y → (isJ r w x.2 y.1 ↔ isJ r' w x.2 y.1)) {J : List (Int × Int)} {x : Int × Int} (hx : P x) (hJ : ∀ y ∈ J, P y) : jn r w J x = jn r' w J x := by
  rcases J.eq_nil_or_concat with rfl | ⟨I, z, rfl⟩
  · rfl
  · rw [List.concat_eq_append] at hJ ⊢
    rw [jn_snoc, jn_snoc]
    have := h z x (hJ z (by simp)) hx
    by_cases hj : isJ r w z.2 x.1
    · rw [if_pos hj, if_pos (this.mp hj)]
    · rw [if_neg hj, if_neg fun q => hj (this.mpr q)]
theorem jn_fold_eq {P : Int × Int → Prop} {r r' : Ru} {w : Bool} (hP : ∀ x y, P x → P y → P (x.1, y.2)) (h : ∀ x y, P x → P y → (isJ r w x.2 y.1 ↔ isJ r' w x.2 y.1)) : ∀ {S J : List (Int × Int)}, (∀ x ∈ S, P x) → (∀ y ∈ J, P y) → S.foldl (jn r w) J = S.foldl (jn r' w) J
  | [], J, _, _ => rfl
  | x :: S, J, hS, hJ => by
    rw [List.foldl_cons, List.foldl_cons, ← jn_eq h (hS x List.mem_cons_self) hJ]
    exact jn_fold_eq hP h (fun y hy => hS y (List.mem_cons_of_mem _ hy)) (jn_all hP (hS x List.mem_cons_self) hJ)
theorem dn_mul {t s : Int} : s ∣ dn t s := ⟨t / s, by unfold dn; rw [Int.mul_comm]⟩
theorem up_mul {t s : Int} : s ∣ up t s := ⟨(t + s - 1) / s, by unfold up; rw [Int.mul_comm]⟩
theorem span_mul {r : Ru} {w : Bool} {ms : List Mt} : ∀ x ∈ ms.filterMap (spanOf r w), Mul r.s x := by
  intro x hx
  obtain ⟨m, _, e⟩ := List.mem_filterMap.mp hx
  unfold spanOf at e
  split at e
  · cases e
    exact ⟨dn_mul, up_mul⟩
  · cases e
theorem jnd_mul {r : Ru} {w : Bool} {ms : List Mt} : ∀ x ∈ jnd r w ms, Mul r.s x := jn_fold_all (fun _ _ h1 h2 => ⟨h1.1, h2.2⟩) span_mul (fun _ h => nomatch h)
theorem le_floor {d g s : Int} (hs : 1 ≤ s) (h : s ∣ d) : d ≤ g ↔ d ≤ g / s * s := by
  obtain ⟨k, rfl⟩ := h
  constructor
  · intro h
    have : k ≤ g / s := (Int.le_ediv_iff_mul_le (by omega)).mpr (by rw [Int.mul_comm]; exact h)
    rw [Int.mul_comm]
    exact Int.mul_le_mul_of_nonneg_right this (by omega)
  · intro h
    have := (mul_div_le (a := g) (s := s) (by omega)).1
    omega
theorem lt_ceil {d l s : Int} (hs : 1 ≤ s) (h : s ∣ d) : d < l ↔ d < (l + s - 1) / s * s := by
  have e : d < l ↔ d ≤ l - 1 := by omega
  have e2 := le_floor (d := d) (g := l - 1) hs h
  have e3 : (l + s - 1) / s * s = (l - 1) / s * s + s := by
    rw [show l + s - 1 = l - 1 + 1 * s by omega, Int.add_mul_ediv_right _ _ (by omega), Int.add_mul]
    omega
  obtain ⟨k, rfl⟩ := h
  rw [e, e2, e3]
  constructor
  · intro h; omega
  · intro h
    have h2 : s * k < ((l - 1) / s + 1) * s := by rw [Int.add_mul]; omega
    rw [Int.mul_comm s k] at h2
    have h3 : k < (l - 1) / s + 1 := by
      refine Int.lt_of_mul_lt_mul_right h2 (by omega)
    have h4 : k * s ≤ (l - 1) / s * s := Int.mul_le_mul_of_nonneg_right (by omega) (by omega)
    rw [Int.mul_comm]
    exact h4
end DL

set_option linter.all false
set_option maxRecDepth 100000
set_option maxHeartbeats 1000000
/-! views of views: normal, plain, least -/
namespace DL
open PySem PySem.Spec PyProof.Rows L2 DD
theorem fm_congr {α β : Type} {f g : α → Option β} : ∀ {L : List α}, (∀ x ∈ L, f x = g x) → L.filterMap f = L.filterMap g
  | [], _ => rfl
  | x :: L, h => by rw [List.filterMap_cons, List.filterMap_cons, h x List.mem_cons_self, fm_congr fun y hy => h y (List.mem_cons_of_mem _ hy)]
/-! spans of meetings are not empty -/
theorem span_pos {r : Ru} (hs : 1 ≤ r.s) {w : Bool} {ms : List Mt} {a : Int} (hm : Meets a ms) : ∀ x ∈ ms.filterMap (spanOf r w), x.1 < x.2 := by
  intro x hx
  obtain ⟨m, hm2, e⟩ := List.mem_filterMap.mp hx
  have hlt : m.1 < m.2.1 := by
    clear hx e
    induction ms generalizing a with
    | nil => cases hm2
    | cons m' ms ih =>
      rcases List.mem_cons.mp hm2 with rfl | h
      · exact hm.2.1
      · exact ih hm.2.2 h
  unfold spanOf at e
  split at e
  · cases e
    have h1 := (dn_le (b := m.1) hs).1
    have h2 := (le_up (e := m.2.1) hs).1
    show dn m.1 r.s < up m.2.1 r.s
    omega
  · cases e
/-- spans in the order of their meetings -/
def Asc (B : Int) : List (Int × Int) → Prop
  | [] => True
  | x :: L => B ≤ x.2 ∧ x.1 < x.2 ∧ Asc x.2 L
theorem cut_normal {r : Ru} (hs : 1 ≤ r.s) {x : Int × Int} (hm : Mul r.s x) (hx : x.1 < x.2) : cutOf (ruN r) x = cutOf r x := by
  have hd : r.s ∣ x.2 - x.1 := Int.dvd_sub hm.2 hm.1
  have hle : r.s ≤ x.2 - x.1 := Int.le_of_dvd (by omega) hd
  have e : (x.2 - x.1 < (ruN r).l) ↔ (x.2 - x.1 < r.l) := by
    show x.2 - x.1 < (if r.l ≤ r.s then 0 else (r.l + r.s - 1) / r.s * r.s) ↔ _
    split
    · constructor <;> intro h <;> omega
    · exact (lt_ceil hs hd).symm
  unfold cutOf
  by_cases h : x.2 - x.1 < r.l
  · rw [if_pos h, if_pos (e.mpr h)]
  · rw [if_neg h, if_neg fun q => h (e.mp q)]
    rfl
theorem isJ_normal {r : Ru} (hs : 1 ≤ r.s) {w : Bool} {x y : Int × Int} (hx : Mul r.s x) (hy : Mul r.s y) : isJ r w x.2 y.1 ↔ isJ (ruN r) w x.2 y.1 := by
  have := le_floor (d := y.1 - x.2) (g := r.g) hs (Int.dvd_sub hy.1 hx.2)
  unfold isJ
  show _ ↔ (w = true ∧ r.p = "one") ∨ y.1 - x.2 ≤ r.g / r.s * r.s
  rw [this]
theorem jnd_normal {r : Ru} (hs : 1 ≤ r.s) {w : Bool} {ms : List Mt} : jnd (ruN r) w ms = jnd r w ms :=
  (jn_fold_eq (P := Mul r.s) (fun _ _ h1 h2 => ⟨h1.1, h2.2⟩) (fun x y hx hy => isJ_normal hs hx hy) (S := ms.filterMap (spanOf r w)) (J := []) span_mul (fun _ h => nomatch h)).symm
end DL

set_option linter.all false
set_option maxRecDepth 100000
set_option maxHeartbeats 1000000
/-! views of views: open rules -/
namespace DL
open PySem PySem.Spec PyProof.Rows L2 DD
theorem leK_bk {a b : Bk} (h : a.1 < b.1) : leK bkP a b = true := by
  rw [leK_def]
  have h2 : ¬ b.1 < a.1 := by omega
  have h3 : ¬ b.1 = a.1 := by omega
  simp [PySem.W.dataLt, bkP, PySem.W.keyToks, PySem.W.keyToksAll, PyProof.Rows.lexLt, itemLt, h2, h3, h]
theorem jnd_spc {r : Ru} (ok : RuOk r) {ms : List Mt} (hm : Meets 0 ms) (hn : endOf 0 ms ≤ 1000) {w : Bool} : Spc 2000 (jnd r w ms) :=
  (painted_v (c := ⟨default, default, default⟩) ok (n := 0) hm hn (w := w)).2
theorem show_normal {r : Ru} (ok : RuOk r) {ms : List Mt} (hm : Meets 0 ms) (hn : endOf 0 ms ≤ 1000) : showL (ruN r) ms = showL r ms := by
  have one : ∀ w, blk (ruN r) w ms = blk r w ms := fun w => by
    unfold blk
    rw [jnd_normal ok.s.1, fm_congr fun x hx => cut_normal ok.s.1 (jnd_mul x hx) ((jnd_spc ok hm hn).one x hx).2.1]
  unfold showL
  rw [one, one]
/-! a rule that shows everything as busy, without hours -/
structure Opn (r : Ru) : Prop where
  p : r.p = "busy"
  h : r.h = none
def wk (r : Ru) (ms : List Mt) : List (Int × Int) := (jnd r false ms).filter fun x => decide (r.l ≤ x.2 - x.1)
def bz (x : Int × Int) : Bk := (x.1, x.2, false)
theorem word_open {p : Bool} : wordOf "busy" p = some false := by simp [wordOf]
theorem fm_none {α β : Type} {f : α → Option β} : ∀ {L : List α}, (∀ x ∈ L, f x = none) → L.filterMap f = []
  | [], _ => rfl
  | x :: L, h => by rw [List.filterMap_cons, h x List.mem_cons_self, fm_none fun y hy => h y (List.mem_cons_of_mem _ hy)]
theorem cut_open {r : Ru} (h : r.h = none) : ∀ L : List (Int × Int), L.filterMap (cutOf r) = L.filter fun x => decide (r.l ≤ x.2 - x.1)
  | [] => rfl
  | x :: L => by
    rw [List.filterMap_cons, List.filter_cons, cut_open h L]
    unfold cutOf
    rw [h]
    by_cases hl : x.2 - x.1 < r.l
    · have : ¬ r.l ≤ x.2 - x.1 := by omega
      simp [hl, this]
    · have : r.l ≤ x.2 - x.1 := by omega
      simp [hl, this]
theorem show_open {r : Ru} (o : Opn r) {ms : List Mt} : showL r ms = (wk r ms).map bz := by
  have e1 : blk r true ms = [] := by
    have e0 : ms.filterMap (spanOf r true) = [] := fm_none fun m _ => by
      unfold spanOf
      rw [o.p, word_open]
      rfl
    unfold blk jnd
    rw [e0]
    rfl
  unfold showL
  rw [e1, List.append_nil]
  unfold blk wk
  rw [cut_open o.h]
  rfl
theorem wk_spc {r : Ru} (ok : RuOk r) {ms : List Mt} (hm : Meets 0 ms) (hn : endOf 0 ms ≤ 1000) : Spc 2000 (wk r ms) := by
  have s := jnd_spc ok hm hn (w := false)
  exact ⟨fun x hx => s.one x (List.mem_filter.mp hx).1, s.two.filter _⟩
theorem srt_bz {a : Int} {J : List (Int × Int)} (s : Spc a J) : srt bkP (J.map bz) = J.map bz := by
  refine (bkO.uniq (.refl _) ?_).symm
  rw [List.pairwise_map]
  have h := s.two
  have h1 := s.one
  clear s
  induction J with
  | nil => exact .nil
  | cons x J ih =>
    rw [List.pairwise_cons] at h ⊢
    refine ⟨fun y hy => leK_bk ?_, ih h.2 fun y hy => h1 y (List.mem_cons_of_mem _ hy)⟩
    have := h.1 y hy
    have := (h1 x List.mem_cons_self).2.1
    show x.1 < y.1
    omega
theorem view_open {r : Ru} (ok : RuOk r) (o : Opn r) {ms : List Mt} (hm : Meets 0 ms) (hn : endOf 0 ms ≤ 1000) : srt bkP (showL r ms) = (wk r ms).map bz := by
  rw [show_open o, srt_bz (wk_spc ok hm hn)]
end DL

set_option linter.all false
set_option maxRecDepth 100000
set_option maxHeartbeats 1000000
/-! views of views: plain days, a view taken for a day, less shown -/
namespace DL
open PySem PySem.Spec PyProof.Rows L2 DD
def opM (ms : List Mt) : List Mt := ms.filter fun m => !m.2.2
theorem fm_plain {r : Ru} (h : r.p = "none") {w : Bool} : ∀ ms : List Mt, (opM ms).filterMap (spanOf r w) = ms.filterMap (spanOf r w)
  | [] => rfl
  | m :: ms => by
    have ih := fm_plain (w := w) h ms
    unfold opM at ih ⊢
    rw [List.filter_cons, List.filterMap_cons]
    cases e : m.2.2
    · simp [ih, List.filterMap_cons]
    · have : spanOf r w m = none := by
        unfold spanOf
        rw [h, e]
        have : ¬ (Str.ofString "none" = Str.ofString "busy") := by decide +kernel
        simp [wordOf, this]
      simp [this, ih]
theorem show_plain {r : Ru} (h : r.p = "none") (ms : List Mt) : showL r (opM ms) = showL r ms := by
  unfold showL blk jnd
  rw [fm_plain h, fm_plain h]
/-! less is shown where more is asked of a block -/
theorem wk_less {r r' : Ru} (hs : r'.s = r.s) (hg : r'.g = r.g) (hp : r'.p = r.p) (hl : r.l ≤ r'.l) {ms : List Mt} : ∀ x ∈ wk r' ms, x ∈ wk r ms := by
  have e1 : ms.filterMap (spanOf r' false) = ms.filterMap (spanOf r false) := fm_congr fun m _ => by
    unfold spanOf
    rw [hs, hp]
  have e2 : jnd r' false ms = jnd r false ms := by
    unfold jnd
    rw [e1]
    exact (jn_fold_eq (P := fun _ => True) (fun _ _ _ _ => trivial) (fun x y _ _ => by
      unfold isJ
      rw [hg, hp]) (S := ms.filterMap (spanOf r false)) (J := []) (fun _ _ => trivial) (fun _ _ => trivial)).symm
  intro x hx
  unfold wk at hx ⊢
  rw [e2] at hx
  rw [List.mem_filter] at hx ⊢
  exact ⟨hx.1, by
    have := of_decide_eq_true hx.2
    exact decide_eq_true (by omega)⟩
/-! blocks of one rule are apart by more than its gap -/
theorem isJ_false {r : Ru} {e b : Int} : isJ r false e b ↔ b - e ≤ r.g := by
  unfold isJ
  simp
def Apt (g : Int) (J : List (Int × Int)) : Prop := J.Pairwise fun x y => g < y.1 - x.2
theorem jn_apt {r : Ru} (hg : 0 ≤ r.g) {J : List (Int × Int)} {x : Int × Int} (hs : ∀ y ∈ J, y.1 ≤ y.2) (hx : x.1 ≤ x.2) (h : Apt r.g J) (ho : ∀ y ∈ J, y.2 ≤ x.2) : Apt r.g (jn r false J x) := by
  rcases J.eq_nil_or_concat with rfl | ⟨I, z, rfl⟩
  · rw [jn_nil]
    exact List.pairwise_singleton _ _
  · rw [List.concat_eq_append] at h ho hs ⊢
    rw [jn_snoc]
    have hI := List.pairwise_append.mp h
    split
    · unfold Apt
      rw [List.pairwise_append]
      refine ⟨hI.1, List.pairwise_singleton _ _, fun a ha b hb => ?_⟩
      obtain rfl := List.mem_singleton.mp hb
      exact hI.2.2 a ha z (by simp)
    · rename_i hj
      rw [isJ_false] at hj
      unfold Apt
      rw [List.pairwise_append]
      refine ⟨h, List.pairwise_singleton _ _, fun a ha b hb => ?_⟩
      obtain rfl := List.mem_singleton.mp hb
      rcases List.mem_append.mp ha with ha | ha
      · have h1 := hI.2.2 a ha z (by simp)
        have h2 := hs z (by simp)
        omega
      · obtain rfl := List.mem_singleton.mp ha
        omega
theorem fold_self {r : Ru} {J : List (Int × Int)} : ∀ {S : List (Int × Int)}, Apt r.g (J ++ S) → S.foldl (jn r false) J = J ++ S
  | [], _ => by simp
  | x :: S, h => by
    rw [List.foldl_cons]
    have e : jn r false J x = J ++ [x] := by
      rcases J.eq_nil_or_concat with rfl | ⟨I, z, rfl⟩
      · rfl
      · rw [List.concat_eq_append] at h ⊢
        rw [jn_snoc, if_neg]
        rw [isJ_false]
        have := (List.pairwise_append.mp h).2.2 z (by simp) x (by simp)
        omega
    rw [e, fold_self (S := S) (by simpa using h)]
    simp
/-- spans that end in their order -/
def EndA : Int → List (Int × Int) → Prop
  | _, [] => True
  | B, x :: S => B ≤ x.2 ∧ x.1 ≤ x.2 ∧ EndA x.2 S
theorem fold_apt {r : Ru} (hg : 0 ≤ r.g) : ∀ {S J : List (Int × Int)} {B : Int}, EndA B S → (∀ y ∈ J, y.1 ≤ y.2 ∧ y.2 ≤ B) → Apt r.g J → Apt r.g (S.foldl (jn r false) J)
  | [], _, _, _, _, h => h
  | x :: S, J, B, hE, hJ, h => by
    obtain ⟨h1, h2, h3⟩ := hE
    rw [List.foldl_cons]
    refine fold_apt hg (S := S) (B := x.2) h3 ?_ (jn_apt hg (fun y hy => (hJ y hy).1) h2 h (fun y hy => by have := (hJ y hy).2; omega))
    intro y hy
    rcases J.eq_nil_or_concat with rfl | ⟨I, z, rfl⟩
    · rw [jn_nil] at hy
      obtain rfl := List.mem_singleton.mp hy
      exact ⟨h2, Int.le_refl _⟩
    · rw [List.concat_eq_append] at hJ hy
      rw [jn_snoc] at hy
      have hz := hJ z (by simp)
      split at hy
      · rcases List.mem_append.mp hy with hy | hy
        · have := hJ y (List.mem_append.mpr (.inl hy))
          omega
        · obtain rfl := List.mem_singleton.mp hy
          exact ⟨by show z.1 ≤ x.2; omega, Int.le_refl _⟩
      · rcases List.mem_append.mp hy with hy | hy
        · have := hJ y hy
          omega
        · obtain rfl := List.mem_singleton.mp hy
          exact ⟨h2, Int.le_refl _⟩
/-! a view taken for a day -/
theorem ends_of {r : Ru} (hp : r.p = "busy") (hs : 1 ≤ r.s) : ∀ {ms : List Mt} {a : Int}, Meets a ms → EndA (up a r.s) (ms.filterMap (spanOf r false))
  | [], _, _ => trivial
  | m :: ms, a, h => by
    have e : spanOf r false m = some (dn m.1 r.s, up m.2.1 r.s) := by
      unfold spanOf
      rw [hp, word_open]
      simp
    rw [List.filterMap_cons, e]
    have h1 := h.1
    have h2 := h.2.1
    refine ⟨up_mono hs (by omega), ?_, ends_of hp hs h.2.2⟩
    have := (dn_le (b := m.1) hs).1
    have := (le_up (e := m.2.1) hs).1
    show dn m.1 r.s ≤ up m.2.1 r.s
    omega
theorem jnd_apt {r : Ru} (hg : 0 ≤ r.g) (hp : r.p = "busy") (hs : 1 ≤ r.s) {ms : List Mt} {a : Int} (h : Meets a ms) : Apt r.g (jnd r false ms) :=
  fold_apt hg (ends_of hp hs h) (fun _ h => nomatch h) .nil
theorem wk_apt {r : Ru} (hg : 0 ≤ r.g) (hp : r.p = "busy") (hs : 1 ≤ r.s) {ms : List Mt} {a : Int} (h : Meets a ms) : Apt r.g (wk r ms) := (jnd_apt hg hp hs h).filter _
def mtOf (x : Int × Int) : Mt := (x.1, x.2, false)
theorem dn_self {t s : Int} (hs : 1 ≤ s) (h : s ∣ t) : dn t s = t := Int.ediv_mul_cancel h
theorem up_self {t s : Int} (hs : 1 ≤ s) (h : s ∣ t) : up t s = t := by
  have h1 := le_up (e := t) hs
  have h2 : s ∣ up t s - t := Int.dvd_sub up_mul h
  obtain ⟨k, hk⟩ := h2
  have h3 : k = 0 := by
    rcases Int.lt_trichotomy k 0 with h | h | h
    · have := Int.mul_neg_of_pos_of_neg (show 0 < s by omega) h
      omega
    · exact h
    · have : s * 1 ≤ s * k := Int.mul_le_mul_of_nonneg_left (by omega) (by omega)
      omega
  rw [h3] at hk
  omega
theorem again_spans {r : Ru} (hp : r.p = "busy") (hs : 1 ≤ r.s) : ∀ {J : List (Int × Int)}, (∀ x ∈ J, Mul r.s x) → (J.map mtOf).filterMap (spanOf r false) = J
  | [], _ => rfl
  | x :: J, h => by
    have hx := h x List.mem_cons_self
    have e : spanOf r false (mtOf x) = some x := by
      unfold spanOf mtOf
      rw [hp, word_open]
      simp [dn_self hs hx.1, up_self hs hx.2]
    rw [List.map_cons, List.filterMap_cons, e, again_spans hp hs fun y hy => h y (List.mem_cons_of_mem _ hy)]
theorem wk_again {r : Ru} (hg : 0 ≤ r.g) (hp : r.p = "busy") (hs : 1 ≤ r.s) {ms : List Mt} {a : Int} (h : Meets a ms) : wk r ((wk r ms).map mtOf) = wk r ms := by
  have hM : ∀ x ∈ wk r ms, Mul r.s x := fun x hx => jnd_mul x (List.mem_filter.mp hx).1
  have e : jnd r false ((wk r ms).map mtOf) = wk r ms := by
    have h1 := again_spans hp hs hM
    have h2 := fold_self (r := r) (J := []) (S := wk r ms) (by simpa using wk_apt hg hp hs h)
    unfold jnd
    rw [h1, h2]
    rfl
  show (jnd r false ((wk r ms).map mtOf)).filter (fun x => decide (r.l ≤ x.2 - x.1)) = wk r ms
  rw [e]
  unfold wk
  rw [List.filter_filter]
  simp
/-- the day of a view -/
theorem meets_again {r : Ru} (ok : RuOk r) (hp : r.p = "busy") {ms : List Mt} {n : Int} (hm : Meets 0 ms) (he : endOf 0 ms ≤ n) (hn : n ≤ 1000) : Meets 0 ((wk r ms).map mtOf) ∧ endOf 0 ((wk r ms).map mtOf) ≤ n + 8 := by
  have s := wk_spc ok hm (by omega)
  have hE := jnd_end ok hm he (w := false)
  have h2 : ∀ x ∈ wk r ms, x.2 ≤ n + 8 := fun x hx => hE x (List.mem_filter.mp hx).1
  have h0 : 0 ≤ n + 8 := by
    have := endOf_nonneg (Int.le_refl 0) hm
    omega
  generalize wk r ms = J at s h2
  have gen : ∀ (J : List (Int × Int)) (a : Int), a ≤ n + 8 → (∀ x ∈ J, a ≤ x.1 ∧ x.1 < x.2 ∧ x.2 ≤ n + 8) → J.Pairwise (fun x y => x.2 < y.1) → Meets a (J.map mtOf) ∧ endOf a (J.map mtOf) ≤ n + 8 := by
    intro J
    induction J with
    | nil => exact fun a ha _ _ => ⟨trivial, ha⟩
    | cons x J ih =>
      intro a ha h hp
      have hx := h x List.mem_cons_self
      rw [List.pairwise_cons] at hp
      obtain ⟨i1, i2⟩ := ih x.2 hx.2.2 (fun y hy => by
        have := h y (List.mem_cons_of_mem _ hy)
        have := hp.1 y hy
        omega) hp.2
      exact ⟨⟨hx.1, hx.2.1, i1⟩, i2⟩
  exact gen J 0 h0 (fun x hx => by
    have := s.one x hx
    have := h2 x hx
    omega) s.two
end DL

set_option linter.all false
set_option maxRecDepth 100000
set_option maxHeartbeats 1000000
/-! views of views: what is covered -/
namespace DL
open PySem PySem.Spec PyProof.Rows L2 DD
open Classical in
noncomputable def jq (q : Int → Prop) (J : List (Int × Int)) (x : Int × Int) : List (Int × Int) := match J.getLast? with
  | some y => if q (x.1 - y.2) then J.dropLast ++ [(y.1, x.2)] else J ++ [x]
  | none => J ++ [x]
theorem jq_nil {q : Int → Prop} {x : Int × Int} : jq q [] x = [x] := rfl
theorem jq_yes {q : Int → Prop} {J : List (Int × Int)} {x y : Int × Int} (h : q (x.1 - y.2)) : jq q (J ++ [y]) x = J ++ [(y.1, x.2)] := by
  simp [jq, h]
theorem jq_no {q : Int → Prop} {J : List (Int × Int)} {x y : Int × Int} (h : ¬ q (x.1 - y.2)) : jq q (J ++ [y]) x = J ++ [y] ++ [x] := by
  simp [jq, h]
theorem jn_jq {r : Ru} {J : List (Int × Int)} {x : Int × Int} : jn r false J x = jq (fun d => d ≤ r.g) J x := by
  rcases J.eq_nil_or_concat with rfl | ⟨I, z, rfl⟩
  · rfl
  · rw [List.concat_eq_append, jn_snoc]
    by_cases h : x.1 - z.2 ≤ r.g
    · rw [if_pos (isJ_false.mpr h), jq_yes h]
    · rw [if_neg fun q => h (isJ_false.mp q), jq_no h]
theorem fold_jq {r : Ru} : ∀ {S J : List (Int × Int)}, S.foldl (jn r false) J = S.foldl (jq fun d => d ≤ r.g) J
  | [], _ => rfl
  | x :: S, J => by rw [List.foldl_cons, List.foldl_cons, jn_jq, fold_jq]
theorem fold_never : ∀ {S J : List (Int × Int)}, S.foldl (jq fun _ => False) J = J ++ S
  | [], J => by simp
  | x :: S, J => by
    have e : jq (fun _ => False) J x = J ++ [x] := by
      rcases J.eq_nil_or_concat with rfl | ⟨I, z, rfl⟩
      · rfl
      · rw [List.concat_eq_append, jq_no (fun h => h)]
    rw [List.foldl_cons, e, fold_never]
    simp
def Wi (J : List (Int × Int)) (y : Int × Int) : Prop := ∃ z ∈ J, z.1 ≤ y.1 ∧ y.2 ≤ z.2
structure Cn (A B : Int) (J J' : List (Int × Int)) : Prop where
  w : ∀ y ∈ J, Wi J' y
  l : (J = [] ∧ J' = []) ∨ ∃ I z I' z', J = I ++ [z] ∧ J' = I' ++ [z'] ∧ z.2 = z'.2 ∧ z'.1 ≤ z.1 ∧ z.1 ≤ A ∧ z.2 ≤ B
def SpA : Int → Int → List (Int × Int) → Prop
  | _, _, [] => True
  | A, B, x :: S => A ≤ x.1 ∧ B ≤ x.2 ∧ SpA x.1 x.2 S
theorem Wi.ext {I : List (Int × Int)} {z x y : Int × Int} (h : Wi (I ++ [z]) y) (hx : z.2 ≤ x.2) : Wi (I ++ [(z.1, x.2)]) y := by
  obtain ⟨u, hu, h1, h2⟩ := h
  rcases List.mem_append.mp hu with hu | hu
  · exact ⟨u, List.mem_append.mpr (.inl hu), h1, h2⟩
  · obtain rfl := List.mem_singleton.mp hu
    exact ⟨(u.1, x.2), by simp, h1, by show y.2 ≤ x.2; omega⟩
theorem Wi.more {I : List (Int × Int)} {x y : Int × Int} (h : Wi I y) : Wi (I ++ [x]) y := by
  obtain ⟨u, hu, h1, h2⟩ := h
  exact ⟨u, List.mem_append.mpr (.inl hu), h1, h2⟩
theorem cn_step {q q' : Int → Prop} (hq : ∀ d, q d → q' d) {A B : Int} {J J' : List (Int × Int)} (c : Cn A B J J') {x : Int × Int} (hA : A ≤ x.1) (hB : B ≤ x.2) : Cn x.1 x.2 (jq q J x) (jq q' J' x) := by
  rcases c.l with ⟨rfl, rfl⟩ | ⟨I, z, I', z', rfl, rfl, e1, e2, e3, e4⟩
  · rw [jq_nil, jq_nil]
    exact ⟨fun y hy => ⟨y, hy, Int.le_refl _, Int.le_refl _⟩, .inr ⟨[], x, [], x, rfl, rfl, rfl, Int.le_refl _, Int.le_refl _, Int.le_refl _⟩⟩
  · by_cases h : q (x.1 - z.2)
    · have h' : q' (x.1 - z'.2) := by rw [← e1]; exact hq _ h
      rw [jq_yes h, jq_yes h']
      refine ⟨fun y hy => ?_, .inr ⟨_, _, _, _, rfl, rfl, rfl, e2, by show z.1 ≤ x.1; omega, Int.le_refl _⟩⟩
      rcases List.mem_append.mp hy with hy | hy
      · exact (c.w y (List.mem_append.mpr (.inl hy))).ext (by omega)
      · obtain rfl := List.mem_singleton.mp hy
        exact ⟨(z'.1, x.2), by simp, e2, Int.le_refl _⟩
    · rw [jq_no h]
      by_cases h' : q' (x.1 - z'.2)
      · rw [jq_yes h']
        refine ⟨fun y hy => ?_, .inr ⟨_, _, _, _, rfl, rfl, rfl, by show z'.1 ≤ x.1; omega, Int.le_refl _, Int.le_refl _⟩⟩
        rcases List.mem_append.mp hy with hy | hy
        · exact (c.w y hy).ext (by omega)
        · obtain rfl := List.mem_singleton.mp hy
          exact ⟨(z'.1, y.2), by simp, by show z'.1 ≤ y.1; omega, Int.le_refl _⟩
      · rw [jq_no h']
        refine ⟨fun y hy => ?_, .inr ⟨_, _, _, _, rfl, rfl, rfl, Int.le_refl _, Int.le_refl _, Int.le_refl _⟩⟩
        rcases List.mem_append.mp hy with hy | hy
        · exact (c.w y hy).more
        · obtain rfl := List.mem_singleton.mp hy
          exact ⟨y, by simp, Int.le_refl _, Int.le_refl _⟩
theorem cn_fold {q q' : Int → Prop} (hq : ∀ d, q d → q' d) : ∀ {S J J' : List (Int × Int)} {A B : Int}, Cn A B J J' → SpA A B S → ∀ y ∈ S.foldl (jq q) J, Wi (S.foldl (jq q') J') y
  | [], _, _, _, _, c, _ => c.w
  | x :: S, J, J', A, B, c, h => by
    rw [List.foldl_cons, List.foldl_cons]
    exact cn_fold hq (cn_step hq c h.1 h.2.1) h.2.2
theorem cn_nil {A B : Int} : Cn A B [] [] := ⟨fun _ h => (nomatch h), .inl ⟨rfl, rfl⟩⟩
theorem dn_mono {a b s : Int} (h : 1 ≤ s) (hab : a ≤ b) : dn a s ≤ dn b s := Int.mul_le_mul_of_nonneg_right (Int.ediv_le_ediv (by omega) (by omega)) (by omega)
theorem spa_of {r : Ru} (hp : r.p = "busy") (hs : 1 ≤ r.s) : ∀ {ms : List Mt} {a c : Int}, Meets a ms → c ≤ a → SpA (dn c r.s) (up a r.s) (ms.filterMap (spanOf r false))
  | [], _, _, _, _ => trivial
  | m :: ms, a, c, h, hc => by
    have e : spanOf r false m = some (dn m.1 r.s, up m.2.1 r.s) := by
      unfold spanOf
      rw [hp, word_open]
      simp
    rw [List.filterMap_cons, e]
    have h1 := h.1
    have h2 := h.2.1
    exact ⟨dn_mono hs (by omega), up_mono hs (by omega), spa_of hp hs h.2.2 (by omega)⟩
/-- more gap covers more -/
theorem gap_more {r r' : Ru} (hs : r'.s = r.s) (hg : r.g ≤ r'.g) (hp : r.p = "busy") (hp' : r'.p = "busy") (h1 : 1 ≤ r.s) {ms : List Mt} (hm : Meets 0 ms) : ∀ y ∈ jnd r false ms, Wi (jnd r' false ms) y := by
  have e1 : ms.filterMap (spanOf r' false) = ms.filterMap (spanOf r false) := fm_congr fun m _ => by
    unfold spanOf
    rw [hs, hp, hp']
  unfold jnd
  rw [e1, fold_jq, fold_jq]
  exact cn_fold (fun d hd => Int.le_trans hd hg) cn_nil (spa_of hp h1 hm (Int.le_refl 0))
/-- every span is within a block -/
theorem span_in {r : Ru} (hp : r.p = "busy") (h1 : 1 ≤ r.s) {ms : List Mt} (hm : Meets 0 ms) : ∀ y ∈ ms.filterMap (spanOf r false), Wi (jnd r false ms) y := by
  have h := cn_fold (q := fun _ => False) (q' := fun d => d ≤ r.g) (fun d hd => hd.elim) cn_nil (spa_of hp h1 hm (Int.le_refl 0))
  rw [fold_never] at h
  unfold jnd
  rw [fold_jq]
  simpa using h
end DL

set_option linter.all false
set_option maxRecDepth 100000
set_option maxHeartbeats 1000000
/-! views of rules that show everything as busy; their ticks -/
namespace DL
open PySem PySem.Spec PyProof.Rows L2 DD
theorem jn_in {r : Ru} {w : Bool} {J : List (Int × Int)} {x : Int × Int} {B : Int} (hJ : ∀ y ∈ J, 0 ≤ y.1 ∧ y.1 < y.2 ∧ y.2 ≤ B) (hx : 0 ≤ x.1 ∧ x.1 < x.2 ∧ B ≤ x.2) : ∀ y ∈ jn r w J x, 0 ≤ y.1 ∧ y.1 < y.2 ∧ y.2 ≤ x.2 := by
  intro y hy
  rcases J.eq_nil_or_concat with rfl | ⟨I, z, rfl⟩
  · rw [jn_nil] at hy
    obtain rfl := List.mem_singleton.mp hy
    exact ⟨hx.1, hx.2.1, Int.le_refl _⟩
  · rw [List.concat_eq_append] at hJ hy
    rw [jn_snoc] at hy
    have hz := hJ z (by simp)
    split at hy
    · rcases List.mem_append.mp hy with hy | hy
      · have := hJ y (List.mem_append.mpr (.inl hy))
        omega
      · obtain rfl := List.mem_singleton.mp hy
        exact ⟨hz.1, by show z.1 < x.2; omega, Int.le_refl _⟩
    · rcases List.mem_append.mp hy with hy | hy
      · have := hJ y hy
        omega
      · obtain rfl := List.mem_singleton.mp hy
        exact ⟨hx.1, hx.2.1, Int.le_refl _⟩
theorem fold_in {r : Ru} {w : Bool} {T : Int} : ∀ {S J : List (Int × Int)} {B : Int}, EndA B S → (∀ x ∈ S, 0 ≤ x.1 ∧ x.1 < x.2 ∧ x.2 ≤ T) → B ≤ T → (∀ y ∈ J, 0 ≤ y.1 ∧ y.1 < y.2 ∧ y.2 ≤ B) → ∀ y ∈ S.foldl (jn r w) J, 0 ≤ y.1 ∧ y.1 < y.2 ∧ y.2 ≤ T
  | [], J, B, _, _, hB, hJ => fun y hy => by
    have := hJ y hy
    omega
  | x :: S, J, B, hE, hS, hB, hJ => by
    have hx := hS x List.mem_cons_self
    rw [List.foldl_cons]
    exact fold_in (B := x.2) hE.2.2 (fun y hy => hS y (List.mem_cons_of_mem _ hy)) hx.2.2 (jn_in hJ ⟨hx.1, hx.2.1, hE.1⟩)
theorem meets_le : ∀ {ms : List Mt} {a : Int}, 0 ≤ a → Meets a ms → ∀ m ∈ ms, 0 ≤ m.1 ∧ m.1 < m.2.1 ∧ m.2.1 ≤ endOf a ms
  | m :: ms, a, ha, h, x, hx => by
    have h1 := h.1
    have h2 := h.2.1
    have h3 : endOf a (m :: ms) = endOf m.2.1 ms := rfl
    have h4 := endOf_nonneg (a := m.2.1) (ms := ms) (by omega) h.2.2
    rw [h3]
    rcases List.mem_cons.mp hx with rfl | hx
    · exact ⟨by omega, by omega, h4⟩
    · exact meets_le (by omega) h.2.2 x hx
structure Bu (r : Ru) : Prop where
  p : r.p = "busy"
  s : 1 ≤ r.s ∧ r.s ≤ 8
  g : 0 ≤ r.g
theorem spans_bu {r : Ru} (b : Bu r) {ms : List Mt} (hm : Meets 0 ms) (hn : endOf 0 ms ≤ 1000) : ∀ x ∈ ms.filterMap (spanOf r false), 0 ≤ x.1 ∧ x.1 < x.2 ∧ x.2 ≤ 1008 := by
  intro x hx
  obtain ⟨m, hm1, e⟩ := List.mem_filterMap.mp hx
  unfold spanOf at e
  rw [b.p, word_open, if_pos rfl] at e
  cases e
  obtain ⟨h1, h2, h3⟩ := meets_le (Int.le_refl 0) hm m hm1
  have hs := b.s
  have d1 := dn_le (b := m.1) (s := r.s) (by omega)
  have d2 := dn_nonneg (b := m.1) (s := r.s) (by omega) h1
  have d3 := le_up (e := m.2.1) (s := r.s) (by omega)
  exact ⟨d2, by show dn m.1 r.s < up m.2.1 r.s; omega, by show up m.2.1 r.s ≤ 1008; omega⟩
theorem spcB {r : Ru} (b : Bu r) {ms : List Mt} (hm : Meets 0 ms) (hn : endOf 0 ms ≤ 1000) : Spc 2000 (jnd r false ms) := by
  have hs := b.s
  have h0 : up 0 r.s = 0 := by
    unfold up
    have : (0 + r.s - 1) / r.s = 0 := by
      rw [Int.zero_add]
      exact Int.ediv_eq_zero_of_lt (by omega) (by omega)
    rw [this, Int.zero_mul]
  have h := fold_in (r := r) (w := false) (T := 1008) (J := []) (ends_of b.p hs.1 hm) (spans_bu b hm hn) (by omega) (fun _ h => nomatch h)
  have ap := jnd_apt (r := r) b.g b.p hs.1 hm
  refine ⟨fun x hx => ?_, ?_⟩
  · have := h x hx
    omega
  · exact ap.imp (fun {x y} q => by have := b.g; omega)
theorem cut_in {r : Ru} {x y : Int × Int} (hx : 0 ≤ x.1 ∧ x.1 < x.2) (e : cutOf r x = some y) : x.1 ≤ y.1 ∧ y.1 < y.2 ∧ y.2 ≤ x.2 := by
  unfold cutOf at e
  split at e
  · cases e
  · cases hh : r.h with
    | none =>
      rw [hh] at e
      cases e
      omega
    | some z =>
      rw [hh] at e
      dsimp only at e
      split at e
      · rename_i hl
        cases e
        unfold mx mn at hl ⊢
        dsimp only
        refine ⟨?_, hl, ?_⟩ <;> split <;> omega
      · cases e
theorem Spc.cut {r : Ru} {a : Int} : ∀ {J : List (Int × Int)}, Spc a J → Spc a (J.filterMap (cutOf r))
  | J, h => by
    refine ⟨fun y hy => ?_, ?_⟩
    · obtain ⟨x, hx, e⟩ := List.mem_filterMap.mp hy
      have h1 := h.one x hx
      have h2 := cut_in ⟨h1.1, h1.2.1⟩ e
      omega
    · rw [List.pairwise_filterMap]
      refine h.two.imp_of_mem fun {x z} hx hz q u hu v hv => ?_
      have h1 := h.one x hx
      have h2 := h.one z hz
      have h3 := cut_in ⟨h1.1, h1.2.1⟩ hu
      have h4 := cut_in ⟨h2.1, h2.2.1⟩ hv
      omega
theorem show_bu {r : Ru} (b : Bu r) {ms : List Mt} (hm : Meets 0 ms) (hn : endOf 0 ms ≤ 1000) : srt bkP (showL r ms) = ((jnd r false ms).filterMap (cutOf r)).map bz := by
  have e1 : blk r true ms = [] := by
    have e0 : ms.filterMap (spanOf r true) = [] := fm_none fun m _ => by
      unfold spanOf
      rw [b.p, word_open]
      rfl
    unfold blk jnd
    rw [e0]
    rfl
  unfold showL
  rw [e1, List.append_nil]
  exact srt_bz (spcB b hm hn).cut
theorem view_bu {r : Ru} (b : Bu r) (h : r.h = none) {ms : List Mt} (hm : Meets 0 ms) (hn : endOf 0 ms ≤ 1000) : srt bkP (showL r ms) = (wk r ms).map bz := by
  rw [show_bu b hm hn, cut_open h]
  rfl
theorem wk_spcB {r : Ru} (b : Bu r) {ms : List Mt} (hm : Meets 0 ms) (hn : endOf 0 ms ≤ 1000) : Spc 2000 (wk r ms) := by
  have s := spcB b hm hn
  exact ⟨fun x hx => s.one x (List.mem_filter.mp hx).1, s.two.filter _⟩
/-! hours -/
theorem filter_none {α : Type} {p : α → Bool} : ∀ {L : List α}, (∀ x ∈ L, p x = false) → L.filter p = []
  | [], _ => rfl
  | x :: L, h => by rw [List.filter_cons, h x List.mem_cons_self, filter_none fun y hy => h y (List.mem_cons_of_mem _ hy)]; rfl
theorem tk_nil {b e : Int} (h : e ≤ b) : tk b e = [] := by
  unfold tk
  rw [show (e - b).toNat = 0 by omega]
  rfl
theorem tk_filter {b e f l : Int} (h : b ≤ e) : (tk b e).filter (fun t => decide (f ≤ t ∧ t < l)) = tk (mx b f) (mn e l) := by
  unfold mx mn
  obtain ⟨n, hn⟩ : ∃ n : Nat, e = b + (n : Int) := ⟨(e - b).toNat, by omega⟩
  subst hn
  clear h
  induction n with
  | zero =>
    rw [show b + ((0 : Nat) : Int) = b by omega, tk_self]
    rw [tk_nil]
    · rfl
    · split <;> split <;> omega
  | succ n ih =>
    rw [show b + ((n + 1 : Nat) : Int) = b + (n : Int) + 1 by omega, tk_snoc (by omega), List.filter_append, ih, List.filter_cons, List.filter_nil]
    by_cases h1 : f ≤ b + (n : Int) ∧ b + (n : Int) < l
    · have e1 : (if l < b + (n : Int) + 1 then l else b + (n : Int) + 1) = (if l < b + (n : Int) then l else b + (n : Int)) + 1 := by
        split <;> split <;> omega
      have e2 : (if l < b + (n : Int) then l else b + (n : Int)) = b + (n : Int) := by
        split <;> omega
      rw [e1, e2]
      simp only [decide_eq_true h1, if_true]
      refine (tk_snoc (b := if b < f then f else b) (e := b + (n : Int)) ?_).symm
      split <;> omega
    · simp only [decide_eq_false h1, Bool.false_eq_true, if_false, List.append_nil]
      by_cases h2 : l ≤ b + (n : Int)
      · congr 1
        split <;> split <;> omega
      · have h3 : b + (n : Int) < f := by omega
        rw [tk_nil, tk_nil]
        · split <;> split <;> omega
        · split <;> split <;> omega
theorem flat_cut {r : Ru} {f l : Int} (hh : r.h = some (f, l)) : ∀ {J : List (Int × Int)}, (∀ x ∈ J, x.1 < x.2) → flat (J.filterMap (cutOf r)) = (flat (J.filter fun x => decide (r.l ≤ x.2 - x.1))).filter fun t => decide (f ≤ t ∧ t < l)
  | [], _ => rfl
  | x :: J, h => by
    have ih := flat_cut hh (J := J) fun y hy => h y (List.mem_cons_of_mem _ hy)
    have hx := h x List.mem_cons_self
    rw [List.filterMap_cons, List.filter_cons]
    by_cases hl : x.2 - x.1 < r.l
    · have e1 : cutOf r x = none := by unfold cutOf; rw [if_pos hl]
      rw [e1, if_neg (by simp; omega)]
      exact ih
    · have fe : ∀ (y : Int × Int) (L : List (Int × Int)), flat (y :: L) = tk y.1 y.2 ++ flat L := fun y L => by simp [flat]
      rw [if_pos (by simp; omega), fe, List.filter_append, tk_filter (by omega), ← ih]
      by_cases h2 : mx x.1 f < mn x.2 l
      · have e1 : cutOf r x = some (mx x.1 f, mn x.2 l) := by unfold cutOf; rw [if_neg hl, hh]; exact if_pos h2
        rw [e1]
        exact fe _ _
      · have e1 : cutOf r x = none := by unfold cutOf; rw [if_neg hl, hh]; exact if_neg h2
        rw [e1, tk_nil (by omega)]
        rfl
/-! what is covered -/
theorem mem_flat_of {J : List (Int × Int)} {z : Int × Int} {t : Int} (h : z ∈ J) (h1 : z.1 ≤ t) (h2 : t < z.2) : t ∈ flat J :=
  List.mem_flatMap.mpr ⟨z, h, mem_tk.mpr ⟨h1, h2⟩⟩
theorem of_mem_flat {J : List (Int × Int)} {t : Int} (h : t ∈ flat J) : ∃ z ∈ J, z.1 ≤ t ∧ t < z.2 := by
  obtain ⟨z, hz, q⟩ := List.mem_flatMap.mp h
  exact ⟨z, hz, mem_tk.mp q⟩
theorem taken_in {r : Ru} (b : Bu r) (hl : r.l ≤ r.s) {ms : List Mt} (hm : Meets 0 ms) (hn : endOf 0 ms ≤ 1000) {t : Int} (ht : t ∈ ms.flatMap fun m => tk m.1 m.2.1) : t ∈ flat (wk r ms) := by
  obtain ⟨m, hm1, q⟩ := List.mem_flatMap.mp ht
  have q := mem_tk.mp q
  have hs := b.s
  have e : spanOf r false m = some (dn m.1 r.s, up m.2.1 r.s) := by
    unfold spanOf
    rw [b.p, word_open, if_pos rfl]
  have hx : (dn m.1 r.s, up m.2.1 r.s) ∈ ms.filterMap (spanOf r false) := List.mem_filterMap.mpr ⟨m, hm1, e⟩
  obtain ⟨z, hz, z1, z2⟩ := span_in b.p hs.1 hm _ hx
  dsimp only at z1 z2
  have d1 := dn_le (b := m.1) (s := r.s) (by omega)
  have d3 := le_up (e := m.2.1) (s := r.s) (by omega)
  have dv : r.s ∣ up m.2.1 r.s - dn m.1 r.s := Int.dvd_sub up_mul dn_mul
  have := Int.le_of_dvd (by omega) dv
  refine mem_flat_of (List.mem_filter.mpr ⟨hz, ?_⟩) (by omega) (by omega)
  rw [decide_eq_true_eq]
  omega
theorem gap_in {r r' : Ru} (b : Bu r) (b' : Bu r') (hs : r'.s = r.s) (hg : r.g ≤ r'.g) (hl : r'.l = 0) {ms : List Mt} (hm : Meets 0 ms) (hn : endOf 0 ms ≤ 1000) {t : Int} (ht : t ∈ flat (wk r ms)) : t ∈ flat (wk r' ms) := by
  obtain ⟨z, hz, q1, q2⟩ := of_mem_flat ht
  obtain ⟨y, hy, y1, y2⟩ := gap_more hs hg b.p b'.p b.s.1 hm z (List.mem_filter.mp hz).1
  refine mem_flat_of (List.mem_filter.mpr ⟨hy, ?_⟩) (by omega) (by omega)
  rw [decide_eq_true_eq]
  omega
/-! ticks in order -/
theorem flat_asc : ∀ {J : List (Int × Int)} {a : Int}, Spc a J → (flat J).Pairwise (· < ·) := by
  intro J
  induction J with
  | nil => intro a h; exact .nil
  | cons x J ih =>
    intro a h
    have fe : flat (x :: J) = tk x.1 x.2 ++ flat J := by simp [flat]
    have h1 := h.two
    rw [List.pairwise_cons] at h1
    have h2 : Spc a J := ⟨fun y hy => h.one y (List.mem_cons_of_mem _ hy), h1.2⟩
    rw [fe, List.pairwise_append]
    refine ⟨?_, ih h2, fun u hu v hv => ?_⟩
    · unfold tk
      rw [List.pairwise_map]
      exact List.pairwise_lt_range.imp fun q => by omega
    · have u1 := mem_tk.mp hu
      obtain ⟨z, hz, z1, z2⟩ := of_mem_flat hv
      have := h1.1 z hz
      omega
theorem sorted_ints {L : List Int} (h : L.Pairwise (· < ·)) : fSorted [.lst (L.map D.int)] = some (.new (.lst (L.map D.int))) := by
  have py : ∀ L : List Int, D.pyA (L.map D.int) = some (L.map PyData.int) := by
    intro L
    induction L with
    | nil => rfl
    | cons i L ih =>
      rw [List.map_cons, List.map_cons]
      have : D.py (.int i) = some (.int i) := rfl
      simp only [D.pyA, this, ih]
  have e : (L.map D.int).zip (L.map PyData.int) = L.map fun i => (D.int i, PyData.int i) := by
    rw [List.zip_map']
  have h1 : PySem.W.AllAlike (L.map PyData.int) := by
    intro d hd d' hd'
    obtain ⟨a, _, rfl⟩ := List.mem_map.mp hd
    obtain ⟨b, _, rfl⟩ := List.mem_map.mp hd'
    rfl
  have h2 : PySem.W.Sortable (L.map PyData.int) := .inr fun d hd => by
    obtain ⟨a, _, rfl⟩ := List.mem_map.mp hd
    exact ⟨fun z => (nomatch z), fun xs z => (nomatch z)⟩
  have h3 : ∀ p ∈ L.map PyData.int, p.depth ≤ 50 := fun d hd => by
    obtain ⟨a, _, rfl⟩ := List.mem_map.mp hd
    simp [PyData.depth]
  unfold fSorted
  simp only [py L]
  rw [if_pos ⟨h1, h2, h3⟩, e]
  have m : (L.map fun i => (D.int i, PyData.int i)).mergeSort leP = L.map fun i => (D.int i, PyData.int i) := by
    refine List.mergeSort_of_pairwise ?_
    rw [List.pairwise_map]
    refine h.imp fun {a b} q => ?_
    show (!PySem.W.dataLt (PyData.int b) (PyData.int a)) = true
    have n1 : ¬ b < a := by omega
    have n2 : ¬ b = a := by omega
    simp [PySem.W.dataLt, PySem.W.keyToks, PyProof.Rows.lexLt, itemLt, n1, n2, q]
  rw [m, List.map_map]
  rfl
end DL

set_option linter.all false
set_option maxRecDepth 100000
set_option maxHeartbeats 1000000
/-! a day's ticks told exactly; a day without its private meetings; the ticks of a view -/
namespace DL
open PySem PySem.Spec PyProof.Rows L2 DD
@[simp] theorem q_dIxO {C : Addr} {m : Nat} {T : En → SR} {A B : En → Res X} {ρ : En} : dIxO C m T A B ρ = ((A ρ).bind fun a ρ1 => (B ρ1).bind fun b ρ2 => match toVal ρ2 a.settle with
  | some (.ins C' ks es, ρ3) => match toVal ρ3 b.settle with
    | some (z, ρ4) => if C' = C then callV (fin (T (env0 m [.val (D.ins C' ks es), .val z]))) ρ4 else .stuck
    | none => .stuck
  | _ => .stuck) := rfl
theorem taken_loop2 {dv : Slot} : ∀ {ms : List Mt} {acc : List D}, (∀ m ∈ ms, MtSm2 m) → ms.length * 100 + acc.length ≤ 90000 →
    lc2L [1, 2] [2] (uName 1) tdYes (dRng2 (dBin opIx (dVar 1) (dC (.int 0))) (dBin opIx (dVar 1) (dC (.int 1)))) (uName 2) tdYes (dVar 2) (ms.map mtD) [dv, .none, .none] acc = .ok (acc ++ (ms.flatMap fun m => tk m.1 m.2.1).map D.int) [dv, .none, .none]
  | [], acc, _, _ => by simp [lc2L]
  | m :: ms, acc, h, hz => by
    obtain ⟨hb, he⟩ := h m List.mem_cons_self
    have hb1 := hb.1
    have hb2 := hb.2
    have he1 := he.1
    have he2 := he.2
    have r1 : -4611686018427387904 ≤ m.1 := by omega
    have r2 : m.1 < 4611686018427387904 := by omega
    have r3 : -4611686018427387904 ≤ m.2.1 := by omega
    have r4 : m.2.1 < 4611686018427387904 := by omega
    have rr := rng_ints (a := m.1) (n := (m.2.1 - m.1).toNat)
    have hl : (tk m.1 m.2.1).length ≤ 100 := by
      unfold tk
      simp
      omega
    rw [show ((List.range (m.2.1 - m.1).toNat).map fun i => m.1 + ((i : Nat) : Int)) = tk m.1 m.2.1 from rfl] at rr
    obtain ⟨M, hM⟩ : ∃ M, tk m.1 m.2.1 = M := ⟨_, rfl⟩
    rw [hM] at rr hl
    have i1 := lc_idI (L := M) (ρ := [dv, .val (mtD m), .none]) (i := 2) (acc := acc) rfl (by simp at hz; omega)
    have e := taken_loop2 (dv := dv) (ms := ms) (acc := acc ++ M.map D.int) (fun x hx => h x (List.mem_cons_of_mem _ hx)) (by simp at hz ⊢; omega)
    rw [List.map_cons, List.flatMap_cons, hM]
    unfold lc2L
    simp [mtD] at i1
    simp [mtD, r1, r2, r3, r4, rr, i1, e]
theorem flat_taken : ∀ {a n : Int} {ms : List Mt}, 0 ≤ a → Meets a ms → endOf a ms ≤ n → ((ms.flatMap fun m => tk m.1 m.2.1).length : Int) ≤ n - a
  | a, n, [], h0, _, he => by
    have : a ≤ n := he
    simp
    omega
  | a, n, m :: ms, h0, h, he => by
    have h1 := h.1
    have h2 := h.2.1
    have h3 := flat_taken (n := n) (by omega) h.2.2 he
    have h4 := tk_len (b := m.1) (e := m.2.1) (by omega)
    rw [List.flatMap_cons, List.length_append]
    omega
theorem taken_is {c : Cl} {n : Int} {ms : List Mt} (h : ∀ m ∈ ms, MtSm2 m) (hm : Meets 0 ms) (he : endOf 0 ms ≤ n) (hn : n ≤ 99) (hz : ms.length ≤ 100) : Gives 3 (D_Day_taken_2 c) [dvD c n ms] (.val (.tup ((ms.flatMap fun m => tk m.1 m.2.1).map D.int))) := by
  have e := taken_loop2 (dv := .val (dvD c n ms)) (ms := ms) (acc := []) h (by simp; omega)
  have f := flat_taken (Int.le_refl 0) hm he
  obtain ⟨L, hL⟩ : ∃ L, (ms.flatMap fun m => tk m.1 m.2.1) = L := ⟨_, rfl⟩
  rw [hL] at e f ⊢
  have z : L.length ≤ 16777216 := by omega
  simp [dvD] at e
  simp [Gives, D_Day_taken_2, dvD, e, z]
/-! ### one meeting out of the middle -/
theorem meets_mid {m : Mt} {B : List Mt} : ∀ {A : List Mt} {a : Int}, Meets a (A ++ m :: B) → Meets a (A ++ B) ∧ endOf a (A ++ B) ≤ endOf a (A ++ m :: B)
  | [], a, h => by
    have h1 := h.1
    have h2 := h.2.1
    refine ⟨Meets.weak (by omega) h.2.2, ?_⟩
    show endOf a B ≤ endOf m.2.1 B
    cases B with
    | nil => show a ≤ m.2.1; omega
    | cons x B => exact Int.le_refl _
  | x :: A, a, h => by
    have ih := meets_mid (A := A) h.2.2
    exact ⟨⟨h.1, h.2.1, ih.1⟩, ih.2⟩
theorem without_v {c : Cl} {n : Int} {A B : List Mt} {m : Mt} (h1 : 1 ≤ n) (hm : Meets 0 (A ++ m :: B)) (he : endOf 0 (A ++ m :: B) ≤ n) (hz : A.length + B.length ≤ 400) : Gives 2 (D_Day_without c) [dvD c n (A ++ m :: B), .int A.length] (.new (dyO c n (A ++ B))) := by
  obtain ⟨w, w2⟩ := meets_mid hm
  obtain ⟨_, p, q⟩ := (day_init (c := c) h1 w (by omega) (.inr rfl)).elim
  have c1 : cutD (A.map mtD ++ mtD m :: B.map mtD) none (some (A.length : Int)) = A.map mtD := by
    rw [cutD_to]
    simp
  have c2 : cutD (A.map mtD ++ mtD m :: B.map mtD) (some ((A.length : Int) + 1)) none = B.map mtD := by
    have := cutD_from (xs := A.map mtD ++ mtD m :: B.map mtD) (k := A.length + 1)
    rw [show (((A.length + 1 : Nat)) : Int) = (A.length : Int) + 1 by omega] at this
    rw [this, List.drop_append]
    simp
  have z : A.length + B.length ≤ 16777215 := by omega
  have z2 : A.length ≤ 16777215 := by omega
  have z4 : B.length ≤ 16777215 := by omega
  have z5 : A.length + (B.length + 1) ≤ 16777216 := by omega
  have z6 : ¬ ((A.length : Int) < 0) := by omega
  have z7 : ¬ ((A.length : Int) + ((B.length : Int) + 1) ≤ (A.length : Int)) := by omega
  have z8 : A.length + B.length ≤ 16777216 := by omega
  have z9 : A.length ≤ 16777216 := by omega
  have z10 : B.length ≤ 16777216 := by omega
  have z11 : A.length < 16777216 := by omega
  have z12 : B.length < 16777216 := by omega
  simp at p
  simp [Gives, D_Day_without, dvD, c1, c2, p, q, z, z2, z4, z5, z6, z7, z8, z9, z10, z11, z12]
theorem at_mid {A B : List D} {d : D} : atI (A ++ d :: B) (A.length : Int) = some d := by
  have : ixN (A ++ d :: B).length (A.length : Int) = some A.length := by
    have h : (A.length : Int) < (A.length : Int) + ((B.length : Int) + 1) := by omega
    unfold ixN
    simp [h]
  unfold atI
  rw [this]
  simp
theorem getitem_v {c : Cl} {n : Int} {A B : List Mt} {m : Mt} (hz : A.length + B.length ≤ 400) : Gives 2 (D_Day___getitem__ c) [dvD c n (A ++ m :: B), .int A.length] (.val (mtD m)) := by
  have e := at_mid (A := A.map mtD) (B := B.map mtD) (d := mtD m)
  rw [List.length_map] at e
  have z5 : A.length + (B.length + 1) ≤ 16777216 := by omega
  have z6 : ¬ ((A.length : Int) < 0) := by omega
  have z7 : ¬ ((A.length : Int) + ((B.length : Int) + 1) ≤ (A.length : Int)) := by omega
  simp [Gives, D_Day___getitem__, dvD, e, z5, z6, z7]
def dySlot (c : Cl) (n : Int) (L : List Mt) (s : Slot) : Prop := s = .val (dvD c n L) ∨ s = .own (dyO c n L)
theorem plain_step {c : Cl} {n : Int} {A B C : List Mt} {m : Mt} (h1 : 1 ≤ n) (hm : Meets 0 (A ++ m :: C)) (he : endOf 0 (A ++ m :: C) ≤ n) (hz : A.length + B.length ≤ 400) (hz2 : A.length + C.length ≤ 400) {s1 s2 : Slot} (hs : dySlot c n (A ++ m :: C) s1) (f2 : s2.free = true) :
    ∃ t1, stepL (uName 2) (D__law_plain_b1 c) (.int A.length) [.val (dvD c n (A ++ m :: B)), s1, s2] = .nx [.val (dvD c n (A ++ m :: B)), t1, .val (.int A.length)] ∧ dySlot c n (if m.2.2 then A ++ C else A ++ m :: C) t1 := by
  obtain ⟨_, p1⟩ := (getitem_v (c := c) (n := n) (A := A) (B := B) (m := m) hz).elim
  obtain ⟨_, p2⟩ := (without_v (c := c) h1 hm he hz2).elim
  obtain ⟨b, e, q⟩ := m
  simp [dvD, mtD] at p1 p2
  rcases hs with rfl | rfl
  · cases q
    · refine ⟨.val (dvD c n (A ++ (b, e, false) :: C)), ?_, .inl rfl⟩
      simp [D__law_plain_b1, f2, dvD, mtD, p1, p2]
    · refine ⟨.own (dyO c n (A ++ C)), ?_, .inr rfl⟩
      simp [D__law_plain_b1, f2, dvD, dyO, mtD, p1, p2]
  · cases q
    · refine ⟨.val (dvD c n (A ++ (b, e, false) :: C)), ?_, .inl rfl⟩
      simp [D__law_plain_b1, f2, dvD, dyO, mtD, p1, p2]
    · refine ⟨.own (dyO c n (A ++ C)), ?_, .inr rfl⟩
      simp [D__law_plain_b1, f2, dvD, dyO, mtD, p1, p2]
theorem r3_down {k : Nat} (hk : k ≤ 1000) : rng3D [.int ((k : Int) - 1), .int (-1), .int (-1)] = some ((List.range k).map fun i => D.int ((k : Int) - 1 + (i : Nat) * (-1))) := by
  have e : (Builtin.Range.rangeSize ((k : Int) - 1) (-1) (-1)).toNat = k := by
    have : Builtin.Range.rangeSize ((k : Int) - 1) (-1) (-1) = (((k : Int) - 1) - (-1)).toNat := PySem.W.rangeSize_downNat _ _
    rw [this]
    omega
  have h : RgC ((k : Int) - 1) (-1) (-1) k := by
    have := RgC.neg (i := (k : Int) - 1) (j := -1) (by omega) (by omega) (by omega) (by omega)
    rw [show ((k : Int) - 1 - -1).toNat = k by omega] at this
    exact this
  unfold rng3D
  dsimp only
  rw [e, if_pos h]
theorem opM_meets : ∀ {ms : List Mt} {a : Int}, Meets a ms → Meets a (opM ms) ∧ endOf a (opM ms) ≤ endOf a ms
  | [], _, _ => ⟨trivial, Int.le_refl _⟩
  | m :: ms, a, h => by
    have ih := opM_meets h.2.2
    unfold opM at ih ⊢
    rw [List.filter_cons]
    split
    · exact ⟨⟨h.1, h.2.1, ih.1⟩, ih.2⟩
    · have h1 := h.1
      have h2 := h.2.1
      have h3 := opM_meets (Meets.weak (a := a) (by omega) h.2.2)
      refine ⟨h3.1, Int.le_trans h3.2 ?_⟩
      cases ms with
      | nil => show a ≤ m.2.1; omega
      | cons x ms => exact Int.le_refl _
theorem app_meets {B C : List Mt} (hbc : ∀ a, Meets a B → Meets a C ∧ endOf a C ≤ endOf a B) : ∀ {A : List Mt} {a : Int}, Meets a (A ++ B) → Meets a (A ++ C) ∧ endOf a (A ++ C) ≤ endOf a (A ++ B)
  | [], a, h => hbc a h
  | x :: A, a, h => by
    have ih := app_meets hbc (A := A) h.2.2
    exact ⟨⟨h.1, h.2.1, ih.1⟩, ih.2⟩
theorem plain_v {c : Cl} {n : Int} {ms : List Mt} (h1 : 1 ≤ n) (hm : Meets 0 ms) (he : endOf 0 ms ≤ n) (hz : ms.length ≤ 200) : Gives 3 (D__law_plain c) [dvD c n ms] (.val (dvD c n (opM ms))) ∨ Gives 3 (D__law_plain c) [dvD c n ms] (.new (dyO c n (opM ms))) := by
  obtain ⟨ρ', e, s1, s2, rfl, f2, hs⟩ := forL_inv (U := uName 2) (B := D__law_plain_b1 c) (ds := (List.range ms.length).map fun i => D.int ((ms.length : Int) - 1 + (i : Nat) * (-1)))
    (fun i ρ => ∃ s1 s2 : Slot, ρ = [.val (dvD c n ms), s1, s2] ∧ s2.free = true ∧ dySlot c n (ms.take (ms.length - i) ++ opM (ms.drop (ms.length - i))) s1) (fun i hi ρ hw => by
      obtain ⟨s1, s2, rfl, f2, hs⟩ := hw
      simp only [List.length_map, List.length_range] at hi
      simp only [List.getElem_map, List.getElem_range]
      obtain ⟨j, hj⟩ : ∃ j, j = ms.length - (i + 1) := ⟨_, rfl⟩
      have hj1 : ms.length - i = j + 1 := by omega
      have hjl : j < ms.length := by omega
      have hcut : ms = ms.take j ++ ms[j] :: ms.drop (j + 1) := by
        rw [List.getElem_cons_drop, List.take_append_drop]
      have hlen : (ms.take j).length = j := by rw [List.length_take]; omega
      have ht : ms.take (j + 1) = ms.take j ++ [ms[j]] := by rw [List.take_add_one, List.getElem?_eq_getElem hjl]; rfl
      rw [hj1, ht, List.append_assoc, List.singleton_append] at hs
      obtain ⟨w1, w2⟩ := app_meets (A := ms.take j) (B := ms[j] :: ms.drop (j + 1)) (C := ms[j] :: opM (ms.drop (j + 1))) (fun a h => ⟨⟨h.1, h.2.1, (opM_meets h.2.2).1⟩, (opM_meets h.2.2).2⟩) (a := 0) (by rw [← hcut]; exact hm)
      rw [← hcut] at w2
      have hol : (opM (ms.drop (j + 1))).length ≤ (ms.drop (j + 1)).length := List.length_filter_le _ _
      rw [List.length_drop] at hol
      obtain ⟨t1, e, ht1⟩ := plain_step (c := c) (B := ms.drop (j + 1)) h1 w1 (by omega) (by rw [hlen, List.length_drop]; omega) (by rw [hlen]; omega) hs f2
      rw [← hcut, hlen] at e
      refine ⟨_, .inl ?_, t1, .val (.int j), rfl, rfl, ?_⟩
      · rw [show (ms.length : Int) - 1 + (i : Nat) * (-1) = (j : Int) by omega]
        exact e
      · have hd : opM (ms.drop j) = if ms[j].2.2 then opM (ms.drop (j + 1)) else ms[j] :: opM (ms.drop (j + 1)) := by
          rw [← List.getElem_cons_drop hjl]
          unfold opM
          rw [List.filter_cons]
          cases ms[j].2.2 <;> rfl
        rw [← hj, hd]
        cases hq : ms[j].2.2 <;> simp only [hq, if_true, Bool.false_eq_true, if_false] at ht1 ⊢ <;> exact ht1) (ρ := [.val (dvD c n ms), .val (dvD c n ms), .none]) ⟨_, _, rfl, rfl, .inl (by simp [opM])⟩
  simp only [List.length_map, List.length_range, Nat.sub_self, List.take_zero, List.drop_zero, List.nil_append] at hs
  obtain ⟨_, p⟩ := (day_len_v (c := c) (n := n) (ms := ms) (by omega)).elim
  have r := r3_down (k := ms.length) (by omega)
  have z : (ms.length : Int) < 9223372036854775808 := by omega
  simp [dvD] at p e r
  rcases hs with rfl | rfl
  · left
    simp [dvD] at e
    simp [Gives, D__law_plain, dvD, p, r, e, z]
  · right
    simp [dyO] at e
    simp [Gives, D__law_plain, dvD, dyO, p, r, e, z]
end DL

set_option linter.all false
set_option maxRecDepth 100000
set_option maxHeartbeats 1000000
/-! the ticks of a view -/
namespace DL
open PySem PySem.Spec PyProof.Rows L2 DD
theorem fm_notin {Fd : List Int} : ∀ L : List Int, L.filterMap (fun t => if t ∈ Fd then none else some (D.int t)) = (L.filter fun t => decide (t ∉ Fd)).map D.int
  | [] => rfl
  | a :: L => by
    have ih := fm_notin (Fd := Fd) L
    by_cases h : a ∈ Fd <;> simp [List.filterMap_cons, h, ih]
theorem lc_tk6 {Fd : List Int} {b e : Int} {v0 v2 v3 v4 : Slot} (hz : (tk b e).length ≤ 90000) (hn : ∀ t ∈ tk b e, t ∉ Fd) : lcL [5] (uName 5) (dTest (dBin opNotIn (dVar 5) (dVar 1))) (dVar 5) ((List.range (e - b).toNat).map fun n => D.int (b + (n : Nat))) [v0, .own (.lst (Fd.map D.int)), v2, v3, v4, .none] [] = .ok ((tk b e).map D.int) [v0, .own (.lst (Fd.map D.int)), v2, v3, v4, .none] := by
  have L := lc_fm (vs := [5]) (U := uName 5) (T := dTest (dBin opNotIn (dVar 5) (dVar 1))) (A := dVar 5) (enc := D.int) (fun t => if t ∈ Fd then none else some (.int t)) (ρ := [v0, .own (.lst (Fd.map D.int)), v2, v3, v4, .none]) (L := tk b e) (acc := []) (fun t ht ds acc ha => by
    have ha' : acc.length < 16777216 := by omega
    by_cases h : t ∈ Fd
    · simp [lcL, in_ints, h]
    · simp [lcL, in_ints, h, ha']) (by simp; omega)
  have e1 : (tk b e).map D.int = (List.range (e - b).toNat).map fun n => D.int (b + (n : Nat)) := by
    rw [tk, List.map_map]
    rfl
  have e3 : (tk b e).filter (fun t => decide (t ∉ Fd)) = tk b e := List.filter_eq_self.mpr fun t ht => by simpa using hn t ht
  rw [e1, fm_notin, e3] at L
  rw [L]
  rfl
theorem ticks_step {c : Cl} {F : List Int} {x : Int × Int} (h0 : 0 ≤ x.1) (h1 : x.1 < x.2) (h2 : x.2 ≤ 2000) (hF : ∀ t ∈ F, t < x.1) (hz : F.length ≤ 2000) {v0 s2 s3 s4 : Slot} (f2 : s2.free = true) (f3 : s3.free = true) (f4 : s4.free = true) :
    ∃ t2 t3 t4, stepL (uTup 3 (usCons (uName 2) (usCons (uName 3) (usCons (uName 4) usNil)))) (D__law_ticks_b1 c) (bkD (bz x)) [v0, .own (.lst (F.map D.int)), s2, s3, s4, .none] = .nx [v0, .own (.lst ((F ++ tk x.1 x.2).map D.int)), t2, t3, t4, .none] ∧ t2.free = true ∧ t3.free = true ∧ t4.free = true := by
  obtain ⟨a, b⟩ := x
  dsimp only at h0 h1 h2 hF
  have hl := tk_len (b := a) (e := b) (by omega)
  have e := lc_tk6 (Fd := F) (b := a) (e := b) (v0 := v0) (v2 := .val (.int a)) (v3 := .val (.int b)) (v4 := .val (.str "busy")) (by omega) (fun t ht hf => by
    have := hF t hf
    have := mem_tk.mp ht
    omega)
  have r1 : -4611686018427387904 ≤ a := by omega
  have r2 : a < 4611686018427387904 := by omega
  have r3 : -4611686018427387904 ≤ b := by omega
  have r4 : b < 4611686018427387904 := by omega
  have z1 : F.length + (tk a b).length ≤ 16777216 := by omega
  have z2 : F.length + (tk a b).length < 16777216 := by omega
  have z3 : (tk a b).length ≤ 16777216 := by omega
  refine ⟨.val (.int a), .val (.int b), .val (.str "busy"), ?_, rfl, rfl, rfl⟩
  simp [D__law_ticks_b1, f2, f3, f4, bkD, bz, wd, e, r1, r2, r3, r4, z1, z2, z3, lcAll]
theorem lc_int {L : List Int} {ρ : En} {i : Nat} {acc : List D} (h : ρ[i]? = some .none) (hz : L.length + acc.length ≤ 100000) : lcL [i] (uName i) tdYes (dCB fInt (aCons (dVar i) aNil)) (L.map D.int) ρ acc = .ok (acc ++ L.map D.int) ρ := by
  have := lc_fm (vs := [i]) (U := uName i) (T := tdYes) (A := dCB fInt (aCons (dVar i) aNil)) (enc := D.int) (fun x => some (D.int x)) (ρ := ρ) (L := L) (acc := acc) (fun x hx ds acc ha => by
    have ha' : acc.length < 16777216 := by omega
    obtain ⟨hi, h'⟩ := List.getElem?_eq_some_iff.mp h
    have e : ρ.set i .none = ρ := by
      rw [← h']
      exact List.set_getElem_self hi
    have e2 : (ρ.set i (.val (D.int x)))[i]? = some (.val (D.int x)) := List.getElem?_set_self hi
    have e3 : (Slot.none : Slot).free = true := rfl
    simp [lcL, h, ha', e, e2, e3]) hz
  rw [this]
  simp
theorem ticks_v {c : Cl} {J : List (Int × Int)} (s : Spc 2000 J) : Gives 6 (D__law_ticks c) [.tup ((J.map bz).map bkD)] (.new (.lst ((flat J).map D.int))) := by
  obtain ⟨ρ', e, s2, s3, s4, rfl, f2, f3, f4⟩ := forL_inv (U := uTup 3 (usCons (uName 2) (usCons (uName 3) (usCons (uName 4) usNil)))) (B := D__law_ticks_b1 c) (ds := (J.map bz).map bkD)
    (fun i ρ => ∃ s2 s3 s4 : Slot, ρ = [.val (.tup ((J.map bz).map bkD)), .own (.lst ((flat (J.take i)).map D.int)), s2, s3, s4, .none] ∧ s2.free = true ∧ s3.free = true ∧ s4.free = true) (fun i hi ρ hw => by
      obtain ⟨s2, s3, s4, rfl, f2, f3, f4⟩ := hw
      simp only [List.length_map] at hi
      have hx := s.one J[i] (List.getElem_mem hi)
      have ht : J.take (i + 1) = J.take i ++ [J[i]] := by rw [List.take_add_one, List.getElem?_eq_getElem hi]; rfl
      have hsp : Spc 2000 (J.take i) := ⟨fun y hy => s.one y (List.mem_of_mem_take hy), s.two.sublist (List.take_sublist _ _)⟩
      have hl := flat_len (a := 2000) (by omega) hsp
      have hF : ∀ t ∈ flat (J.take i), t < J[i].1 := fun t ht' => by
        obtain ⟨z, hz, z1, z2⟩ := of_mem_flat ht'
        have hp : (J.take (i + 1)).Pairwise fun x y => x.2 < y.1 := s.two.sublist (List.take_sublist _ _)
        rw [ht, List.pairwise_append] at hp
        have := hp.2.2 z hz J[i] (by simp)
        omega
      obtain ⟨t2, t3, t4, e, g2, g3, g4⟩ := ticks_step (c := c) (F := flat (J.take i)) (x := J[i]) hx.1 hx.2.1 hx.2.2 hF (by omega) (v0 := .val (.tup ((J.map bz).map bkD))) f2 f3 f4
      refine ⟨_, .inl ?_, t2, t3, t4, rfl, g2, g3, g4⟩
      rw [ht, flat_snoc]
      simp only [List.getElem_map]
      exact e) (ρ := [.val (.tup ((J.map bz).map bkD)), .own (.lst []), .none, .none, .none, .none]) ⟨_, _, _, rfl, rfl, rfl, rfl⟩
  have hl := flat_len (a := 2000) (by omega) s
  simp only [List.length_map, List.take_length] at e
  have i1 := lc_int (L := flat J) (ρ := [.val (.tup ((J.map bz).map bkD)), .lck (.lst ((flat J).map D.int)), s2, s3, s4, .none]) (i := 5) (acc := []) rfl (by simp; omega)
  have so := sorted_ints (flat_asc s)
  obtain ⟨V, hV⟩ : ∃ V, (J.map bz).map bkD = V := ⟨_, rfl⟩
  rw [hV] at e i1 ⊢
  have z : (flat J).length ≤ 16777216 := by omega
  simp at i1
  simp [Gives, D__law_ticks, e, i1, so, z, lcAll]
end DL

set_option linter.all false
set_option maxRecDepth 100000
set_option maxHeartbeats 1000000
/-! what is not in a list, told by a comprehension -/
namespace DL
open PySem PySem.Spec PyProof.Rows L2 DD
theorem bk_shaped {b : Bk} : SeqAt.shaped (bkP b) = true := by
  unfold SeqAt.shaped
  have h1 := bkO.cl b
  have h2 := bkO.dp b
  rw [h1, Bool.true_and]
  simp
  omega
theorem in_bks {b : Bk} {L : List Bk} : opInB (bkD b) (.tup (L.map bkD)) = some (decide (b ∈ L)) := by
  have e1 : D.py (bkD b) = some (bkP b) := rfl
  have f : (bkD b).flat = false := rfl
  have e : (L.map bkP).any (fun z => PyData.eqv z (bkP b)) = decide (b ∈ L) := by
    rw [List.any_map, Bool.eq_iff_iff, List.any_eq_true, decide_eq_true_eq]
    constructor
    · rintro ⟨x, hx, hq⟩
      obtain rfl := bkO.eqv.mp hq
      exact hx
    · intro h
      exact ⟨b, h, bkO.eqv.mpr rfl⟩
  unfold opInB
  simp only [D.items]
  rw [if_neg (by rw [f]; simp), e1, bkO.pyA]
  dsimp only
  rw [if_pos ⟨bk_shaped, bkO.sht L⟩, e]
theorem lc_none {α : Type} {i : Nat} {T : En → Res Bool} {enc : α → D} {ρ : En} {L : List α} (h : ρ[i]? = some .none) (hz : L.length ≤ 100000) (ht : ∀ x ∈ L, T (ρ.set i (.val (enc x))) = .ok false (ρ.set i (.val (enc x)))) : lcL [i] (uName i) T (dVar i) (L.map enc) ρ [] = .ok [] ρ := by
  have := lc_fm (vs := [i]) (U := uName i) (T := T) (A := dVar i) (enc := enc) (fun x => none) (ρ := ρ) (L := L) (acc := []) (fun x hx ds acc ha => by
    obtain ⟨hi, h'⟩ := List.getElem?_eq_some_iff.mp h
    have e : ρ.set i .none = ρ := by
      rw [← h']
      exact List.set_getElem_self hi
    have e2 : (ρ.set i (.val (enc x)))[i]? = some (.val (enc x)) := List.getElem?_set_self hi
    have e3 : (Slot.none : Slot).free = true := rfl
    have e4 : (Slot.val (enc x)).free = true := rfl
    simp [lcL, h, e, e2, e3, e4, ht x hx]) (by simp; omega)
  rw [this]
  simp
theorem lc_keep {i : Nat} {T : En → Res Bool} {p : Int → Bool} {ρ : En} {L : List Int} (h : ρ[i]? = some .none) (hz : L.length ≤ 100000) (ht : ∀ x ∈ L, T (ρ.set i (.val (.int x))) = .ok (p x) (ρ.set i (.val (.int x)))) : lcL [i] (uName i) T (dVar i) (L.map D.int) ρ [] = .ok ((L.filter p).map D.int) ρ := by
  have := lc_fm (vs := [i]) (U := uName i) (T := T) (A := dVar i) (enc := D.int) (fun x => if p x then some (.int x) else none) (ρ := ρ) (L := L) (acc := []) (fun x hx ds acc ha => by
    have ha' : acc.length < 16777216 := by omega
    obtain ⟨hi, h'⟩ := List.getElem?_eq_some_iff.mp h
    have e : ρ.set i .none = ρ := by
      rw [← h']
      exact List.set_getElem_self hi
    have e2 : (ρ.set i (.val (D.int x)))[i]? = some (.val (D.int x)) := List.getElem?_set_self hi
    have e3 : (Slot.none : Slot).free = true := rfl
    have t := ht x hx
    cases hp : p x <;> rw [hp] at t <;> simp [lcL, h, ha', e, e2, e3, t, hp]) (by simp; omega)
  rw [this]
  have e4 : ∀ L : List Int, L.filterMap (fun x => if p x = true then some (D.int x) else none) = (L.filter p).map D.int := by
    intro L
    induction L with
    | nil => rfl
    | cons a L ih => cases hp : p a <;> simp [List.filterMap_cons, List.filter_cons, hp, ih]
  rw [e4]
  rfl
end DL

set_option linter.all false
set_option maxRecDepth 100000
set_option maxHeartbeats 1000000
/-! any value, what it is -/
namespace DL
open PySem PySem.Spec PyProof.Rows L2 DD
def isI : D → Bool
  | .int _ => true
  | _ => false
def isB : D → Bool
  | .bl _ => true
  | _ => false
def isT : D → Bool
  | .tup _ => true
  | _ => false
def isS : D → Bool
  | .str _ => true
  | _ => false
def isL : D → Bool
  | .lst _ | .scr _ => true
  | _ => false
def isN : D → Bool
  | .int i => decide (0 ≤ i)
  | _ => false
@[simp] theorem kx1 : kitB "NoneType" "int" = some false := by decide +kernel
@[simp] theorem kx2 : kitB "NoneType" "bool" = some false := by decide +kernel
@[simp] theorem kx3 : kitB "NoneType" "str" = some false := by decide +kernel
@[simp] theorem kx4 : kitB "NoneType" "tuple" = some false := by decide +kernel
@[simp] theorem kx5 : kitB "NoneType" "list" = some false := by decide +kernel
@[simp] theorem kx6 : kitB "bool" "int" = some true := by decide +kernel
@[simp] theorem kx7 : kitB "bool" "str" = some false := by decide +kernel
@[simp] theorem kx8 : kitB "bool" "tuple" = some false := by decide +kernel
@[simp] theorem kx9 : kitB "bool" "list" = some false := by decide +kernel
@[simp] theorem kx10 : kitB "int" "str" = some false := by decide +kernel
@[simp] theorem kx11 : kitB "int" "tuple" = some false := by decide +kernel
@[simp] theorem kx12 : kitB "int" "list" = some false := by decide +kernel
@[simp] theorem kx13 : kitB "str" "int" = some false := by decide +kernel
@[simp] theorem kx14 : kitB "str" "bool" = some false := by decide +kernel
@[simp] theorem kx15 : kitB "str" "str" = some true := by decide +kernel
@[simp] theorem kx16 : kitB "str" "tuple" = some false := by decide +kernel
@[simp] theorem kx17 : kitB "str" "list" = some false := by decide +kernel
@[simp] theorem kx18 : kitB "tuple" "int" = some false := by decide +kernel
@[simp] theorem kx19 : kitB "tuple" "bool" = some false := by decide +kernel
@[simp] theorem kx20 : kitB "tuple" "str" = some false := by decide +kernel
@[simp] theorem kx21 : kitB "list" "int" = some false := by decide +kernel
@[simp] theorem kx22 : kitB "list" "bool" = some false := by decide +kernel
@[simp] theorem kx23 : kitB "list" "str" = some false := by decide +kernel
theorem kd_no0 {Cs : List Addr} {a : Addr} (h : a ∈ Cs) : kitD Cs (.ref a) (.type "int") = some false := by
  simp [kitD, h, blts]
theorem kd_no1 {Cs : List Addr} {a : Addr} (h : a ∈ Cs) : kitD Cs (.ref a) (.type "bool") = some false := by
  simp [kitD, h, blts]
theorem kd_no2 {Cs : List Addr} {a : Addr} (h : a ∈ Cs) : kitD Cs (.ref a) (.type "str") = some false := by
  simp [kitD, h, blts]
theorem kd_no3 {Cs : List Addr} {a : Addr} (h : a ∈ Cs) : kitD Cs (.ref a) (.type "tuple") = some false := by
  simp [kitD, h, blts]
theorem kd_no4 {Cs : List Addr} {a : Addr} (h : a ∈ Cs) : kitD Cs (.ref a) (.type "list") = some false := by
  simp [kitD, h, blts]
@[simp] theorem ty_non : D.non.ty = .type "NoneType" := rfl
@[simp] theorem ty_bl {b : Bool} : (D.bl b).ty = .type "bool" := rfl
@[simp] theorem ty_int {b : Int} : (D.int b).ty = .type "int" := rfl
@[simp] theorem ty_str {b : Str} : (D.str b).ty = .type "str" := rfl
@[simp] theorem ty_tup {b : List D} : (D.tup b).ty = .type "tuple" := rfl
@[simp] theorem ty_lst {b : List D} : (D.lst b).ty = .type "list" := rfl
@[simp] theorem ty_ins {C : Addr} {ks : List Str} {b : List D} : (D.ins C ks b).ty = .ref C := rfl
@[simp] theorem tk_non {Cs : List Addr} : D.non.tyOk Cs = true := rfl
@[simp] theorem tk_bl {Cs : List Addr} {b : Bool} : (D.bl b).tyOk Cs = true := rfl
@[simp] theorem tk_int {Cs : List Addr} {b : Int} : (D.int b).tyOk Cs = true := rfl
@[simp] theorem tk_str {Cs : List Addr} {b : Str} : (D.str b).tyOk Cs = true := rfl
@[simp] theorem tk_tup {Cs : List Addr} {b : List D} : (D.tup b).tyOk Cs = true := rfl
@[simp] theorem tk_lst {Cs : List Addr} {b : List D} : (D.lst b).tyOk Cs = true := rfl
section
variable {Cs : List Addr} {d : D}
theorem an_int (h : d.tyOk Cs = true) : anyK (kitD Cs) d.ty [.type "int"] = some (isI d || isB d) := by
  cases d <;> simp [D.tyOk] at h <;> simp [anyK, isI, isB, kd_no0, kd_no1, kd_no2, kd_no3, kd_no4, h]
theorem an_bool (h : d.tyOk Cs = true) : anyK (kitD Cs) d.ty [.type "bool"] = some (isB d) := by
  cases d <;> simp [D.tyOk] at h <;> simp [anyK, isI, isB, kd_no0, kd_no1, kd_no2, kd_no3, kd_no4, h]
theorem an_str (h : d.tyOk Cs = true) : anyK (kitD Cs) d.ty [.type "str"] = some (isS d) := by
  cases d <;> simp [D.tyOk] at h <;> simp [anyK, isS, kd_no0, kd_no1, kd_no2, kd_no3, kd_no4, h]
theorem an_tup (h : d.tyOk Cs = true) : anyK (kitD Cs) d.ty [.type "tuple"] = some (isT d) := by
  cases d <;> simp [D.tyOk] at h <;> simp [anyK, isT, kd_no0, kd_no1, kd_no2, kd_no3, kd_no4, h]
theorem an_seq (h : d.tyOk Cs = true) : anyK (kitD Cs) d.ty [.type "list", .type "tuple"] = some (isL d || isT d) := by
  cases d <;> simp [D.tyOk] at h <;> simp [anyK, isL, isT, kd_no0, kd_no1, kd_no2, kd_no3, kd_no4, h]
theorem isI_ex (h : isI d = true) : ∃ i, d = .int i := by cases d <;> first | exact ⟨_, rfl⟩ | cases h
theorem isT_ex (h : isT d = true) : ∃ ds, d = .tup ds := by cases d <;> first | exact ⟨_, rfl⟩ | cases h
theorem isS_ex (h : isS d = true) : ∃ x, d = .str x := by cases d <;> first | exact ⟨_, rfl⟩ | cases h
theorem isN_ex (h : isN d = true) : ∃ i : Int, d = .int i ∧ 0 ≤ i := by
  cases d <;> first | exact ⟨_, rfl, by simpa [isN] using h⟩ | cases h
end
abbrev Okd (c : Cl) (d : D) : Prop := d.tyOk [c.Day, c.Rule, c.Frame] = true
theorem is_integer_d {c : Cl} {d : D} (h : Okd c d) : Gives 1 (D_is_integer c) [d] (.val (.bl (isI d))) := by
  have e1 := an_int h
  have e2 := an_bool h
  have h' : d.tyOk [c.Day, c.Rule, c.Frame] = true := h
  cases d <;> simp [isI, isB] at e1 e2 <;> simp at h' <;> simp [Gives, D_is_integer, e1, e2, isI, h']
theorem is_number_d {c : Cl} {d : D} (h : Okd c d) : Gives 1 (D_is_number c) [d] (.val (.bl (isN d))) := by
  obtain ⟨_, p⟩ := (is_integer_d (c := c) h).elim
  cases d <;> simp [isI] at p <;> simp [Gives, D_is_number, p, isN]
theorem is_positive_d {c : Cl} {d : D} (h : Okd c d) : Gives 1 (D_is_positive c) [d] (.val (.bl (match d with
    | .int i => decide (1 ≤ i)
    | _ => false))) := by
  obtain ⟨_, p⟩ := (is_integer_d (c := c) h).elim
  cases d <;> simp [isI] at p <;> simp [Gives, D_is_positive, p]
/-- plain data of a depth -/
def Pv (n : Nat) (d : D) : Prop := ∃ p, d.py = some p ∧ p.canLay0 = true ∧ p.depth ≤ n
theorem Pv.mono {m n : Nat} {d : D} (h : Pv m d) (k : m ≤ n) : Pv n d := by
  obtain ⟨p, e, l, s⟩ := h
  exact ⟨p, e, l, by omega⟩
theorem Pv.ok {c : Cl} {n : Nat} {d : D} (h : Pv n d) : Okd c d := by
  obtain ⟨p, e, _⟩ := h
  cases d <;> first | rfl | cases e
theorem Pv.sh {n : Nat} {d : D} (h : Pv n d) (k : n ≤ 50) : ∃ p, d.py = some p ∧ SeqAt.shaped p = true := by
  obtain ⟨p, e, l, s⟩ := h
  exact ⟨p, e, by unfold SeqAt.shaped; rw [l, Bool.true_and]; simp; omega⟩
theorem pv_all {n : Nat} : ∀ {ds : List D}, (∀ d ∈ ds, Pv n d) → ∃ ps, D.pyA ds = some ps ∧ PyData.canLayAll0 ps = true ∧ PyData.depthAll ps ≤ n ∧ ps.length = ds.length
  | [], _ => ⟨[], rfl, rfl, Nat.zero_le _, rfl⟩
  | d :: ds, h => by
    obtain ⟨p, e, l, s⟩ := h d (by simp)
    obtain ⟨ps, e2, l2, s2, z⟩ := pv_all (ds := ds) fun x hx => h x (by simp [hx])
    refine ⟨p :: ps, by simp only [D.pyA, e, e2], by simp only [PyData.canLayAll0, l, l2, Bool.and_self], ?_, by simp [z]⟩
    simp only [PyData.depthAll]
    omega
theorem pv_mem {n : Nat} : ∀ {ds : List D} {ps : List PyData}, D.pyA ds = some ps → PyData.canLayAll0 ps = true → PyData.depthAll ps ≤ n → ∀ d ∈ ds, Pv n d
  | [], _, _, _, _ => fun d h => by simp at h
  | d :: ds, _, e, l, s => by
    obtain ⟨p, r, rfl, e1, e2⟩ := pyA_cons e
    simp only [PyData.canLayAll0, Bool.and_eq_true] at l
    simp only [PyData.depthAll] at s
    intro x hx
    rw [List.mem_cons] at hx
    rcases hx with rfl | hx
    · exact ⟨p, e1, l.1, by omega⟩
    · exact pv_mem e2 l.2 (by omega) x hx
theorem Pv.tup {n : Nat} {ds : List D} (h : ∀ d ∈ ds, Pv n d) : Pv (n + 1) (.tup ds) := by
  obtain ⟨ps, e, l, s, _⟩ := pv_all h
  refine ⟨.tuple ps, by show (D.pyA ds).map PyData.tuple = _; rw [e]; rfl, by simpa [PyData.canLay0] using l, ?_⟩
  simp only [PyData.depth]
  omega
theorem Pv.lst {n : Nat} {ds : List D} (h : ∀ d ∈ ds, Pv n d) : Pv (n + 1) (.lst ds) := by
  obtain ⟨ps, e, l, s, _⟩ := pv_all h
  refine ⟨.list ps, by show (D.pyA ds).map PyData.list = _; rw [e]; rfl, by simpa [PyData.canLay0] using l, ?_⟩
  simp only [PyData.depth]
  omega
theorem Pv.of_tup {n : Nat} {ds : List D} (h : Pv n (.tup ds)) : ∀ d ∈ ds, Pv n d := by
  obtain ⟨p, e, l, s⟩ := h
  have e : (D.pyA ds).map PyData.tuple = some p := e
  cases e2 : D.pyA ds with
  | none => rw [e2] at e; cases e
  | some ps =>
    rw [e2] at e
    cases e
    simp only [PyData.depth] at s
    exact pv_mem e2 (by simpa [PyData.canLay0] using l) (by omega)
theorem pv_int {n : Nat} {i : Int} : Pv n (.int i) := ⟨.int i, rfl, by simp [PyData.canLay0], by simp [PyData.depth]⟩
theorem pv_bl {n : Nat} {i : Bool} : Pv n (.bl i) := ⟨.bool i, rfl, by simp [PyData.canLay0], by simp [PyData.depth]⟩
theorem pv_non {n : Nat} : Pv n .non := ⟨.none, rfl, by simp [PyData.canLay0], by simp [PyData.depth]⟩
theorem pv_str {n : Nat} {x : Str} (h : PyData.strOk x = true) : Pv n (.str x) := ⟨.str x, rfl, by simp [PyData.canLay0, h], by simp [PyData.depth]⟩
/-- an own thing or plain data -/
def El (c : Cl) (d : D) : Prop := Pv 40 d ∨ ∃ r, d = rvD c r
theorem El.ok {c : Cl} {d : D} (h : El c d) : Okd c d := by
  rcases h with h | ⟨r, rfl⟩
  · exact h.ok
  · simp [Okd, rvD]
/-- == [] of such -/
theorem pyA_none {c : Cl} : ∀ {ds : List D} {d : D}, d ∈ ds → d.py = none → D.pyA ds = none
  | [], _, h, _ => by simp at h
  | x :: ds, d, h, e => by
    rw [List.mem_cons] at h
    rcases h with rfl | h
    · simp only [D.pyA, e]
    · have := pyA_none (c := c) h e
      simp only [D.pyA, this]
      cases x.py <;> rfl
theorem eqB_nilE {c : Cl} {L : List D} (h : ∀ d ∈ L, El c d) : eqB (.lst L) (.lst []) = some L.isEmpty := by
  by_cases k : ∀ d ∈ L, Pv 40 d
  · obtain ⟨ps, e, l, s, z⟩ := pv_all k
    have s1 : SeqAt.shaped (.list ps) = true := by
      unfold SeqAt.shaped
      simp only [PyData.canLay0, l, Bool.true_and, PyData.depth]
      simp
      omega
    rw [eqB_lst e (rfl : D.pyA [] = some []) s1 rfl]
    cases ps <;> cases L <;> first | rfl | cases z | simp [PyData.eqvAll]
  · have : ∃ d ∈ L, ¬ Pv 40 d := Classical.byContradiction fun q => k fun d hd => Classical.byContradiction fun p => q ⟨d, hd, p⟩
    obtain ⟨d, hd, nd⟩ := this
    have e : d.py = none := by
      rcases h d hd with h | ⟨r, rfl⟩
      · exact (nd h).elim
      · rfl
    have e2 := pyA_none (c := c) hd e
    have ne : L ≠ [] := fun z => by rw [z] at hd; simp at hd
    have e3 : (D.lst L).py = none := by show (D.pyA L).map PyData.list = _; rw [e2]; rfl
    have hl : ¬ L.length = ([] : List D).length := fun z => ne (List.length_eq_zero_iff.mp z)
    have : eqB (.lst L) (.lst []) = match (D.lst L).py, (D.lst []).py with
      | some p, some q => if SeqAt.shaped p = true ∧ SeqAt.shaped q = true then some (PyData.eqv p q) else none
      | _, _ => match D.lst L, D.lst [] with
        | .lst ds, .lst es => if ds.length = es.length then none else some false
        | _, _ => none := rfl
    rw [this, e3]
    show (if L.length = ([] : List D).length then none else some false) = _
    rw [if_neg hl]
    cases L with
    | nil => exact (ne rfl).elim
    | cons => rfl
def isW : D → Bool
  | .str x => decide (x = "busy") || decide (x = "private")
  | _ => false
/-- word in WORDS -/
theorem in_words {w : D} (h : Pv 40 w) : opInB w (.tup [.str "busy", .str "private"]) = some (isW w) := by
  obtain ⟨p, e, s⟩ := h.sh (by omega)
  have sw : SeqAt.shaped (.tuple [.str "busy", .str "private"]) = true := by decide +kernel
  have e2 : D.pyA [.str "busy", .str "private"] = some [.str "busy", .str "private"] := rfl
  by_cases f : w.flat = true
  · cases w <;> first | cases f | skip
    all_goals simp [opInB, inD, pyEq, D.py, PyData.eqv, isW]
    rename_i x
    by_cases h1 : x = "busy"
    · simp [h1]
    · by_cases h2 : x = "private"
      · simp [h2]
      · simp [h1, h2]
        exact ⟨fun q => h1 q.symm, fun q => h2 q.symm⟩
  · unfold opInB
    simp only [D.items]
    rw [if_neg fun z => f z.1, e, e2]
    dsimp only
    rw [if_pos ⟨s, sw⟩]
    cases w <;> first | (exact (f rfl).elim) | skip
    · simp only [D.py, Option.map_eq_some_iff] at e
      obtain ⟨ps, _, rfl⟩ := e
      simp [PyData.eqv, isW]
    · simp only [D.py, Option.map_eq_some_iff] at e
      obtain ⟨ps, _, rfl⟩ := e
      simp [PyData.eqv, isW]
    · simp only [D.py, Option.map_eq_some_iff] at e
      obtain ⟨ps, _, rfl⟩ := e
      simp [PyData.eqv, isW]
    · cases e
    · cases e
end DL

set_option linter.all false
set_option maxRecDepth 100000
set_option maxHeartbeats 1000000
/-! what is a block -/
namespace DL
open PySem PySem.Spec PyProof.Rows L2 DD
def toBk : D → Option Bk
  | .tup [.int a, .int b, .str w] => if 0 ≤ a ∧ a < b then (if w = "busy" then some (a, b, false) else if w = "private" then some (a, b, true) else none) else none
  | _ => none
theorem toBk_eq {d : D} {b : Bk} (h : toBk d = some b) : d = bkD b := by
  unfold toBk at h
  split at h
  · split at h
    · split at h
      · rename_i e
        cases h
        rw [e]
        rfl
      · split at h
        · rename_i e
          cases h
          rw [e]
          rfl
        · cases h
    · cases h
  · cases h
theorem toBk_bk {b : Bk} (h0 : 0 ≤ b.1) (h1 : b.1 < b.2.1) : toBk (bkD b) = some b := by
  obtain ⟨x, y, w⟩ := b
  cases w <;> simp [-D.tyOk, -D.ty, toBk, bkD, wd] at * <;> simp [-D.tyOk, -D.ty, h0, h1]
theorem isT_toBk {d : D} (h : isT d = false) : toBk d = none := by
  cases d <;> first | rfl | cases h
def ltI : D → D → Bool
  | .int i, .int j => decide (i < j)
  | _, _ => false
theorem toBk3 {a b w : D} : (toBk (.tup [a, b, w])).isSome = (isN a && isN b && ltI a b && isW w) := by
  cases a <;> cases b <;> first | rfl | (simp [-D.tyOk, -D.ty, isN, ltI, isW, toBk]; done) | skip
  cases w <;> first | (simp [-D.tyOk, -D.ty, isN, ltI, isW, toBk]; done) | skip
  rename_i i j x
  by_cases h0 : 0 ≤ i
  · by_cases h1 : i < j
    · have h2 : 0 ≤ j := by omega
      by_cases h3 : x = "busy"
      · simp [-D.tyOk, -D.ty, isN, ltI, isW, toBk, h0, h1, h2, h3]
      · by_cases h4 : x = "private"
        · simp [-D.tyOk, -D.ty, isN, ltI, isW, toBk, h0, h1, h2, h3, h4]
        · simp [-D.tyOk, -D.ty, isN, ltI, isW, toBk, h0, h1, h2, h3, h4]
    · simp [-D.tyOk, -D.ty, isN, ltI, isW, toBk, h0, h1]
  · simp [-D.tyOk, -D.ty, isN, ltI, isW, toBk, h0]
theorem is_block_d {c : Cl} {d : D} (h : El c d) : Gives 4 (D__is_block c) [d] (.val (.bl (toBk d).isSome)) := by
  have ok := h.ok
  have ok' : d.tyOk [c.Day, c.Rule, c.Frame] = true := ok
  have e := an_tup ok
  cases t : isT d with
  | false =>
    rw [t] at e
    simp [-D.tyOk, -D.ty, Gives, D__is_block, ok', e, isT_toBk t]
  | true =>
    rw [t] at e
    obtain ⟨ds, rfl⟩ := isT_ex t
    simp [-D.tyOk, -D.ty] at e
    have h : Pv 40 (.tup ds) := by
      rcases h with h | ⟨r, q⟩
      · exact h
      · cases q
    have hp := h.of_tup
    match ds, hp with
    | [], _ => simp [-D.tyOk, -D.ty, Gives, D__is_block, e, toBk]
    | [_], _ => simp [-D.tyOk, -D.ty, Gives, D__is_block, e, toBk]
    | [_, _], _ => simp [-D.tyOk, -D.ty, Gives, D__is_block, e, toBk]
    | x :: y :: z :: u :: r, _ =>
      have : ¬ (r.length : Int) + 1 + 1 + 1 + 1 = 3 := by omega
      simp [-D.tyOk, -D.ty, Gives, D__is_block, e, toBk, this]
    | [x, y, w], hp =>
      have px := hp x (by simp)
      have py := hp y (by simp)
      have pw := hp w (by simp)
      obtain ⟨_, p1⟩ := (is_number_d (c := c) px.ok).elim
      obtain ⟨_, p2⟩ := (is_number_d (c := c) py.ok).elim
      have p3 := in_words pw
      rw [toBk3]
      simp [-D.tyOk, -D.ty] at p1 p2 p3
      cases n1 : isN x with
      | false =>
        rw [n1] at p1
        simp [-D.tyOk, -D.ty, Gives, D__is_block, e, p1]
      | true =>
        rw [n1] at p1
        obtain ⟨i, rfl, hi⟩ := isN_ex n1
        cases n2 : isN y with
        | false =>
          rw [n2] at p2
          simp [-D.tyOk, -D.ty, Gives, D__is_block, e, p1, p2]
        | true =>
          rw [n2] at p2
          obtain ⟨j, rfl, hj⟩ := isN_ex n2
          by_cases hl : i < j
          · simp [-D.tyOk, -D.ty, Gives, D__is_block, e, p1, p2, p3, hl, ltI, n1, n2]
          · simp [-D.tyOk, -D.ty, Gives, D__is_block, e, p1, p2, p3, hl, ltI, n1, n2]
theorem law_is_block_d {c : Cl} {d : D} (h : El c d) : Gives 2 (D__law_is_block c) [d] (.val (.bl (toBk d).isSome)) := by
  have ok := h.ok
  have ok' : d.tyOk [c.Day, c.Rule, c.Frame] = true := ok
  have e := an_tup ok
  cases t : isT d with
  | false =>
    rw [t] at e
    simp [-D.tyOk, -D.ty, Gives, D__law_is_block, ok', e, isT_toBk t]
  | true =>
    rw [t] at e
    obtain ⟨ds, rfl⟩ := isT_ex t
    simp [-D.tyOk, -D.ty] at e
    have h : Pv 40 (.tup ds) := by
      rcases h with h | ⟨r, q⟩
      · exact h
      · cases q
    have hp := h.of_tup
    match ds, hp with
    | [], _ => simp [-D.tyOk, -D.ty, Gives, D__law_is_block, e, toBk]
    | [_], _ => simp [-D.tyOk, -D.ty, Gives, D__law_is_block, e, toBk]
    | [_, _], _ => simp [-D.tyOk, -D.ty, Gives, D__law_is_block, e, toBk]
    | x :: y :: z :: u :: r, _ =>
      have : ¬ (r.length : Int) + 1 + 1 + 1 + 1 = 3 := by omega
      simp [-D.tyOk, -D.ty, Gives, D__law_is_block, e, toBk, this]
    | [x, y, w], hp =>
      have px := hp x (by simp)
      have py := hp y (by simp)
      have pw := hp w (by simp)
      have okx : x.tyOk [c.Day, c.Rule, c.Frame] = true := px.ok
      have oky : y.tyOk [c.Day, c.Rule, c.Frame] = true := py.ok
      have okw : w.tyOk [c.Day, c.Rule, c.Frame] = true := pw.ok
      have es := an_str okw
      rw [toBk3]
      cases s : isS w with
      | false =>
        rw [s] at es
        have : isW w = false := by cases w <;> first | rfl | cases s
        rw [this]
        simp [-D.tyOk, -D.ty, Gives, D__law_is_block, e, okw, es]
      | true =>
        rw [s] at es
        obtain ⟨z, rfl⟩ := isS_ex s
        simp [-D.tyOk, -D.ty] at es
        have ex1 := an_int okx
        have ex2 := an_bool okx
        have ey1 := an_int oky
        have ey2 := an_bool oky
        have c2 : cutD [x, y, D.str z] none (some 2) = [x, y] := rfl
        have p3 := in_words pw
        by_cases k : isI x = true ∧ isI y = true
        · obtain ⟨i, rfl⟩ := isI_ex k.1
          obtain ⟨j, rfl⟩ := isI_ex k.2
          simp [-D.tyOk, -D.ty, isI, isB] at ex1 ex2
          have q := eqB_nilE (c := c) (L := []) (by simp)
          simp [-D.tyOk, -D.ty] at q
          simp [-D.tyOk, -D.ty] at p3
          by_cases h0 : 0 ≤ i
          · by_cases hl : i < j
            · have hj : 0 ≤ j := by omega
              simp [-D.tyOk, -D.ty, Gives, D__law_is_block, e, es, c2, lcAll, lcL, ex1, ex2, q, h0, hl, p3, isN, hj, ltI]
            · simp [-D.tyOk, -D.ty, Gives, D__law_is_block, e, es, c2, lcAll, lcL, ex1, ex2, q, h0, hl, p3, isN, ltI]
          · simp [-D.tyOk, -D.ty, Gives, D__law_is_block, e, es, c2, lcAll, lcL, ex1, ex2, q, h0, p3, isN, ltI]
        · have nn : (isN x && isN y) = false := by
            cases hx : isN x with
            | false => rfl
            | true => cases hy : isN y with
              | false => rfl
              | true =>
                obtain ⟨i, rfl, _⟩ := isN_ex hx
                obtain ⟨j, rfl, _⟩ := isN_ex hy
                exact (k ⟨rfl, rfl⟩).elim
          rw [nn]
          have qx := eqB_nilE (c := c) (L := [x]) (by simp; exact .inl (px.mono (by omega)))
          have qy := eqB_nilE (c := c) (L := [y]) (by simp; exact .inl (py.mono (by omega)))
          have qxy := eqB_nilE (c := c) (L := [x, y]) (by simp; exact ⟨.inl (px.mono (by omega)), .inl (py.mono (by omega))⟩)
          simp [-D.tyOk, -D.ty] at qx qy qxy
          have kx : (!(isI x || isB x) || isB x) = !isI x := by cases x <;> rfl
          have ky : (!(isI y || isB y) || isB y) = !isI y := by cases y <;> rfl
          cases a1 : isI x <;> cases a2 : isI y <;> cases b1 : isB x <;> cases b2 : isB y <;> rw [a1, b1] at ex1 kx <;> rw [a2, b2] at ey1 ky <;> rw [b1] at ex2 <;> rw [b2] at ey2 <;> first | (cases kx; done) | (cases ky; done) | (exact (k ⟨a1, a2⟩).elim) | (simp [-D.tyOk, -D.ty, Gives, D__law_is_block, e, es, c2, lcAll, lcL, okx, oky, ex1, ex2, ey1, ey2, qx, qy, qxy]; done)
end DL

set_option linter.all false
set_option maxRecDepth 100000
set_option maxHeartbeats 1000000
/-! what is a view -/
namespace DL
open PySem PySem.Spec PyProof.Rows L2 DD
def ltK (a b : Bk) : Bool := PySem.W.dataLt (bkP a) (bkP b)
def asc : List Bk → Bool
  | a :: b :: r => ltK a b && asc (b :: r)
  | _ => true
def ltAt (bs : List Bk) (i : Nat) : Bool := match bs[i]?, bs[i + 1]? with
  | some a, some b => ltK a b
  | _, _ => false
theorem asc_at : ∀ {bs : List Bk}, (List.range (bs.length - 1)).all (ltAt bs) = asc bs
  | [] => rfl
  | [_] => rfl
  | a :: b :: r => by
    have ih := asc_at (bs := b :: r)
    have e : (a :: b :: r).length - 1 = (b :: r).length - 1 + 1 := rfl
    rw [e, List.range_succ_eq_map, List.all_cons, List.all_map]
    have e2 : (ltAt (a :: b :: r) ∘ Nat.succ) = ltAt (b :: r) := by
      funext i
      simp [-D.tyOk, -D.ty, ltAt]
    rw [e2, ih]
    rfl
theorem asc_zip : ∀ {bs : List Bk}, ((bs.zip bs.tail).filterMap fun p => if ltK p.1 p.2 then none else some (D.int 1)).isEmpty = asc bs
  | [] => rfl
  | [_] => rfl
  | a :: b :: r => by
    have ih := asc_zip (bs := b :: r)
    simp only [List.tail_cons] at ih ⊢
    rw [List.zip_cons_cons, List.filterMap_cons]
    cases h : ltK a b with
    | false => simp [-D.tyOk, -D.ty, asc, h]
    | true => simp [-D.tyOk, -D.ty, asc, h, ih]
theorem lt_bk {a b : Bk} : opLt (bkD a) (bkD b) = some (.val (.bl (ltK a b))) := by
  rw [bkO.lt]
  unfold opLtD
  rw [bkO.py, bkO.py]
  dsimp only
  rw [if_pos ⟨bkO.al a b, by have := bkO.dp a; omega⟩]
  rfl
theorem allB_map {α : Type} {f : α → Bool} : ∀ {L : List α}, allB (L.map fun x => D.bl (f x)) = some (L.map f)
  | [] => rfl
  | x :: L => by
    simp only [List.map_cons, allB, allB_map (L := L), Option.map_some]
def isV : D → Bool
  | .tup ds => ds.all (fun d => (toBk d).isSome) && asc (ds.filterMap toBk)
  | _ => false
theorem all_bk : ∀ {ds : List D}, (ds.all fun d => (toBk d).isSome) = true → ds = (ds.filterMap toBk).map bkD
  | [], _ => rfl
  | d :: ds, h => by
    simp only [List.all_cons, Bool.and_eq_true] at h
    obtain ⟨b, e⟩ := Option.isSome_iff_exists.mp h.1
    rw [List.filterMap_cons, e]
    simp only [List.map_cons]
    rw [← all_bk h.2, ← toBk_eq e]
/-- a value that may be a view -/
def Val (c : Cl) (v : D) : Prop := (∃ ds, v = .tup ds ∧ ds.length ≤ 1000 ∧ ∀ e ∈ ds, El c e) ∨ (isT v = false ∧ Okd c v)
theorem el_bk {c : Cl} {b : Bk} : El c (bkD b) := by
  refine .inl ⟨bkP b, rfl, bkO.cl b, ?_⟩
  simp [-D.tyOk, -D.ty, bkP, PyData.depth, PyData.depthAll]
theorem at_lt {bs : List Bk} {i : Nat} (h : i < bs.length - 1) : ∃ a b, bs[i]? = some a ∧ bs[i + 1]? = some b ∧ ltAt bs i = ltK a b ∧ atI (bs.map bkD) (i : Nat) = some (bkD a) ∧ atI (bs.map bkD) ((i : Int) + 1) = some (bkD b) := by
  have h1 : i < bs.length := by omega
  have h2 : i + 1 < bs.length := by omega
  have e1 : bs[i]? = some bs[i] := List.getElem?_eq_getElem h1
  have e2 : bs[i + 1]? = some bs[i + 1] := List.getElem?_eq_getElem h2
  have z1 : ((i : Int) < (bs.length : Int)) := by omega
  have z2 : ((i : Int) + 1 < (bs.length : Int)) := by omega
  have z3 : (0 : Int) ≤ (i : Int) + 1 := by omega
  have z4 : ((i : Int) + 1).toNat = i + 1 := by omega
  refine ⟨_, _, e1, e2, by simp [-D.tyOk, -D.ty, ltAt, e1, e2], ?_, ?_⟩
  · simp [-D.tyOk, -D.ty, atI, ixN, z1, e1]
  · simp [-D.tyOk, -D.ty, atI, ixN, z2, z3, z4, e2]
theorem is_view_d {c : Cl} {v : D} (h : Val c v) : Gives 3 (D_is_view c) [v] (.val (.bl (isV v))) := by
  rcases h with ⟨ds, rfl, hz, h⟩ | ⟨t, ok⟩
  · have e := an_tup (Cs := [c.Day, c.Rule, c.Frame]) (d := .tup ds) rfl
    simp [-D.tyOk, -D.ty, isT] at e
    have L1 := lc_fm (vs := [2]) (U := uName 2) (T := tdYes) (A := dCall 1 4 (D__is_block c) (aCons (dVar 2) aNil)) (enc := fun d => d) (fun d => some (.bl (toBk d).isSome)) (ρ := [.val (.tup ds), .none, .none]) (L := ds) (acc := []) (fun d hd es acc ha => by
      obtain ⟨_, p⟩ := (is_block_d (c := c) (h d hd)).elim
      simp [-D.tyOk, -D.ty] at p
      have ha' : acc.length < 16777216 := by omega
      simp [-D.tyOk, -D.ty, lcL, p, ha']) (by simp; omega)
    simp [-D.tyOk, -D.ty] at L1
    have f : ds.map (fun d => D.bl (toBk d).isSome) = (ds.map fun d => (toBk d).isSome).map D.bl := by simp
    have a1 := allB_map (f := fun d : D => (toBk d).isSome) (L := ds)
    cases k : ds.all fun d => (toBk d).isSome with
    | false =>
      have a2 : (ds.map fun d => (toBk d).isSome).all id = false := by rw [List.all_map]; exact k
      simp [-D.tyOk, -D.ty] at a2
      simp [-D.tyOk, -D.ty, Gives, D_is_view, e, lcAll, L1, a1, isV, k, a2]
    | true =>
      have q := all_bk k
      generalize hb : ds.filterMap toBk = bs at q
      subst q
      have t1 : (bs.map bkD).map (fun x => D.bl (toBk x).isSome) = (List.replicate bs.length true).map D.bl := by
        rw [List.all_eq_true] at k
        apply List.ext_getElem (by simp)
        intro i h1 h2
        have := k ((bs.map bkD)[i]'(by simpa using h1)) (List.getElem_mem _)
        simp [-D.tyOk, -D.ty] at this ⊢
        exact this
      rw [t1] at L1
      have a1 := allB_map (f := fun b : Bool => b) (L := List.replicate bs.length true)
      have L2 := lc_fm (vs := [1]) (U := uName 1) (T := tdYes) (A := dBin opLt (dBin opIx (dVar 0) (dVar 1)) (dBin opIx (dVar 0) (dBin opAdd (dVar 1) (dC (.int 1))))) (enc := fun i : Nat => D.int (0 + (i : Nat))) (fun i => some (.bl (ltAt bs i))) (ρ := [.val (.tup (bs.map bkD)), .none, .none]) (L := List.range (bs.length - 1)) (acc := []) (fun i hi es acc ha => by
        rw [List.mem_range] at hi
        obtain ⟨a, b, e1, e2, e3, e4, e5⟩ := at_lt hi
        have ha' : acc.length < 16777216 := by omega
        have o := lt_bk (a := a) (b := b)
        simp [-D.tyOk, -D.ty, lcL, ha', e3, e4, e5, o, -opLt]) (by simp at hz ⊢; omega)
      have a3 := allB_map (f := fun i => ltAt bs i) (L := List.range (bs.length - 1))
      have a4 : ((List.range (bs.length - 1)).map fun i => ltAt bs i).all id = asc bs := by
        rw [List.all_map, ← asc_at]
        rfl
      have n1 : ((bs.length : Int) - 1).toNat = bs.length - 1 := by omega
      have hz' : bs.length ≤ 1000 := by simpa using hz
      have n2 : -4611686018427387904 ≤ (bs.length : Int) - 1 := by omega
      have n3 : (bs.length : Int) - 1 < 4611686018427387904 := by omega
      simp [-D.tyOk, -D.ty] at L1 L2 a1 a3 a4
      have k' : bs.all ((fun d => (toBk d).isSome) ∘ bkD) = true := by rw [← List.all_map]; exact k
      simp [-D.tyOk, -D.ty, Gives, D_is_view, e, lcAll, L1, a1, isV, k', hb, L2, a3, a4, n1, n2, n3]
  · have e := an_tup ok
    rw [t] at e
    have ok' : v.tyOk [c.Day, c.Rule, c.Frame] = true := ok
    have : isV v = false := by cases v <;> first | rfl | cases t
    simp [-D.tyOk, -D.ty, Gives, D_is_view, ok', e, this]
theorem zip_bk : ∀ {as bs : List Bk}, zipD (as.map bkD) (bs.map bkD) = (as.zip bs).map fun p => D.tup [bkD p.1, bkD p.2]
  | [], _ => by simp [-D.tyOk, -D.ty, zipD]
  | _ :: _, [] => by simp [-D.tyOk, -D.ty, zipD]
  | a :: as, b :: bs => by
    simp only [List.map_cons, zipD, List.zip_cons_cons, zip_bk (as := as) (bs := bs)]
theorem due_d {c : Cl} {v : D} (h : Val c v) : Gives 3 (D__law_due c) [v] (.val (.bl (isV v))) := by
  rcases h with ⟨ds, rfl, hz, h⟩ | ⟨t, ok⟩
  · have e := an_tup (Cs := [c.Day, c.Rule, c.Frame]) (d := .tup ds) rfl
    simp [-D.tyOk, -D.ty, isT] at e
    have L1 := lc_fm (vs := [1]) (U := uName 1) (T := tnot (dTest (dCall 1 2 (D__law_is_block c) (aCons (dVar 1) aNil)))) (A := dVar 1) (enc := fun d => d) (fun d => if (toBk d).isSome then none else some d) (ρ := [.val (.tup ds), .none, .none]) (L := ds) (acc := []) (fun d hd es acc ha => by
      obtain ⟨_, p⟩ := (law_is_block_d (c := c) (h d hd)).elim
      simp [-D.tyOk, -D.ty] at p
      have ha' : acc.length < 16777216 := by omega
      cases k : (toBk d).isSome <;> rw [k] at p <;> simp [-D.tyOk, -D.ty, lcL, p, ha', k]) (by simp; omega)
    simp [-D.tyOk, -D.ty] at L1
    have g : (ds.filterMap fun d => if (toBk d).isSome = true then none else some d).isEmpty = ds.all fun d => (toBk d).isSome := by
      clear L1 hz h e
      induction ds with
      | nil => rfl
      | cons d ds ih => cases k : (toBk d).isSome <;> simp [-D.tyOk, -D.ty, List.filterMap_cons, k, ih]
    have q1 := eqB_nilE (c := c) (L := ds.filterMap fun d => if (toBk d).isSome = true then none else some d) (fun d hd => by
      obtain ⟨x, hx, e⟩ := List.mem_filterMap.mp hd
      split at e
      · cases e
      · cases e
        exact h _ hx)
    rw [g] at q1
    cases k : ds.all fun d => (toBk d).isSome with
    | false =>
      rw [k] at q1
      simp [-D.tyOk, -D.ty, Gives, D__law_due, e, lcAll, L1, isV, k, q1]
    | true =>
      rw [k] at q1
      have q := all_bk k
      generalize hb : ds.filterMap toBk = bs at q
      subst q
      have hz' : bs.length ≤ 1000 := by simpa using hz
      have c1 : cutD (bs.map bkD) (some 1) none = bs.tail.map bkD := by
        have := cutD_from (xs := bs.map bkD) (k := 1)
        rw [show (some 1 : Option Int) = some ((1 : Nat) : Int) from rfl, this]
        cases bs <;> rfl
      have L2 := lc_fm (vs := [1, 2]) (U := uTup 2 (usCons (uName 1) (usCons (uName 2) usNil))) (T := tnot (dTest (dBin opLt (dVar 1) (dVar 2)))) (A := dC (.int 1)) (enc := fun p : Bk × Bk => D.tup [bkD p.1, bkD p.2]) (fun p => if ltK p.1 p.2 then none else some (.int 1)) (ρ := [.val (.tup (bs.map bkD)), .none, .none]) (L := bs.zip bs.tail) (acc := []) (fun p hp es acc ha => by
        have ha' : acc.length < 16777216 := by omega
        have o := lt_bk (a := p.1) (b := p.2)
        cases k : ltK p.1 p.2 <;> rw [k] at o <;> simp [-D.tyOk, -D.ty, lcL, ha', k, o, -opLt]) (by simp; omega)
      have q2 := eqB_nilE (c := c) (L := (bs.zip bs.tail).filterMap fun p => if ltK p.1 p.2 then none else some (D.int 1)) (fun d hd => by
        obtain ⟨x, hx, e⟩ := List.mem_filterMap.mp hd
        split at e
        · cases e
        · cases e
          exact .inl pv_int)
      rw [asc_zip] at q2
      have z := zip_bk (as := bs) (bs := bs.tail)
      simp [-D.tyOk, -D.ty] at L1 L2 q1 q2 z
      have k' : bs.all ((fun d => (toBk d).isSome) ∘ bkD) = true := by rw [← List.all_map]; exact k
      simp [-D.tyOk, -D.ty, Gives, D__law_due, e, lcAll, L1, isV, q1, c1, z, L2, q2, hb, dZip, k']
  · have e := an_tup ok
    rw [t] at e
    have ok' : v.tyOk [c.Day, c.Rule, c.Frame] = true := ok
    have : isV v = false := by cases v <;> first | rfl | cases t
    simp [-D.tyOk, -D.ty, Gives, D__law_due, ok', e, this]
end DL

set_option linter.all false
set_option maxRecDepth 100000
set_option maxHeartbeats 1000000
/-! any values, drawn -/
namespace DL
open PySem PySem.Spec PyProof.Rows L2 DD
theorem lc_st {vs : List Nat} {U : Tg} {T : En → Res Bool} {A : En → Res X} : ∀ {ds : List D} (W : Nat → En → List D → Prop), (∀ i (hi : i < ds.length) ρ acc rest, W i ρ acc → ∃ ρ2 acc2, lcL vs U T A (ds[i] :: rest) ρ acc = lcL vs U T A rest ρ2 acc2 ∧ W (i + 1) ρ2 acc2) → ∀ {ρ : En} {acc : List D}, W 0 ρ acc → ∃ ρ' acc', lcL vs U T A ds ρ acc = .ok acc' ρ' ∧ W ds.length ρ' acc'
  | [], W, _, ρ, acc, h0 => ⟨ρ, acc, by simp [lcL], h0⟩
  | d :: ds, W, h, ρ, acc, h0 => by
    obtain ⟨ρ2, acc2, e, w⟩ := h 0 (by simp) ρ acc ds h0
    obtain ⟨ρ', acc', e2, w2⟩ := lc_st (ds := ds) (fun i => W (i + 1)) (fun i hi ρ acc rest hw => h (i + 1) (by simpa using hi) ρ acc rest hw) w
    refine ⟨ρ', acc', ?_, w2⟩
    rw [show (d :: ds)[0] = d from rfl] at e
    rw [e, e2]
theorem leaf_gives {c : Cl} (b : Int × Int) : ∃ d b', GivesB 2 (D__law_leaf c) (box b) [] (.val d) (box b') ∧ Pv 0 d ∧ isT d = false := by
  obtain ⟨d, b', g, hd⟩ := one_of_gives (c := c) b (ds := [.non, .bl true, .bl false, .int 0, .int 1, .int (-1), .int 2, .int 3, .str "", .str "busy", .str "private", .str "one", .str "2-5", .str "-", .str "12: -"]) (by simp) (by simp)
  obtain ⟨ρ', e1, e2⟩ := g.elim
  refine ⟨d, b', ?_, ?_⟩
  · simp at e1
    simp [GivesB, D__law_leaf, e1, e2]
  · simp at hd
    rcases hd with rfl | rfl | rfl | rfl | rfl | rfl | rfl | rfl | rfl | rfl | rfl | rfl | rfl | rfl | rfl <;> refine ⟨?_, rfl⟩ <;> first | exact pv_non | exact pv_bl | exact pv_int | exact pv_str (by decide +kernel)
def XPv (n : Nat) (x : X) : Prop := ∃ d, (x = .val d ∨ ∃ ds, x = .new (.lst ds) ∧ d = .lst ds) ∧ Pv n d ∧ ∀ ds, d = .tup ds → ds.length ≤ 3
theorem any_lc {c : Cl} {rec : En → SR} {n : Nat} (ih : ∀ b, ∃ x b', GivesB 5 rec (box b) [.int n] x (box b') ∧ XPv (n + 1) x) {k : Nat} (hk : k ≤ 3) {b : Int × Int} {v2 : D} : ∃ (b' : Int × Int) (acc : List D), lcL [4] (uName 4) tdYes (dLend 2 5 rec 0 (aCons (dBin opSub (dVar 1) (dC (.int 1))) aNil)) ((List.range k).map fun i => D.int (0 + (i : Nat))) [.bor (box b), .val (.int (n + 1 : Nat)), .val v2, .none, .none] [] = .ok acc [.bor (box b'), .val (.int (n + 1 : Nat)), .val v2, .none, .none] ∧ acc.length ≤ 3 ∧ ∀ d ∈ acc, Pv (n + 1) d := by
  obtain ⟨ρ', acc, e, b', rfl, hl, hp⟩ := lc_st (vs := [4]) (U := uName 4) (T := tdYes) (A := dLend 2 5 rec 0 (aCons (dBin opSub (dVar 1) (dC (.int 1))) aNil)) (ds := (List.range k).map fun i => D.int (0 + (i : Nat))) (fun i ρ acc => ∃ b' : Int × Int, ρ = [.bor (box b'), .val (.int (n + 1 : Nat)), .val v2, .none, .none] ∧ acc.length = i ∧ ∀ d ∈ acc, Pv (n + 1) d) (fun i hi ρ acc rest hw => by
    obtain ⟨b, rfl, hl, hp⟩ := hw
    obtain ⟨x, b', g, d, hx, pd, _⟩ := ih b
    obtain ⟨ρ', e1, e2⟩ := g.elim
    have ha : acc.length < 16777216 := by simp at hi; omega
    refine ⟨[.bor (box b'), .val (.int (n + 1 : Nat)), .val v2, .none, .none], acc ++ [d], ?_, b', rfl, by simp [hl], ?_⟩
    · simp at e1
      rcases hx with rfl | ⟨ds, rfl, rfl⟩
      · simp [lcL, e1, e2, ha]
      · simp [lcL, e1, e2, ha]
    · intro z hz
      simp at hz
      rcases hz with hz | rfl
      · exact hp z hz
      · exact pd) (ρ := [.bor (box b), .val (.int (n + 1 : Nat)), .val v2, .none, .none]) (acc := []) ⟨b, rfl, rfl, by simp⟩
  simp at hl
  exact ⟨b', acc, e, by omega, hp⟩
theorem any_gives {c : Cl} : ∀ (n f : Nat), n < 30 → ∀ b : Int × Int, ∃ x b', GivesB 5 (D__law_any_n c (n + f + 1)) (box b) [.int n] x (box b') ∧ XPv (n + 1) x
  | 0, f, _, b => by
    obtain ⟨d, b', g, pd, t⟩ := leaf_gives (c := c) b
    obtain ⟨ρ', e1, e2⟩ := g.elim
    refine ⟨.val d, b', ?_, d, .inl rfl, pd.mono (by omega), fun ds q => ?_⟩
    · simp at e1
      simp [GivesB, D__law_any_n, D__law_any_r, e1, e2]
    · rw [q] at t
      cases t
  | n + 1, f, hn, b => by
    have ih := any_gives (c := c) n f (by omega)
    obtain ⟨form, b1, g1, hf0, hf6⟩ := choose_gives (c := c) b (m := 6) (by omega) (by omega)
    obtain ⟨_, p1, q1⟩ := g1.elim
    have h1 : (0 : Int) < (n : Int) + 1 := by omega
    have he : n + 1 + f + 1 = (n + f + 1) + 1 := by omega
    rw [he]
    by_cases hf : 1 < form
    · obtain ⟨d, b', g, pd, t⟩ := leaf_gives (c := c) b1
      obtain ⟨ρ', e1, e2⟩ := g.elim
      refine ⟨.val d, b', ?_, d, .inl rfl, pd.mono (by omega), fun ds q => ?_⟩
      · simp at e1 p1
        rw [D__law_any_n]
        simp [GivesB, D__law_any_r, e1, e2, p1, q1, hf, h1]
      · rw [q] at t
        cases t
    · obtain ⟨k, b2, g2, hk0, hk4⟩ := choose_gives (c := c) b1 (m := 4) (by omega) (by omega)
      obtain ⟨_, p2, q2⟩ := g2.elim
      obtain ⟨b', acc, e, hl, hp⟩ := any_lc (c := c) ih (k := k.toNat) (by omega) (b := b2) (v2 := .int form)
      have k1 : -4611686018427387904 ≤ k := by omega
      have k2 : k < 4611686018427387904 := by omega
      have hz : acc.length < 16777216 := by omega
      simp at p1 p2 e
      by_cases h0 : form = 0
      · subst h0
        refine ⟨.val (.tup acc), b', ?_, .tup acc, .inl rfl, Pv.tup hp, fun ds q => by cases q; exact hl⟩
        rw [D__law_any_n]
        simp [GivesB, D__law_any_r, p1, q1, h1, p2, q2, lcAll, e, k1, k2]
      · refine ⟨.new (.lst acc), b', ?_, .lst acc, .inr ⟨acc, rfl, rfl⟩, Pv.lst hp, fun ds q => by cases q⟩
        rw [D__law_any_n]
        simp [GivesB, D__law_any_r, p1, q1, h1, p2, q2, lcAll, e, k1, k2, hf, h0]
theorem any7 {c : Cl} (b : Int × Int) : ∃ x b', GivesB 5 (D__law_any c) (box b) [.int 7] x (box b') ∧ XPv 8 x := any_gives (c := c) 7 1 (by omega) b
end DL

set_option linter.all false
set_option maxRecDepth 100000
set_option maxHeartbeats 2000000
namespace DL
open PySem PySem.Spec PyProof.Rows L2 DD
noncomputable def D_law_b2_p0 (c : Cl) (K : En → SR) : En → SR := (sSeq (sSet 4 (dCall 2 8 (D__law_show c) (aCons (dLend 2 7 (D__law_rule c) 2 (aCons (dC (.int 40)) aNil)) (aCons (dLend 3 9 (D__law_day c) 2 (aCons (dC (.int 40)) (aCons (dC (.bl true)) aNil))) aNil)))) (sSeq (sIf (tor (dTest (dBin opNotB (dCall 1 3 (D_is_view c) (aCons (dVar 4) aNil)) (dC (.bl true)))) (dTest (dBin opNotB (dCall 1 3 (D_is_view c) (aCons (dCB fList (aCons (dVar 4) aNil)) aNil)) (dC (.bl false))))) (sRet (dC (.bl false))) sNext) K))
noncomputable def D_law_b2_p1 (c : Cl) (K : En → SR) : En → SR := (sSeq (sSet 5 (dLend 2 4 (D__law_choose c) 2 (aCons (dBin opAdd (dCB fLen (aCons (dVar 4) aNil)) (dC (.int 1))) aNil))) (sSeq (sSet 6 (dLst (aCons (dC .non) (aCons (dTup (aCons (dC (.int 1)) (aCons (dC (.int 2)) aNil))) (aCons (dTup (aCons (dC (.int 2)) (aCons (dC (.int 1)) (aCons (dC (.str "busy")) aNil)))) (aCons (dTup (aCons (dC (.int 1)) (aCons (dC (.int 1)) (aCons (dC (.str "busy")) aNil)))) (aCons (dTup (aCons (dC (.int 0)) (aCons (dC (.int 1)) (aCons (dC (.str "none")) aNil)))) (aCons (dLst (aCons (dC (.int 0)) (aCons (dC (.int 1)) (aCons (dC (.str "busy")) aNil)))) (aCons (dTup (aCons (dC (.bl true)) (aCons (dC (.int 2)) (aCons (dC (.str "busy")) aNil)))) aNil))))))))) (sSeq (sSet 6 (dBin opAdd (dVar 6) (dLst (aCons (dTup (aCons (dBin opSub (dC (.int 0)) (dC (.int 1))) (aCons (dC (.int 2)) (aCons (dC (.str "busy")) aNil)))) (aCons (dTup (aCons (dC (.int 0)) (aCons (dC (.int 1)) (aCons (dC (.str "busy")) aNil)))) (aCons (dTup (aCons (dC (.int 50)) (aCons (dC (.int 60)) (aCons (dC (.str "private")) aNil)))) (aCons (dTup (aCons (dC (.int 0)) (aCons (dC (.int 1)) (aCons (dC (.str "private")) aNil)))) (aCons (dTup (aCons (dC (.int 0)) (aCons (dC (.int 1)) (aCons (dC .non) aNil)))) aNil)))))))) K)))
noncomputable def D_law_b2_p2 (c : Cl) (K : En → SR) : En → SR := (sSeq (sSet 7 (dBin opAdd (dBin opAdd (dSl (dVar 4) oNone (oSome (dVar 5))) (dTup (aCons (dLend 2 2 (D__law_one_of c) 2 (aCons (dVar 6) aNil)) aNil))) (dSl (dVar 4) (oSome (dBin opAdd (dVar 5) (dLend 2 4 (D__law_choose c) 2 (aCons (dC (.int 2)) aNil)))) oNone))) K)
noncomputable def D_law_b2_p3 (c : Cl) : En → SR := (sForS (dTup (aCons (dVar 7) (aCons (dBin opAdd (dVar 4) (dSl (dVar 4) oNone (oSome (dC (.int 1))))) (aCons (dRev (dVar 4)) (aCons (dLend 2 5 (D__law_any c) 2 (aCons (dC (.int 7)) aNil)) (aCons (dBin opAdd (dVar 4) (dTup (aCons (dTup aNil) aNil))) (aCons (dMake c.Rule 1 7 (fun ρ => D_Rule___init__ c (permD 1 [(.int 1), (.int 0), (.int 0), (.str "busy"), .non] [0, 1, 2, 3, 4, 5] ρ)) aNil) (aCons (dBin opAdd (dVar 4) (dTup (aCons (dMake c.Rule 1 7 (fun ρ => D_Rule___init__ c (permD 1 [(.int 1), (.int 0), (.int 0), (.str "busy"), .non] [0, 1, 2, 3, 4, 5] ρ)) aNil) aNil))) aNil)))))))) (uName 8) (D_law_b1 c))
theorem D_law_b2_eq {c : Cl} : D_law_b2 c = (D_law_b2_p0 c (D_law_b2_p1 c (D_law_b2_p2 c (D_law_b2_p3 c)))) := rfl
@[simp] theorem q_dRev {A : En → Res X} {ρ : En} : dRev A ρ = ((A ρ).bind fun a ρ1 => match deref ρ1 a with
  | some (.tup ds) => .ok (.val (.tup ds.reverse)) ρ1
  | _ => .stuck) := rfl
theorem asc_vw {L : List Bk} (h : VwOk L) : asc L = true := by
  rw [← asc_at, List.all_eq_true]
  intro i hi
  rw [List.mem_range] at hi
  have h1 : i < L.length := by omega
  have h2 : i + 1 < L.length := by omega
  have e1 : L[i]? = some L[i] := List.getElem?_eq_getElem h1
  have e2 : L[i + 1]? = some L[i + 1] := List.getElem?_eq_getElem h2
  have := h.o i h2
  rw [leK_def] at this
  simp [ltAt, e1, e2, ltK]
  simpa using this
theorem isV_vw {L : List Bk} (h : VwOk L) : isV (.tup (L.map bkD)) = true := by
  have e : ∀ b ∈ L, toBk (bkD b) = some b := fun b hb => toBk_bk (h.s b hb).1.1 (h.s b hb).2.2
  have e2 : (L.map bkD).filterMap toBk = L := by
    have : ∀ M : List Bk, (∀ b ∈ M, toBk (bkD b) = some b) → (M.map bkD).filterMap toBk = M := by
      intro M hM
      induction M with
      | nil => rfl
      | cons a M ih => rw [List.map_cons, List.filterMap_cons, hM a (by simp), ih fun b hb => hM b (by simp [hb])]
    exact this L e
  have e3 : (L.map bkD).all (fun d => (toBk d).isSome) = true := by
    rw [List.all_map, List.all_eq_true]
    intro b hb
    simp [e b hb]
  show ((L.map bkD).all (fun d => (toBk d).isSome) && asc ((L.map bkD).filterMap toBk)) = true
  rw [e2, e3, asc_vw h]
  rfl
theorem val_bks {c : Cl} {L : List Bk} (h : L.length ≤ 1000) : Val c (.tup (L.map bkD)) := .inl ⟨_, rfl, by simpa using h, fun e he => by
  obtain ⟨b, _, rfl⟩ := List.mem_map.mp he
  exact el_bk⟩
theorem p0_v {c : Cl} {K : En → SR} {b : Int × Int} {v0 v1 v3 s4 s5 s6 s7 s8 : Slot} (f4 : s4.free = true) :
    ∃ (b' : Int × Int) (L : List Bk), D_law_b2_p0 c K [v0, v1, .own (box b), v3, s4, s5, s6, s7, s8] = K [v0, v1, .own (box b'), v3, .val (.tup (L.map bkD)), s5, s6, s7, s8] ∧ L.length ≤ 100 := by
  obtain ⟨r, b1, g1, ok⟩ := rule_gives (c := c) b (top := 40) (by omega) (by omega)
  obtain ⟨n, ms, b2, g2, n1, n2, hm, he, hl⟩ := day_gives (c := c) b1 (top := 40) (s := true) (by omega) (by omega)
  obtain ⟨_, p1, q1⟩ := g1.elim
  obtain ⟨_, p2, q2⟩ := g2.elim
  obtain ⟨_, p3⟩ := (law_show_v (c := c) ok (n := n) hm (by omega) (by omega)).elim
  have vw := shown_ok (c := c) ok hm he (by omega) (by omega)
  generalize srt bkP (showL r ms) = L at p3 vw
  obtain ⟨_, p4⟩ := (is_view_d (c := c) (val_bks (c := c) (L := L) (by have := vw.z; omega))).elim
  obtain ⟨_, p5⟩ := (is_view_d (c := c) (v := .lst (L.map bkD)) (.inr ⟨rfl, rfl⟩)).elim
  have e5 : isV (.lst (L.map bkD)) = false := rfl
  rw [isV_vw vw] at p4
  rw [e5] at p5
  refine ⟨b2, L, ?_, vw.z⟩
  simp [dtD] at p1 p2 p3 p4 p5
  simp [D_law_b2_p0, f4, p1, q1, p2, q2, p3, p4, p5]
def odds : List D := [.non, .tup [.int 1, .int 2], .tup [.int 2, .int 1, .str "busy"], .tup [.int 1, .int 1, .str "busy"], .tup [.int 0, .int 1, .str "none"], .lst [.int 0, .int 1, .str "busy"], .tup [.bl true, .int 2, .str "busy"],
  .tup [.int (-1), .int 2, .str "busy"], .tup [.int 0, .int 1, .str "busy"], .tup [.int 50, .int 60, .str "private"], .tup [.int 0, .int 1, .str "private"], .tup [.int 0, .int 1, .non]]
theorem odd_pv : ∀ d ∈ odds, Pv 40 d := by
  have ob : ∀ n, Pv n (.str "busy") := fun n => pv_str (by decide +kernel)
  have op : ∀ n, Pv n (.str "private") := fun n => pv_str (by decide +kernel)
  have on : ∀ n, Pv n (.str "none") := fun n => pv_str (by decide +kernel)
  intro d hd
  simp [odds] at hd
  rcases hd with rfl | rfl | rfl | rfl | rfl | rfl | rfl | rfl | rfl | rfl | rfl | rfl <;> first | exact pv_non | skip
  all_goals first
    | exact Pv.tup (n := 39) (by intro d hd; simp at hd; rcases hd with rfl | rfl | rfl <;> first | exact pv_int | exact pv_bl | exact pv_non | exact ob _ | exact op _ | exact on _)
    | exact Pv.lst (n := 39) (by intro d hd; simp at hd; rcases hd with rfl | rfl | rfl <;> first | exact pv_int | exact pv_bl | exact pv_non | exact ob _ | exact op _ | exact on _)
    | exact Pv.tup (n := 39) (by intro d hd; simp at hd; rcases hd with rfl | rfl <;> exact pv_int)
theorem p1_v {c : Cl} {K : En → SR} {b : Int × Int} {L : List Bk} (hL : L.length ≤ 100) {v0 v1 v3 s5 s6 s7 s8 : Slot} (f5 : s5.free = true) (f6 : s6.free = true) :
    ∃ (b' : Int × Int) (at' : Int), D_law_b2_p1 c K [v0, v1, .own (box b), v3, .val (.tup (L.map bkD)), s5, s6, s7, s8] = K [v0, v1, .own (box b'), v3, .val (.tup (L.map bkD)), .val (.int at'), .own (.lst odds), s7, s8] := by
  obtain ⟨a, b', g, h0, h1⟩ := choose_gives (c := c) b (m := (L.length : Int) + 1) (by omega) (by omega)
  obtain ⟨_, p1, q1⟩ := g.elim
  refine ⟨b', a, ?_⟩
  simp at p1
  simp [D_law_b2_p1, f5, f6, p1, q1, odds]
theorem p2_v {c : Cl} {K : En → SR} {b : Int × Int} {L : List Bk} (hL : L.length ≤ 100) {at' : Int} {v0 v1 v3 s7 s8 : Slot} (f7 : s7.free = true) :
    ∃ (b' : Int × Int) (B : List D), D_law_b2_p2 c K [v0, v1, .own (box b), v3, .val (.tup (L.map bkD)), .val (.int at'), .own (.lst odds), s7, s8] = K [v0, v1, .own (box b'), v3, .val (.tup (L.map bkD)), .val (.int at'), .val (.lst odds), .val (.tup B), s8] ∧ B.length ≤ 1000 ∧ ∀ d ∈ B, El c d := by
  obtain ⟨d, b1, g1, hd⟩ := one_of_gives (c := c) b (ds := odds) (by simp [odds]) (by simp [odds])
  obtain ⟨j, b2, g2, h0, h1⟩ := choose_gives (c := c) b1 (m := 2) (by omega) (by omega)
  obtain ⟨_, p1, q1⟩ := g1.elim
  obtain ⟨_, p2, q2⟩ := g2.elim
  have z1 : ∀ lo hi, (cutD (L.map bkD) lo hi).length ≤ L.length := fun lo hi => by
    unfold cutD
    rw [List.length_take, List.length_drop, List.length_map]
    omega
  have el : ∀ lo hi, ∀ e ∈ cutD (L.map bkD) lo hi, El c e := fun lo hi e he => by
    have := List.drop_subset _ _ (List.take_subset _ _ he)
    obtain ⟨x, _, rfl⟩ := List.mem_map.mp this
    exact el_bk
  have y1 := z1 none (some at')
  have y2 := z1 (some (at' + j)) none
  refine ⟨b2, cutD (L.map bkD) none (some at') ++ [d] ++ cutD (L.map bkD) (some (at' + j)) none, ?_, by simp; omega, ?_⟩
  · have y3 : (cutD (L.map bkD) none (some at')).length + 1 ≤ 16777216 := by omega
    have y4 : (cutD (L.map bkD) none (some at')).length + (1 + (cutD (L.map bkD) (some (at' + j)) none).length) ≤ 16777216 := by omega
    have y5 : (cutD (L.map bkD) none (some at')).length + 1 + (cutD (L.map bkD) (some (at' + j)) none).length ≤ 16777216 := by omega
    simp at p1 p2
    simp [D_law_b2_p2, f7, p1, q1, p2, q2, y3, y4, y5]
  · intro e he
    simp at he
    rcases he with he | rfl | he
    · exact el _ _ _ he
    · exact .inl (odd_pv _ hd)
    · exact el _ _ _ he
theorem b1_v {c : Cl} {v : D} (h : Val c v) {v0 v1 v2 v3 v4 v5 v6 v7 : Slot} : D_law_b1 c [v0, v1, v2, v3, v4, v5, v6, v7, .val v] = .nx [v0, v1, v2, v3, v4, v5, v6, v7, .val v] := by
  obtain ⟨_, p⟩ := (is_view_d h).elim
  obtain ⟨_, q⟩ := (due_d h).elim
  simp at p q
  cases isV v <;> simp [D_law_b1, p, q, fRepr]
theorem vals_loop {c : Cl} {vs : List D} (h : ∀ v ∈ vs, Val c v) {v0 v1 v2 v3 v4 v5 v6 v7 s8 : Slot} (f8 : s8.free = true) : ∃ t8 : Slot, forL (uName 8) (D_law_b1 c) vs [v0, v1, v2, v3, v4, v5, v6, v7, s8] = .nx [v0, v1, v2, v3, v4, v5, v6, v7, t8] ∧ t8.free = true := by
  obtain ⟨ρ', e, t8, rfl, g8⟩ := forL_inv (U := uName 8) (B := D_law_b1 c) (ds := vs) (fun i ρ => ∃ s8 : Slot, ρ = [v0, v1, v2, v3, v4, v5, v6, v7, s8] ∧ s8.free = true) (fun i hi ρ hw => by
    obtain ⟨s8, rfl, f8⟩ := hw
    have b := b1_v (c := c) (h _ (List.getElem_mem hi)) (v0 := v0) (v1 := v1) (v2 := v2) (v3 := v3) (v4 := v4) (v5 := v5) (v6 := v6) (v7 := v7)
    exact ⟨_, .inl (by simp [f8, b] <;> rfl), .val vs[i], rfl, rfl⟩) (ρ := [v0, v1, v2, v3, v4, v5, v6, v7, s8]) ⟨s8, rfl, f8⟩
  exact ⟨t8, e, g8⟩
def ru1 : Ru := ⟨1, 0, 0, "busy", none⟩
theorem ru1_ok : RuIn ru1 := { s := by show (1 : Int) ≤ 1; omega, g := by show (0 : Int) ≤ 0; omega, l := by show (0 : Int) ≤ 0; omega, p := by simp [ru1], h := fun x e => by cases e }
theorem p3_v {c : Cl} {b : Int × Int} {L : List Bk} (hL : L.length ≤ 100) {at' : Int} {B : List D} (hB : B.length ≤ 1000) (eB : ∀ d ∈ B, El c d) {v0 v1 v3 v5 v6 s8 : Slot} (f8 : s8.free = true) :
    ∃ (b' : Int × Int) (t8 : Slot), D_law_b2_p3 c [v0, v1, .own (box b), v3, .val (.tup (L.map bkD)), v5, v6, .val (.tup B), s8] = .nx [v0, v1, .own (box b'), v3, .val (.tup (L.map bkD)), v5, v6, .val (.tup B), t8] ∧ t8.free = true := by
  obtain ⟨x, b', g, d, hx, pd, hz⟩ := any7 (c := c) b
  obtain ⟨_, p1, q1⟩ := g.elim
  obtain ⟨_, p2, q2⟩ := (rule_init (c := c) ru1_ok).elim
  have z1 : ∀ lo hi, (cutD (L.map bkD) lo hi).length ≤ L.length := fun lo hi => by
    unfold cutD
    rw [List.length_take, List.length_drop, List.length_map]
    omega
  have el0 : ∀ e ∈ L.map bkD, El c e := fun e he => by
    obtain ⟨x, _, rfl⟩ := List.mem_map.mp he
    exact el_bk
  have el : ∀ lo hi, ∀ e ∈ cutD (L.map bkD) lo hi, El c e := fun lo hi e he => el0 e (List.drop_subset _ _ (List.take_subset _ _ he))
  have y1 := z1 none (some 1)
  have vd : Val c d := by
    cases t : isT d with
    | false => exact .inr ⟨t, pd.ok⟩
    | true =>
      obtain ⟨ds, rfl⟩ := isT_ex t
      exact .inl ⟨ds, rfl, by have := hz ds rfl; omega, fun e he => .inl ((pd.mono (by omega : 8 ≤ 40)).of_tup e he)⟩
  have vs : ∀ v ∈ [D.tup B, .tup (L.map bkD ++ cutD (L.map bkD) none (some 1)), .tup (L.map bkD).reverse, d, .tup (L.map bkD ++ [.tup []]), rvD c ru1, .tup (L.map bkD ++ [rvD c ru1])], Val c v := by
    intro v hv
    simp only [List.mem_cons, List.not_mem_nil, or_false] at hv
    rcases hv with rfl | rfl | rfl | rfl | rfl | rfl | rfl
    · exact .inl ⟨_, rfl, hB, eB⟩
    · refine .inl ⟨_, rfl, by simp; omega, fun e he => ?_⟩
      rw [List.mem_append] at he
      exact he.elim (el0 e) (el _ _ e)
    · refine .inl ⟨_, rfl, by simp; omega, fun e he => el0 e (List.mem_reverse.mp he)⟩
    · exact vd
    · refine .inl ⟨_, rfl, by simp; omega, fun e he => ?_⟩
      rw [List.mem_append, List.mem_singleton] at he
      rcases he with he | rfl
      · exact el0 e he
      · exact .inl (Pv.tup (n := 39) fun d hd => by simp at hd)
    · exact .inr ⟨rfl, by simp [Okd, rvD]⟩
    · refine .inl ⟨_, rfl, by simp; omega, fun e he => ?_⟩
      rw [List.mem_append, List.mem_singleton] at he
      rcases he with he | rfl
      · exact el0 e he
      · exact .inr ⟨_, rfl⟩
  obtain ⟨t8, e, g8⟩ := vals_loop (c := c) vs (v0 := v0) (v1 := v1) (v2 := .own (box b')) (v3 := v3) (v4 := .val (.tup (L.map bkD))) (v5 := v5) (v6 := v6) (v7 := .val (.tup B)) f8
  refine ⟨b', t8, ?_, g8⟩
  have y2 : L.length + (cutD (L.map bkD) none (some 1)).length ≤ 16777216 := by omega
  have y3 : L.length + 1 ≤ 16777216 := by omega
  have y4 : L.length < 16777216 := by omega
  simp [rvD, ru1, hoD, ruO] at p1 p2 q2 e
  rcases hx with rfl | ⟨ds, rfl, rfl⟩
  · simp [D_law_b2_p3, p1, q1, p2, q2, y2, y3, y4, seqOf, e]
  · simp [D_law_b2_p3, p1, q1, p2, q2, y2, y3, y4, seqOf, e]
theorem b2_v {c : Cl} {b : Int × Int} {v0 v1 v3 s4 s5 s6 s7 s8 : Slot} (f4 : s4.free = true) (f5 : s5.free = true) (f6 : s6.free = true) (f7 : s7.free = true) (f8 : s8.free = true) :
    ∃ (b' : Int × Int) (t4 t5 t6 t7 t8 : Slot), D_law_b2 c [v0, v1, .own (box b), v3, s4, s5, s6, s7, s8] = .nx [v0, v1, .own (box b'), v3, t4, t5, t6, t7, t8] ∧ t4.free = true ∧ t5.free = true ∧ t6.free = true ∧ t7.free = true ∧ t8.free = true := by
  obtain ⟨b1, L, e1, hL⟩ := p0_v (c := c) (K := D_law_b2_p1 c (D_law_b2_p2 c (D_law_b2_p3 c))) (b := b) (v0 := v0) (v1 := v1) (v3 := v3) (s5 := s5) (s6 := s6) (s7 := s7) (s8 := s8) f4
  obtain ⟨b2, a, e2⟩ := p1_v (c := c) (K := D_law_b2_p2 c (D_law_b2_p3 c)) (b := b1) hL (v0 := v0) (v1 := v1) (v3 := v3) (s7 := s7) (s8 := s8) f5 f6
  obtain ⟨b3, B, e3, hB, eB⟩ := p2_v (c := c) (K := D_law_b2_p3 c) (b := b2) hL (at' := a) (v0 := v0) (v1 := v1) (v3 := v3) (s8 := s8) f7
  obtain ⟨b4, t8, e4, g8⟩ := p3_v (c := c) (b := b3) hL (at' := a) hB eB (v0 := v0) (v1 := v1) (v3 := v3) (v5 := .val (.int a)) (v6 := .val (.lst odds)) f8
  exact ⟨b4, _, _, _, _, t8, by rw [D_law_b2_eq, e1, e2, e3, e4], rfl, rfl, rfl, rfl, g8⟩
theorem b3_v {c : Cl} {ns : List Int} {k : Nat} {s2 s3 s4 s5 s6 s7 s8 : Slot} (f2 : s2.free = true) (f3 : s3.free = true) (f4 : s4.free = true) (f5 : s5.free = true) (f6 : s6.free = true) (f7 : s7.free = true) (f8 : s8.free = true) : ∃ (t2 t3 t4 t5 t6 t7 t8 : Slot), D_law_b3 c [.val (.scr (ns.map D.int)), .val (.int k), s2, s3, s4, s5, s6, s7, s8] = .nx [.val (.scr (ns.map D.int)), .val (.int k), t2, t3, t4, t5, t6, t7, t8] ∧ t2.free = true ∧ t3.free = true ∧ t4.free = true ∧ t5.free = true ∧ t6.free = true ∧ t7.free = true ∧ t8.free = true := by
  obtain ⟨b, g⟩ := seed_gives (c := c) ns k
  obtain ⟨_, p1⟩ := g.elim
  obtain ⟨ρ', e, b2, t3, t4, t5, t6, t7, t8, rfl, g3, g4, g5, g6, g7, g8⟩ := forR_inv (U := uName 3) (B := D_law_b2 c) (n := 8) (fun i ρ => ∃ (b : Int × Int) (s3 s4 s5 s6 s7 s8 : Slot), ρ = [.val (.scr (ns.map D.int)), .val (.int k), .own (box b), s3, s4, s5, s6, s7, s8] ∧ s3.free = true ∧ s4.free = true ∧ s5.free = true ∧ s6.free = true ∧ s7.free = true ∧ s8.free = true) (fun i hi ρ hw => by
    obtain ⟨b, s3, s4, s5, s6, s7, s8, rfl, f3, f4, f5, f6, f7, f8⟩ := hw
    obtain ⟨b', t4, t5, t6, t7, t8, e, g4, g5, g6, g7, g8⟩ := b2_v (c := c) (b := b) (v0 := .val (.scr (ns.map D.int))) (v1 := .val (.int k)) (v3 := .val (.int i)) f4 f5 f6 f7 f8
    exact ⟨_, .inl (by simp [f3, e] <;> rfl), b', .val (.int i), t4, t5, t6, t7, t8, rfl, rfl, g4, g5, g6, g7, g8⟩) (ρ := [.val (.scr (ns.map D.int)), .val (.int k), .own (box b), s3, s4, s5, s6, s7, s8]) ⟨b, s3, s4, s5, s6, s7, s8, rfl, f3, f4, f5, f6, f7, f8⟩
  refine ⟨.own (box b2), t3, t4, t5, t6, t7, t8, ?_, rfl, g3, g4, g5, g6, g7, g8⟩
  simp at p1
  simp [D_law_b3, f2, p1, e]
theorem loop_v {c : Cl} {ns : List Int} {N : Nat} : ∃ ρ, forL (uName 1) (D_law_b3 c) ((List.range N).map fun i => D.int (i : Nat)) [.val (.scr (ns.map D.int)), .none, .none, .none, .none, .none, .none, .none, .none] = .nx ρ := by
  obtain ⟨ρ', e, _⟩ := forR_inv (U := uName 1) (B := D_law_b3 c) (n := N) (fun i ρ => ∃ s1 s2 s3 s4 s5 s6 s7 s8 : Slot, ρ = [.val (.scr (ns.map D.int)), s1, s2, s3, s4, s5, s6, s7, s8] ∧ s1.free = true ∧ s2.free = true ∧ s3.free = true ∧ s4.free = true ∧ s5.free = true ∧ s6.free = true ∧ s7.free = true ∧ s8.free = true) (fun i hi ρ hw => by
    obtain ⟨s1, s2, s3, s4, s5, s6, s7, s8, rfl, f1, f2, f3, f4, f5, f6, f7, f8⟩ := hw
    obtain ⟨t2, t3, t4, t5, t6, t7, t8, e, g2, g3, g4, g5, g6, g7, g8⟩ := b3_v (c := c) (ns := ns) (k := i) f2 f3 f4 f5 f6 f7 f8
    exact ⟨_, .inl (by simp [f1, e] <;> rfl), .val (.int i), t2, t3, t4, t5, t6, t7, t8, rfl, rfl, g2, g3, g4, g5, g6, g7, g8⟩) (ρ := [.val (.scr (ns.map D.int)), .none, .none, .none, .none, .none, .none, .none, .none]) ⟨_, _, _, _, _, _, _, _, rfl, rfl, rfl, rfl, rfl, rfl, rfl, rfl, rfl⟩
  exact ⟨ρ', e⟩
theorem rng1_int {A : En → Res X} {ρ ρ1 : En} {x : Int} (h : A ρ = .ok (.val (.int x)) ρ1) (h0 : 0 ≤ x) (h1 : x ≤ 1000) : dRng1 A ρ = .ok ((List.range x.toNat).map fun i => D.int (i : Nat)) ρ1 := by
  have r1 : -4611686018427387904 ≤ x := by omega
  have r2 : x < 4611686018427387904 := by omega
  simp [h, r1, r2]
def lawN : En → Res (List D) := (dRng1 (dCB fMax (aCons (dC (.int 2)) (aCons (dCB fMin (aCons (dC (.int 5)) (aCons (dCB fLen (aCons (dVar 0) aNil)) aNil))) aNil))))
theorem lawN_v {ns : List Int} : ∃ N : Nat, lawN [.val (.scr (ns.map D.int)), .none, .none, .none, .none, .none, .none, .none, .none] = .ok ((List.range N).map fun i => D.int (i : Nat)) [.val (.scr (ns.map D.int)), .none, .none, .none, .none, .none, .none, .none, .none] := by
  obtain ⟨x, hx, h0, h1⟩ : ∃ x : Int, (if (if (ns.length : Int) < 5 then (ns.length : Int) else 5) > 2 then (if (ns.length : Int) < 5 then (ns.length : Int) else 5) else 2) = x ∧ 0 ≤ x ∧ x ≤ 5 := by
    refine ⟨_, rfl, ?_, ?_⟩ <;> (repeat' split) <;> omega
  refine ⟨x.toNat, rng1_int ?_ h0 (by omega)⟩
  simp at hx
  simp [hx]
noncomputable def lawE (c : Cl) : En → SR := (sRet (dAnd (dBin opIsB (dCall 1 3 (D_is_view c) (aCons (dTup aNil) aNil)) (dC (.bl true))) (dBin opIsB (dCall 1 3 (D_is_view c) (aCons (dC (.str "busy")) aNil)) (dC (.bl false)))))
theorem last_v {c : Cl} {ρ : En} : lawE c ρ = .rt (.val (.bl true)) ρ := by
  obtain ⟨_, p⟩ := (is_view_d (c := c) (v := .tup []) (.inl ⟨[], rfl, by simp, by simp⟩)).elim
  obtain ⟨_, q⟩ := (is_view_d (c := c) (v := .str "busy") (.inr ⟨rfl, rfl⟩)).elim
  have e1 : isV (.tup []) = true := rfl
  have e2 : isV (.str "busy") = false := rfl
  rw [e1] at p
  rw [e2] at q
  simp at p q
  simp [lawE, p, q]
theorem law_eq3 {c : Cl} : D_law c = (sSeq (sFor lawN (uName 1) (D_law_b3 c)) (lawE c)) := rfl
theorem law_ok (c : Cl) : LawOk 9 (D_law c) := by
  intro ns hn
  obtain ⟨N, hN⟩ := lawN_v (ns := ns)
  obtain ⟨ρ, e⟩ := loop_v (c := c) (ns := ns) (N := N)
  have l := last_v (c := c) (ρ := ρ)
  have g : Gives 9 (D_law c) [.scr (ns.map D.int)] (.val (.bl true)) := by
    rw [law_eq3]
    show resV (fin (match (lawN [.val (.scr (ns.map D.int)), .none, .none, .none, .none, .none, .none, .none, .none]).sb fun ds ρ1 => forL (uName 1) (D_law_b3 c) ds ρ1 with
      | .nx ρ1 => lawE c ρ1
      | r => r)) = _
    rw [hN]
    show resV (fin (match forL (uName 1) (D_law_b3 c) ((List.range N).map fun i => D.int (i : Nat)) [.val (.scr (ns.map D.int)), .none, .none, .none, .none, .none, .none, .none, .none] with
      | .nx ρ1 => lawE c ρ1
      | r => r)) = _
    rw [e]
    show resV (fin (lawE c ρ)) = _
    rw [l]
    rfl
  exact g.elim
end DL

set_option Elab.async false
set_option linter.all false
set_option maxRecDepth 100000
set_option maxHeartbeats 4000000

namespace DD
open PySem PySem.Spec PyProof.Rows L2 StX ClX DL
theorem kit_str {K : PySem.W.Frag} {C : Addr} (h1 : PySem.W.isClsIn K C = true) (h2 : PySem.W.typeIn K (.ref C) = some (.type "type")) (h3 : PySem.W.subIn K (.type "str") (.ref C) = some false) : PySem.W.kitOne K (.type "str") (.ref C) = some false := by
  have h4 : (PySem.W.clsIn K C).isSome = true := h1
  simp [PySem.W.kitOne, PySem.W.kitCls, h4, h2, h3]

section
variable {P : Program} {w : World} {K : PySem.W.Frag} {mg : Str → Option Value} {base : Heap} {d : Ad}
theorem ok_law {f : Addr} {fd : FuncData} (T : Txt K mg d) (F : Fun K "law" "law" s_law f fd) : FnG P w K mg base 14 f fd ["_law_script"] (spLaw K) := by
  refine fun_okG F sc_law (fun vs H Q E h => ?_) (fun cdv A outer s H vs Q E hr hg h => ?_)
  · obtain ⟨_, _, rfl, _⟩ := h
    rfl
  · have hu := hr.units
    have hu5 := room5 hr
    exact ⟨_, (pss_cons (ps_for PassesOwn.never rfl (pi_range1 rfl T.b_range (pa_cons (pe_callB (call_max2 rfl) (by rfl) T.b_max (by decide +kernel) (pa_cons pe_int (pa_cons (pe_callB (call_min2 rfl) (by rfl) T.b_min (by decide +kernel) (pa_cons pe_int (pa_cons (pe_callB (call_len2 (K := K)) (by rfl) T.b_len PySem.boot_len (pa_cons (pv 0) pa_nil)) pa_nil))) pa_nil))) pa_nil)) (pg_name (i := 1) sc_law.nd rfl (by first | exact Or.inl rfl | exact Or.inr rfl)) (pss_cons (ps_set (i := 2) sc_law.nd rfl (by first | exact Or.inl rfl | exact Or.inr rfl) (pe_callR (sp := spD0 K 2 3 (D__law_seed (cl d))) (ok__law_seed T) (hr.mono (by decide)) rfl T.m__law_seed T.k__law_seed pass0 (pa_cons (pv 0) (pa_cons (pv 1) pa_nil)))) (pss_one (ps_for PassesOwn.never rfl (pi_range1 rfl T.b_range (pa_cons pe_int pa_nil)) (pg_name (i := 3) sc_law.nd rfl (by first | exact Or.inl rfl | exact Or.inr rfl)) (pss_cons (ps_set (i := 4) sc_law.nd rfl (by first | exact Or.inl rfl | exact Or.inr rfl) (pe_callR (sp := spD0 K 2 8 (D__law_show (cl d))) (ok__law_show T) (hr.mono (by decide)) rfl T.m__law_show T.k__law_show pass0 (pa_cons (pe_callR (sp := spD0 K 2 7 (D__law_rule (cl d))) (ok__law_rule T) (hr.mono (by decide)) rfl T.m__law_rule T.k__law_rule pass0 (pa_cons (pv 2) (pa_cons pe_int pa_nil))) (pa_cons (pe_callR (sp := spD0 K 3 9 (D__law_day (cl d))) (ok__law_day T) (hr.mono (by decide)) rfl T.m__law_day T.k__law_day pass0 (pa_cons (pv 2) (pa_cons pe_int (pa_cons pe_bl pa_nil)))) pa_nil)))) (pss_cons (ps_if (PW.pt (pw_or (pt_cmpR op_notBl (pe_callR (sp := spD0 K 1 3 (D_is_view (cl d))) (ok_is_view T) (hr.mono (by decide)) rfl T.m_is_view T.k_is_view pass0 (pa_cons (pv 4) pa_nil)) pe_bl (nomark _)) (pw_or1 (pt_cmpR op_notBl (pe_callR (sp := spD0 K 1 3 (D_is_view (cl d))) (ok_is_view T) (hr.mono (by decide)) rfl T.m_is_view T.k_is_view pass0 (pa_cons (pe_callTy call_list_of rfl T.b_list (by decide +kernel) (pa_cons (pv 4) pa_nil)) pa_nil)) pe_bl (nomark _))))) (pss_one (ps_ret pe_bl)) pss_nil) (pss_cons (ps_set (i := 5) sc_law.nd rfl (by first | exact Or.inl rfl | exact Or.inr rfl) (pe_callR (sp := spD0 K 2 4 (D__law_choose (cl d))) (ok__law_choose T) (hr.mono (by decide)) rfl T.m__law_choose T.k__law_choose pass0 (pa_cons (pv 2) (pa_cons (pe_op (op_add4 (K := K)) (pe_callB (call_len2 (K := K)) (by rfl) T.b_len PySem.boot_len (pa_cons (pv 4) pa_nil)) pe_int) pa_nil)))) (pss_cons (ps_set (i := 6) sc_law.nd rfl (by first | exact Or.inl rfl | exact Or.inr rfl) (pe_lst (pa_cons pe_non (pa_cons (pe_tup (pa_cons pe_int (pa_cons pe_int pa_nil))) (pa_cons (pe_tup (pa_cons pe_int (pa_cons pe_int (pa_cons pe_str pa_nil)))) (pa_cons (pe_tup (pa_cons pe_int (pa_cons pe_int (pa_cons pe_str pa_nil)))) (pa_cons (pe_tup (pa_cons pe_int (pa_cons pe_int (pa_cons pe_str pa_nil)))) (pa_cons (pe_lst (pa_cons pe_int (pa_cons pe_int (pa_cons pe_str pa_nil)))) (pa_cons (pe_tup (pa_cons pe_bl (pa_cons pe_int (pa_cons pe_str pa_nil)))) pa_nil))))))))) (pss_cons (ps_set (i := 6) sc_law.nd rfl (by first | exact Or.inl rfl | exact Or.inr rfl) (pe_op (op_add4 (K := K)) (pv 6) (pe_lst (pa_cons (pe_tup (pa_cons (pe_op op_sub pe_int pe_int) (pa_cons pe_int (pa_cons pe_str pa_nil)))) (pa_cons (pe_tup (pa_cons pe_int (pa_cons pe_int (pa_cons pe_str pa_nil)))) (pa_cons (pe_tup (pa_cons pe_int (pa_cons pe_int (pa_cons pe_str pa_nil)))) (pa_cons (pe_tup (pa_cons pe_int (pa_cons pe_int (pa_cons pe_str pa_nil)))) (pa_cons (pe_tup (pa_cons pe_int (pa_cons pe_int (pa_cons pe_non pa_nil)))) pa_nil)))))))) (pss_cons (ps_set (i := 7) sc_law.nd rfl (by first | exact Or.inl rfl | exact Or.inr rfl) (pe_op (op_add4 (K := K)) (pe_op (op_add4 (K := K)) (pe_slice (sl_3 (K := K)) (pv 4) po_none (po_some (pv 5))) (pe_tup (pa_cons (pe_callR (sp := spD0 K 2 2 (D__law_one_of (cl d))) (ok__law_one_of T) (hr.mono (by decide)) rfl T.m__law_one_of T.k__law_one_of pass0 (pa_cons (pv 2) (pa_cons (pv 6) pa_nil))) pa_nil))) (pe_slice (sl_3 (K := K)) (pv 4) (po_some (pe_op (op_add4 (K := K)) (pv 5) (pe_callR (sp := spD0 K 2 4 (D__law_choose (cl d))) (ok__law_choose T) (hr.mono (by decide)) rfl T.m__law_choose T.k__law_choose pass0 (pa_cons (pv 2) (pa_cons pe_int pa_nil))))) po_none))) (pss_one (ps_for PassesOwn.never rfl (pi_seq (K := K) (pe_tup (pa_cons (pv 7) (pa_cons (pe_op (op_add4 (K := K)) (pv 4) (pe_slice (sl_3 (K := K)) (pv 4) po_none (po_some pe_int))) (pa_cons (pe_rev (pv 4)) (pa_cons (pe_callR (sp := spD0 K 2 5 (D__law_any (cl d))) (ok__law_any T) (hr.mono (by decide)) rfl T.m__law_any T.k__law_any pass0 (pa_cons (pv 2) (pa_cons pe_int pa_nil))) (pa_cons (pe_op (op_add4 (K := K)) (pv 4) (pe_tup (pa_cons (pe_tup pa_nil) pa_nil))) (pa_cons (pe_makeKW (sp := spD0 K 1 7 (fun ρ => D_Rule___init__ (cl d) (permD 1 [(.int 1), (.int 0), (.int 0), (.str "busy"), .non] [0, 1, 2, 3, 4, 5] ρ))) T.mk_Rule (okK_Rule___init____ T) (hr.mono (by decide)) rfl T.m_Rule pass0 pk_nil) (pa_cons (pe_op (op_add4 (K := K)) (pv 4) (pe_tup (pa_cons (pe_makeKW (sp := spD0 K 1 7 (fun ρ => D_Rule___init__ (cl d) (permD 1 [(.int 1), (.int 0), (.int 0), (.str "busy"), .non] [0, 1, 2, 3, 4, 5] ρ))) T.mk_Rule (okK_Rule___init____ T) (hr.mono (by decide)) rfl T.m_Rule pass0 pk_nil) pa_nil))) pa_nil))))))))) (pg_name (i := 8) sc_law.nd rfl (by first | exact Or.inl rfl | exact Or.inr rfl)) (pss_one (ps_if (pt_cmpR (op_ne2 (K := K) hu) (pe_callB (call_repr2 (K := K) hg hu) (by rfl) T.b_repr (by decide +kernel) (pa_cons (pe_callR (sp := spD0 K 1 3 (D_is_view (cl d))) (ok_is_view T) (hr.mono (by decide)) rfl T.m_is_view T.k_is_view pass0 (pa_cons (pv 8) pa_nil)) pa_nil)) (pe_callB (call_repr2 (K := K) hg hu) (by rfl) T.b_repr (by decide +kernel) (pa_cons (pe_callR (sp := spD0 K 1 3 (D__law_due (cl d))) (ok__law_due T) (hr.mono (by decide)) rfl T.m__law_due T.k__law_due pass0 (pa_cons (pv 8) pa_nil)) pa_nil)) (nomark _)) (pss_one (ps_ret pe_bl)) pss_nil)))))))))))))) (pss_one (ps_ret (pe_and (pe_cmpR op_isBl (pe_callR (sp := spD0 K 1 3 (D_is_view (cl d))) (ok_is_view T) (hr.mono (by decide)) rfl T.m_is_view T.k_is_view pass0 (pa_cons (pe_tup pa_nil) pa_nil)) pe_bl (nomark _)) (pe_one (pe_cmpR op_isBl (pe_callR (sp := spD0 K 1 3 (D_is_view (cl d))) (ok_is_view T) (hr.mono (by decide)) rfl T.m_is_view T.k_is_view pass0 (pa_cons pe_str pa_nil)) pe_bl (nomark _))))))), law_run (T := D_law (cl d)) (by decide) (L_seq (L_for (vs := [1]) (I_rng1 (L_cb C_max (A_cons L_int (A_cons (L_cb C_min (A_cons L_int (A_cons (L_cb C_len (A_cons (L_var (i := 0)) A_nil)) A_nil))) A_nil)))) (U_name (by decide)) (L_seq (L_set (Lz_call (A_cons (L_var (i := 0)) (A_cons (L_var (i := 1)) A_nil)))) (L_for (vs := [3]) (I_rng1 L_int) (U_name (by decide)) (L_seq (L_set (Lz_call (A_cons (Lz_lend (i := 2) (A_cons L_int A_nil)) (A_cons (Lz_lend (i := 2) (A_cons L_int (A_cons L_bl A_nil))) A_nil)))) (L_seq (L_if (L_tor (L_test (L_bin S_notB (Lz_call (A_cons (L_var (i := 4)) A_nil)) L_bl)) (L_test (L_bin S_notB (Lz_call (A_cons (L_cb C_list (A_cons (L_var (i := 4)) A_nil)) A_nil)) L_bl))) (L_ret L_bl) L_next) (L_seq (L_set (Lz_lend (i := 2) (A_cons (L_bin S_add4 (L_cb C_len (A_cons (L_var (i := 4)) A_nil)) L_int) A_nil))) (L_seq (L_set (L_lst (A_cons L_non (A_cons (L_tup (A_cons L_int (A_cons L_int A_nil))) (A_cons (L_tup (A_cons L_int (A_cons L_int (A_cons L_str A_nil)))) (A_cons (L_tup (A_cons L_int (A_cons L_int (A_cons L_str A_nil)))) (A_cons (L_tup (A_cons L_int (A_cons L_int (A_cons L_str A_nil)))) (A_cons (L_lst (A_cons L_int (A_cons L_int (A_cons L_str A_nil)))) (A_cons (L_tup (A_cons L_bl (A_cons L_int (A_cons L_str A_nil)))) A_nil))))))))) (L_seq (L_set (L_bin S_add4 (L_var (i := 6)) (L_lst (A_cons (L_tup (A_cons (L_bin S_sub L_int L_int) (A_cons L_int (A_cons L_str A_nil)))) (A_cons (L_tup (A_cons L_int (A_cons L_int (A_cons L_str A_nil)))) (A_cons (L_tup (A_cons L_int (A_cons L_int (A_cons L_str A_nil)))) (A_cons (L_tup (A_cons L_int (A_cons L_int (A_cons L_str A_nil)))) (A_cons (L_tup (A_cons L_int (A_cons L_int (A_cons L_non A_nil)))) A_nil)))))))) (L_seq (L_set (L_bin S_add4 (L_bin S_add4 (L_sl (L_var (i := 4)) O_none (O_some (L_var (i := 5)))) (L_tup (A_cons (Lz_lend (i := 2) (A_cons (L_var (i := 6)) A_nil)) A_nil))) (L_sl (L_var (i := 4)) (O_some (L_bin S_add4 (L_var (i := 5)) (Lz_lend (i := 2) (A_cons L_int A_nil)))) O_none))) (L_forS (vs := [8]) (L_tup (A_cons (L_var (i := 7)) (A_cons (L_bin S_add4 (L_var (i := 4)) (L_sl (L_var (i := 4)) O_none (O_some L_int))) (A_cons (L_rev (L_var (i := 4))) (A_cons (Lz_lend (i := 2) (A_cons L_int A_nil)) (A_cons (L_bin S_add4 (L_var (i := 4)) (L_tup (A_cons (L_tup A_nil) A_nil))) (A_cons (Lz_make A_nil) (A_cons (L_bin S_add4 (L_var (i := 4)) (L_tup (A_cons (Lz_make A_nil) A_nil))) A_nil)))))))) (U_name (by decide)) (L_if (L_test (L_bin S_ne (L_cb C_repr (A_cons (Lz_call (A_cons (L_var (i := 8)) A_nil)) A_nil)) (L_cb C_repr (A_cons (Lz_call (A_cons (L_var (i := 8)) A_nil)) A_nil)))) (L_ret L_bl) L_next))))))))))) (L_ret (L_and (L_bin S_isB (Lz_call (A_cons (L_tup A_nil) A_nil)) L_bl) (L_bin S_isB (Lz_call (A_cons L_str A_nil)) L_bl)))) (law_ok (cl d)) h⟩
end
theorem all_mk {l : PySem.W.OpenLaw} {w : World} {K : PySem.W.Frag} {h : Heap} {mg : Str → Option Value} {fa : Addr} (X : K.In h) (G : h.Ns mainGlobals mg) (hfa : mg "law" = some (.ref fa))
    {f_is_integer f_is_number f__are_hours f_is_positive f__wrong_argument f__law_choose f__law_one_of f__law_leaf f__law_any f__law_day f__law_is_block f__law_due f__law_rule f__law_seed f__law_in_order f__law_painted f__law_runs f__law_show f__is_block f_is_view f_law f_Rule___init__ C_Rule c_PRIVATE_WORDS c_WORDS : Addr}
     (a_Rule : PySem.W.nsIn K mainGlobals "Rule" = some (some (.ref C_Rule)))
    {oc_is_integer kV_is_integer do_is_integer pm_is_integer cd_is_integer ct_is_integer : Value} {od_is_integer an_is_integer : Option Addr} {sl_is_integer : Array (Option Value)} (a_is_integer : PySem.W.nsIn K mainGlobals "is_integer" = some (some (.ref f_is_integer)))
     (l_is_integer : K.lookup f_is_integer = some ⟨oc_is_integer, od_is_integer, .func (PySem.W.fnOf "is_integer" "is_integer" (defArgs s_is_integer) (defBody s_is_integer) (defScope s_is_integer) .none kV_is_integer do_is_integer pm_is_integer an_is_integer cd_is_integer ct_is_integer), sl_is_integer⟩)
     (c_is_integer : PySem.W.codeIn K cd_is_integer "is_integer" = true)
     (k_is_integer : PySem.W.keepIn K (.ref f_is_integer) = true)
    {oc_is_number kV_is_number do_is_number pm_is_number cd_is_number ct_is_number : Value} {od_is_number an_is_number : Option Addr} {sl_is_number : Array (Option Value)} (a_is_number : PySem.W.nsIn K mainGlobals "is_number" = some (some (.ref f_is_number)))
     (l_is_number : K.lookup f_is_number = some ⟨oc_is_number, od_is_number, .func (PySem.W.fnOf "is_number" "is_number" (defArgs s_is_number) (defBody s_is_number) (defScope s_is_number) .none kV_is_number do_is_number pm_is_number an_is_number cd_is_number ct_is_number), sl_is_number⟩)
     (c_is_number : PySem.W.codeIn K cd_is_number "is_number" = true)
     (k_is_number : PySem.W.keepIn K (.ref f_is_number) = true)
    {oc__are_hours kV__are_hours do__are_hours pm__are_hours cd__are_hours ct__are_hours : Value} {od__are_hours an__are_hours : Option Addr} {sl__are_hours : Array (Option Value)} (a__are_hours : PySem.W.nsIn K mainGlobals "_are_hours" = some (some (.ref f__are_hours)))
     (l__are_hours : K.lookup f__are_hours = some ⟨oc__are_hours, od__are_hours, .func (PySem.W.fnOf "_are_hours" "_are_hours" (defArgs s__are_hours) (defBody s__are_hours) (defScope s__are_hours) .none kV__are_hours do__are_hours pm__are_hours an__are_hours cd__are_hours ct__are_hours), sl__are_hours⟩)
     (c__are_hours : PySem.W.codeIn K cd__are_hours "_are_hours" = true)
     (k__are_hours : PySem.W.keepIn K (.ref f__are_hours) = true)
    {oc_is_positive kV_is_positive do_is_positive pm_is_positive cd_is_positive ct_is_positive : Value} {od_is_positive an_is_positive : Option Addr} {sl_is_positive : Array (Option Value)} (a_is_positive : PySem.W.nsIn K mainGlobals "is_positive" = some (some (.ref f_is_positive)))
     (l_is_positive : K.lookup f_is_positive = some ⟨oc_is_positive, od_is_positive, .func (PySem.W.fnOf "is_positive" "is_positive" (defArgs s_is_positive) (defBody s_is_positive) (defScope s_is_positive) .none kV_is_positive do_is_positive pm_is_positive an_is_positive cd_is_positive ct_is_positive), sl_is_positive⟩)
     (c_is_positive : PySem.W.codeIn K cd_is_positive "is_positive" = true)
     (k_is_positive : PySem.W.keepIn K (.ref f_is_positive) = true)
    {oc__wrong_argument kV__wrong_argument do__wrong_argument pm__wrong_argument cd__wrong_argument ct__wrong_argument : Value} {od__wrong_argument an__wrong_argument : Option Addr} {sl__wrong_argument : Array (Option Value)} (a__wrong_argument : PySem.W.nsIn K mainGlobals "_wrong_argument" = some (some (.ref f__wrong_argument)))
     (l__wrong_argument : K.lookup f__wrong_argument = some ⟨oc__wrong_argument, od__wrong_argument, .func (PySem.W.fnOf "_wrong_argument" "_wrong_argument" (defArgs s__wrong_argument) (defBody s__wrong_argument) (defScope s__wrong_argument) .none kV__wrong_argument do__wrong_argument pm__wrong_argument an__wrong_argument cd__wrong_argument ct__wrong_argument), sl__wrong_argument⟩)
     (c__wrong_argument : PySem.W.codeIn K cd__wrong_argument "_wrong_argument" = true)
     (k__wrong_argument : PySem.W.keepIn K (.ref f__wrong_argument) = true)
    {oc__law_choose kV__law_choose do__law_choose pm__law_choose cd__law_choose ct__law_choose : Value} {od__law_choose an__law_choose : Option Addr} {sl__law_choose : Array (Option Value)} (a__law_choose : PySem.W.nsIn K mainGlobals "_law_choose" = some (some (.ref f__law_choose)))
     (l__law_choose : K.lookup f__law_choose = some ⟨oc__law_choose, od__law_choose, .func (PySem.W.fnOf "_law_choose" "_law_choose" (defArgs s__law_choose) (defBody s__law_choose) (defScope s__law_choose) .none kV__law_choose do__law_choose pm__law_choose an__law_choose cd__law_choose ct__law_choose), sl__law_choose⟩)
     (c__law_choose : PySem.W.codeIn K cd__law_choose "_law_choose" = true)
     (k__law_choose : PySem.W.keepIn K (.ref f__law_choose) = true)
    {oc__law_one_of kV__law_one_of do__law_one_of pm__law_one_of cd__law_one_of ct__law_one_of : Value} {od__law_one_of an__law_one_of : Option Addr} {sl__law_one_of : Array (Option Value)} (a__law_one_of : PySem.W.nsIn K mainGlobals "_law_one_of" = some (some (.ref f__law_one_of)))
     (l__law_one_of : K.lookup f__law_one_of = some ⟨oc__law_one_of, od__law_one_of, .func (PySem.W.fnOf "_law_one_of" "_law_one_of" (defArgs s__law_one_of) (defBody s__law_one_of) (defScope s__law_one_of) .none kV__law_one_of do__law_one_of pm__law_one_of an__law_one_of cd__law_one_of ct__law_one_of), sl__law_one_of⟩)
     (c__law_one_of : PySem.W.codeIn K cd__law_one_of "_law_one_of" = true)
     (k__law_one_of : PySem.W.keepIn K (.ref f__law_one_of) = true)
    {oc__law_leaf kV__law_leaf do__law_leaf pm__law_leaf cd__law_leaf ct__law_leaf : Value} {od__law_leaf an__law_leaf : Option Addr} {sl__law_leaf : Array (Option Value)} (a__law_leaf : PySem.W.nsIn K mainGlobals "_law_leaf" = some (some (.ref f__law_leaf)))
     (l__law_leaf : K.lookup f__law_leaf = some ⟨oc__law_leaf, od__law_leaf, .func (PySem.W.fnOf "_law_leaf" "_law_leaf" (defArgs s__law_leaf) (defBody s__law_leaf) (defScope s__law_leaf) .none kV__law_leaf do__law_leaf pm__law_leaf an__law_leaf cd__law_leaf ct__law_leaf), sl__law_leaf⟩)
     (c__law_leaf : PySem.W.codeIn K cd__law_leaf "_law_leaf" = true)
     (k__law_leaf : PySem.W.keepIn K (.ref f__law_leaf) = true)
    {oc__law_any kV__law_any do__law_any pm__law_any cd__law_any ct__law_any : Value} {od__law_any an__law_any : Option Addr} {sl__law_any : Array (Option Value)} (a__law_any : PySem.W.nsIn K mainGlobals "_law_any" = some (some (.ref f__law_any)))
     (l__law_any : K.lookup f__law_any = some ⟨oc__law_any, od__law_any, .func (PySem.W.fnOf "_law_any" "_law_any" (defArgs s__law_any) (defBody s__law_any) (defScope s__law_any) .none kV__law_any do__law_any pm__law_any an__law_any cd__law_any ct__law_any), sl__law_any⟩)
     (c__law_any : PySem.W.codeIn K cd__law_any "_law_any" = true)
     (k__law_any : PySem.W.keepIn K (.ref f__law_any) = true)
    {oc__law_day kV__law_day do__law_day pm__law_day cd__law_day ct__law_day : Value} {od__law_day an__law_day : Option Addr} {sl__law_day : Array (Option Value)} (a__law_day : PySem.W.nsIn K mainGlobals "_law_day" = some (some (.ref f__law_day)))
     (l__law_day : K.lookup f__law_day = some ⟨oc__law_day, od__law_day, .func (PySem.W.fnOf "_law_day" "_law_day" (defArgs s__law_day) (defBody s__law_day) (defScope s__law_day) .none kV__law_day do__law_day pm__law_day an__law_day cd__law_day ct__law_day), sl__law_day⟩)
     (c__law_day : PySem.W.codeIn K cd__law_day "_law_day" = true)
     (k__law_day : PySem.W.keepIn K (.ref f__law_day) = true)
    {oc__law_is_block kV__law_is_block do__law_is_block pm__law_is_block cd__law_is_block ct__law_is_block : Value} {od__law_is_block an__law_is_block : Option Addr} {sl__law_is_block : Array (Option Value)} (a__law_is_block : PySem.W.nsIn K mainGlobals "_law_is_block" = some (some (.ref f__law_is_block)))
     (l__law_is_block : K.lookup f__law_is_block = some ⟨oc__law_is_block, od__law_is_block, .func (PySem.W.fnOf "_law_is_block" "_law_is_block" (defArgs s__law_is_block) (defBody s__law_is_block) (defScope s__law_is_block) .none kV__law_is_block do__law_is_block pm__law_is_block an__law_is_block cd__law_is_block ct__law_is_block), sl__law_is_block⟩)
     (c__law_is_block : PySem.W.codeIn K cd__law_is_block "_law_is_block" = true)
     (k__law_is_block : PySem.W.keepIn K (.ref f__law_is_block) = true)
    {oc__law_due kV__law_due do__law_due pm__law_due cd__law_due ct__law_due : Value} {od__law_due an__law_due : Option Addr} {sl__law_due : Array (Option Value)} (a__law_due : PySem.W.nsIn K mainGlobals "_law_due" = some (some (.ref f__law_due)))
     (l__law_due : K.lookup f__law_due = some ⟨oc__law_due, od__law_due, .func (PySem.W.fnOf "_law_due" "_law_due" (defArgs s__law_due) (defBody s__law_due) (defScope s__law_due) .none kV__law_due do__law_due pm__law_due an__law_due cd__law_due ct__law_due), sl__law_due⟩)
     (c__law_due : PySem.W.codeIn K cd__law_due "_law_due" = true)
     (k__law_due : PySem.W.keepIn K (.ref f__law_due) = true)
    {oc__law_rule kV__law_rule do__law_rule pm__law_rule cd__law_rule ct__law_rule : Value} {od__law_rule an__law_rule : Option Addr} {sl__law_rule : Array (Option Value)} (a__law_rule : PySem.W.nsIn K mainGlobals "_law_rule" = some (some (.ref f__law_rule)))
     (l__law_rule : K.lookup f__law_rule = some ⟨oc__law_rule, od__law_rule, .func (PySem.W.fnOf "_law_rule" "_law_rule" (defArgs s__law_rule) (defBody s__law_rule) (defScope s__law_rule) .none kV__law_rule do__law_rule pm__law_rule an__law_rule cd__law_rule ct__law_rule), sl__law_rule⟩)
     (c__law_rule : PySem.W.codeIn K cd__law_rule "_law_rule" = true)
     (k__law_rule : PySem.W.keepIn K (.ref f__law_rule) = true)
    {oc__law_seed kV__law_seed do__law_seed pm__law_seed cd__law_seed ct__law_seed : Value} {od__law_seed an__law_seed : Option Addr} {sl__law_seed : Array (Option Value)} (a__law_seed : PySem.W.nsIn K mainGlobals "_law_seed" = some (some (.ref f__law_seed)))
     (l__law_seed : K.lookup f__law_seed = some ⟨oc__law_seed, od__law_seed, .func (PySem.W.fnOf "_law_seed" "_law_seed" (defArgs s__law_seed) (defBody s__law_seed) (defScope s__law_seed) .none kV__law_seed do__law_seed pm__law_seed an__law_seed cd__law_seed ct__law_seed), sl__law_seed⟩)
     (c__law_seed : PySem.W.codeIn K cd__law_seed "_law_seed" = true)
     (k__law_seed : PySem.W.keepIn K (.ref f__law_seed) = true)
    {oc__law_in_order kV__law_in_order do__law_in_order pm__law_in_order cd__law_in_order ct__law_in_order : Value} {od__law_in_order an__law_in_order : Option Addr} {sl__law_in_order : Array (Option Value)} (a__law_in_order : PySem.W.nsIn K mainGlobals "_law_in_order" = some (some (.ref f__law_in_order)))
     (l__law_in_order : K.lookup f__law_in_order = some ⟨oc__law_in_order, od__law_in_order, .func (PySem.W.fnOf "_law_in_order" "_law_in_order" (defArgs s__law_in_order) (defBody s__law_in_order) (defScope s__law_in_order) .none kV__law_in_order do__law_in_order pm__law_in_order an__law_in_order cd__law_in_order ct__law_in_order), sl__law_in_order⟩)
     (c__law_in_order : PySem.W.codeIn K cd__law_in_order "_law_in_order" = true)
     (k__law_in_order : PySem.W.keepIn K (.ref f__law_in_order) = true)
    {oc__law_painted kV__law_painted do__law_painted pm__law_painted cd__law_painted ct__law_painted : Value} {od__law_painted an__law_painted : Option Addr} {sl__law_painted : Array (Option Value)} (a__law_painted : PySem.W.nsIn K mainGlobals "_law_painted" = some (some (.ref f__law_painted)))
     (l__law_painted : K.lookup f__law_painted = some ⟨oc__law_painted, od__law_painted, .func (PySem.W.fnOf "_law_painted" "_law_painted" (defArgs s__law_painted) (defBody s__law_painted) (defScope s__law_painted) .none kV__law_painted do__law_painted pm__law_painted an__law_painted cd__law_painted ct__law_painted), sl__law_painted⟩)
     (c__law_painted : PySem.W.codeIn K cd__law_painted "_law_painted" = true)
     (k__law_painted : PySem.W.keepIn K (.ref f__law_painted) = true)
    {oc__law_runs kV__law_runs do__law_runs pm__law_runs cd__law_runs ct__law_runs : Value} {od__law_runs an__law_runs : Option Addr} {sl__law_runs : Array (Option Value)} (a__law_runs : PySem.W.nsIn K mainGlobals "_law_runs" = some (some (.ref f__law_runs)))
     (l__law_runs : K.lookup f__law_runs = some ⟨oc__law_runs, od__law_runs, .func (PySem.W.fnOf "_law_runs" "_law_runs" (defArgs s__law_runs) (defBody s__law_runs) (defScope s__law_runs) .none kV__law_runs do__law_runs pm__law_runs an__law_runs cd__law_runs ct__law_runs), sl__law_runs⟩)
     (c__law_runs : PySem.W.codeIn K cd__law_runs "_law_runs" = true)
     (k__law_runs : PySem.W.keepIn K (.ref f__law_runs) = true)
    {oc__law_show kV__law_show do__law_show pm__law_show cd__law_show ct__law_show : Value} {od__law_show an__law_show : Option Addr} {sl__law_show : Array (Option Value)} (a__law_show : PySem.W.nsIn K mainGlobals "_law_show" = some (some (.ref f__law_show)))
     (l__law_show : K.lookup f__law_show = some ⟨oc__law_show, od__law_show, .func (PySem.W.fnOf "_law_show" "_law_show" (defArgs s__law_show) (defBody s__law_show) (defScope s__law_show) .none kV__law_show do__law_show pm__law_show an__law_show cd__law_show ct__law_show), sl__law_show⟩)
     (c__law_show : PySem.W.codeIn K cd__law_show "_law_show" = true)
     (k__law_show : PySem.W.keepIn K (.ref f__law_show) = true)
    {oc__is_block kV__is_block do__is_block pm__is_block cd__is_block ct__is_block : Value} {od__is_block an__is_block : Option Addr} {sl__is_block : Array (Option Value)} (a__is_block : PySem.W.nsIn K mainGlobals "_is_block" = some (some (.ref f__is_block)))
     (l__is_block : K.lookup f__is_block = some ⟨oc__is_block, od__is_block, .func (PySem.W.fnOf "_is_block" "_is_block" (defArgs s__is_block) (defBody s__is_block) (defScope s__is_block) .none kV__is_block do__is_block pm__is_block an__is_block cd__is_block ct__is_block), sl__is_block⟩)
     (c__is_block : PySem.W.codeIn K cd__is_block "_is_block" = true)
     (k__is_block : PySem.W.keepIn K (.ref f__is_block) = true)
    {oc_is_view kV_is_view do_is_view pm_is_view cd_is_view ct_is_view : Value} {od_is_view an_is_view : Option Addr} {sl_is_view : Array (Option Value)} (a_is_view : PySem.W.nsIn K mainGlobals "is_view" = some (some (.ref f_is_view)))
     (l_is_view : K.lookup f_is_view = some ⟨oc_is_view, od_is_view, .func (PySem.W.fnOf "is_view" "is_view" (defArgs s_is_view) (defBody s_is_view) (defScope s_is_view) .none kV_is_view do_is_view pm_is_view an_is_view cd_is_view ct_is_view), sl_is_view⟩)
     (c_is_view : PySem.W.codeIn K cd_is_view "is_view" = true)
     (k_is_view : PySem.W.keepIn K (.ref f_is_view) = true)
    {oc_law kV_law do_law pm_law cd_law ct_law : Value} {od_law an_law : Option Addr} {sl_law : Array (Option Value)} (a_law : PySem.W.nsIn K mainGlobals "law" = some (some (.ref f_law)))
     (l_law : K.lookup f_law = some ⟨oc_law, od_law, .func (PySem.W.fnOf "law" "law" (defArgs s_law) (defBody s_law) (defScope s_law) .none kV_law do_law pm_law an_law cd_law ct_law), sl_law⟩)
     (c_law : PySem.W.codeIn K cd_law "law" = true)
     (k_law : PySem.W.keepIn K (.ref f_law) = true)
    {oc_Rule___init__ kV_Rule___init__ do_Rule___init__ pm_Rule___init__ cd_Rule___init__ ct_Rule___init__ : Value} {od_Rule___init__ an_Rule___init__ : Option Addr} {sl_Rule___init__ : Array (Option Value)} (a_Rule___init__ : PySem.W.findIn K (.ref C_Rule) "__init__" = some (some (.ref f_Rule___init__)))
     (i_Rule___init__ : PySem.W.isFn K (.ref f_Rule___init__) = true)
    {T_Rule___init__ : Addr} (l_Rule___init__ : K.lookup f_Rule___init__ = some ⟨oc_Rule___init__, od_Rule___init__, .func (PySem.W.fnOf "__init__" "Rule.__init__" (defArgs s_Rule___init__) (defBody s_Rule___init__) (defScope s_Rule___init__) (.ref T_Rule___init__) kV_Rule___init__ do_Rule___init__ pm_Rule___init__ an_Rule___init__ cd_Rule___init__ ct_Rule___init__), sl_Rule___init__⟩)
    {tc_Rule___init__ : Value} {td_Rule___init__ : Option Addr} {it_Rule___init__ : Array Value} {tn_Rule___init__ : Nat} {ts_Rule___init__ : Array (Option Value)} (lt_Rule___init__ : K.lookup T_Rule___init__ = some ⟨tc_Rule___init__, td_Rule___init__, .seq it_Rule___init__ tn_Rule___init__, ts_Rule___init__⟩)
     (lv_Rule___init__ : it_Rule___init__.toList.mapM absV = some [V.int 1, V.int 0, V.int 0, V.str "busy", V.non])
     (c_Rule___init__ : PySem.W.codeIn K cd_Rule___init__ "Rule.__init__" = true)
     (k_Rule___init__ : PySem.W.keepIn K (.ref f_Rule___init__) = true)
     (pg_Rule : PySem.W.plainGet K C_Rule Str.empty = true)
     (hd_Rule : PySem.W.hasDictIn K C_Rule = true)
     (po_Rule : PySem.W.plainOver K C_Rule = true)
     (sa_Rule : PySem.W.findIn K (.ref C_Rule) "__setattr__" = some (some (.builtin "object.__setattr__")))
     (mk_Rule : PySem.W.makesIn K C_Rule = true)
     (kc_Rule : PySem.W.keepIn K (.ref C_Rule) = true)
     (na_Rule_step : PySem.W.findIn K (.ref C_Rule) "step" = some none)
     (na_Rule_gap : PySem.W.findIn K (.ref C_Rule) "gap" = some none)
     (na_Rule_least : PySem.W.findIn K (.ref C_Rule) "least" = some none)
     (na_Rule_private : PySem.W.findIn K (.ref C_Rule) "private" = some none)
     (na_Rule_hours : PySem.W.findIn K (.ref C_Rule) "hours" = some none)
     (isc_Rule : PySem.W.isClsIn K C_Rule = true)
     (tyc_Rule : PySem.W.typeIn K (.ref C_Rule) = some (.type "type"))
     (su_Rule : PySem.W.subIn K (.type "str") (.ref C_Rule) = some false)
     (sb_Rule_int : PySem.W.subIn K (.ref C_Rule) (.type "int") = some false)
     (sb_Rule_bool : PySem.W.subIn K (.ref C_Rule) (.type "bool") = some false)
     (sb_Rule_str : PySem.W.subIn K (.ref C_Rule) (.type "str") = some false)
     (sb_Rule_tuple : PySem.W.subIn K (.ref C_Rule) (.type "tuple") = some false)
     (sb_Rule_list : PySem.W.subIn K (.ref C_Rule) (.type "list") = some false)
     (o_Rule : PySem.W.mroIn K C_Rule (.type "object") = some true)
     (ic_Rule : PySem.W.findIn K (.ref C_Rule) "__class__" = some (some (.builtin "object.__class__")))
     (oc1 : PySem.W.specialIn K (.builtin "object.__class__") "__get__" = some (some (.builtin "getset_descriptor.__get__")))
     (oc2 : PySem.W.takesIn K (.builtin "object.__class__") = some true)
     (b_abs : PySem.W.nsIn K mainGlobals "abs" = some none)
     (b_all : PySem.W.nsIn K mainGlobals "all" = some none)
     (b_bool : PySem.W.nsIn K mainGlobals "bool" = some none)
     (b_int : PySem.W.nsIn K mainGlobals "int" = some none)
     (b_isinstance : PySem.W.nsIn K mainGlobals "isinstance" = some none)
     (b_len : PySem.W.nsIn K mainGlobals "len" = some none)
     (b_list : PySem.W.nsIn K mainGlobals "list" = some none)
     (b_max : PySem.W.nsIn K mainGlobals "max" = some none)
     (b_min : PySem.W.nsIn K mainGlobals "min" = some none)
     (b_range : PySem.W.nsIn K mainGlobals "range" = some none)
     (b_repr : PySem.W.nsIn K mainGlobals "repr" = some none)
     (b_str : PySem.W.nsIn K mainGlobals "str" = some none)
     (b_tuple : PySem.W.nsIn K mainGlobals "tuple" = some none)
     (b_zip : PySem.W.nsIn K mainGlobals "zip" = some none)
     (a_PRIVATE_WORDS : PySem.W.nsIn K mainGlobals "PRIVATE_WORDS" = some (some (.ref c_PRIVATE_WORDS)))
    {td_PRIVATE_WORDS : Option Addr} {it_PRIVATE_WORDS : Array Value} {tn_PRIVATE_WORDS : Nat} {ts_PRIVATE_WORDS : Array (Option Value)} (l_PRIVATE_WORDS : K.lookup c_PRIVATE_WORDS = some ⟨.type "tuple", td_PRIVATE_WORDS, .seq it_PRIVATE_WORDS tn_PRIVATE_WORDS, ts_PRIVATE_WORDS⟩)
     (lv_PRIVATE_WORDS : it_PRIVATE_WORDS.toList.mapM absV = some v_PRIVATE_WORDS)
     (a_WORDS : PySem.W.nsIn K mainGlobals "WORDS" = some (some (.ref c_WORDS)))
    {td_WORDS : Option Addr} {it_WORDS : Array Value} {tn_WORDS : Nat} {ts_WORDS : Array (Option Value)} (l_WORDS : K.lookup c_WORDS = some ⟨.type "tuple", td_WORDS, .seq it_WORDS tn_WORDS, ts_WORDS⟩)
     (lv_WORDS : it_WORDS.toList.mapM absV = some v_WORDS)
    : ∃ fd : FuncData, (∀ (s : Shared) (v : Value), BindsTo s fd ⟨[v], []⟩ [("_law_script", v)]) ∧ ∀ base : Heap, K.In base → base.Ns mainGlobals mg → FnG l.prog w K mg base 14 fa fd ["_law_script"] (spLaw K) := by
  have e := hfa.symm.trans (PySem.W.mg_of X G a_law)
  cases e
  have T : Txt K mg { f_is_integer := f_is_integer, f_is_number := f_is_number, f__are_hours := f__are_hours, f_is_positive := f_is_positive, f__wrong_argument := f__wrong_argument, f__law_choose := f__law_choose, f__law_one_of := f__law_one_of, f__law_leaf := f__law_leaf, f__law_any := f__law_any, f__law_day := f__law_day, f__law_is_block := f__law_is_block, f__law_due := f__law_due, f__law_rule := f__law_rule, f__law_seed := f__law_seed, f__law_in_order := f__law_in_order, f__law_painted := f__law_painted, f__law_runs := f__law_runs, f__law_show := f__law_show, f__is_block := f__is_block, f_is_view := f_is_view, f_law := fa, f_Rule___init__ := f_Rule___init__, C_Rule := C_Rule, c_PRIVATE_WORDS := c_PRIVATE_WORDS, c_WORDS := c_WORDS } := { m_is_integer := PySem.W.mg_of X G a_is_integer, k_is_integer := k_is_integer, F_is_integer := ⟨_, fun_mk (st := s_is_integer) l_is_integer c_is_integer k_is_integer⟩, m_is_number := PySem.W.mg_of X G a_is_number, k_is_number := k_is_number, F_is_number := ⟨_, fun_mk (st := s_is_number) l_is_number c_is_number k_is_number⟩, m__are_hours := PySem.W.mg_of X G a__are_hours, k__are_hours := k__are_hours, F__are_hours := ⟨_, fun_mk (st := s__are_hours) l__are_hours c__are_hours k__are_hours⟩, m_is_positive := PySem.W.mg_of X G a_is_positive, k_is_positive := k_is_positive, F_is_positive := ⟨_, fun_mk (st := s_is_positive) l_is_positive c_is_positive k_is_positive⟩, m__wrong_argument := PySem.W.mg_of X G a__wrong_argument, k__wrong_argument := k__wrong_argument, F__wrong_argument := ⟨_, fun_mk (st := s__wrong_argument) l__wrong_argument c__wrong_argument k__wrong_argument⟩, m__law_choose := PySem.W.mg_of X G a__law_choose, k__law_choose := k__law_choose, F__law_choose := ⟨_, fun_mk (st := s__law_choose) l__law_choose c__law_choose k__law_choose⟩, m__law_one_of := PySem.W.mg_of X G a__law_one_of, k__law_one_of := k__law_one_of, F__law_one_of := ⟨_, fun_mk (st := s__law_one_of) l__law_one_of c__law_one_of k__law_one_of⟩, m__law_leaf := PySem.W.mg_of X G a__law_leaf, k__law_leaf := k__law_leaf, F__law_leaf := ⟨_, fun_mk (st := s__law_leaf) l__law_leaf c__law_leaf k__law_leaf⟩, m__law_any := PySem.W.mg_of X G a__law_any, k__law_any := k__law_any, F__law_any := ⟨_, fun_mk (st := s__law_any) l__law_any c__law_any k__law_any⟩, m__law_day := PySem.W.mg_of X G a__law_day, k__law_day := k__law_day, F__law_day := ⟨_, fun_mk (st := s__law_day) l__law_day c__law_day k__law_day⟩, m__law_is_block := PySem.W.mg_of X G a__law_is_block, k__law_is_block := k__law_is_block, F__law_is_block := ⟨_, fun_mk (st := s__law_is_block) l__law_is_block c__law_is_block k__law_is_block⟩, m__law_due := PySem.W.mg_of X G a__law_due, k__law_due := k__law_due, F__law_due := ⟨_, fun_mk (st := s__law_due) l__law_due c__law_due k__law_due⟩, m__law_rule := PySem.W.mg_of X G a__law_rule, k__law_rule := k__law_rule, F__law_rule := ⟨_, fun_mk (st := s__law_rule) l__law_rule c__law_rule k__law_rule⟩, m__law_seed := PySem.W.mg_of X G a__law_seed, k__law_seed := k__law_seed, F__law_seed := ⟨_, fun_mk (st := s__law_seed) l__law_seed c__law_seed k__law_seed⟩, m__law_in_order := PySem.W.mg_of X G a__law_in_order, k__law_in_order := k__law_in_order, F__law_in_order := ⟨_, fun_mk (st := s__law_in_order) l__law_in_order c__law_in_order k__law_in_order⟩, m__law_painted := PySem.W.mg_of X G a__law_painted, k__law_painted := k__law_painted, F__law_painted := ⟨_, fun_mk (st := s__law_painted) l__law_painted c__law_painted k__law_painted⟩, m__law_runs := PySem.W.mg_of X G a__law_runs, k__law_runs := k__law_runs, F__law_runs := ⟨_, fun_mk (st := s__law_runs) l__law_runs c__law_runs k__law_runs⟩, m__law_show := PySem.W.mg_of X G a__law_show, k__law_show := k__law_show, F__law_show := ⟨_, fun_mk (st := s__law_show) l__law_show c__law_show k__law_show⟩, m__is_block := PySem.W.mg_of X G a__is_block, k__is_block := k__is_block, F__is_block := ⟨_, fun_mk (st := s__is_block) l__is_block c__is_block k__is_block⟩, m_is_view := PySem.W.mg_of X G a_is_view, k_is_view := k_is_view, F_is_view := ⟨_, fun_mk (st := s_is_view) l_is_view c_is_view k_is_view⟩, m_law := PySem.W.mg_of X G a_law, k_law := k_law, F_law := ⟨_, fun_mk (st := s_law) l_law c_law k_law⟩, F_Rule___init__ := ⟨_, fund_mk l_Rule___init__ lt_Rule___init__ lv_Rule___init__ (List.cons_ne_nil _ _) c_Rule___init__ k_Rule___init__⟩, m_Rule := PySem.W.mg_of X G a_Rule, cl_Rule := ⟨pg_Rule, hd_Rule, po_Rule, sa_Rule⟩, mk_Rule := ⟨mk_Rule, a_Rule___init__, i_Rule___init__, kc_Rule⟩, na_Rule_step := na_Rule_step, na_Rule_gap := na_Rule_gap, na_Rule_least := na_Rule_least, na_Rule_private := na_Rule_private, na_Rule_hours := na_Rule_hours, ks_Rule := kit_str isc_Rule tyc_Rule su_Rule, su_Rule := su_Rule, sb_Rule_int := sb_Rule_int, sb_Rule_bool := sb_Rule_bool, sb_Rule_str := sb_Rule_str, sb_Rule_tuple := sb_Rule_tuple, sb_Rule_list := sb_Rule_list, o_Rule := o_Rule, ic_Rule := ic_Rule, oc1 := oc1, oc2 := oc2, b_abs := PySem.W.mg_none_of X G b_abs, b_all := PySem.W.mg_none_of X G b_all, b_bool := PySem.W.mg_none_of X G b_bool, b_int := PySem.W.mg_none_of X G b_int, b_isinstance := PySem.W.mg_none_of X G b_isinstance, b_len := PySem.W.mg_none_of X G b_len, b_list := PySem.W.mg_none_of X G b_list, b_max := PySem.W.mg_none_of X G b_max, b_min := PySem.W.mg_none_of X G b_min, b_range := PySem.W.mg_none_of X G b_range, b_repr := PySem.W.mg_none_of X G b_repr, b_str := PySem.W.mg_none_of X G b_str, b_tuple := PySem.W.mg_none_of X G b_tuple, b_zip := PySem.W.mg_none_of X G b_zip, m_PRIVATE_WORDS := PySem.W.mg_of X G a_PRIVATE_WORDS, w_PRIVATE_WORDS := fun _ => sqt_mk l_PRIVATE_WORDS lv_PRIVATE_WORDS (by decide), m_WORDS := PySem.W.mg_of X G a_WORDS, w_WORDS := fun _ => sqt_mk l_WORDS lv_WORDS (by decide) }
  exact ⟨PySem.W.fnOf "law" "law" (defArgs s_law) (defBody s_law) (defScope s_law) .none kV_law do_law pm_law an_law cd_law ct_law, fun s v => .of_eq rfl, fun base _ _ => ok_law T (fun_mk l_law c_law k_law)⟩
theorem walk {l : PySem.W.OpenLaw} {q : Program} {loose : List Str} {XP : (Str → Option Value) → Heap → Prop} {YP : World → Heap → Prop} {d : DefRec} {K : Params → PySem.W.Frag} (hn : l.most = some 63) (hdf : d.params.defaults = [])
    (hY : ∀ (w : World) (h : Heap), YP w h → (K w.params).In h)
    (F : ∀ (w : World) (mg : Str → Option Value) (fa : Addr) (h : Heap), (K w.params).In h → h.Ns mainGlobals mg → mg d.name = some (.ref fa) →
      ∃ fd : FuncData, (∀ (s : Shared) (u : Value), BindsTo s fd ⟨[u], []⟩ [("_law_script", u)]) ∧ ∀ base : Heap, (K w.params).In base → base.Ns mainGlobals mg → FnG l.prog w (K w.params) mg base 14 fa fd ["_law_script"] (spLaw (K w.params))) :
    PySem.W.WalkO q loose XP YP l.row.toRowW d [] (fun f vs => PySem.call f vs) :=
  walk_ofG (n := 63) (k := 14) (x := "_law_script") (sp := spLaw) hn (by decide) hdf ⟨rfl, by decide, by decide⟩ hY F (fun _ _ a ns hl _ hS => ⟨a, ns, rfl, hS, hl, fun _ => rfl⟩)

end DD
open PySem PySem.W PyProof.Rows
set_option maxRecDepth 100000 in
set_option maxHeartbeats 0 in
theorem PySem.Challenge.cw_dimdays_k14_what_is_a_view_holds : PySem.Challenge.rw_dimdays_k14_what_is_a_view.Holds := by
  w_on; o_law; k_head; (case hw => w_witness2)
  k_fill
  refine DD.walk (l := PySem.Challenge.rw_dimdays_k14_what_is_a_view) rfl rfl (fun w h Y => PySem.W.kIn_of Y) ?F
  case F =>
    intro w mg fa h KX G hmg
    refine' DD.all_mk KX G hmg ?a_Rule ?a_is_integer ?l_is_integer ?c_is_integer ?k_is_integer ?a_is_number ?l_is_number ?c_is_number ?k_is_number ?a__are_hours ?l__are_hours ?c__are_hours ?k__are_hours ?a_is_positive ?l_is_positive ?c_is_positive ?k_is_positive ?a__wrong_argument ?l__wrong_argument ?c__wrong_argument ?k__wrong_argument ?a__law_choose ?l__law_choose ?c__law_choose ?k__law_choose ?a__law_one_of ?l__law_one_of ?c__law_one_of ?k__law_one_of ?a__law_leaf ?l__law_leaf ?c__law_leaf ?k__law_leaf ?a__law_any ?l__law_any ?c__law_any ?k__law_any ?a__law_day ?l__law_day ?c__law_day ?k__law_day ?a__law_is_block ?l__law_is_block ?c__law_is_block ?k__law_is_block ?a__law_due ?l__law_due ?c__law_due ?k__law_due ?a__law_rule ?l__law_rule ?c__law_rule ?k__law_rule ?a__law_seed ?l__law_seed ?c__law_seed ?k__law_seed ?a__law_in_order ?l__law_in_order ?c__law_in_order ?k__law_in_order ?a__law_painted ?l__law_painted ?c__law_painted ?k__law_painted ?a__law_runs ?l__law_runs ?c__law_runs ?k__law_runs ?a__law_show ?l__law_show ?c__law_show ?k__law_show ?a__is_block ?l__is_block ?c__is_block ?k__is_block ?a_is_view ?l_is_view ?c_is_view ?k_is_view ?a_law ?l_law ?c_law ?k_law ?a_Rule___init__ ?i_Rule___init__ ?l_Rule___init__ ?lt_Rule___init__ ?lv_Rule___init__ ?c_Rule___init__ ?k_Rule___init__ ?pg_Rule ?hd_Rule ?po_Rule ?sa_Rule ?mk_Rule ?kc_Rule ?na_Rule_step ?na_Rule_gap ?na_Rule_least ?na_Rule_private ?na_Rule_hours ?isc_Rule ?tyc_Rule ?su_Rule ?sb_Rule_int ?sb_Rule_bool ?sb_Rule_str ?sb_Rule_tuple ?sb_Rule_list ?o_Rule ?ic_Rule ?oc1 ?oc2 ?b_abs ?b_all ?b_bool ?b_int ?b_isinstance ?b_len ?b_list ?b_max ?b_min ?b_range ?b_repr ?b_str ?b_tuple ?b_zip ?a_PRIVATE_WORDS ?l_PRIVATE_WORDS ?lv_PRIVATE_WORDS ?a_WORDS ?l_WORDS ?lv_WORDS
    (case a_Rule => k_is)
    (case a_is_integer => k_is)
    (case l_is_integer => k_is)
    (case c_is_integer => k_is)
    (case k_is_integer => k_is)
    (case a_is_number => k_is)
    (case l_is_number => k_is)
    (case c_is_number => k_is)
    (case k_is_number => k_is)
    (case a__are_hours => k_is)
    (case l__are_hours => k_is)
    (case c__are_hours => k_is)
    (case k__are_hours => k_is)
    (case a_is_positive => k_is)
    (case l_is_positive => k_is)
    (case c_is_positive => k_is)
    (case k_is_positive => k_is)
    (case a__wrong_argument => k_is)
    (case l__wrong_argument => k_is)
    (case c__wrong_argument => k_is)
    (case k__wrong_argument => k_is)
    (case a__law_choose => k_is)
    (case l__law_choose => k_is)
    (case c__law_choose => k_is)
    (case k__law_choose => k_is)
    (case a__law_one_of => k_is)
    (case l__law_one_of => k_is)
    (case c__law_one_of => k_is)
    (case k__law_one_of => k_is)
    (case a__law_leaf => k_is)
    (case l__law_leaf => k_is)
    (case c__law_leaf => k_is)
    (case k__law_leaf => k_is)
    (case a__law_any => k_is)
    (case l__law_any => k_is)
    (case c__law_any => k_is)
    (case k__law_any => k_is)
    (case a__law_day => k_is)
    (case l__law_day => k_is)
    (case c__law_day => k_is)
    (case k__law_day => k_is)
    (case a__law_is_block => k_is)
    (case l__law_is_block => k_is)
    (case c__law_is_block => k_is)
    (case k__law_is_block => k_is)
    (case a__law_due => k_is)
    (case l__law_due => k_is)
    (case c__law_due => k_is)
    (case k__law_due => k_is)
    (case a__law_rule => k_is)
    (case l__law_rule => k_is)
    (case c__law_rule => k_is)
    (case k__law_rule => k_is)
    (case a__law_seed => k_is)
    (case l__law_seed => k_is)
    (case c__law_seed => k_is)
    (case k__law_seed => k_is)
    (case a__law_in_order => k_is)
    (case l__law_in_order => k_is)
    (case c__law_in_order => k_is)
    (case k__law_in_order => k_is)
    (case a__law_painted => k_is)
    (case l__law_painted => k_is)
    (case c__law_painted => k_is)
    (case k__law_painted => k_is)
    (case a__law_runs => k_is)
    (case l__law_runs => k_is)
    (case c__law_runs => k_is)
    (case k__law_runs => k_is)
    (case a__law_show => k_is)
    (case l__law_show => k_is)
    (case c__law_show => k_is)
    (case k__law_show => k_is)
    (case a__is_block => k_is)
    (case l__is_block => k_is)
    (case c__is_block => k_is)
    (case k__is_block => k_is)
    (case a_is_view => k_is)
    (case l_is_view => k_is)
    (case c_is_view => k_is)
    (case k_is_view => k_is)
    (case a_law => k_is)
    (case l_law => k_is)
    (case c_law => k_is)
    (case k_law => k_is)
    (case a_Rule___init__ => k_is)
    (case i_Rule___init__ => k_is)
    (case l_Rule___init__ => k_is)
    (case lt_Rule___init__ => k_is)
    (case lv_Rule___init__ => exact rfl)
    (case c_Rule___init__ => k_is)
    (case k_Rule___init__ => k_is)
    (case pg_Rule => k_is)
    (case hd_Rule => k_is)
    (case po_Rule => k_is)
    (case sa_Rule => k_is)
    (case mk_Rule => k_is)
    (case kc_Rule => k_is)
    (case na_Rule_step => k_is)
    (case na_Rule_gap => k_is)
    (case na_Rule_least => k_is)
    (case na_Rule_private => k_is)
    (case na_Rule_hours => k_is)
    (case isc_Rule => k_is)
    (case tyc_Rule => k_is)
    (case su_Rule => k_is)
    (case sb_Rule_int => k_is)
    (case sb_Rule_bool => k_is)
    (case sb_Rule_str => k_is)
    (case sb_Rule_tuple => k_is)
    (case sb_Rule_list => k_is)
    (case o_Rule => k_is)
    (case ic_Rule => k_is)
    (case oc1 => k_is)
    (case oc2 => k_is)
    (case b_abs => k_is)
    (case b_all => k_is)
    (case b_bool => k_is)
    (case b_int => k_is)
    (case b_isinstance => k_is)
    (case b_len => k_is)
    (case b_list => k_is)
    (case b_max => k_is)
    (case b_min => k_is)
    (case b_range => k_is)
    (case b_repr => k_is)
    (case b_str => k_is)
    (case b_tuple => k_is)
    (case b_zip => k_is)
    (case a_PRIVATE_WORDS => k_is)
    (case l_PRIVATE_WORDS => k_is)
    (case lv_PRIVATE_WORDS => exact rfl)
    (case a_WORDS => k_is)
    (case l_WORDS => k_is)
    (case lv_WORDS => exact rfl)