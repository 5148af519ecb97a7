import PyProof.Rows.All
import Wide.All
import OpenK.AllK
import Wide.FinOn
import HandS.ForMost
import HandS.Defaults
import HandS.Property
import HandS.OwnEq
import HandS.FStr
import HandS.IsInst
import HandS.TupAny
import HandS.Evl
import HandS.Star
import HandS.SlotsOwn
import KE.KCallOwn
import HandS.Style
import PySem.Challenge.RW_dimdays_k12_days_and_rules_known
set_option Elab.async false
set_option linter.all false
set_option maxRecDepth 100000
set_option maxHeartbeats 2000000
/-! rules that every law of this program wants -/
namespace DD
open PySem PySem.Spec PyProof.Rows L2

/-! ### calls by a positional promise -/
section
variable {X : Cx} {CX : CXT} {k : Nat} {f C p g : Addr} {sp : Sp} {E : XK} {x m : Str} {pp pos apos : Pos} {e o : Expr} {es : List Expr} {ta : TE} {t : TA}
def tCallR (sp : Sp) (E : XK) (t : TA) : TE := fun σ H Q => t σ H fun vs H1 => sp vs H1 Q E
theorem wp_fnR {pins : List (Addr × Obj)} {σ : L2.St} {H : Hp} {s : Shared} {Q : VK} {us : List Value} {vs : List V} (F : FnR X.prog X.w X.K X.mg X.base CX k f sp) (hr : Room k X.A) (hx : Passes CX X E) (I : Inv X pins σ H s) (r : Vals vs us) (h : sp vs H Q E) :
    wpAny (model X.prog X.w) X.A (call (.ref f) us) (EP X pins σ Q) X.xe s := wpAny_call (run_fnR F hr hx I r h)
theorem pe_callR (F : FnR X.prog X.w X.K X.mg X.base CX k f sp) (hr : Room k X.A) (hg : Gl X x) (hm : X.mg x = some (.ref f)) (hk : PySem.W.keepIn X.K (.ref f) = true) (hx : Passes CX X E)
    (ha : PA X (e :: es) t) (hdb : (x == ("__debug__" : Str)) = false := by decide) (he : starEach (e :: es) X.env = (false, eval e X.env) :: starEach es X.env := by rfl) (hpl : (backTo pos (starEach es X.env)).any (·.1) = false := by rfl) :
    PE X (.Call (.Name x pp) (e :: es) [] pos) (tCallR sp E t) := by
  refine ⟨fun pins s σ H Q I h => ?_⟩
  refine wpAny_Call_Name_kw (ld_glob I hg hm ?_ hdb)
  refine PySem.W.callWith_K (h₀ := X.base) I.ok.mod.kin hk (thn (ha.run pos pins s σ H _ I h) fun us s1 ⟨vs, H1, I1, r, q⟩ => ⟨I1.kIn, ?_⟩) he hpl
  exact wp_fnR F hr hx I1 r q
/-- o.m(..) of an instance of the class at C -/
def tMethR (C : Addr) (m : Str) (sp : Sp) (E : XK) (ta : TE) (t : TA) : TE := fun σ H Q => ta σ H fun x H1 => ∃ a dx fs, x = .ref a ∧ H1 a = some (.ins C dx fs) ∧ fs.lookup m = none ∧
  t σ H1 fun vs H2 => sp (x :: vs) H2 Q E
theorem pe_methR {pl : Sem Bool} (he : PE X o ta) (c : Cls X.K C) (hm : Meth X.K C m f) (F : FnR X.prog X.w X.K X.mg X.base CX k f sp) (hr : Room k X.A) (hx : Passes CX X E) (ha : PA X (e :: es) t)
    (hst : starEach (e :: es) X.env = (false, eval e X.env) :: starEach es X.env := by rfl) (hpl : (backTo pos (starEach es X.env)).any (·.1) = false := by rfl)
    (ht : eval (.Call (.Attribute o m apos) (e :: es) [] pos) X.env = (do
      let ov ← eval o X.env
      standAt apos.atName
      let (f, first) ← holding [ov] (getMethod ov m pl)
      callWith pos f first (backTo pos (starEach (e :: es) X.env)) (backToKw pos (keywordEach [] X.env))) := by rfl) :
    PE X (.Call (.Attribute o m apos) (e :: es) [] pos) (tMethR C m sp E ta t) := by
  refine ⟨fun pins s σ H Q I h => ?_⟩
  refine PySem.W.methodCall_KW (pl := pl) (thn (he.run pins s σ H _ I h) fun u s1 ⟨x, H1, I1, rx, a, dx, fs, ex, ea, l, q⟩ => ?_) ht
  subst ex
  obtain rfl : u = Value.ref a := rx
  refine getmeth_ok I1 ea c hm l ?_
  refine PySem.W.callWith_K (first := [.ref a]) (h₀ := X.base) I.ok.mod.kin hm.kp (thn (ha.run pos pins s1 σ H1 _ I1 q) fun us s2 ⟨vs, H2, I2, r, q2⟩ => ⟨I2.kIn, ?_⟩) hst hpl
  exact wp_fnR (us := .ref a :: us) (vs := .ref a :: vs) F hr hx I2 (.cons rfl r) q2
/-- e.f, a property -/
def tPropR (C : Addr) (sp : Sp) (E : XK) (ta : TE) : TE := fun σ H Q => ta σ H fun x H1 => ∃ a dx fs, x = .ref a ∧ H1 a = some (.ins C dx fs) ∧ sp [.ref a] H1 Q E
theorem pe_propR (he : PE X e ta) (c : Cls X.K C) (hp : PropOf X.K C m p g) (F : FnR X.prog X.w X.K X.mg X.base CX k g sp) (hr : Room (k + 1) X.A) (hx : Passes CX X.nox E)
    (hab : attributeBase e m X.env (eval e X.env) = eval e X.env := by rfl) : PE X (.Attribute e m pos) (tPropR C sp E ta) := by
  refine ⟨fun pins s σ H Q I h => ?_⟩
  refine attr_of hab (thn (he.run pins s σ H _ I h) fun u s1 ⟨x, H1, I1, rx, a, dx, fs, ex, ea, q⟩ => ?_)
  subst ex
  obtain rfl : u = Value.ref a := rx
  obtain ⟨mA, O, _, _, _, _⟩ := ins_get I1.hok ea
  obtain ⟨od, J, _⟩ := O.look
  obtain ⟨rest, hrec⟩ := hp.rec_
  have I2 := I1.tok (s1.toks + 1)
  have hc : (PySem.W.clsIn X.K C).isSome = true := by
    obtain ⟨cd, hc, _⟩ := PySem.W.any_some c.hd
    rw [hc]
    rfl
  refine PySem.W.get_bind I1.kIn J (PySem.W.plainGet_of (c.get m)).1 (PySem.W.findObj_data hc hp.at_ hp.get hp.tak) (PySem.W.plainGet_of (c.get m)).2 (wpAny_call (PySem.W.prop_get (s := { s1 with toks := s1.toks + 1 }) I1.kIn hrec ?_))
  refine codeAny_mono (F X.A.in1 X.stack { s1 with toks := s1.toks + 1 } H1 [.ref a] [.ref a] Q E hr.in1 I2.env0.in1 (.cons rfl .nil) q) fun r s' hq => ?_
  cases r with
  | error er => exact False.elim (hx pins σ H1 { s1 with toks := s1.toks + 1 } er s' (I2.wish _) hq)
  | ok fl =>
    cases fl with
    | ret u =>
      obtain ⟨v, H', I3, rv, q3⟩ := I2.after hq
      show wpAny _ _ (handedOut u) _ _ _
      rw [PySem.W.handedOut_of (handed_of rv)]
      exact wpAny_pure ⟨v, H', I3, rv, q3⟩
    | next => exact False.elim hq
    | brk => exact False.elim hq
    | cont => exact False.elim hq
/-- a statement that is never reached -/
theorem ps_dead {st : Stmt} : PS X st (fun _ _ _ => False) := ⟨fun _ _ _ _ _ _ h => h.elim⟩
theorem pss_dead {st : List Stmt} : PSs X st (fun _ _ _ => False) := ⟨fun _ _ _ _ _ _ h => h.elim⟩
end

/-! ### str(o), o == p, o != p of own classes -/
section
variable {X : Cx} {CX : CXT} {n : Nat} {f C : Addr} {sp : Sp} {E : XK}
theorem run_atR {pins : List (Addr × Obj)} {σ : L2.St} {H : Hp} {s : Shared} {A : Around} {Q : VK} {us : List Value} {ws : List V} (F : FnR X.prog X.w X.K X.mg X.base CX n f sp) (hr : Room n A) (e0 : Env0 X.prog X.w X.K X.mg X.base A X.stack s H) (hx : Passes CX X E) (I : Inv X pins σ H s) (r : Vals ws us) (h : sp ws H Q E) :
    wpAny (model X.prog X.w) A (call (.ref f) us) (EP X pins σ Q) X.xe s := wpAny_call (SlX.run_at F hr e0 hx I r h)
/-- str(o) by its own __str__ -/
def rStrO (C : Addr) (sp : Sp) (E : XK) : List V → Hp → VK → Prop := fun xs H Q => ∃ a dx fs, xs = [V.ref a] ∧ H a = some (.ins C dx fs) ∧ sp [.ref a] H (fun v H' => ∃ y, v = .str y ∧ Q v H') E
theorem call_strO (hs : PySem.W.findIn X.K (.ref C) "__str__" = some (some (.ref f))) (hf : PySem.W.isFn X.K (.ref f) = true) (F : FnR X.prog X.w X.K X.mg X.base CX n f sp) (hr : Room (n + 2) X.A) (hx : Passes CX X E) : CallR X (.type "str") (rStrO C sp E) := by
  intro pins s σ H xs us Q I r h
  obtain ⟨a, dx, fs, rfl, ea, q⟩ := h
  obtain ⟨u, rfl, ru⟩ := r.one
  cases (show u = Value.ref a from ru)
  obtain ⟨mA, O, _⟩ := ins_get I.hok ea
  obtain ⟨od, J, _⟩ := O.look
  have hr2 : Room n X.A.in1.in1 := (show Room (n + 1) X.A.in1 from Room.in1 hr).in1
  refine PySem.W.kso_call hr2.units0 I.kIn J hs hf (thn (run_atR (us := [.ref a]) (ws := [.ref a]) F hr2 I.env0.in1.in1 hx I (.cons rfl .nil) q) fun w s' z => ?_)
  obtain ⟨v, H', I', rv, y, ev, qv⟩ := z
  subst ev
  obtain ⟨t, rfl⟩ := rv
  exact ⟨.str y, H', I', ⟨t, rfl⟩, qv⟩
/-- x == y, both of the class at C -/
def rEqO (C : Addr) (sp : Sp) (E : XK) : R2 := fun x y H Q => ∃ a dx fs b dy gs, x = .ref a ∧ y = .ref b ∧ H a = some (.ins C dx fs) ∧ H b = some (.ins C dy gs) ∧ sp [.ref a, .ref b] H (fun v H' => ∃ c, v = .bl c ∧ Q v H') E
theorem op_eqO (hs : PySem.W.findIn X.K (.ref C) "__eq__" = some (some (.ref f))) (hf : PySem.W.isFn X.K (.ref f) = true) (F : FnR X.prog X.w X.K X.mg X.base CX n f sp) (hr : Room n X.A) (hx : Passes CX X E) : OpR X (compareOp .Eq) (rEqO C sp E) := by
  intro pins s σ H x y v u Q I rx ry h
  obtain ⟨a, dx, fs, b, dy, gs, rfl, rfl, ea, eb, q⟩ := h
  cases (show v = Value.ref a from rx)
  cases (show u = Value.ref b from ry)
  obtain ⟨mA, O, _⟩ := ins_get I.hok ea
  obtain ⟨od, J, _⟩ := O.look
  obtain ⟨mB, O', _⟩ := ins_get I.hok eb
  obtain ⟨od', J', _⟩ := O'.look
  obtain ⟨m, hF⟩ := I.fr
  show wpAny _ _ (richCompare .Eq _ _) _ _ _
  refine PySem.W.cmp_K (op := .Eq) (tb := .ref C) hr.units0 hF I.ok.mod.kin J J'.type (by simp [PySem.W.notFirst]) hs hf ?_
  refine thn (wpAny_call (run_fnR (us := [.ref a, .ref b]) (vs := [.ref a, .ref b]) F hr hx I (.cons rfl (.cons rfl .nil)) q)) fun w s' z => ?_
  obtain ⟨z', H', I', rz, c, ez, qz⟩ := z
  subst ez
  cases rz
  exact ⟨.bl c, H', I', rfl, qz⟩
theorem ifBound_B {M : Model} {A : Around} {E : Value → Shared → Prop} {s : Shared} {K : PySem.W.Frag} {x C : Addr} {ox : Obj} {od : Option Obj} {name : Str} {id : String} {args : List Value} {Q : Option Value → Shared → Prop} (Xk : K.In s.heap) (I : PySem.W.InstAt s.heap x ox C od)
    (hs : PySem.W.findIn K (.ref C) name = some (some (.builtin id))) (hb : ∀ self, bindSpecial (.builtin id) self = pure (.builtin id, [self]))
    (h : wpAny M A (call (.builtin id) (.ref x :: args)) (fun v => Q (some v)) E s) : wpAny M A (callSpecialIfBound? (.ref x) name args) Q E s := by
  simp only [callSpecialIfBound?, bindSpecialIfBound?]
  refine wpAny_holding (wpAny_bind (wpAny_bind (wpAny_bind (I.type.here ((PySem.W.looks_findIn Xk hs).here ?_)))))
  refine wpAny_bind (wpAny_askSetting (wpAny_ite ?_))
  have fin : wpAny M A (call (.builtin id) ([.ref x] ++ args) >>= fun v => pure (some v)) Q E s := wpAny_bind (wpAny_mono h (fun v s' h' => wpAny_pure h') fun _ _ h' => h')
  split
  · exact wpAny_bind ((PySem.W.Looks.of_pure (hb _)).here (wpAny_pure (by exact fin)))
  · exact wpAny_tryCatch (wpAny_bind ((PySem.W.Looks.of_pure (hb _)).here (wpAny_pure (by exact fin))))
/-- x != y by object.__ne__ over the own __eq__ -/
theorem objNe_K {prog : Program} {w : World} {A : Around} {E : Value → Shared → Prop} {s : Shared} {K : PySem.W.Frag} {x y C f : Addr} {ox : Obj} {od : Option Obj} {Q : Fin → Shared → Prop} (Xk : K.In s.heap) (I : PySem.W.InstAt s.heap x ox C od)
    (hs : PySem.W.findIn K (.ref C) "__eq__" = some (some (.ref f))) (hf : PySem.W.isFn K (.ref f) = true) (hu : A.units < cLine)
    (hcall : wpAny (model prog w) A (call (.ref f) [.ref x, .ref y]) (fun v s' => ∃ b, v = .bool b ∧ Q (.done (.ret (.bool (!b)))) s') E s) :
    wpAny (model prog w) A (Builtin.«object.__ne__» ⟨[.ref x, .ref y], []⟩) Q E s := by
  unfold Builtin.«object.__ne__»
  repeat (first
    | with_reducible refine wpAny_cRoomFor hu ?_
    | (refine wpAny_bind (m := callSpecialIfBound? (.ref x) (Str.ofString "__eq__") [.ref y])
        (PySem.W.ifBound_K Xk I hs hf (wpAny_mono hcall (fun r s' hr => by
          obtain ⟨b, rfl, hq⟩ := hr
          repeat (first | exact hq | exact wpAny_pure hq | exact wpAny_truthy_bool hq | (refine wpAny_bind (m := truthy (.bool _)) (wpAny_truthy_bool ?_)) | wp_step)) fun _ _ e => e)))
    | wp_step)
theorem ne_K {prog : Program} {w : World} {A : Around} {E : Value → Shared → Prop} {s : Shared} {K : PySem.W.Frag} {x y C f : Addr} {ox : Obj} {od : Option Obj} {Q : Value → Shared → Prop} (Xk : K.In s.heap) (I : PySem.W.InstAt s.heap x ox C od)
    (hb : PySem.W.Looks (model prog w) s.heap (typeOf (.ref y)) (.ref C))
    (hn : PySem.W.findIn K (.ref C) "__ne__" = some (some (.builtin "object.__ne__"))) (hm : PySem.W.mroIn K C (.type "object") = some true)
    (hs : PySem.W.findIn K (.ref C) "__eq__" = some (some (.ref f))) (hf : PySem.W.isFn K (.ref f) = true) (hu : A.units + 1 < cLine)
    (hcall : wpAny (model prog w) A.in1 (call (.ref f) [.ref x, .ref y]) (fun v s' => ∃ b, v = .bool b ∧ Q (.bool (!b)) s') E s) :
    wpAny (model prog w) A (richCompare .NotEq (.ref x) (.ref y)) Q E s := by
  unfold richCompare
  simp only [oneThing_ref]
  refine wpAny_holding (wpAny_bind (wpAny_cRoomFor (Nat.lt_of_succ_lt hu) ?_))
  rw [cmpInfo_NotEq]
  dsimp only
  refine wpAny_bind (I.type.here (wpAny_bind (hb.here ?_)))
  rw [show (Value.ref C != Value.ref C) = false from by simp]
  simp only [Bool.false_eq_true, if_false]
  refine wpAny_bind (wpAny_pure ?_)
  simp only [Bool.false_eq_true, if_false]
  simp only [tryCompare]
  refine wpAny_bind (wpAny_bind (ifBound_B Xk I hn (fun _ => rfl) (wpAny_call (codeAny_call_builtin (by decide +kernel) F.cmpEntry_ne (PySem.W.check_slot (i := "object.__ne__") (owner := "object") (n := "__ne__") F.cmpKind_ne F.cmpSplit_ne (I.type.andThen (PySem.W.looks_mroIn Xk hm)) (F.cmpArgs_ne _ _)
    (objNe_K (A := A.in1) Xk I hs hf (by exact hu) (wpAny_mono hcall (fun v s' hv => ?_) fun _ _ e => e)))))))
  obtain ⟨b, rfl, hq⟩ := hv
  first | exact ⟨b, rfl, wpAny_pure (wpAny_pure hq)⟩ | exact ⟨b, rfl, wpAny_pure hq⟩ | exact ⟨b, rfl, hq⟩
def rNeO (C : Addr) (sp : Sp) (E : XK) : R2 := fun x y H Q => ∃ a dx fs b dy gs, x = .ref a ∧ y = .ref b ∧ H a = some (.ins C dx fs) ∧ H b = some (.ins C dy gs) ∧ sp [.ref a, .ref b] H (fun v H' => ∃ c, v = .bl c ∧ Q (.bl (!c)) H') E
theorem op_neO (hn : PySem.W.findIn X.K (.ref C) "__ne__" = some (some (.builtin "object.__ne__"))) (hm : PySem.W.mroIn X.K C (.type "object") = some true) (hs : PySem.W.findIn X.K (.ref C) "__eq__" = some (some (.ref f))) (hf : PySem.W.isFn X.K (.ref f) = true) (F : FnR X.prog X.w X.K X.mg X.base CX n f sp) (hr : Room (n + 1) X.A) (hx : Passes CX X E) : OpR X (compareOp .NotEq) (rNeO C sp E) := by
  intro pins s σ H x y v u Q I rx ry h
  obtain ⟨a, dx, fs, b, dy, gs, rfl, rfl, ea, eb, q⟩ := h
  cases (show v = Value.ref a from rx)
  cases (show u = Value.ref b from ry)
  obtain ⟨mA, O, _⟩ := ins_get I.hok ea
  obtain ⟨od, J, _⟩ := O.look
  obtain ⟨mB, O', _⟩ := ins_get I.hok eb
  obtain ⟨od', J', _⟩ := O'.look
  show wpAny _ _ (richCompare .NotEq _ _) _ _ _
  refine ne_K I.kIn J J'.type hn hm hs hf (hu_of hr) (thn (run_atR (us := [.ref a, .ref b]) (ws := [.ref a, .ref b]) F hr.in1 I.env0.in1 hx I (.cons rfl (.cons rfl .nil)) q) fun w s' z => ?_)
  obtain ⟨z', H', I', rz, c, ez, qz⟩ := z
  subst ez
  cases rz
  exact ⟨c, rfl, .bl (!c), H', I', rfl, qz⟩
end
end DD

set_option Elab.async false
set_option linter.all false
set_option maxRecDepth 100000
set_option maxHeartbeats 2000000
namespace DD
open PySem PySem.Spec PyProof.Rows L2
def top (i : Nat) : Stmt := PySem.Challenge.pw_dimdays_k12_days_and_rules_known.main.body.getD i (.Pass ⟨0, 0, 0, 0⟩)

abbrev s_is_integer : Stmt := top 7
theorem sc_is_integer : FnScope ["value"] ["value"] (defScope s_is_integer) := ⟨rfl, rfl, rfl, by decide +kernel, rfl, by decide +kernel, by decide +kernel⟩
abbrev s_is_number : Stmt := top 8
theorem sc_is_number : FnScope ["value"] ["value"] (defScope s_is_number) := ⟨rfl, rfl, rfl, by decide +kernel, rfl, by decide +kernel, by decide +kernel⟩
abbrev s_is_positive : Stmt := top 9
theorem sc_is_positive : FnScope ["value"] ["value"] (defScope s_is_positive) := ⟨rfl, rfl, rfl, by decide +kernel, rfl, by decide +kernel, by decide +kernel⟩
abbrev s_is_sequence : Stmt := top 10
theorem sc_is_sequence : FnScope ["value"] ["value"] (defScope s_is_sequence) := ⟨rfl, rfl, rfl, by decide +kernel, rfl, by decide +kernel, by decide +kernel⟩
abbrev s__are_hours : Stmt := top 16
theorem sc__are_hours : FnScope ["value", "start", "till"] ["value"] (defScope s__are_hours) := ⟨rfl, rfl, rfl, by decide +kernel, rfl, by decide +kernel, by decide +kernel⟩
abbrev s__wrong_argument : Stmt := top 17
theorem sc__wrong_argument : FnScope ["step", "gap", "least", "private", "hours"] ["step", "gap", "least", "private", "hours"] (defScope s__wrong_argument) := ⟨rfl, rfl, rfl, by decide +kernel, rfl, by decide +kernel, by decide +kernel⟩
abbrev s__normal_parts : Stmt := top 22
theorem sc__normal_parts : FnScope ["rule", "normal"] ["rule"] (defScope s__normal_parts) := ⟨rfl, rfl, rfl, by decide +kernel, rfl, by decide +kernel, by decide +kernel⟩
abbrev s_alike : Stmt := top 23
theorem sc_alike : FnScope ["p", "q"] ["p", "q"] (defScope s_alike) := ⟨rfl, rfl, rfl, by decide +kernel, rfl, by decide +kernel, by decide +kernel⟩
abbrev s__is_meeting : Stmt := top 25
theorem sc__is_meeting : FnScope ["value", "begin", "end", "is_private"] ["value"] (defScope s__is_meeting) := ⟨rfl, rfl, rfl, by decide +kernel, rfl, by decide +kernel, by decide +kernel⟩
abbrev s__are_meetings : Stmt := top 26
theorem sc__are_meetings : FnScope ["value", "length", "ahead", "meeting"] ["value", "length"] (defScope s__are_meetings) := ⟨rfl, rfl, rfl, by decide +kernel, rfl, by decide +kernel, by decide +kernel⟩
abbrev s__meeting_text : Stmt := top 27
theorem sc__meeting_text : FnScope ["meeting", "begin", "end", "is_private"] ["meeting"] (defScope s__meeting_text) := ⟨rfl, rfl, rfl, by decide +kernel, rfl, by decide +kernel, by decide +kernel⟩
abbrev s__meetings_text : Stmt := top 28
theorem sc__meetings_text : FnScope ["meetings", "meeting"] ["meetings"] (defScope s__meetings_text) := ⟨rfl, rfl, rfl, by decide +kernel, rfl, by decide +kernel, by decide +kernel⟩
abbrev s__law_seed : Stmt := top 33
theorem sc__law_seed : FnScope ["_law_script", "_law_k", "_law_cell"] ["_law_script", "_law_k"] (defScope s__law_seed) := ⟨rfl, rfl, rfl, by decide +kernel, rfl, by decide +kernel, by decide +kernel⟩
abbrev s__law_choose : Stmt := top 34
theorem sc__law_choose : FnScope ["_law_box", "_law_many", "_law_raw", "_law_digit"] ["_law_box", "_law_many"] (defScope s__law_choose) := ⟨rfl, rfl, rfl, by decide +kernel, rfl, by decide +kernel, by decide +kernel⟩
abbrev s_law : Stmt := top 35
theorem sc_law : FnScope ["_law_script", "_law_k", "_law_box", "_law_a", "_law_day", "_law_head", "_law_other", "_law_step", "_law_rule"] ["_law_script"] (defScope s_law) := ⟨rfl, rfl, rfl, by decide +kernel, rfl, by decide +kernel, by decide +kernel⟩
abbrev s_Rule___init__ : Stmt := inClass (top 21) 0
theorem sc_Rule___init__ : FnScope ["self", "step", "gap", "least", "private", "hours", "wrong"] ["self", "step", "gap", "least", "private", "hours"] (defScope s_Rule___init__) := ⟨rfl, rfl, rfl, by decide +kernel, rfl, by decide +kernel, by decide +kernel⟩
abbrev s_Rule_normal : Stmt := inClass (top 21) 2
theorem sc_Rule_normal : FnScope ["self", "step", "gap", "least"] ["self"] (defScope s_Rule_normal) := ⟨rfl, rfl, rfl, by decide +kernel, rfl, by decide +kernel, by decide +kernel⟩
abbrev s_Rule___eq__ : Stmt := inClass (top 21) 4
theorem sc_Rule___eq__ : FnScope ["self", "other"] ["self", "other"] (defScope s_Rule___eq__) := ⟨rfl, rfl, rfl, by decide +kernel, rfl, by decide +kernel, by decide +kernel⟩
abbrev s_Day___init__ : Stmt := inClass (top 31) 0
theorem sc_Day___init__ : FnScope ["self", "length", "meetings"] ["self", "length", "meetings"] (defScope s_Day___init__) := ⟨rfl, rfl, rfl, by decide +kernel, rfl, by decide +kernel, by decide +kernel⟩
abbrev s_Day_taken : Stmt := inClass (top 31) 2
theorem sc_Day_taken : FnScope ["self", "meeting", "tick"] ["self"] (defScope s_Day_taken) := ⟨rfl, rfl, rfl, by decide +kernel, rfl, by decide +kernel, by decide +kernel⟩
abbrev s_Day_without : Stmt := inClass (top 31) 3
theorem sc_Day_without : FnScope ["self", "at"] ["self", "at"] (defScope s_Day_without) := ⟨rfl, rfl, rfl, by decide +kernel, rfl, by decide +kernel, by decide +kernel⟩
abbrev s_Day_having : Stmt := inClass (top 31) 4
theorem sc_Day_having : FnScope ["self", "meeting", "place", "one"] ["self", "meeting"] (defScope s_Day_having) := ⟨rfl, rfl, rfl, by decide +kernel, rfl, by decide +kernel, by decide +kernel⟩
abbrev s_Day___str__ : Stmt := inClass (top 31) 9
theorem sc_Day___str__ : FnScope ["self"] ["self"] (defScope s_Day___str__) := ⟨rfl, rfl, rfl, by decide +kernel, rfl, by decide +kernel, by decide +kernel⟩
structure Ad where
  f_is_integer : Addr
  f_is_number : Addr
  f_is_positive : Addr
  f_is_sequence : Addr
  f__are_hours : Addr
  f__wrong_argument : Addr
  f__normal_parts : Addr
  f_alike : Addr
  f__is_meeting : Addr
  f__are_meetings : Addr
  f__meeting_text : Addr
  f__meetings_text : Addr
  f__law_seed : Addr
  f__law_choose : Addr
  f_law : Addr
  f_Rule___init__ : Addr
  f_Rule_normal : Addr
  q_Rule_normal : Addr
  f_Rule___eq__ : Addr
  f_Day___init__ : Addr
  f_Day_taken : Addr
  q_Day_taken : Addr
  f_Day_without : Addr
  f_Day_having : Addr
  f_Day___str__ : Addr
  C_Rule : Addr
  C_Day : Addr
  c_PRIVATE_WORDS : Addr
  z_Day : Addr
def dv_Rule (d : Ad) : List V := [.int 1, .int 0, .int 0, .str "busy", .non]
def dv_Day (d : Ad) : List V := [.ref d.z_Day]
def v_PRIVATE_WORDS : List V := [.str "busy", .str "none", .str "apart", .str "one"]
structure Txt (K : PySem.W.Frag) (mg : Str → Option Value) (d : Ad) : Prop where
  m_is_integer : mg "is_integer" = some (.ref d.f_is_integer)
  k_is_integer : PySem.W.keepIn K (.ref d.f_is_integer) = true
  F_is_integer : ∃ fd, Fun K "is_integer" "is_integer" s_is_integer d.f_is_integer fd
  m_is_number : mg "is_number" = some (.ref d.f_is_number)
  k_is_number : PySem.W.keepIn K (.ref d.f_is_number) = true
  F_is_number : ∃ fd, Fun K "is_number" "is_number" s_is_number d.f_is_number fd
  m_is_positive : mg "is_positive" = some (.ref d.f_is_positive)
  k_is_positive : PySem.W.keepIn K (.ref d.f_is_positive) = true
  F_is_positive : ∃ fd, Fun K "is_positive" "is_positive" s_is_positive d.f_is_positive fd
  m_is_sequence : mg "is_sequence" = some (.ref d.f_is_sequence)
  k_is_sequence : PySem.W.keepIn K (.ref d.f_is_sequence) = true
  F_is_sequence : ∃ fd, Fun K "is_sequence" "is_sequence" s_is_sequence d.f_is_sequence fd
  m__are_hours : mg "_are_hours" = some (.ref d.f__are_hours)
  k__are_hours : PySem.W.keepIn K (.ref d.f__are_hours) = true
  F__are_hours : ∃ fd, Fun K "_are_hours" "_are_hours" s__are_hours d.f__are_hours fd
  m__wrong_argument : mg "_wrong_argument" = some (.ref d.f__wrong_argument)
  k__wrong_argument : PySem.W.keepIn K (.ref d.f__wrong_argument) = true
  F__wrong_argument : ∃ fd, Fun K "_wrong_argument" "_wrong_argument" s__wrong_argument d.f__wrong_argument fd
  m__normal_parts : mg "_normal_parts" = some (.ref d.f__normal_parts)
  k__normal_parts : PySem.W.keepIn K (.ref d.f__normal_parts) = true
  F__normal_parts : ∃ fd, Fun K "_normal_parts" "_normal_parts" s__normal_parts d.f__normal_parts fd
  m_alike : mg "alike" = some (.ref d.f_alike)
  k_alike : PySem.W.keepIn K (.ref d.f_alike) = true
  F_alike : ∃ fd, Fun K "alike" "alike" s_alike d.f_alike fd
  m__is_meeting : mg "_is_meeting" = some (.ref d.f__is_meeting)
  k__is_meeting : PySem.W.keepIn K (.ref d.f__is_meeting) = true
  F__is_meeting : ∃ fd, Fun K "_is_meeting" "_is_meeting" s__is_meeting d.f__is_meeting fd
  m__are_meetings : mg "_are_meetings" = some (.ref d.f__are_meetings)
  k__are_meetings : PySem.W.keepIn K (.ref d.f__are_meetings) = true
  F__are_meetings : ∃ fd, Fun K "_are_meetings" "_are_meetings" s__are_meetings d.f__are_meetings fd
  m__meeting_text : mg "_meeting_text" = some (.ref d.f__meeting_text)
  k__meeting_text : PySem.W.keepIn K (.ref d.f__meeting_text) = true
  F__meeting_text : ∃ fd, Fun K "_meeting_text" "_meeting_text" s__meeting_text d.f__meeting_text fd
  m__meetings_text : mg "_meetings_text" = some (.ref d.f__meetings_text)
  k__meetings_text : PySem.W.keepIn K (.ref d.f__meetings_text) = true
  F__meetings_text : ∃ fd, Fun K "_meetings_text" "_meetings_text" s__meetings_text d.f__meetings_text fd
  m__law_seed : mg "_law_seed" = some (.ref d.f__law_seed)
  k__law_seed : PySem.W.keepIn K (.ref d.f__law_seed) = true
  F__law_seed : ∃ fd, Fun K "_law_seed" "_law_seed" s__law_seed d.f__law_seed fd
  m__law_choose : mg "_law_choose" = some (.ref d.f__law_choose)
  k__law_choose : PySem.W.keepIn K (.ref d.f__law_choose) = true
  F__law_choose : ∃ fd, Fun K "_law_choose" "_law_choose" s__law_choose d.f__law_choose fd
  m_law : mg "law" = some (.ref d.f_law)
  k_law : PySem.W.keepIn K (.ref d.f_law) = true
  F_law : ∃ fd, Fun K "law" "law" s_law d.f_law fd
  F_Rule___init__ : ∃ fd, FunD K "__init__" "Rule.__init__" (defArgs s_Rule___init__) (defBody s_Rule___init__) (defScope s_Rule___init__) (dv_Rule d) [] d.f_Rule___init__ fd
  F_Rule_normal : ∃ fd, Fun K "normal" "Rule.normal" s_Rule_normal d.f_Rule_normal fd
  p_Rule_normal : PropOf K d.C_Rule "normal" d.q_Rule_normal d.f_Rule_normal
  F_Rule___eq__ : ∃ fd, Fun K "__eq__" "Rule.__eq__" s_Rule___eq__ d.f_Rule___eq__ fd
  e_Rule : PySem.W.findIn K (.ref d.C_Rule) "__eq__" = some (some (.ref d.f_Rule___eq__))
  ef_Rule : PySem.W.isFn K (.ref d.f_Rule___eq__) = true
  F_Day___init__ : ∃ fd, FunD K "__init__" "Day.__init__" (defArgs s_Day___init__) (defBody s_Day___init__) (defScope s_Day___init__) (dv_Day d) [] d.f_Day___init__ fd
  F_Day_taken : ∃ fd, Fun K "taken" "Day.taken" s_Day_taken d.f_Day_taken fd
  p_Day_taken : PropOf K d.C_Day "taken" d.q_Day_taken d.f_Day_taken
  F_Day_without : ∃ fd, Fun K "without" "Day.without" s_Day_without d.f_Day_without fd
  me_Day_without : Meth K d.C_Day "without" d.f_Day_without
  F_Day_having : ∃ fd, Fun K "having" "Day.having" s_Day_having d.f_Day_having fd
  me_Day_having : Meth K d.C_Day "having" d.f_Day_having
  F_Day___str__ : ∃ fd, Fun K "__str__" "Day.__str__" s_Day___str__ d.f_Day___str__ fd
  s_Day : PySem.W.findIn K (.ref d.C_Day) "__str__" = some (some (.ref d.f_Day___str__))
  sf_Day : PySem.W.isFn K (.ref d.f_Day___str__) = true
  m_Rule : mg "Rule" = some (.ref d.C_Rule)
  cl_Rule : Cls K d.C_Rule
  mk_Rule : Mk K d.C_Rule d.f_Rule___init__
  na_Rule_step : NoAttr K d.C_Rule "step"
  na_Rule_gap : NoAttr K d.C_Rule "gap"
  na_Rule_least : NoAttr K d.C_Rule "least"
  na_Rule_private : NoAttr K d.C_Rule "private"
  na_Rule_hours : NoAttr K d.C_Rule "hours"
  n_Rule : PySem.W.findIn K (.ref d.C_Rule) "__ne__" = some (some (.builtin "object.__ne__"))
  o_Rule : PySem.W.mroIn K d.C_Rule (.type "object") = some true
  ic_Rule : PySem.W.findIn K (.ref d.C_Rule) "__class__" = some (some (.builtin "object.__class__"))
  m_Day : mg "Day" = some (.ref d.C_Day)
  cl_Day : Cls K d.C_Day
  mk_Day : Mk K d.C_Day d.f_Day___init__
  na_Day_length : NoAttr K d.C_Day "length"
  na_Day_meetings : NoAttr K d.C_Day "meetings"
  o_Day : PySem.W.mroIn K d.C_Day (.type "object") = some true
  ic_Day : PySem.W.findIn K (.ref d.C_Day) "__class__" = some (some (.builtin "object.__class__"))
  oc1 : PySem.W.specialIn K (.builtin "object.__class__") "__get__" = some (some (.builtin "getset_descriptor.__get__"))
  oc2 : PySem.W.takesIn K (.builtin "object.__class__") = some true
  w_zDay : ∀ H, SqT K H d.z_Day []
  b_isinstance : mg "isinstance" = none
  b_int : mg "int" = none
  b_bool : mg "bool" = none
  b_list : mg "list" = none
  b_tuple : mg "tuple" = none
  b_len : mg "len" = none
  b_range : mg "range" = none
  b_abs : mg "abs" = none
  b_min : mg "min" = none
  b_max : mg "max" = none
  b_str : mg "str" = none
  m_PRIVATE_WORDS : mg "PRIVATE_WORDS" = some (.ref d.c_PRIVATE_WORDS)
  w_PRIVATE_WORDS : ∀ H, SqT K H d.c_PRIVATE_WORDS v_PRIVATE_WORDS

/-! ### small words -/
section
variable {P : Program} {w : World} {K : PySem.W.Frag} {mg : Str → Option Value} {base : Heap}
theorem vals_abs : ∀ {us : List Value} {vs : List V}, us.mapM absV = some vs → Vals vs us
  | [], vs, h => by
    simp at h
    subst h
    exact .nil
  | u :: us, vs, h => by
    rw [List.mapM_cons] at h
    cases e : absV u with
    | none => rw [e] at h; simp at h
    | some v =>
      cases e2 : us.mapM absV with
      | none => rw [e, e2] at h; simp at h
      | some ws =>
        rw [e, e2] at h
        simp at h
        subst h
        refine .cons ?_ (vals_abs e2)
        cases u <;> simp [absV] at e <;> subst e <;> first | rfl | exact ⟨_, rfl⟩
theorem sqt_mk {H : Hp} {c : Addr} {td : Option Addr} {it : Array Value} {n : Nat} {ts : Array (Option Value)} {vs : List V} (l : K.lookup c = some ⟨.type "tuple", td, .seq it n, ts⟩) (lv : it.toList.mapM absV = some vs) (hz : vs.length ≤ sizeLine) : SqT K H c vs := by
  have r := vals_abs lv
  refine .inr ⟨_, it, n, l, rfl, rfl, ?_, r⟩
  rw [← Array.length_toList, ← r.length]
  exact hz
theorem fund_mk {x qual : Str} {st : Stmt} {f T : Addr} {oc tc : Value} {od an td : Option Addr} {osl ts : Array (Option Value)} {it : Array Value} {tn : Nat} {kV doc pm cdv ct : Value} {dvs : List V}
    (l : K.lookup f = some ⟨oc, od, .func (PySem.W.fnOf x qual (defArgs st) (defBody st) (defScope st) (.ref T) kV doc pm an cdv ct), osl⟩) (lt : K.lookup T = some ⟨tc, td, .seq it tn, ts⟩) (lv : it.toList.mapM absV = some dvs) (hn : dvs ≠ [])
    (c : PySem.W.codeIn K cdv qual = true) (k : PySem.W.keepIn K (.ref f) = true) : FunD K x qual (defArgs st) (defBody st) (defScope st) dvs [] f (PySem.W.fnOf x qual (defArgs st) (defBody st) (defScope st) (.ref T) kV doc pm an cdv ct) :=
  ⟨⟨oc, od, .ref T, kV, doc, pm, an, cdv, ct, osl, rfl, l, c, .inr ⟨hn, T, _, it.toList, tn, rfl, lt, by simp, vals_abs lv⟩, .inl rfl⟩, k⟩
/-- a def without defaults, by its body: a positional promise -/
theorem mkR {x qual : Str} {st : Stmt} {f : Addr} {N ps : List Str} {k : Nat} {sp : Sp} (F : ∃ fd, Fun K x qual st f fd) (S : FnScope N ps (defScope st)) (len : ∀ vs H Q E, sp vs H Q E → vs.length = ps.length)
    (hb : ∀ (kV doc pm : Value) (an : Option Addr) (cdv ct : Value) (us : List Value), us.length = ps.length → bindArgs (PySem.W.fnOf x qual (defArgs st) (defBody st) (defScope st) .none kV doc pm an cdv ct) ⟨us, []⟩ = pure (ps.zip us))
    (hbody : ∀ (cdv : Value) (A : Around) (outer : List Env) (s : Shared) (H : Hp) (vs : List V) (Q : VK) (E : XK), Room k (A.deeper (envOfC qual (defScope st) s.heap.objs.size f cdv)) → sp vs H Q E →
      ∃ t, PSs (cxOf CX0 P w K mg base N qual (defScope st) f cdv A outer s H E).nox (defBody st) t ∧ t { nx := fun _ H' => Q .non H', rt := Q } (start N vs) H) : FnR P w K mg base CX0 (k + 1) f sp := by
  obtain ⟨fd, F⟩ := F
  have G : FnOk P w K mg base CX0 (k + 1) f fd ps sp := F.ok S len hbody
  refine (G.raw (F.binds hb) .nil).imp fun vs H Q E h => ?_
  rw [List.append_nil]
  exact h
/-- a def with defaults, all arguments written but the last ones: j is where the defaults that fill up begin -/
theorem mkRD {x qual : Str} {st : Stmt} {f : Addr} {N ps : List Str} {k : Nat} {sp sp' : Sp} {dvs : List V} (n j : Nat) (F : ∃ fd, FunD K x qual (defArgs st) (defBody st) (defScope st) dvs [] f fd) (hd : dvs ≠ []) (hn : n + (dvs.length - j) = ps.length) (S : FnScope N ps (defScope st)) (len : ∀ vs H Q E, sp vs H Q E → vs.length = ps.length)
    (hb : ∀ (T : Addr) (kV doc pm : Value) (an : Option Addr) (cdv ct : Value) (us its : List Value), us.length = n → its.length = dvs.length →
      ∃ k, bindArgs (PySem.W.fnOf x qual (defArgs st) (defBody st) (defScope st) (.ref T) kV doc pm an cdv ct) ⟨us, []⟩ = seqItems? (.ref T) >>= k ∧ k (some its.toArray) = pure (ps.zip (us ++ its.drop j)))
    (hs : ∀ vs H Q E, sp' vs H Q E → sp (vs ++ dvs.drop j) H Q E)
    (hbody : ∀ (cdv : Value) (A : Around) (outer : List Env) (s : Shared) (H : Hp) (vs : List V) (Q : VK) (E : XK), Room k (A.deeper (envOfC qual (defScope st) s.heap.objs.size f cdv)) → sp vs H Q E →
      ∃ t, PSs (cxOf CX0 P w K mg base N qual (defScope st) f cdv A outer s H E) (defBody st) t ∧ t { nx := fun _ H' => Q .non H', rt := Q } (start N vs) H) : FnR P w K mg base CX0 (k + 1) f sp' := by
  obtain ⟨fd, F⟩ := F
  have G : FnOk P w K mg base CX0 (k + 1) f fd ps sp := F.ok S len hbody
  obtain ⟨ds, hv, b⟩ := F.binds1 n j hd hn hb
  exact (G.raw b hv).imp hs
end
/-- the place of a name among written ones -/
theorem look_at {fs : List (Str × V)} {ks : List Str} {f g : Str} {i : Nat} {v : V} (hk : fs.map (·.1) = ks) (hi : ks.findIdx? (· == f) = some i) (hv : fs[i]? = some (g, v)) : fs.lookup f = some v := by
  induction fs generalizing ks i with
  | nil => simp at hv
  | cons p fs ih =>
    obtain ⟨k, x⟩ := p
    subst hk
    rw [List.map_cons, List.findIdx?_cons] at hi
    by_cases e : (k == f) = true
    · rw [if_pos e] at hi
      cases hi
      have e2 : (f == k) = true := by rw [beq_iff_eq] at e ⊢; exact e.symm
      simp at hv
      simp [List.lookup, e2, hv.2]
    · rw [if_neg e] at hi
      have e2 : (f == k) = false := by
        rw [beq_eq_false_iff_ne]; rintro rfl; exact e (by simp)
      obtain ⟨j, hj, rfl⟩ := Option.map_eq_some_iff.mp hi
      simp only [List.lookup, e2]
      exact ih rfl hj (by simpa using hv)
theorem look_no {fs : List (Str × V)} {ks : List Str} {f : Str} (hk : fs.map (·.1) = ks) (hi : ks.contains f = false) : fs.lookup f = none := by
  induction fs generalizing ks with
  | nil => rfl
  | cons p fs ih =>
    obtain ⟨k, x⟩ := p
    subst hk
    rw [List.map_cons, List.contains_cons, Bool.or_eq_false_iff] at hi
    simp only [List.lookup, hi.1]
    exact ih rfl hi.2
theorem putF_new {f : Str} {v : V} : ∀ {fs : List (Str × V)} {ks : List Str}, fs.map (·.1) = ks → ks.contains f = false → putF f v fs = fs ++ [(f, v)]
  | [], _, _, _ => rfl
  | (k, x) :: fs, ks, hk, hc => by
    subst hk
    rw [List.map_cons, List.contains_cons, Bool.or_eq_false_iff] at hc
    have ne : ¬ k = f := fun e => by rw [e] at hc; simp at hc
    rw [show putF f v ((k, x) :: fs) = (if k = f then (k, v) :: fs else (k, x) :: putF f v fs) from rfl, if_neg ne, putF_new rfl hc.2]
    rfl
theorem Same.new {H : Hp} {p : Addr} {o : HO} (h : H p = none) : Same H (upd H p o) := fun a u e => by
  rw [upd_ne (ne_of_none e h)]
  exact e
theorem Same.new' {H H1 : Hp} {p : Addr} {o : HO} (s : Same H H1) (h : H1 p = none) : Same H (upd H1 p o) := s.trans (Same.new h)
theorem Same.tup {K : PySem.W.Frag} {H H' : Hp} {a : Addr} {xs : List V} (e : Same H H') (h : SqT K H a xs) : SqT K H' a xs := by
  rcases h with (h | ⟨o, h⟩) | h
  · exact .inl (.inl (e _ _ h))
  · exact .inl (.inr ⟨o, e _ _ h⟩)
  · exact .inr h
theorem sz {n : Nat} (h : n ≤ 100000) : n ≤ sizeLine := Nat.le_trans h (by decide)
theorem rd_fld {K : PySem.W.Frag} {i : Nat} {σ : L2.St} {H : Hp} {f : Str} {Q : VK} {a C dx : Addr} {fs : List (Str × V)} {v : V} (hs : σ[i]? = some (some (.ref a))) (ho : H a = some (.ins C dx fs)) (c : Cls K C) (n : NoAttr K C f) (l : fs.lookup f = some v) (q : Q v H) : tFld K (tVar i) f σ H Q :=
  ⟨_, hs, a, C, dx, fs, v, rfl, ho, c, n, l, q⟩

/-! ### rules whose reading names K itself -/
theorem ixT_K {X : Cx} {K : PySem.W.Frag} (h : X.K = K := by rfl) : IxR X (rIxT K) := h ▸ ix_tup
theorem ixL_K {X : Cx} {K : PySem.W.Frag} (h : X.K = K := by rfl) : IxR X (rIxL K) := h ▸ ix_list
theorem pe_fldK {X : Cx} {K : PySem.W.Frag} {e : Expr} {f : Str} {pos : Pos} {ta : TE} (he : PE X e ta) (hb : attributeBase e f X.env (eval e X.env) = eval e X.env) (h : X.K = K := by rfl) : PE X (.Attribute e f pos) (tFld K ta f) := h ▸ pe_fld he hb
theorem pg_tupK {X : Cx} {K : PySem.W.Frag} {es : List Expr} {k : Nat} {t : TGs} {n : Nat} {pos : Pos} (hc : X.calm = true) (h : PGs X es t)
    (hn : (assignEach es X.env).length = n := by rfl) (hst : (assignEach es X.env).findIdx? (·.1) = none := by rfl) (hK : X.K = K := by rfl) : PG X (.Tuple es k pos) (gTup K n t) := hK ▸ pg_tup hc h hn hst
/-! ### what kind of value -/
def TyI (K : PySem.W.Frag) (H : Hp) (x : V) (b : Bool) : Prop := ∃ t b1 b2, TyX K H x t ∧ PySem.W.kitOne K t (.type "int") = some b1 ∧ PySem.W.kitOne K t (.type "bool") = some b2 ∧ b = (b1 && !b2)
theorem tyI_int {K : PySem.W.Frag} {H : Hp} {i : Int} : TyI K H (.int i) true := ⟨_, true, false, .base (.int i), kit_ty (by decide +kernel), kit_ty (by decide +kernel), rfl⟩
section
variable {P : Program} {w : World} {K : PySem.W.Frag} {mg : Str → Option Value} {base : Heap} {d : Ad}
def sp_is_integer (K : PySem.W.Frag) : Sp := fun vs H Q _ => ∃ x b, vs = [x] ∧ TyI K H x b ∧ Q (.bl b) H
theorem ok_is_integer (T : Txt K mg d) : FnR P w K mg base CX0 1 d.f_is_integer (sp_is_integer K) := by
  refine mkR T.F_is_integer sc_is_integer (fun vs H Q E h => ?_) (fun _ _ _ _ _ _ us hl => match us, hl with | [_], _ => rfl) (fun cdv A outer s H vs Q E hr h => ?_)
  · obtain ⟨x, b, rfl, _⟩ := h
    rfl
  · obtain ⟨x, b, rfl, ⟨t, b1, b2, ty, k1, k2, e⟩, q⟩ := h
    refine ⟨_, (pss_one (ps_ret (pe_and (pe_callB call_isi (by rfl) T.b_isinstance (by decide +kernel) (pa_cons (pv 0) (pa_cons (pe_bltn (v := .ty "int") rfl T.b_int (by decide +kernel) rfl) pa_nil))) (pe_one (pe_not (pe_callB call_isi (by rfl) T.b_isinstance (by decide +kernel) (pa_cons (pv 0) (pa_cons (pe_bltn (v := .ty "bool") rfl T.b_bool (by decide +kernel) rfl) pa_nil)))))))), ?_⟩
    refine ⟨x, rfl, x, .ty "int", t, .type "int", b1, rfl, .ty _, ty, k1, b1, rfl, ?_⟩
    subst e
    cases b1 with
    | false => exact iteF q
    | true =>
      refine iteT ?_
      exact ⟨x, rfl, x, .ty "bool", t, .type "bool", b2, rfl, .ty _, ty, k2, b2, rfl, q⟩
def sp_is_number (K : PySem.W.Frag) : Sp := fun vs H Q _ => (∃ i, vs = [.int i] ∧ Q (.bl (decide (0 ≤ i))) H) ∨ ∃ x, vs = [x] ∧ TyI K H x false ∧ Q (.bl false) H
theorem ok_is_number (T : Txt K mg d) : FnR P w K mg base CX0 2 d.f_is_number (sp_is_number K) := by
  refine mkR T.F_is_number sc_is_number (fun vs H Q E h => ?_) (fun _ _ _ _ _ _ us hl => match us, hl with | [_], _ => rfl) (fun cdv A outer s H vs Q E hr h => ?_)
  · rcases h with ⟨_, rfl, _⟩ | ⟨_, rfl, _⟩ <;> rfl
  · refine ⟨_, (pss_one (ps_ret (pe_and (pe_callR (ok_is_integer T) (hr.mono (by decide)) rfl T.m_is_integer T.k_is_integer pass0 (pa_cons (pv 0) pa_nil)) (pe_one (pe_cmpR op_ge (pv 0) pe_int (nomark _)))))), ?_⟩
    rcases h with ⟨i, rfl, q⟩ | ⟨x, rfl, ty, q⟩
    · refine ⟨_, rfl, _, true, rfl, tyI_int, true, rfl, iteT ?_⟩
      exact ⟨_, rfl, i, 0, rfl, rfl, q⟩
    · exact ⟨_, rfl, _, false, rfl, ty, false, rfl, iteF q⟩
def sp_is_positive (K : PySem.W.Frag) : Sp := fun vs H Q _ => (∃ i, vs = [.int i] ∧ Q (.bl (decide (1 ≤ i))) H) ∨ ∃ x, vs = [x] ∧ TyI K H x false ∧ Q (.bl false) H
theorem ok_is_positive (T : Txt K mg d) : FnR P w K mg base CX0 2 d.f_is_positive (sp_is_positive K) := by
  refine mkR T.F_is_positive sc_is_positive (fun vs H Q E h => ?_) (fun _ _ _ _ _ _ us hl => match us, hl with | [_], _ => rfl) (fun cdv A outer s H vs Q E hr h => ?_)
  · rcases h with ⟨_, rfl, _⟩ | ⟨_, rfl, _⟩ <;> rfl
  · refine ⟨_, (pss_one (ps_ret (pe_and (pe_callR (ok_is_integer T) (hr.mono (by decide)) rfl T.m_is_integer T.k_is_integer pass0 (pa_cons (pv 0) pa_nil)) (pe_one (pe_cmpR op_ge (pv 0) pe_int (nomark _)))))), ?_⟩
    rcases h with ⟨i, rfl, q⟩ | ⟨x, rfl, ty, q⟩
    · refine ⟨_, rfl, _, true, rfl, tyI_int, true, rfl, iteT ?_⟩
      exact ⟨_, rfl, i, 1, rfl, rfl, q⟩
    · exact ⟨_, rfl, _, false, rfl, ty, false, rfl, iteF q⟩
end
end DD

set_option Elab.async false
set_option linter.all false
set_option maxRecDepth 100000
set_option maxHeartbeats 2000000
namespace DD
open PySem PySem.Spec PyProof.Rows L2 StX

section
variable {P : Program} {w : World} {K : PySem.W.Frag} {mg : Str → Option Value} {base : Heap} {d : Ad}
/-! ### rules -/
/-- the hours of a rule -/
def IsHours (H : Hp) (h : V) (o : Option (Int × Int)) : Prop := (h = .non ∧ o = none) ∨ ∃ a i j, h = .ref a ∧ H a = some (.tup [.int i, .int j]) ∧ o = some (i, j)
theorem IsHours.mono {H H' : Hp} {h : V} {o : Option (Int × Int)} (e : Same H H') (x : IsHours H h o) : IsHours H' h o := by
  rcases x with x | ⟨a, i, j, e1, e2, e3⟩
  · exact .inl x
  · exact .inr ⟨a, i, j, e1, e _ _ e2, e3⟩
def hoursOk : Option (Int × Int) → Bool
  | none => true
  | some (i, j) => decide (0 ≤ i) && decide (0 ≤ j) && decide (i < j)
def sp_are_hours (K : PySem.W.Frag) : Sp := fun vs H Q _ => ∃ h o, vs = [h] ∧ IsHours H h o ∧ Q (.bl (hoursOk o)) H
theorem ok__are_hours (T : Txt K mg d) : FnR P w K mg base CX0 3 d.f__are_hours (sp_are_hours K) := by
  refine mkR T.F__are_hours sc__are_hours (fun vs H Q E h => ?_) (fun _ _ _ _ _ _ us hl => match us, hl with | [_], _ => rfl) (fun cdv A outer s H vs Q E hr h => ?_)
  · obtain ⟨_, _, rfl, _⟩ := h
    rfl
  · obtain ⟨h, o, rfl, hh, q⟩ := h
    refine ⟨_, (pss_cons (ps_if (pt_cmp (pc_isN (pv 0))) (pss_one (ps_ret pe_bl)) pss_nil) (pss_cons (ps_if (PW.pt (pw_or (pt_not (pt_val (pe_callB call_isi (by rfl) T.b_isinstance (by decide +kernel) (pa_cons (pv 0) (pa_cons (pe_bltn (v := .ty "tuple") rfl T.b_tuple (by decide +kernel) rfl) pa_nil))))) (pw_or1 (pt_cmpR op_ne (pe_callB call_len_seq (by rfl) T.b_len PySem.boot_len (pa_cons (pv 0) pa_nil)) pe_int (nomark _))))) (pss_one (ps_ret pe_bl)) pss_nil) (pss_cons (ps_asg (pv 0) (pg_tup rfl (pgs_cons (pg_name (i := 1) sc__are_hours.nd rfl (by first | exact Or.inl rfl | exact Or.inr rfl)) (pgs_cons (pg_name (i := 2) sc__are_hours.nd rfl (by first | exact Or.inl rfl | exact Or.inr rfl)) pgs_nil)))) (pss_one (ps_ret (pe_and (pe_callR (ok_is_number T) (hr.mono (by decide)) rfl T.m_is_number T.k_is_number pass0 (pa_cons (pv 1) pa_nil)) (pe_and (pe_callR (ok_is_number T) (hr.mono (by decide)) rfl T.m_is_number T.k_is_number pass0 (pa_cons (pv 2) pa_nil)) (pe_one (pe_cmpR op_lt (pv 1) (pv 2) (nomark _)))))))))), ?_⟩
    rcases hh with ⟨rfl, rfl⟩ | ⟨a, i, j, rfl, ha, rfl⟩
    · refine ⟨_, rfl, _, rfl, ?_⟩
      exact q
    · refine ⟨_, rfl, _, rfl, ?_⟩
      -- not isinstance(value, tuple) or len(value) != 2
      refine ⟨_, rfl, _, .ty "tuple", _, _, true, rfl, .ty _, .base (.tup ha), kit_ty (by decide +kernel), true, rfl, ?_⟩
      refine ⟨_, rfl, a, _, rfl, .inr (.inl (.inl ha)), rfl, false, rfl, ?_⟩
      -- start, till = value
      refine ⟨_, rfl, a, _, rfl, .inl (.inl ha), rfl, _, _, rfl, _, _, rfl, rfl, ?_⟩
      refine ⟨_, rfl, .inl ⟨i, rfl, ?_⟩⟩
      refine ⟨_, rfl, ?_⟩
      by_cases hi : 0 ≤ i
      · rw [decide_eq_true hi]
        refine iteT ⟨_, rfl, .inl ⟨j, rfl, ?_⟩⟩
        refine ⟨_, rfl, ?_⟩
        by_cases hj : 0 ≤ j
        · rw [decide_eq_true hj]
          refine iteT ⟨_, rfl, _, rfl, i, j, rfl, rfl, ?_⟩
          have e : hoursOk (some (i, j)) = decide (i < j) := by simp [hoursOk, hi, hj]
          rw [e] at q
          exact q
        · rw [decide_eq_false hj]
          refine iteF ?_
          have e : hoursOk (some (i, j)) = false := by simp [hoursOk, hj]
          rw [e] at q
          exact q
      · rw [decide_eq_false hi]
        refine iteF ?_
        have e : hoursOk (some (i, j)) = false := by simp [hoursOk, hi]
        rw [e] at q
        exact q
/-- the arguments of a rule that are all right -/
structure RuleOk (s g l : Int) (p : Str) (o : Option (Int × Int)) : Prop where
  s : 1 ≤ s
  g : 0 ≤ g
  l : 0 ≤ l
  p : inV (.str p) v_PRIVATE_WORDS = true
  h : hoursOk o = true
def sp_wrong (K : PySem.W.Frag) : Sp := fun vs H Q _ => ∃ (s g l : Int) (p : Str) (h : V) (o : Option (Int × Int)), vs = [.int s, .int g, .int l, .str p, h] ∧ IsHours H h o ∧ RuleOk s g l p o ∧ Q .non H
theorem ok__wrong_argument (T : Txt K mg d) : FnR P w K mg base CX0 4 d.f__wrong_argument (sp_wrong K) := by
  refine mkR T.F__wrong_argument sc__wrong_argument (fun vs H Q E h => ?_) (fun _ _ _ _ _ _ us hl => match us, hl with | [_, _, _, _, _], _ => rfl) (fun cdv A outer s H vs Q E hr h => ?_)
  · obtain ⟨_, _, _, _, _, _, rfl, _⟩ := h
    rfl
  · obtain ⟨st, g, l, p, h, o, rfl, hh, R, q⟩ := h
    refine ⟨_, (pss_cons (ps_if (pt_not (pt_val (pe_callR (ok_is_positive T) (hr.mono (by decide)) rfl T.m_is_positive T.k_is_positive pass0 (pa_cons (pv 0) pa_nil)))) (pss_one (ps_ret pe_str)) pss_nil) (pss_cons (ps_if (pt_not (pt_val (pe_callR (ok_is_number T) (hr.mono (by decide)) rfl T.m_is_number T.k_is_number pass0 (pa_cons (pv 1) pa_nil)))) (pss_one (ps_ret pe_str)) pss_nil) (pss_cons (ps_if (pt_not (pt_val (pe_callR (ok_is_number T) (hr.mono (by decide)) rfl T.m_is_number T.k_is_number pass0 (pa_cons (pv 2) pa_nil)))) (pss_one (ps_ret pe_str)) pss_nil) (pss_cons (ps_if (pt_cmpR op_notIn_seq (pv 3) (pe_glob (v := .ref d.c_PRIVATE_WORDS) rfl T.m_PRIVATE_WORDS rfl) rfl) (pss_one (ps_ret pe_str)) pss_nil) (pss_cons (ps_if (pt_not (pt_val (pe_callR (ok__are_hours T) (hr.mono (by decide)) rfl T.m__are_hours T.k__are_hours pass0 (pa_cons (pv 4) pa_nil)))) (pss_one (ps_ret pe_str)) pss_nil) (pss_one (ps_ret pe_non))))))), ?_⟩
    refine ⟨_, rfl, .inl ⟨st, rfl, ?_⟩⟩
    refine ⟨_, rfl, ?_⟩
    rw [decide_eq_true R.s]
    refine iteF ⟨_, rfl, .inl ⟨g, rfl, ?_⟩⟩
    refine ⟨_, rfl, ?_⟩
    rw [decide_eq_true R.g]
    refine iteF ⟨_, rfl, .inl ⟨l, rfl, ?_⟩⟩
    refine ⟨_, rfl, ?_⟩
    rw [decide_eq_true R.l]
    refine iteF ⟨_, rfl, _, _, rfl, .inr (T.w_PRIVATE_WORDS _), rfl, rfl, _, rfl, ?_⟩
    show if (if true = true then !inV (V.str p) v_PRIVATE_WORDS else inV (V.str p) v_PRIVATE_WORDS) = true then _ else _
    rw [if_pos rfl, R.p]
    refine iteF ⟨_, rfl, h, o, rfl, hh, ?_⟩
    rw [R.h]
    refine ⟨_, rfl, ?_⟩
    exact iteF q
/-- a rule stands there -/
def flR (s g l : Int) (p : Str) (h : V) : List (Str × V) := [("step", .int s), ("gap", .int g), ("least", .int l), ("private", .str p), ("hours", h)]
def IsRule (d : Ad) (H : Hp) (v : V) (s g l : Int) (p : Str) (o : Option (Int × Int)) : Prop := ∃ a dx h, v = .ref a ∧ H a = some (.ins d.C_Rule dx (flR s g l p h)) ∧ IsHours H h o
theorem IsRule.mono {H H' : Hp} {v : V} {s g l : Int} {p : Str} {o : Option (Int × Int)} (e : Same H H') (x : IsRule d H v s g l p o) : IsRule d H' v s g l p o := by
  obtain ⟨a, dx, h, e1, e2, e3⟩ := x
  exact ⟨a, dx, h, e1, e _ _ e2, e3.mono e⟩
theorem fl2 {a b : V} : putF "gap" b ([("step", a)] : List (Str × V)) = ([("step", a), ("gap", b)] : List (Str × V)) := putF_new (ks := ["step"]) rfl (by decide +kernel)
theorem fl3 {a b c : V} : putF "least" c ([("step", a), ("gap", b)] : List (Str × V)) = ([("step", a), ("gap", b), ("least", c)] : List (Str × V)) := putF_new (ks := ["step", "gap"]) rfl (by decide +kernel)
theorem fl4 {a b c e : V} : putF "private" e ([("step", a), ("gap", b), ("least", c)] : List (Str × V)) = ([("step", a), ("gap", b), ("least", c), ("private", e)] : List (Str × V)) := putF_new (ks := ["step", "gap", "least"]) rfl (by decide +kernel)
theorem fl5 {a b c e f : V} : putF "hours" f ([("step", a), ("gap", b), ("least", c), ("private", e)] : List (Str × V)) = ([("step", a), ("gap", b), ("least", c), ("private", e), ("hours", f)] : List (Str × V)) := putF_new (ks := ["step", "gap", "least", "private"]) rfl (by decide +kernel)
def sp_Rule_init (d : Ad) : Sp := fun vs H Q _ => ∃ (x dx : Addr) (s g l : Int) (p : Str) (h : V) (o : Option (Int × Int)), vs = [.ref x, .int s, .int g, .int l, .str p, h] ∧ H x = some (.ins d.C_Rule dx []) ∧ IsHours H h o ∧ RuleOk s g l p o ∧
  ∀ H', (∀ b u, H b = some u → b ≠ x → H' b = some u) → H' x = some (.ins d.C_Rule dx (flR s g l p h)) → Q .non H'
theorem body_Rule_init (T : Txt K mg d) (cdv : Value) (A : Around) (outer : List Env) (s : Shared) (H : Hp) (vs : List V) (Q : VK) (E : XK) (hr : Room 4 (A.deeper (envOfC "Rule.__init__" (defScope s_Rule___init__) s.heap.objs.size d.f_Rule___init__ cdv))) (h : sp_Rule_init d vs H Q E) :
    ∃ t, PSs (cxOf CX0 P w K mg base ["self", "step", "gap", "least", "private", "hours", "wrong"] "Rule.__init__" (defScope s_Rule___init__) d.f_Rule___init__ cdv A outer s H E).nox (defBody s_Rule___init__) t ∧ t { nx := fun _ H' => Q .non H', rt := Q } (start ["self", "step", "gap", "least", "private", "hours", "wrong"] vs) H := by
  obtain ⟨x, dx, st, g, l, p, h, o, rfl, hx, hh, R, q⟩ := h
  refine ⟨_, (pss_cons (ps_set (i := 6) sc_Rule___init__.nd rfl (by first | exact Or.inl rfl | exact Or.inr rfl) (pe_callR (ok__wrong_argument T) (hr.mono (by decide)) rfl T.m__wrong_argument T.k__wrong_argument pass0 (pa_cons (pv 1) (pa_cons (pv 2) (pa_cons (pv 3) (pa_cons (pv 4) (pa_cons (pv 5) pa_nil))))))) (pss_cons (ps_if (pt_cmp (pc_notN (pv 6))) (pss_one ps_dead) pss_nil) (pss_cons (ps_fld (pv 0) (pv 1) rfl) (pss_cons (ps_fld (pv 0) (pv 2) rfl) (pss_cons (ps_fld (pv 0) (pv 3) rfl) (pss_cons (ps_fld (pv 0) (pv 4) rfl) (pss_one (ps_fld (pv 0) (pv 5) rfl)))))))), ?_⟩
  -- wrong = _wrong_argument(..); if wrong is not None
  refine ⟨_, rfl, _, rfl, _, rfl, _, rfl, _, rfl, st, g, l, p, h, o, rfl, hh, R, ?_⟩
  refine ⟨_, rfl, _, rfl, iteF ?_⟩
  -- the stores
  refine ⟨_, rfl, _, rfl, x, _, dx, _, rfl, hx, T.cl_Rule, T.na_Rule_step, (by show 0 < 1000; decide), ?_⟩
  refine ⟨_, rfl, _, rfl, x, _, dx, _, rfl, upd_same, T.cl_Rule, T.na_Rule_gap, (by show 1 < 1000; decide), ?_⟩
  rw [show putF "step" (V.int st) [] = ([("step", V.int st)] : List (Str × V)) from rfl, fl2]
  refine ⟨_, rfl, _, rfl, x, _, dx, _, rfl, upd_same, T.cl_Rule, T.na_Rule_least, (by show 2 < 1000; decide), ?_⟩
  rw [fl3]
  refine ⟨_, rfl, _, rfl, x, _, dx, _, rfl, upd_same, T.cl_Rule, T.na_Rule_private, (by show 3 < 1000; decide), ?_⟩
  rw [fl4]
  refine ⟨_, rfl, _, rfl, x, _, dx, _, rfl, upd_same, T.cl_Rule, T.na_Rule_hours, (by show 4 < 1000; decide), ?_⟩
  rw [fl5]
  refine q _ (fun b u e hb => ?_) upd_same
  rw [upd_ne hb, upd_ne hb, upd_ne hb, upd_ne hb, upd_ne hb]
  exact e
/-- Rule(..) with n written arguments: what stands for the others -/
theorem ok_Rule_init5 (T : Txt K mg d) : FnR P w K mg base CX0 5 d.f_Rule___init__ (sp_Rule_init d) :=
  mkRD 6 5 T.F_Rule___init__ (by simp [dv_Rule]) rfl sc_Rule___init__ (fun vs H Q E h => by obtain ⟨_, _, _, _, _, _, _, _, rfl, _⟩ := h; rfl)
    (fun _ _ _ _ _ _ _ us its h1 h2 => match us, its, h1, h2 with | [_, _, _, _, _, _], [_, _, _, _, _], _, _ => ⟨_, rfl, rfl⟩)
    (fun vs H Q E h => by rw [show (dv_Rule d).drop 5 = [] from rfl, List.append_nil]; exact h)
    (fun cdv A outer s H vs Q E hr h => let ⟨t, h1, h2⟩ := body_Rule_init T cdv A outer s H vs Q E hr h; ⟨t, h1.nox, h2⟩)
theorem ok_Rule_init4 (T : Txt K mg d) : FnR P w K mg base CX0 5 d.f_Rule___init__ (fun vs H Q E => sp_Rule_init d (vs ++ [.non]) H Q E) :=
  mkRD 5 4 T.F_Rule___init__ (by simp [dv_Rule]) rfl sc_Rule___init__ (fun vs H Q E h => by obtain ⟨_, _, _, _, _, _, _, _, rfl, _⟩ := h; rfl)
    (fun _ _ _ _ _ _ _ us its h1 h2 => match us, its, h1, h2 with | [_, _, _, _, _], [_, _, _, _, _], _, _ => ⟨_, rfl, rfl⟩)
    (fun vs H Q E h => h)
    (fun cdv A outer s H vs Q E hr h => let ⟨t, h1, h2⟩ := body_Rule_init T cdv A outer s H vs Q E hr h; ⟨t, h1.nox, h2⟩)
theorem ok_Rule_init3 (T : Txt K mg d) : FnR P w K mg base CX0 5 d.f_Rule___init__ (fun vs H Q E => sp_Rule_init d (vs ++ [.str "busy", .non]) H Q E) :=
  mkRD 4 3 T.F_Rule___init__ (by simp [dv_Rule]) rfl sc_Rule___init__ (fun vs H Q E h => by obtain ⟨_, _, _, _, _, _, _, _, rfl, _⟩ := h; rfl)
    (fun _ _ _ _ _ _ _ us its h1 h2 => match us, its, h1, h2 with | [_, _, _, _], [_, _, _, _, _], _, _ => ⟨_, rfl, rfl⟩)
    (fun vs H Q E h => h)
    (fun cdv A outer s H vs Q E hr h => let ⟨t, h1, h2⟩ := body_Rule_init T cdv A outer s H vs Q E hr h; ⟨t, h1.nox, h2⟩)
theorem ok_Rule_init2 (T : Txt K mg d) : FnR P w K mg base CX0 5 d.f_Rule___init__ (fun vs H Q E => sp_Rule_init d (vs ++ [.int 0, .str "busy", .non]) H Q E) :=
  mkRD 3 2 T.F_Rule___init__ (by simp [dv_Rule]) rfl sc_Rule___init__ (fun vs H Q E h => by obtain ⟨_, _, _, _, _, _, _, _, rfl, _⟩ := h; rfl)
    (fun _ _ _ _ _ _ _ us its h1 h2 => match us, its, h1, h2 with | [_, _, _], [_, _, _, _, _], _, _ => ⟨_, rfl, rfl⟩)
    (fun vs H Q E h => h)
    (fun cdv A outer s H vs Q E hr h => let ⟨t, h1, h2⟩ := body_Rule_init T cdv A outer s H vs Q E hr h; ⟨t, h1.nox, h2⟩)
/-- what making a rule gives -/
theorem made_rule {H1 : Hp} {s g l : Int} {p : Str} {h : V} {o : Option (Int × Int)} {Q : VK} {E : XK} (hh : IsHours H1 h o) (R : RuleOk s g l p o) (q : ∀ v H', Same H1 H' → IsRule d H' v s g l p o → Q v H') :
    ∀ x dx, H1 x = none → H1 dx = none → dx ≠ x → sp_Rule_init d [.ref x, .int s, .int g, .int l, .str p, h] (upd (upd H1 dx (.own x)) x (.ins d.C_Rule dx [])) (fun v H2 => v = .non ∧ Q (.ref x) H2) E := by
  intro x dx nx ndx ne
  have s0 : Same H1 (upd (upd H1 dx (.own x)) x (.ins d.C_Rule dx [])) := Same.new' (Same.new ndx) (by rw [upd_ne (Ne.symm ne)]; exact nx)
  refine ⟨x, dx, s, g, l, p, h, o, rfl, upd_same, hh.mono s0, R, fun H' k1 k2 => ⟨rfl, ?_⟩⟩
  have s1 : Same H1 H' := fun b u e => k1 b u (s0 b u e) (ne_of_none e nx)
  exact q _ H' s1 ⟨x, dx, h, rfl, k2, hh.mono s1⟩
/-- the normal rule -/
def normG (s g : Int) : Int := g / s * s
def normL (s l : Int) : Int := if l ≤ s then 0 else (l + s - 1) / s * s
def Small (s g l : Int) : Prop := s < 1000 ∧ g < 1000 ∧ l < 1000
theorem fdiv_mul_nonneg {s g : Int} (hs : 1 ≤ s) (hg : 0 ≤ g) : 0 ≤ g / s * s ∧ g / s * s ≤ g ∧ 0 ≤ g / s := by
  have h0 : 0 ≤ g / s := Int.ediv_nonneg hg (by omega)
  refine ⟨Int.mul_nonneg h0 (by omega), ?_, h0⟩
  exact Int.ediv_mul_le g (by omega)
theorem normL_nonneg {s l : Int} (hs : 1 ≤ s) (hl : 0 ≤ l) : 0 ≤ normL s l := by
  unfold normL
  split
  · decide
  · exact (fdiv_mul_nonneg hs (by omega)).1
theorem lkR_step {s g l : Int} {p : Str} {h : V} : (flR s g l p h).lookup ("step" : Str) = some (V.int s) :=
  look_at rfl (by decide +kernel : (["step", "gap", "least", "private", "hours"] : List Str).findIdx? (· == ("step" : Str)) = some 0) rfl
theorem lkR_gap {s g l : Int} {p : Str} {h : V} : (flR s g l p h).lookup ("gap" : Str) = some (V.int g) :=
  look_at rfl (by decide +kernel : (["step", "gap", "least", "private", "hours"] : List Str).findIdx? (· == ("gap" : Str)) = some 1) rfl
theorem lkR_least {s g l : Int} {p : Str} {h : V} : (flR s g l p h).lookup ("least" : Str) = some (V.int l) :=
  look_at rfl (by decide +kernel : (["step", "gap", "least", "private", "hours"] : List Str).findIdx? (· == ("least" : Str)) = some 2) rfl
theorem lkR_private {s g l : Int} {p : Str} {h : V} : (flR s g l p h).lookup ("private" : Str) = some (V.str p) :=
  look_at rfl (by decide +kernel : (["step", "gap", "least", "private", "hours"] : List Str).findIdx? (· == ("private" : Str)) = some 3) rfl
theorem lkR_hours {s g l : Int} {p : Str} {h : V} : (flR s g l p h).lookup ("hours" : Str) = some h :=
  look_at rfl (by decide +kernel : (["step", "gap", "least", "private", "hours"] : List Str).findIdx? (· == ("hours" : Str)) = some 4) rfl
def sp_Rule_normal (d : Ad) : Sp := fun vs H Q _ => ∃ (v : V) (s g l : Int) (p : Str) (o : Option (Int × Int)), vs = [v] ∧ IsRule d H v s g l p o ∧ RuleOk s g l p o ∧ Small s g l ∧
  ∀ v' H', Same H H' → IsRule d H' v' s (normG s g) (normL s l) p o → Q v' H'
theorem ok_Rule_normal (T : Txt K mg d) : FnR P w K mg base CX0 7 d.f_Rule_normal (sp_Rule_normal d) := by
  refine mkR T.F_Rule_normal sc_Rule_normal (fun vs H Q E h => ?_) (fun _ _ _ _ _ _ us hl => match us, hl with | [_], _ => rfl) (fun cdv A outer s H vs Q E hr h => ?_)
  · obtain ⟨_, _, _, _, _, _, rfl, _⟩ := h
    rfl
  · obtain ⟨v, st, g, l, p, o, rfl, ⟨a, dx, h, rfl, ha, hh⟩, R, ⟨z1, z2, z3⟩, q⟩ := h
    have hs := R.s
    have hg := R.g
    have hl := R.l
    refine ⟨_, (pss_cons (ps_set (i := 1) sc_Rule_normal.nd rfl (by first | exact Or.inl rfl | exact Or.inr rfl) (pe_fld (pv 0) rfl)) (pss_cons (ps_set (i := 2) sc_Rule_normal.nd rfl (by first | exact Or.inl rfl | exact Or.inr rfl) (pe_op op_mul (pe_op op_fdiv (pe_fld (pv 0) rfl) (pv 1)) (pv 1))) (pss_cons (ps_set (i := 3) sc_Rule_normal.nd rfl (by first | exact Or.inl rfl | exact Or.inr rfl) (pe_ifExp (pt_cmpR op_le (pe_fld (pv 0) rfl) (pv 1) (nomark _)) pe_int (pe_op op_mul (pe_op op_fdiv (pe_op op_sub (pe_op op_add (pe_fld (pv 0) rfl) (pv 1)) pe_int) (pv 1)) (pv 1)))) (pss_one (ps_ret (pe_makeR T.mk_Rule (ok_Rule_init5 T) (hr.mono (by decide)) rfl T.m_Rule pass0 (pa_cons (pv 1) (pa_cons (pv 2) (pa_cons (pv 3) (pa_cons (pe_fld (pv 0) rfl) (pa_cons (pe_fld (pv 0) rfl) pa_nil))))))))))), ?_⟩
    have cdiv : CDiv g st := ⟨by omega, by omega⟩
    -- step = self.step; gap = self.gap // step * step
    refine ⟨_, rfl, _, _, _, _, _, rfl, ha, T.cl_Rule, T.na_Rule_step, lkR_step, ?_⟩
    refine ⟨_, rfl, _, _, _, _, _, rfl, ha, T.cl_Rule, T.na_Rule_gap, lkR_gap, ?_⟩
    refine ⟨_, rfl, _, _, rfl, rfl, cdiv, ?_⟩
    have b1 := fdiv_mul_nonneg hs hg
    refine ⟨_, rfl, _, _, rfl, rfl, .inr ⟨by omega, by omega⟩, ?_⟩
    -- least
    refine ⟨_, rfl, _, _, _, _, _, rfl, ha, T.cl_Rule, T.na_Rule_least, lkR_least, ?_⟩
    refine ⟨_, rfl, _, _, rfl, rfl, _, rfl, ?_⟩
    have fin : ∀ σ : L2.St, σ = [some (.ref a), some (.int st), some (.int (normG st g)), some (.int (normL st l))] → tRet (tMakeR d.C_Rule (sp_Rule_init d) E0 (tCons (tVar 1) (tCons (tVar 2) (tCons (tVar 3) (tCons (tFld K (tVar 0) "private") (tCons (tFld K (tVar 0) "hours") tNil)))))) { nx := fun _ H' => Q .non H', rt := Q } σ H := by
      rintro σ rfl
      refine ⟨_, rfl, _, rfl, _, rfl, ?_⟩
      refine ⟨_, rfl, _, _, _, _, _, rfl, ha, T.cl_Rule, T.na_Rule_private, lkR_private, ?_⟩
      refine ⟨_, rfl, _, _, _, _, _, rfl, ha, T.cl_Rule, T.na_Rule_hours, lkR_hours, ?_⟩
      exact made_rule hh ⟨hs, b1.1, normL_nonneg hs hl, R.p, R.h⟩ q
    by_cases c : l ≤ st
    · rw [decide_eq_true c]
      refine iteT ?_
      refine fin _ ?_
      rw [show normL st l = _ from if_pos c]
      rfl
    · rw [decide_eq_false c]
      refine iteF ?_
      refine ⟨_, rfl, _, _, _, _, _, rfl, ha, T.cl_Rule, T.na_Rule_least, lkR_least, ?_⟩
      refine ⟨_, rfl, _, _, rfl, rfl, _, _, rfl, rfl, _, rfl, _, _, rfl, rfl, ⟨by omega, by omega⟩, ?_⟩
      refine ⟨_, rfl, _, _, rfl, rfl, .inr ⟨by omega, by omega⟩, ?_⟩
      refine fin _ ?_
      rw [show normL st l = _ from if_neg c]
      rfl
/-- == of rules -/
def hD : V → Option (Int × Int) → PyData
  | _, none => .none
  | _, some (i, j) => .tuple [.int i, .int j]
theorem dp_hours {H : Hp} {h : V} {o : Option (Int × Int)} (x : IsHours H h o) : Dp K H h (hD h o) := by
  rcases x with ⟨rfl, rfl⟩ | ⟨a, i, j, rfl, ha, rfl⟩
  · exact .non
  · exact .tup (.inl (.inl ha)) (.cons (.int i) (.cons (.int j) .nil))
theorem shaped_h {h : V} {o : Option (Int × Int)} : SeqAt.shaped (hD h o) = true := by
  rcases o with _ | ⟨i, j⟩ <;> rfl
def eqH : Option (Int × Int) → Option (Int × Int) → Bool
  | none, none => true
  | some (i, j), some (i', j') => decide (i = i') && decide (j = j')
  | _, _ => false
theorem eqv_h {h h' : V} {o o' : Option (Int × Int)} : PyData.eqv (hD h o) (hD h' o') = eqH o o' := by
  rcases o with _ | ⟨i, j⟩ <;> rcases o' with _ | ⟨i', j'⟩ <;> simp [hD, eqH, PyData.eqv, PyData.eqvAll, Bool.beq_eq_decide_eq]
def sp_Rule_eq (d : Ad) : Sp := fun vs H Q _ => ∃ (v v' : V) (s g l s' g' l' : Int) (p p' : Str) (o o' : Option (Int × Int)), vs = [v, v'] ∧ IsRule d H v s g l p o ∧ IsRule d H v' s' g' l' p' o' ∧
  Q (.bl (decide (s = s') && decide (g = g') && decide (l = l') && decide (p = p') && eqH o o')) H
theorem isi_own {C : Addr} : PySem.W.kitOne K (.ref C) (.ref C) = some true := by simp [PySem.W.kitOne]
theorem ty_rule (T : Txt K mg d) {H : Hp} {a dx : Addr} {fs : List (Str × V)} (ha : H a = some (.ins d.C_Rule dx fs)) : TyX K H (.ref a) (.ref d.C_Rule) := .base (.ins ha T.cl_Rule T.ic_Rule T.oc1 T.oc2 T.o_Rule)
theorem ok_Rule___eq__ (T : Txt K mg d) : FnR P w K mg base CX0 1 d.f_Rule___eq__ (sp_Rule_eq d) := by
  refine mkR T.F_Rule___eq__ sc_Rule___eq__ (fun vs H Q E h => ?_) (fun _ _ _ _ _ _ us hl => match us, hl with | [_, _], _ => rfl) (fun cdv A outer s H vs Q E hr h => ?_)
  · obtain ⟨_, _, _, _, _, _, _, _, _, _, _, _, rfl, _⟩ := h
    rfl
  · obtain ⟨v, v', st, g, l, s', g', l', p, p', o, o', rfl, ⟨a, dx, h, rfl, ha, hh⟩, ⟨b, dy, h', rfl, hb, hh'⟩, q⟩ := h
    have hu := hr.units
    refine ⟨_, (pss_one (ps_ret (pe_and (pe_callB call_isi (by rfl) T.b_isinstance (by decide +kernel) (pa_cons (pv 1) (pa_cons (pe_glob (v := .ref d.C_Rule) rfl T.m_Rule rfl) pa_nil))) (pe_and (pe_cmpR op_eq (pe_fld (pv 0) rfl) (pe_fld (pv 1) rfl) (nomark _)) (pe_and (pe_cmpR op_eq (pe_fld (pv 0) rfl) (pe_fld (pv 1) rfl) (nomark _)) (pe_and (pe_cmpR op_eq (pe_fld (pv 0) rfl) (pe_fld (pv 1) rfl) (nomark _)) (pe_and (pe_cmpR op_eq (pe_fld (pv 0) rfl) (pe_fld (pv 1) rfl) (nomark _)) (pe_one (pe_cmpR (op_eqD hu) (pe_fld (pv 0) rfl) (pe_fld (pv 1) rfl) (nomark _)))))))))), ?_⟩
    refine ⟨_, rfl, _, .ref d.C_Rule, _, _, true, rfl, .own _, ty_rule T hb, isi_own, true, rfl, iteT ?_⟩
    refine ⟨_, rfl, _, _, _, _, _, rfl, ha, T.cl_Rule, T.na_Rule_step, lkR_step, ?_⟩
    refine ⟨_, rfl, _, _, _, _, _, rfl, hb, T.cl_Rule, T.na_Rule_step, lkR_step, ?_⟩
    refine ⟨rfl, _, rfl, ?_⟩
    by_cases e1 : st = s'
    · subst e1
      simp only [decide_true, Bool.true_and] at q
      rw [decide_eq_true (show V.int st = V.int st from rfl)]
      refine iteT ?_
      refine ⟨_, rfl, _, _, _, _, _, rfl, ha, T.cl_Rule, T.na_Rule_gap, lkR_gap, ?_⟩
      refine ⟨_, rfl, _, _, _, _, _, rfl, hb, T.cl_Rule, T.na_Rule_gap, lkR_gap, ?_⟩
      refine ⟨rfl, _, rfl, ?_⟩
      by_cases e2 : g = g'
      · subst e2
        simp only [decide_true, Bool.true_and] at q
        rw [decide_eq_true (show V.int g = V.int g from rfl)]
        refine iteT ?_
        refine ⟨_, rfl, _, _, _, _, _, rfl, ha, T.cl_Rule, T.na_Rule_least, lkR_least, ?_⟩
        refine ⟨_, rfl, _, _, _, _, _, rfl, hb, T.cl_Rule, T.na_Rule_least, lkR_least, ?_⟩
        refine ⟨rfl, _, rfl, ?_⟩
        by_cases e3 : l = l'
        · subst e3
          simp only [decide_true, Bool.true_and] at q
          rw [decide_eq_true (show V.int l = V.int l from rfl)]
          refine iteT ?_
          refine ⟨_, rfl, _, _, _, _, _, rfl, ha, T.cl_Rule, T.na_Rule_private, lkR_private, ?_⟩
          refine ⟨_, rfl, _, _, _, _, _, rfl, hb, T.cl_Rule, T.na_Rule_private, lkR_private, ?_⟩
          refine ⟨rfl, _, rfl, ?_⟩
          by_cases e4 : p = p'
          · subst e4
            simp only [decide_true, Bool.true_and] at q
            rw [decide_eq_true (show V.str p = V.str p from rfl)]
            refine iteT ?_
            refine ⟨_, rfl, _, _, _, _, _, rfl, ha, T.cl_Rule, T.na_Rule_hours, lkR_hours, ?_⟩
            refine ⟨_, rfl, _, _, _, _, _, rfl, hb, T.cl_Rule, T.na_Rule_hours, lkR_hours, ?_⟩
            refine ⟨_, _, dp_hours hh, dp_hours hh', shaped_h, shaped_h, ?_⟩
            rw [eqv_h]
            exact q
          · rw [decide_eq_false (fun e => e4 (V.str.inj e))]
            simp only [decide_eq_false e4, Bool.false_and] at q
            exact iteF q
        · rw [decide_eq_false (fun e => e3 (V.int.inj e))]
          simp only [decide_eq_false e3, Bool.false_and] at q
          exact iteF q
      · rw [decide_eq_false (fun e => e2 (V.int.inj e))]
        simp only [decide_eq_false e2, Bool.false_and] at q
        exact iteF q
    · rw [decide_eq_false (fun e => e1 (V.int.inj e))]
      simp only [decide_eq_false e1, Bool.false_and] at q
      exact iteF q
def sp_normal_parts (d : Ad) : Sp := fun vs H Q _ => ∃ (v : V) (s g l : Int) (p : Str) (o : Option (Int × Int)), vs = [v] ∧ IsRule d H v s g l p o ∧ RuleOk s g l p o ∧ Small s g l ∧
  ∀ a H', Same H H' → H' a = some (.tup [.int s, .int (normG s g), .int (normL s l), .str p]) → Q (.ref a) H'
theorem ok__normal_parts (T : Txt K mg d) : FnR P w K mg base CX0 9 d.f__normal_parts (sp_normal_parts d) := by
  refine mkR T.F__normal_parts sc__normal_parts (fun vs H Q E h => ?_) (fun _ _ _ _ _ _ us hl => match us, hl with | [_], _ => rfl) (fun cdv A outer s H vs Q E hr h => ?_)
  · obtain ⟨_, _, _, _, _, _, rfl, _⟩ := h
    rfl
  · obtain ⟨v, st, g, l, p, o, rfl, I, R, z, q⟩ := h
    refine ⟨_, (pss_cons (ps_set (i := 1) sc__normal_parts.nd rfl (by first | exact Or.inl rfl | exact Or.inr rfl) (pe_propR (pv 0) T.cl_Rule T.p_Rule_normal (ok_Rule_normal T) (hr.mono (by decide)) pass0)) (pss_one (ps_ret (pe_tup (pa_cons (pe_fld (pv 1) rfl) (pa_cons (pe_fld (pv 1) rfl) (pa_cons (pe_fld (pv 1) rfl) (pa_cons (pe_fld (pv 1) rfl) pa_nil)))))))), ?_⟩
    obtain ⟨a, dx, h, rfl, ha, hh⟩ := id I
    refine ⟨_, rfl, a, dx, _, rfl, ha, _, st, g, l, p, o, rfl, I, R, z, fun v' H' e I' => ?_⟩
    obtain ⟨b, dy, h', rfl, hb, hh'⟩ := I'
    refine ⟨_, rfl, _, _, _, _, _, rfl, hb, T.cl_Rule, T.na_Rule_step, lkR_step, ?_⟩
    refine ⟨_, rfl, _, _, _, _, _, rfl, hb, T.cl_Rule, T.na_Rule_gap, lkR_gap, ?_⟩
    refine ⟨_, rfl, _, _, _, _, _, rfl, hb, T.cl_Rule, T.na_Rule_least, lkR_least, ?_⟩
    refine ⟨_, rfl, _, _, _, _, _, rfl, hb, T.cl_Rule, T.na_Rule_private, lkR_private, ?_⟩
    refine ⟨by show 4 ≤ sizeLine; decide, fun t nt => ?_⟩
    exact q t _ (Same.new' e nt) upd_same
theorem word_of {p : Str} (h : inV (.str p) v_PRIVATE_WORDS = true) : p = "busy" ∨ p = "none" ∨ p = "apart" ∨ p = "one" := by
  simp only [inV, v_PRIVATE_WORDS, List.any_cons, List.any_nil, eqV, Bool.or_false, Bool.or_eq_true, beq_iff_eq] at h
  rcases h with h | h | h | h
  · exact .inl h.symm
  · exact .inr (.inl h.symm)
  · exact .inr (.inr (.inl h.symm))
  · exact .inr (.inr (.inr h.symm))
theorem ok_str {p : Str} (h : inV (.str p) v_PRIVATE_WORDS = true) : PyData.canLay0 (.str p) = true := by
  rcases word_of h with rfl | rfl | rfl | rfl <;> decide +kernel
theorem shaped_parts {a b c : Int} {p : Str} (h : inV (.str p) v_PRIVATE_WORDS = true) : SeqAt.shaped (.tuple [.int a, .int b, .int c, .str p]) = true := by
  have e := ok_str h
  unfold SeqAt.shaped
  rw [Bool.and_eq_true_iff]
  refine ⟨?_, rfl⟩
  show (PyData.canLay0 (.int a) && (PyData.canLay0 (.int b) && (PyData.canLay0 (.int c) && (PyData.canLay0 (.str p) && PyData.canLayAll0 [])))) = true
  rw [e]
  rfl
def sp_alike (d : Ad) : Sp := fun vs H Q _ => ∃ (v v' : V) (s g l s' g' l' : Int) (p p' : Str) (o o' : Option (Int × Int)), vs = [v, v'] ∧ IsRule d H v s g l p o ∧ IsRule d H v' s' g' l' p' o' ∧ RuleOk s g l p o ∧ RuleOk s' g' l' p' o' ∧ Small s g l ∧ Small s' g' l' ∧
  ∀ H', Same H H' → Q (.bl (decide (s = s' ∧ normG s g = normG s' g' ∧ normL s l = normL s' l' ∧ p = p'))) H'
theorem ok_alike (T : Txt K mg d) : FnR P w K mg base CX0 10 d.f_alike (sp_alike d) := by
  refine mkR T.F_alike sc_alike (fun vs H Q E h => ?_) (fun _ _ _ _ _ _ us hl => match us, hl with | [_, _], _ => rfl) (fun cdv A outer s H vs Q E hr h => ?_)
  · obtain ⟨_, _, _, _, _, _, _, _, _, _, _, _, rfl, _⟩ := h
    rfl
  · obtain ⟨v, v', st, g, l, s', g', l', p, p', o, o', rfl, I, I', R, R', z, z', q⟩ := h
    have hu := hr.units
    refine ⟨_, (pss_one (ps_ret (pe_cmpR (op_eqD hu) (pe_callR (ok__normal_parts T) (hr.mono (by decide)) rfl T.m__normal_parts T.k__normal_parts pass0 (pa_cons (pv 0) pa_nil)) (pe_callR (ok__normal_parts T) (hr.mono (by decide)) rfl T.m__normal_parts T.k__normal_parts pass0 (pa_cons (pv 1) pa_nil)) (nomark _)))), ?_⟩
    refine ⟨_, rfl, v, st, g, l, p, o, rfl, I, R, z, fun a H1 e1 ha => ?_⟩
    refine ⟨_, rfl, v', s', g', l', p', o', rfl, I'.mono e1, R', z', fun b H2 e2 hb => ?_⟩
    refine ⟨.tuple [.int st, .int (normG st g), .int (normL st l), .str p], .tuple [.int s', .int (normG s' g'), .int (normL s' l'), .str p'],
      .tup (.inl (.inl (e2 _ _ ha))) (.cons (.int _) (.cons (.int _) (.cons (.int _) (.cons (.str _) .nil)))), .tup (.inl (.inl hb)) (.cons (.int _) (.cons (.int _) (.cons (.int _) (.cons (.str _) .nil)))), shaped_parts R.p, shaped_parts R'.p, ?_⟩
    have e : PyData.eqv (.tuple [.int st, .int (normG st g), .int (normL st l), .str p]) (.tuple [.int s', .int (normG s' g'), .int (normL s' l'), .str p']) = decide (st = s' ∧ normG st g = normG s' g' ∧ normL st l = normL s' l' ∧ p = p') := by
      rw [Bool.eq_iff_iff]
      simp [PyData.eqv, PyData.eqvAll]
    rw [e]
    exact q H2 (e1.trans e2)
end
end DD

set_option Elab.async false
set_option linter.all false
set_option maxRecDepth 100000
set_option maxHeartbeats 2000000
namespace DD
open PySem PySem.Spec PyProof.Rows L2 StX
/-! ### [e for x in tuple for y in range(..)] -/
section
variable {K : PySem.W.Frag} {σ : L2.St} {vs vs1 : List Nat} {g g1 : TG} {tt tt1 : TT} {te : TE} {wi1 : TI}
theorem lc2_tup {a : Addr} {xs : List V} {H1 : Hp} {D : Addr} {Qd : Hp → Prop} (Pv : Nat → Hp → Prop) (h0 : Pv 0 (upd H1 D (.lst []))) (hl : ∀ i H, i ≤ xs.length → Pv i H → SqT K H a xs)
    (hs : ∀ i x H, xs[i]? = some x → Pv i H → g x (wipe σ vs) H fun σ2 H2 => wipe σ2 vs = wipe σ vs ∧ tt σ2 H2 fun b H3 =>
      if b = true then wi1 σ2 H3 fun J1 H4 => ∃ W1 : Nat → Nat → Hp → Prop, (∃ m, W1 0 m H4) ∧ ∀ j k H, W1 j k H →
        (J1.stop j H ∧ Pv (i + 1) H) ∨ (J1.go j H ∧ ∃ Nx1 : Hp → Prop, (∀ H', Nx1 H' → ∃ k', k' < k ∧ W1 (j + 1) k' H') ∧ ∀ x H', J1.yld j H x H' → g1 x (wipe σ2 vs1) H' fun σ3 H5 => wipe σ3 vs1 = wipe σ2 vs1 ∧ tt1 σ3 H5 fun b H6 =>
          if b = true then te σ3 H6 fun y H7 => ∃ acc, H7 D = some (.lst acc) ∧ acc.length < sizeLine ∧ Nx1 (upd H7 D (.lst (acc ++ [y]))) else Nx1 H6)
      else Pv (i + 1) H3) (hd : ∀ H, Pv xs.length H → Qd H) :
    ∃ W : Nat → Nat → Hp → Prop, (∃ m, W 0 m (upd H1 D (.lst []))) ∧ ∀ i m H, W i m H →
      ((Itt K a).stop i H ∧ Qd H) ∨ ((Itt K a).go i H ∧ ∃ Nx : Hp → Prop, (∀ H', Nx H' → ∃ m', m' < m ∧ W (i + 1) m' H') ∧ ∀ x H', (Itt K a).yld i H x H' → g x (wipe σ vs) H' fun σ2 H2 => wipe σ2 vs = wipe σ vs ∧ tt σ2 H2 fun b H3 =>
        if b = true then wi1 σ2 H3 fun J1 H4 => ∃ W1 : Nat → Nat → Hp → Prop, (∃ m, W1 0 m H4) ∧ ∀ j k H, W1 j k H →
          (J1.stop j H ∧ Nx H) ∨ (J1.go j H ∧ ∃ Nx1 : Hp → Prop, (∀ H', Nx1 H' → ∃ k', k' < k ∧ W1 (j + 1) k' H') ∧ ∀ x H', J1.yld j H x H' → g1 x (wipe σ2 vs1) H' fun σ3 H5 => wipe σ3 vs1 = wipe σ2 vs1 ∧ tt1 σ3 H5 fun b H6 =>
            if b = true then te σ3 H6 fun y H7 => ∃ acc, H7 D = some (.lst acc) ∧ acc.length < sizeLine ∧ Nx1 (upd H7 D (.lst (acc ++ [y]))) else Nx1 H6)
        else Nx H3) := by
  refine ⟨fun i m H => m = xs.length - i ∧ i ≤ xs.length ∧ Pv i H, ⟨xs.length, by simp, Nat.zero_le _, h0⟩, ?_⟩
  rintro i m H ⟨rfl, hi, p⟩
  have q := hl i H hi p
  by_cases hlt : i < xs.length
  · refine .inr ⟨⟨xs, xs[i], q, by simp [hlt]⟩, Pv (i + 1), fun H' p' => ⟨xs.length - (i + 1), by omega, rfl, hlt, p'⟩, fun x H' y => ?_⟩
    obtain ⟨e, y⟩ := y
    subst e
    exact hs i x _ (y xs q) p
  · have e : i = xs.length := by omega
    subst e
    exact .inl ⟨⟨xs, q, Nat.le_refl _⟩, hd H p⟩
theorem in_range {lo : Int} {n : Nat} {H4 : Hp} {D : Addr} {Qd : Hp → Prop} (Pv : Nat → Hp → Prop) (h0 : Pv 0 H4)
    (hs : ∀ j H, j < n → Pv j H → g1 (.int (lo + j)) (wipe σ vs1) H fun σ3 H5 => wipe σ3 vs1 = wipe σ vs1 ∧ tt1 σ3 H5 fun b H6 =>
      if b = true then te σ3 H6 fun y H7 => ∃ acc, H7 D = some (.lst acc) ∧ acc.length < sizeLine ∧ Pv (j + 1) (upd H7 D (.lst (acc ++ [y]))) else Pv (j + 1) H6) (hd : ∀ H, Pv n H → Qd H) :
    ∃ W1 : Nat → Nat → Hp → Prop, (∃ m, W1 0 m H4) ∧ ∀ j k H, W1 j k H →
      ((Itr lo n).stop j H ∧ Qd H) ∨ ((Itr lo n).go j H ∧ ∃ Nx1 : Hp → Prop, (∀ H', Nx1 H' → ∃ k', k' < k ∧ W1 (j + 1) k' H') ∧ ∀ x H', (Itr lo n).yld j H x H' → g1 x (wipe σ vs1) H' fun σ3 H5 => wipe σ3 vs1 = wipe σ vs1 ∧ tt1 σ3 H5 fun b H6 =>
        if b = true then te σ3 H6 fun y H7 => ∃ acc, H7 D = some (.lst acc) ∧ acc.length < sizeLine ∧ Nx1 (upd H7 D (.lst (acc ++ [y]))) else Nx1 H6) := by
  refine ⟨fun j k H => k = n - j ∧ j ≤ n ∧ Pv j H, ⟨n, by simp, Nat.zero_le _, h0⟩, ?_⟩
  rintro j k H ⟨rfl, hj, p⟩
  by_cases hlt : j < n
  · refine .inr ⟨hlt, Pv (j + 1), fun H' p' => ⟨n - (j + 1), by omega, rfl, hlt, p'⟩, fun x H' y => ?_⟩
    obtain ⟨e, y⟩ := y
    subst e y
    exact hs j _ hlt p
  · have e : j = n := by omega
    subst e
    exact .inl ⟨Nat.le_refl _, hd H p⟩
end
/-! ### meetings -/
abbrev Mt := Int × Int × Bool
def mtV (m : Mt) : List V := [.int m.1, .int m.2.1, .bl m.2.2]
def IsMt (H : Hp) (v : V) (m : Mt) : Prop := ∃ a, v = .ref a ∧ H a = some (.tup (mtV m))
def IsMts (H : Hp) (vs : List V) (ms : List Mt) : Prop := vs.length = ms.length ∧ ∀ (i : Nat) v m, vs[i]? = some v → ms[i]? = some m → IsMt H v m
theorem IsMt.mono {H H' : Hp} {v : V} {m : Mt} (e : Same H H') (x : IsMt H v m) : IsMt H' v m := by
  obtain ⟨a, e1, e2⟩ := x
  exact ⟨a, e1, e _ _ e2⟩
theorem IsMts.mono {H H' : Hp} {vs : List V} {ms : List Mt} (e : Same H H') (x : IsMts H vs ms) : IsMts H' vs ms := ⟨x.1, fun i v m h1 h2 => (x.2 i v m h1 h2).mono e⟩
theorem IsMts.nil {H : Hp} : IsMts H [] [] := ⟨rfl, fun i v m h => by simp at h⟩
theorem IsMts.cons {H : Hp} {v : V} {m : Mt} {vs : List V} {ms : List Mt} (x : IsMt H v m) (xs : IsMts H vs ms) : IsMts H (v :: vs) (m :: ms) := by
  refine ⟨by simp [xs.1], fun i v' m' h1 h2 => ?_⟩
  cases i with
  | zero =>
    simp at h1 h2
    subst h1 h2
    exact x
  | succ i =>
    simp at h1 h2
    exact xs.2 i v' m' h1 h2
theorem IsMts.get {H : Hp} {vs : List V} {ms : List Mt} (x : IsMts H vs ms) {i : Nat} {v : V} (h : vs[i]? = some v) : ∃ m, ms[i]? = some m ∧ IsMt H v m := by
  have hi : i < ms.length := by rw [← x.1]; exact (List.getElem?_eq_some_iff.mp h).1
  exact ⟨ms[i], List.getElem?_eq_getElem hi, x.2 i v _ h (List.getElem?_eq_getElem hi)⟩
theorem IsMts.take {H : Hp} {vs : List V} {ms : List Mt} (x : IsMts H vs ms) (n : Nat) : IsMts H (vs.take n) (ms.take n) := by
  refine ⟨by simp [x.1], fun i v m h1 h2 => ?_⟩
  rw [List.getElem?_take] at h1 h2
  split at h1
  · rename_i hi
    rw [if_pos hi] at h2
    exact x.2 i v m h1 h2
  · cases h1
theorem IsMts.drop {H : Hp} {vs : List V} {ms : List Mt} (x : IsMts H vs ms) (n : Nat) : IsMts H (vs.drop n) (ms.drop n) := by
  refine ⟨by simp [x.1], fun i v m h1 h2 => ?_⟩
  rw [List.getElem?_drop] at h1 h2
  exact x.2 _ v m h1 h2
theorem IsMts.append {H : Hp} {vs ws : List V} {ms ns : List Mt} (x : IsMts H vs ms) (y : IsMts H ws ns) : IsMts H (vs ++ ws) (ms ++ ns) := by
  refine ⟨by simp [x.1, y.1], fun i v m h1 h2 => ?_⟩
  by_cases hi : i < vs.length
  · rw [List.getElem?_append_left hi] at h1
    rw [List.getElem?_append_left (by rw [← x.1]; exact hi)] at h2
    exact x.2 i v m h1 h2
  · rw [List.getElem?_append_right (by omega)] at h1
    rw [List.getElem?_append_right (by rw [← x.1]; omega), ← x.1] at h2
    exact y.2 _ v m h1 h2
def mtOk (m : Mt) : Bool := decide (0 ≤ m.1) && decide (0 ≤ m.2.1) && decide (m.1 < m.2.1)
/-- meetings from ahead on that a day of n ticks can have -/
def good (n : Int) : Int → List Mt → Bool
  | _, [] => true
  | ahead, m :: ms => mtOk m && !decide (m.1 < ahead) && !decide (n < m.2.1) && good n m.2.1 ms
theorem good_len {n : Int} : ∀ {a : Int} {ms : List Mt}, good n a ms = true → a ≤ n → (ms.length : Int) ≤ n - a
  | a, [], _, h => by simp; omega
  | a, m :: ms, h, ha => by
    simp only [good, mtOk, Bool.and_eq_true, Bool.not_eq_true', decide_eq_true_eq, decide_eq_false_iff_not] at h
    have ih := good_len (n := n) (a := m.2.1) (ms := ms) h.2 (by omega)
    simp only [List.length_cons, Int.natCast_add, Int.natCast_one]
    omega
section
variable {P : Program} {w : World} {K : PySem.W.Frag} {mg : Str → Option Value} {base : Heap} {d : Ad}
def sp_is_meeting : Sp := fun vs H Q _ => ∃ v m, vs = [v] ∧ IsMt H v m ∧ Q (.bl (mtOk m)) H
theorem ok__is_meeting (T : Txt K mg d) : FnR P w K mg base CX0 3 d.f__is_meeting sp_is_meeting := by
  refine mkR T.F__is_meeting sc__is_meeting (fun vs H Q E h => ?_) (fun _ _ _ _ _ _ us hl => match us, hl with | [_], _ => rfl) (fun cdv A outer s H vs Q E hr h => ?_)
  · obtain ⟨_, _, rfl, _⟩ := h
    rfl
  · obtain ⟨v, ⟨b, e, p⟩, rfl, ⟨a, rfl, ha⟩, q⟩ := h
    refine ⟨_, (pss_cons (ps_if (PW.pt (pw_or (pt_not (pt_val (pe_callB call_isi (by rfl) T.b_isinstance (by decide +kernel) (pa_cons (pv 0) (pa_cons (pe_bltn (v := .ty "tuple") rfl T.b_tuple (by decide +kernel) rfl) pa_nil))))) (pw_or1 (pt_cmpR op_ne (pe_callB call_len_seq (by rfl) T.b_len PySem.boot_len (pa_cons (pv 0) pa_nil)) pe_int (nomark _))))) (pss_one (ps_ret pe_bl)) pss_nil) (pss_cons (ps_asg (pv 0) (pg_tup rfl (pgs_cons (pg_name (i := 1) sc__is_meeting.nd rfl (by first | exact Or.inl rfl | exact Or.inr rfl)) (pgs_cons (pg_name (i := 2) sc__is_meeting.nd rfl (by first | exact Or.inl rfl | exact Or.inr rfl)) (pgs_cons (pg_name (i := 3) sc__is_meeting.nd rfl (by first | exact Or.inl rfl | exact Or.inr rfl)) pgs_nil))))) (pss_one (ps_ret (pe_and (pe_callR (ok_is_number T) (hr.mono (by decide)) rfl T.m_is_number T.k_is_number pass0 (pa_cons (pv 1) pa_nil)) (pe_and (pe_callR (ok_is_number T) (hr.mono (by decide)) rfl T.m_is_number T.k_is_number pass0 (pa_cons (pv 2) pa_nil)) (pe_and (pe_callB call_isi (by rfl) T.b_isinstance (by decide +kernel) (pa_cons (pv 3) (pa_cons (pe_bltn (v := .ty "bool") rfl T.b_bool (by decide +kernel) rfl) pa_nil))) (pe_one (pe_cmpR op_lt (pv 1) (pv 2) (nomark _)))))))))), ?_⟩
    refine ⟨_, rfl, _, .ty "tuple", _, _, true, rfl, .ty _, .base (.tup ha), kit_ty (by decide +kernel), true, rfl, ?_⟩
    refine ⟨_, rfl, a, _, rfl, .inr (.inl (.inl ha)), rfl, false, rfl, ?_⟩
    refine ⟨_, rfl, a, _, rfl, .inl (.inl ha), rfl, _, _, rfl, _, _, rfl, _, _, rfl, rfl, ?_⟩
    have e0 : mtOk (b, e, p) = (decide (0 ≤ b) && decide (0 ≤ e) && decide (b < e)) := rfl
    rw [e0] at q
    refine ⟨_, rfl, .inl ⟨b, rfl, ?_⟩⟩
    refine ⟨_, rfl, ?_⟩
    by_cases hb : 0 ≤ b
    · rw [decide_eq_true hb] at q ⊢
      refine iteT ⟨_, rfl, .inl ⟨e, rfl, ?_⟩⟩
      refine ⟨_, rfl, ?_⟩
      by_cases he : 0 ≤ e
      · rw [decide_eq_true he] at q ⊢
        refine iteT ⟨_, rfl, _, .ty "bool", _, _, true, rfl, .ty _, .base (.bl p), kit_ty (by decide +kernel), ?_⟩
        refine ⟨_, rfl, iteT ?_⟩
        exact ⟨_, rfl, _, rfl, b, e, rfl, rfl, q⟩
      · rw [decide_eq_false he] at q ⊢
        exact iteF q
    · rw [decide_eq_false hb] at q ⊢
      exact iteF q
def sp_is_sequence (K : PySem.W.Frag) : Sp := fun vs H Q _ => ∃ x t b, vs = [x] ∧ (∀ H', Same H H' → TyX K H' x t) ∧ PySem.W.kitAny K t [.type "list", .type "tuple"] = some b ∧ ∀ H', Same H H' → Q (.bl b) H'
theorem ok_is_sequence (T : Txt K mg d) : FnR P w K mg base CX0 1 d.f_is_sequence (sp_is_sequence K) := by
  refine mkR T.F_is_sequence sc_is_sequence (fun vs H Q E h => ?_) (fun _ _ _ _ _ _ us hl => match us, hl with | [_], _ => rfl) (fun cdv A outer s H vs Q E hr h => ?_)
  · obtain ⟨_, _, _, rfl, _⟩ := h
    rfl
  · obtain ⟨x, t, b, rfl, ty, k, q⟩ := h
    refine ⟨_, (pss_one (ps_ret (pe_callB call_isiT (by rfl) T.b_isinstance (by decide +kernel) (pa_cons (pv 0) (pa_cons (pe_tup (pa_cons (pe_bltn (v := .ty "list") rfl T.b_list (by decide +kernel) rfl) (pa_cons (pe_bltn (v := .ty "tuple") rfl T.b_tuple (by decide +kernel) rfl) pa_nil))) pa_nil))))), ?_⟩
    refine ⟨_, rfl, (by show 2 ≤ sizeLine; decide), fun p np => ?_⟩
    have s1 : Same H (upd H p (.tup [.ty "list", .ty "tuple"])) := Same.new np
    exact ⟨x, p, [.ty "list", .ty "tuple"], t, _, b, rfl, upd_same, .cons (.ty _) (.cons (.ty _) .nil), ty _ s1, k, q _ s1⟩
theorem any_list : PySem.W.kitAny K (.type "list") [.type "list", .type "tuple"] = some true := kitAny_cons (b := true) (kit_ty (by decide +kernel)) (fun h => nomatch h) fun _ => rfl
theorem any_tuple : PySem.W.kitAny K (.type "tuple") [.type "list", .type "tuple"] = some true := kitAny_cons (b := false) (kit_ty (by decide +kernel)) (fun _ => kitAny_cons (b := true) (kit_ty (by decide +kernel)) (fun h => nomatch h) fun _ => rfl) fun h => nomatch h
/-- a list or tuple of meetings -/
def MtsV (K : PySem.W.Frag) (H : Hp) (v : V) (ms : List Mt) : Prop := ∃ a vs, v = .ref a ∧ (SqL K H a vs ∨ SqT K H a vs) ∧ IsMts H vs ms
theorem MtsV.mono {H H' : Hp} {v : V} {ms : List Mt} (e : Same H H') (x : MtsV K H v ms) : MtsV K H' v ms := by
  obtain ⟨a, vs, e1, e2, e3⟩ := x
  exact ⟨a, vs, e1, e2.imp e.seq (Same.tup e), e3.mono e⟩
theorem ty_sql {H : Hp} {a : Addr} {vs : List V} (h : SqL K H a vs) : TyX K H (.ref a) (.type "list") := by
  rcases h with (h | ⟨o, h⟩) | ⟨o, _, _, h, c, _⟩
  · exact .base (.lst h)
  · exact .base (.frz h)
  · exact .kList h c
theorem ty_sqt {H : Hp} {a : Addr} {vs : List V} (h : SqT K H a vs) : TyX K H (.ref a) (.type "tuple") := by
  rcases h with (h | ⟨o, h⟩) | ⟨o, _, _, h, c, _⟩
  · exact .base (.tup h)
  · exact .fTuple h
  · exact .kTuple h c
def sp_are_meetings (K : PySem.W.Frag) : Sp := fun vs H Q _ => ∃ (v : V) (n : Int) (ms : List Mt), vs = [v, .int n] ∧ MtsV K H v ms ∧ ∀ H', Same H H' → Q (.bl (good n 0 ms)) H'
/-- the end of the meeting ahead of the i-th -/
def aheadOf (ms : List Mt) (i : Nat) : Int := match i with
  | 0 => 0
  | i + 1 => match ms[i]? with | some m => m.2.1 | none => 0
theorem ok__are_meetings (T : Txt K mg d) : FnR P w K mg base CX0 4 d.f__are_meetings (sp_are_meetings K) := by
  refine mkR T.F__are_meetings sc__are_meetings (fun vs H Q E h => ?_) (fun _ _ _ _ _ _ us hl => match us, hl with | [_, _], _ => rfl) (fun cdv A outer s H vs Q E hr h => ?_)
  · obtain ⟨_, _, _, rfl, _⟩ := h
    rfl
  · obtain ⟨v, n, ms, rfl, ⟨a, vs, rfl, hv, hm⟩, q⟩ := h
    rcases hv with hv | hv
    · refine ⟨_, (pss_cons (ps_if (pt_not (pt_val (pe_callR (ok_is_sequence T) (hr.mono (by decide)) rfl T.m_is_sequence T.k_is_sequence pass0 (pa_cons (pv 0) pa_nil)))) (pss_one (ps_ret pe_bl)) pss_nil) (pss_cons (ps_set (i := 2) sc__are_meetings.nd rfl (by first | exact Or.inl rfl | exact Or.inr rfl) pe_int) (pss_cons (ps_for PassesOwn.never rfl (pi_list (pv 0)) (pg_name (i := 3) sc__are_meetings.nd rfl (by first | exact Or.inl rfl | exact Or.inr rfl)) (pss_cons (ps_if (PW.pt (pw_or (pt_not (pt_val (pe_callR (ok__is_meeting T) (hr.mono (by decide)) rfl T.m__is_meeting T.k__is_meeting pass0 (pa_cons (pv 3) pa_nil)))) (pw_or (pt_cmpR op_lt (pe_ix ix_tup (pv 3) pe_int (fun _ _ => rfl)) (pv 2) (nomark _)) (pw_or1 (pt_cmpR op_gt (pe_ix ix_tup (pv 3) pe_int (fun _ _ => rfl)) (pv 1) (nomark _)))))) (pss_one (ps_ret pe_bl)) pss_nil) (pss_one (ps_set (i := 2) sc__are_meetings.nd rfl (by first | exact Or.inl rfl | exact Or.inr rfl) (pe_ix ix_tup (pv 3) pe_int (fun _ _ => rfl)))))) (pss_one (ps_ret pe_bl))))), ?_⟩
      refine ⟨_, rfl, _, _, true, rfl, fun H' e => ty_sql (e.seq hv), any_list, fun H1 s1 => ?_⟩
      refine ⟨_, rfl, iteF ?_⟩
      have Pv0 : Same H H1 ∧ good n (aheadOf ms 0) (ms.drop 0) = good n 0 ms := ⟨s1, rfl⟩
      refine ⟨_, rfl, a, rfl, ⟨vs, s1.seq hv⟩, for_list (K := K) (a := a) (xs := vs) (fun i σ H2 => ∃ x, σ = [some (.ref a), some (.int n), some (.int (aheadOf ms i)), x] ∧ Same H H2 ∧ good n (aheadOf ms i) (ms.drop i) = good n 0 ms)
        ⟨none, rfl, Pv0⟩ (fun i σ H2 _ ⟨_, _, s2, _⟩ => s2.seq hv) ?_ ?_⟩
      · rintro i x σ H2 hx ⟨x0, rfl, s2, g⟩
        obtain ⟨m, hm1, hm2⟩ := hm.get hx
        have hil : i < ms.length := (List.getElem?_eq_some_iff.mp hm1).1
        have hd : ms.drop i = m :: ms.drop (i + 1) := by
          rw [List.drop_eq_getElem_cons hil]
          rw [List.getElem?_eq_getElem hil] at hm1
          rw [Option.some.inj hm1]
        rw [hd] at g
        have hah : aheadOf ms (i + 1) = m.2.1 := by simp [aheadOf, hm1]
        have m2 := hm2.mono s2
        obtain ⟨b, rfl, hb⟩ := id m2
        refine ⟨_, rfl, _, m, rfl, m2, ?_⟩
        refine ⟨_, rfl, ?_⟩
        have eg : good n (aheadOf ms i) (m :: ms.drop (i + 1)) = (mtOk m && !decide (m.1 < aheadOf ms i) && !decide (n < m.2.1) && good n m.2.1 (ms.drop (i + 1))) := rfl
        rw [eg] at g
        cases ho : mtOk m with
        | false =>
          refine iteT (iteT ?_)
          rw [ho] at g
          have q2 := q H2 s2
          rw [← g] at q2
          exact q2
        | true =>
          refine iteF ?_
          rw [ho] at g
          refine ⟨_, rfl, b, _, _, _, rfl, rfl, .inl (.inl hb), atI_nat (j := 0) rfl, _, rfl, _, _, rfl, rfl, _, rfl, ?_⟩
          by_cases c1 : m.1 < aheadOf ms i
          · rw [decide_eq_true c1] at g ⊢
            refine iteT (iteT ?_)
            have q2 := q H2 s2
            rw [← g] at q2
            exact q2
          · rw [decide_eq_false c1] at g ⊢
            refine iteF ?_
            refine ⟨_, rfl, b, _, _, _, rfl, rfl, .inl (.inl hb), atI_nat (j := 1) rfl, _, rfl, _, _, rfl, rfl, _, rfl, ?_⟩
            by_cases c2 : n < m.2.1
            · rw [decide_eq_true c2] at g ⊢
              refine iteT ?_
              have q2 := q H2 s2
              rw [← g] at q2
              exact q2
            · rw [decide_eq_false c2] at g ⊢
              refine iteF ?_
              refine ⟨_, rfl, b, _, _, _, rfl, rfl, .inl (.inl hb), atI_nat (j := 1) rfl, ?_⟩
              refine ⟨some (.ref b), ?_, s2, ?_⟩
              · rw [hah]
                rfl
              · rw [hah]
                exact g
      · rintro σ H2 ⟨x, rfl, s2, g⟩
        have q2 := q H2 s2
        rw [hm.1, List.drop_length] at g
        rw [← g] at q2
        exact q2
    · refine ⟨_, (pss_cons (ps_if (pt_not (pt_val (pe_callR (ok_is_sequence T) (hr.mono (by decide)) rfl T.m_is_sequence T.k_is_sequence pass0 (pa_cons (pv 0) pa_nil)))) (pss_one (ps_ret pe_bl)) pss_nil) (pss_cons (ps_set (i := 2) sc__are_meetings.nd rfl (by first | exact Or.inl rfl | exact Or.inr rfl) pe_int) (pss_cons (ps_for PassesOwn.never rfl (pi_tup (pv 0)) (pg_name (i := 3) sc__are_meetings.nd rfl (by first | exact Or.inl rfl | exact Or.inr rfl)) (pss_cons (ps_if (PW.pt (pw_or (pt_not (pt_val (pe_callR (ok__is_meeting T) (hr.mono (by decide)) rfl T.m__is_meeting T.k__is_meeting pass0 (pa_cons (pv 3) pa_nil)))) (pw_or (pt_cmpR op_lt (pe_ix ix_tup (pv 3) pe_int (fun _ _ => rfl)) (pv 2) (nomark _)) (pw_or1 (pt_cmpR op_gt (pe_ix ix_tup (pv 3) pe_int (fun _ _ => rfl)) (pv 1) (nomark _)))))) (pss_one (ps_ret pe_bl)) pss_nil) (pss_one (ps_set (i := 2) sc__are_meetings.nd rfl (by first | exact Or.inl rfl | exact Or.inr rfl) (pe_ix ix_tup (pv 3) pe_int (fun _ _ => rfl)))))) (pss_one (ps_ret pe_bl))))), ?_⟩
      refine ⟨_, rfl, _, _, true, rfl, fun H' e => ty_sqt (Same.tup e hv), any_tuple, fun H1 s1 => ?_⟩
      refine ⟨_, rfl, iteF ?_⟩
      have Pv0 : Same H H1 ∧ good n (aheadOf ms 0) (ms.drop 0) = good n 0 ms := ⟨s1, rfl⟩
      refine ⟨_, rfl, a, rfl, ⟨vs, Same.tup s1 hv⟩, for_tup (K := K) (a := a) (xs := vs) (fun i σ H2 => ∃ x, σ = [some (.ref a), some (.int n), some (.int (aheadOf ms i)), x] ∧ Same H H2 ∧ good n (aheadOf ms i) (ms.drop i) = good n 0 ms)
        ⟨none, rfl, Pv0⟩ (fun i σ H2 _ ⟨_, _, s2, _⟩ => Same.tup s2 hv) ?_ ?_⟩
      · rintro i x σ H2 hx ⟨x0, rfl, s2, g⟩
        obtain ⟨m, hm1, hm2⟩ := hm.get hx
        have hil : i < ms.length := (List.getElem?_eq_some_iff.mp hm1).1
        have hd : ms.drop i = m :: ms.drop (i + 1) := by
          rw [List.drop_eq_getElem_cons hil]
          rw [List.getElem?_eq_getElem hil] at hm1
          rw [Option.some.inj hm1]
        rw [hd] at g
        have hah : aheadOf ms (i + 1) = m.2.1 := by simp [aheadOf, hm1]
        have m2 := hm2.mono s2
        obtain ⟨b, rfl, hb⟩ := id m2
        refine ⟨_, rfl, _, m, rfl, m2, ?_⟩
        refine ⟨_, rfl, ?_⟩
        have eg : good n (aheadOf ms i) (m :: ms.drop (i + 1)) = (mtOk m && !decide (m.1 < aheadOf ms i) && !decide (n < m.2.1) && good n m.2.1 (ms.drop (i + 1))) := rfl
        rw [eg] at g
        cases ho : mtOk m with
        | false =>
          refine iteT (iteT ?_)
          rw [ho] at g
          have q2 := q H2 s2
          rw [← g] at q2
          exact q2
        | true =>
          refine iteF ?_
          rw [ho] at g
          refine ⟨_, rfl, b, _, _, _, rfl, rfl, .inl (.inl hb), atI_nat (j := 0) rfl, _, rfl, _, _, rfl, rfl, _, rfl, ?_⟩
          by_cases c1 : m.1 < aheadOf ms i
          · rw [decide_eq_true c1] at g ⊢
            refine iteT (iteT ?_)
            have q2 := q H2 s2
            rw [← g] at q2
            exact q2
          · rw [decide_eq_false c1] at g ⊢
            refine iteF ?_
            refine ⟨_, rfl, b, _, _, _, rfl, rfl, .inl (.inl hb), atI_nat (j := 1) rfl, _, rfl, _, _, rfl, rfl, _, rfl, ?_⟩
            by_cases c2 : n < m.2.1
            · rw [decide_eq_true c2] at g ⊢
              refine iteT ?_
              have q2 := q H2 s2
              rw [← g] at q2
              exact q2
            · rw [decide_eq_false c2] at g ⊢
              refine iteF ?_
              refine ⟨_, rfl, b, _, _, _, rfl, rfl, .inl (.inl hb), atI_nat (j := 1) rfl, ?_⟩
              refine ⟨some (.ref b), ?_, s2, ?_⟩
              · rw [hah]
                rfl
              · rw [hah]
                exact g
      · rintro σ H2 ⟨x, rfl, s2, g⟩
        have q2 := q H2 s2
        rw [hm.1, List.drop_length] at g
        rw [← g] at q2
        exact q2
end
end DD

set_option Elab.async false
set_option linter.all false
set_option maxRecDepth 100000
set_option maxHeartbeats 2000000
namespace DD
open PySem PySem.Spec PyProof.Rows L2 StX
section
variable {P : Program} {w : World} {K : PySem.W.Frag} {mg : Str → Option Value} {base : Heap} {d : Ad}
/-! ### days -/
def flD (n : Int) (t : V) : List (Str × V) := [("length", .int n), ("meetings", t)]
theorem fd2 {a b : V} : putF "meetings" b ([("length", a)] : List (Str × V)) = ([("length", a), ("meetings", b)] : List (Str × V)) := putF_new (ks := ["length"]) rfl (by decide +kernel)
theorem lkD_length {n : Int} {t : V} : (flD n t).lookup ("length" : Str) = some (V.int n) := look_at rfl (by decide +kernel : (["length", "meetings"] : List Str).findIdx? (· == ("length" : Str)) = some 0) rfl
theorem lkD_meetings {n : Int} {t : V} : (flD n t).lookup ("meetings" : Str) = some t := look_at rfl (by decide +kernel : (["length", "meetings"] : List Str).findIdx? (· == ("meetings" : Str)) = some 1) rfl
def IsDay (d : Ad) (K : PySem.W.Frag) (H : Hp) (v : V) (n : Int) (ms : List Mt) : Prop := ∃ a dx t vs, v = .ref a ∧ H a = some (.ins d.C_Day dx (flD n (.ref t))) ∧ SqT K H t vs ∧ IsMts H vs ms
theorem IsDay.mono {H H' : Hp} {v : V} {n : Int} {ms : List Mt} (e : Same H H') (x : IsDay d K H v n ms) : IsDay d K H' v n ms := by
  obtain ⟨a, dx, t, vs, e1, e2, e3, e4⟩ := x
  exact ⟨a, dx, t, vs, e1, e _ _ e2, Same.tup e e3, e4.mono e⟩
/-- a day's length and meetings that are right -/
structure DayOk (n : Int) (ms : List Mt) : Prop where
  lo : 1 ≤ n
  hi : n ≤ 1000
  g : good n 0 ms = true
def sp_Day_init (d : Ad) (K : PySem.W.Frag) : Sp := fun vs H Q _ => ∃ (x dx : Addr) (n : Int) (v : V) (ms : List Mt), vs = [.ref x, .int n, v] ∧ H x = some (.ins d.C_Day dx []) ∧ MtsV K H v ms ∧ DayOk n ms ∧
  ∀ H' t ws, (∀ b u, H b = some u → b ≠ x → H' b = some u) → H' x = some (.ins d.C_Day dx (flD n (.ref t))) → SqT K H' t ws → IsMts H' ws ms → Q .non H'
/-- a sequence is not the instance that changes -/
theorem off_l {H1 H2 : Hp} {x a C dx : Addr} {fs : List (Str × V)} {ws : List V} (h : SqL K H1 a ws) (hx : H1 x = some (.ins C dx fs)) (k : ∀ b u, H1 b = some u → b ≠ x → H2 b = some u) : SqL K H2 a ws := by
  rcases h with (h | ⟨o, h⟩) | h
  · exact .inl (.inl (k _ _ h (ne_of h hx (by intro z; cases z))))
  · exact .inl (.inr ⟨o, k _ _ h (ne_of h hx (by intro z; cases z))⟩)
  · exact .inr h
theorem off_t {H1 H2 : Hp} {x a C dx : Addr} {fs : List (Str × V)} {ws : List V} (h : SqT K H1 a ws) (hx : H1 x = some (.ins C dx fs)) (k : ∀ b u, H1 b = some u → b ≠ x → H2 b = some u) : SqT K H2 a ws := by
  rcases h with (h | ⟨o, h⟩) | h
  · exact .inl (.inl (k _ _ h (ne_of h hx (by intro z; cases z))))
  · exact .inl (.inr ⟨o, k _ _ h (ne_of h hx (by intro z; cases z))⟩)
  · exact .inr h
theorem body_Day_init (T : Txt K mg d) (cdv : Value) (A : Around) (outer : List Env) (s : Shared) (H : Hp) (vs : List V) (Q : VK) (E : XK) (hr : Room 4 (A.deeper (envOfC "Day.__init__" (defScope s_Day___init__) s.heap.objs.size d.f_Day___init__ cdv))) (h : sp_Day_init d K vs H Q E) :
    ∃ t, PSs (cxOf CX0 P w K mg base ["self", "length", "meetings"] "Day.__init__" (defScope s_Day___init__) d.f_Day___init__ cdv A outer s H E).nox (defBody s_Day___init__) t ∧ t { nx := fun _ H' => Q .non H', rt := Q } (start ["self", "length", "meetings"] vs) H := by
  obtain ⟨x, dx, n, v, ms, rfl, hx, hv, O, q⟩ := h
  refine ⟨_, (pss_cons (ps_if (pt_not (pt_val (pe_callR (ok_is_positive T) (hr.mono (by decide)) rfl T.m_is_positive T.k_is_positive pass0 (pa_cons (pv 1) pa_nil)))) (pss_one ps_dead) pss_nil) (pss_cons (ps_if (pt_not (pt_val (pe_callR (ok__are_meetings T) (hr.mono (by decide)) rfl T.m__are_meetings T.k__are_meetings pass0 (pa_cons (pv 2) (pa_cons (pv 1) pa_nil))))) (pss_one ps_dead) pss_nil) (pss_cons (ps_fld (pv 0) (pv 1) rfl) (pss_one (ps_fld (pv 0) (pe_callTy call_tuple_of rfl T.b_tuple (by decide +kernel) (pa_cons (pv 2) pa_nil)) rfl))))), ?_⟩
  refine ⟨_, rfl, .inl ⟨n, rfl, ?_⟩⟩
  refine ⟨_, rfl, ?_⟩
  rw [decide_eq_true O.lo]
  refine iteF ⟨_, rfl, _, rfl, v, n, ms, rfl, hv, fun H1 s1 => ?_⟩
  refine ⟨_, rfl, ?_⟩
  rw [O.g]
  refine iteF ?_
  refine ⟨_, rfl, _, rfl, x, _, dx, _, rfl, s1 _ _ hx, T.cl_Day, T.na_Day_length, (by show 0 < 1000; decide), ?_⟩
  obtain ⟨a, ws, rfl, hw, hm⟩ := hv.mono s1
  have hx1 := s1 _ _ hx
  have mts : ∀ {H2 : Hp}, (∀ b u, H1 b = some u → b ≠ x → H2 b = some u) → IsMts H2 ws ms := fun {H2} k => by
    refine ⟨hm.1, fun i v m h1 h2 => ?_⟩
    obtain ⟨p, e1, e2⟩ := hm.2 i v m h1 h2
    exact ⟨p, e1, k p _ e2 (ne_of e2 hx1 (by intro z; cases z))⟩
  rcases hw with hw | hw
  · refine ⟨_, rfl, a, ws, rfl, .inl ⟨off_l hw hx1 fun b u e hb => by rw [upd_ne hb]; exact e, fun l nl => ?_⟩⟩
    have hlx : x ≠ l := ne_of_none (H := upd H1 x (.ins d.C_Day dx (putF "length" (V.int n) []))) upd_same nl
    have k2 : ∀ b u, H1 b = some u → b ≠ x → b ≠ l := fun b u e hb => ne_of_none (H := upd H1 x (.ins d.C_Day dx (putF "length" (V.int n) []))) (by rw [upd_ne hb]; exact e) nl
    refine ⟨_, rfl, x, _, dx, _, rfl, (by rw [upd_ne hlx]; exact upd_same), T.cl_Day, T.na_Day_meetings, (by show 1 < 1000; decide), ?_⟩
    rw [show putF "length" (V.int n) [] = ([("length", V.int n)] : List (Str × V)) from rfl, fd2]
    have kp : ∀ (o : HO) (b : Addr) (u : HO), H1 b = some u → b ≠ x → upd (upd (upd H1 x (.ins d.C_Day dx (putF "length" (V.int n) []))) l (.tup ws)) x o b = some u := fun o b u e hb => by
      rw [upd_ne hb, upd_ne (k2 b u e hb), upd_ne hb]
      exact e
    refine q _ l ws (fun b u e hb => kp _ b u (s1 _ _ e) hb) upd_same (.inl (.inl ?_)) (mts (kp _))
    rw [upd_ne (Ne.symm hlx)]
    exact upd_same
  · refine ⟨_, rfl, a, ws, rfl, .inr ⟨off_t hw hx1 fun b u e hb => by rw [upd_ne hb]; exact e, ?_⟩⟩
    refine ⟨_, rfl, x, _, dx, _, rfl, upd_same, T.cl_Day, T.na_Day_meetings, (by show 1 < 1000; decide), ?_⟩
    rw [show putF "length" (V.int n) [] = ([("length", V.int n)] : List (Str × V)) from rfl, fd2]
    have kp : ∀ (o1 o : HO) (b : Addr) (u : HO), H1 b = some u → b ≠ x → upd (upd H1 x o1) x o b = some u := fun o1 o b u e hb => by
      rw [upd_ne hb, upd_ne hb]
      exact e
    exact q _ a ws (fun b u e hb => kp _ _ b u (s1 _ _ e) hb) upd_same (off_t hw hx1 (kp _ _)) (mts (kp _ _))
theorem ok_Day_init2 (T : Txt K mg d) : FnR P w K mg base CX0 5 d.f_Day___init__ (sp_Day_init d K) :=
  mkRD 3 1 T.F_Day___init__ (by simp [dv_Day]) rfl sc_Day___init__ (fun vs H Q E h => by obtain ⟨_, _, _, _, _, rfl, _⟩ := h; rfl)
    (fun _ _ _ _ _ _ _ us its h1 h2 => match us, its, h1, h2 with | [_, _, _], [_], _, _ => ⟨_, rfl, rfl⟩)
    (fun vs H Q E h => by rw [show (dv_Day d).drop 1 = [] from rfl, List.append_nil]; exact h)
    (fun cdv A outer s H vs Q E hr h => let ⟨t, h1, h2⟩ := body_Day_init T cdv A outer s H vs Q E hr h; ⟨t, h1.nox, h2⟩)
theorem made_day {H1 : Hp} {n : Int} {v : V} {ms : List Mt} {Q : VK} {E : XK} (hv : MtsV K H1 v ms) (O : DayOk n ms) (q : ∀ v H', Same H1 H' → IsDay d K H' v n ms → Q v H') :
    ∀ x dx, H1 x = none → H1 dx = none → dx ≠ x → sp_Day_init d K [.ref x, .int n, v] (upd (upd H1 dx (.own x)) x (.ins d.C_Day dx [])) (fun v H2 => v = .non ∧ Q (.ref x) H2) E := by
  intro x dx nx ndx ne
  have s0 : Same H1 (upd (upd H1 dx (.own x)) x (.ins d.C_Day dx [])) := Same.new' (Same.new ndx) (by rw [upd_ne (Ne.symm ne)]; exact nx)
  refine ⟨x, dx, n, v, ms, rfl, upd_same, hv.mono s0, O, fun H' t ws k1 k2 k3 k4 => ⟨rfl, ?_⟩⟩
  have s1 : Same H1 H' := fun b u e => k1 b u (s0 b u e) (ne_of_none e nx)
  exact q _ H' s1 ⟨x, dx, t, ws, rfl, k2, k3, k4⟩
/-! ### ticks -/
def rangeL (lo : Int) (n : Nat) : List Int := (List.range n).map fun (j : Nat) => lo + (j : Int)
theorem rangeL_len {lo : Int} {n : Nat} : (rangeL lo n).length = n := by simp [rangeL]
theorem rangeL_succ {lo : Int} {n : Nat} : rangeL lo (n + 1) = rangeL lo n ++ [lo + (n : Int)] := by simp [rangeL, List.range_succ]
def ticks : List Mt → List Int
  | [] => []
  | m :: ms => rangeL m.1 (m.2.1 - m.1).toNat ++ ticks ms
theorem ticks_append : ∀ a b : List Mt, ticks (a ++ b) = ticks a ++ ticks b
  | [], b => rfl
  | m :: a, b => by simp [ticks, ticks_append a b]
theorem good_ticks {n : Int} : ∀ {a : Int} {ms : List Mt}, good n a ms = true → a ≤ n → ((ticks ms).length : Int) ≤ n - a
  | a, [], _, h => by simp [ticks]; omega
  | a, m :: ms, h, ha => by
    simp only [good, mtOk, Bool.and_eq_true, Bool.not_eq_true', decide_eq_true_eq, decide_eq_false_iff_not] at h
    have ih := good_ticks (n := n) (a := m.2.1) (ms := ms) h.2 (by omega)
    simp only [ticks, List.length_append, rangeL_len, Int.natCast_add]
    omega
theorem good_at {n : Int} : ∀ {a : Int} {ms : List Mt} {i : Nat} {m : Mt}, good n a ms = true → ms[i]? = some m → 0 ≤ m.1 ∧ m.1 < m.2.1 ∧ m.2.1 ≤ n
  | a, [], i, m, _, h => by simp at h
  | a, k :: ms, 0, m, h, e => by
    simp at e
    subst e
    simp only [good, mtOk, Bool.and_eq_true, Bool.not_eq_true', decide_eq_true_eq, decide_eq_false_iff_not] at h
    omega
  | a, k :: ms, i + 1, m, h, e => by
    simp only [good, mtOk, Bool.and_eq_true, Bool.not_eq_true', decide_eq_true_eq, decide_eq_false_iff_not] at h
    exact good_at (a := k.2.1) (ms := ms) (i := i) h.2 (by simpa using e)
theorem take_snoc {α : Type} {xs : List α} {i : Nat} {x : α} (h : xs[i]? = some x) : xs.take (i + 1) = xs.take i ++ [x] := by
  obtain ⟨hi, e⟩ := List.getElem?_eq_some_iff.mp h
  rw [List.take_add_one, h]
  rfl
theorem ticks_take_len {n : Int} {ms : List Mt} {i : Nat} (h : good n 0 ms = true) (hn : 0 ≤ n) : ((ticks (ms.take i)).length : Int) ≤ n := by
  have e : ticks ms = ticks (ms.take i) ++ ticks (ms.drop i) := by rw [← ticks_append, List.take_append_drop]
  have l := good_ticks h hn
  rw [e, List.length_append] at l
  omega
def sp_Day_taken (d : Ad) (K : PySem.W.Frag) : Sp := fun vs H Q _ => ∃ (v : V) (n : Int) (ms : List Mt), vs = [v] ∧ IsDay d K H v n ms ∧ DayOk n ms ∧ ∀ a H', Same H H' → H' a = some (.tup ((ticks ms).map V.int)) → Q (.ref a) H'
theorem ok_Day_taken (T : Txt K mg d) : FnR P w K mg base CX0 1 d.f_Day_taken (sp_Day_taken d K) := by
  refine mkR T.F_Day_taken sc_Day_taken (fun vs H Q E h => ?_) (fun _ _ _ _ _ _ us hl => match us, hl with | [_], _ => rfl) (fun cdv A outer s H vs Q E hr h => ?_)
  · obtain ⟨_, _, _, rfl, _⟩ := h
    rfl
  · obtain ⟨v, n, ms, rfl, ⟨a, dx, t, vs, rfl, ha, ht, hm⟩, O, q⟩ := h
    have Olo := O.lo
    have Ohi := O.hi
    refine ⟨_, (pss_one (ps_ret (pe_callTy call_tuple_of rfl T.b_tuple (by decide +kernel) (pa_cons (pe_lc2 (own := [("meeting", 1), ("tick", 2)]) (vs1 := [2]) rfl sc_Day_taken.nd (pi_tup (pe_fld (pv 0) rfl)) (blkOk_by (N := ["self", "meeting", "tick"]) (sc := defScope s_Day_taken) (by decide +kernel)) (by decide) (fun _ _ _ _ _ => (pg_name (i := 1) sc_Day_taken.nd rfl (by first | exact Or.inl rfl | exact Or.inr rfl))) (fun _ _ _ _ _ => pts_nil) (fun _ _ _ _ _ => (pi_range2 rfl T.b_range (pa_cons (pe_ix (ixT_K (K := K)) (pv 1) pe_int (fun _ _ => rfl)) (pa_cons (pe_ix (ixT_K (K := K)) (pv 1) pe_int (fun _ _ => rfl)) pa_nil)))) (fun _ _ _ _ _ => (pg_name (i := 2) sc_Day_taken.nd rfl (by first | exact Or.inl rfl | exact Or.inr rfl))) (fun _ _ _ _ _ => pts_nil) (fun _ _ _ _ _ => (pv 2))) pa_nil)))), ?_⟩
    refine ⟨_, rfl, a, _, dx, _, _, rfl, ha, T.cl_Day, T.na_Day_meetings, lkD_meetings, t, rfl, ⟨vs, ht⟩, fun D nD => ?_⟩
    have sD : Same H (upd H D (.lst [])) := Same.new nD
    refine lc2_tup (K := K) (a := t) (xs := vs) (fun i H2 => Same H H2 ∧ H2 D = some (.lst ((ticks (ms.take i)).map V.int))) ⟨sD, upd_same⟩ (fun i H2 _ h2 => Same.tup h2.1 ht) ?_ ?_
    · rintro i x H2 hx ⟨s2, h2⟩
      obtain ⟨m, hm1, hm2⟩ := hm.get hx
      obtain ⟨b, rfl, hb⟩ := hm2.mono s2
      obtain ⟨g1, g2, g3⟩ := good_at O.g hm1
      have e1 : ms.take (i + 1) = ms.take i ++ [m] := take_snoc hm1
      have l1 := ticks_take_len (i := i + 1) O.g (by omega)
      rw [e1, ticks_append, List.length_append] at l1
      have l2 : (ticks [m]).length = (m.2.1 - m.1).toNat := by simp [ticks, rangeL_len]
      refine ⟨rfl, ?_⟩
      refine ⟨_, rfl, b, _, _, _, rfl, rfl, .inl (.inl hb), atI_nat (j := 0) rfl, _, rfl, b, _, _, _, rfl, rfl, .inl (.inl hb), atI_nat (j := 1) rfl, m.1, m.2.1, rfl, ⟨by omega, by omega, by omega, by omega⟩, ?_⟩
      refine in_range (fun j H3 => Same H H3 ∧ H3 D = some (.lst ((ticks (ms.take i) ++ rangeL m.1 j).map V.int))) ⟨s2, by rw [h2]; simp [rangeL]⟩ ?_ ?_
      · rintro j H3 hj ⟨s3, h3⟩
        refine ⟨rfl, ?_⟩
        refine ⟨_, rfl, _, h3, ?_, ?_, ?_⟩
        · rw [List.length_map, List.length_append, rangeL_len]
          exact Nat.lt_of_lt_of_le (by omega : _ < 100000) (by decide)
        · intro c o e
          rw [upd_ne (ne_of_none e nD)]
          exact s3 c o e
        · rw [upd_same, rangeL_succ, ← List.append_assoc, List.map_append (l₁ := ticks (ms.take i) ++ rangeL m.1 j)]
          rfl
      · rintro H3 ⟨s3, h3⟩
        refine ⟨s3, ?_⟩
        rw [h3, e1, ticks_append]
        simp [ticks]
    · rintro H2 ⟨s2, h2⟩
      rw [hm.1, List.take_length] at h2
      refine ⟨D, _, rfl, .inl ⟨.inl (.inl h2), fun l nl => ?_⟩⟩
      exact q l _ (Same.new' s2 nl) upd_same
end
end DD

set_option Elab.async false
set_option linter.all false
set_option maxRecDepth 100000
set_option maxHeartbeats 2000000
namespace DD
open PySem PySem.Spec PyProof.Rows L2 StX
section
variable {P : Program} {w : World} {K : PySem.W.Frag} {mg : Str → Option Value} {base : Heap} {d : Ad}
/-! ### slices and sums of tuples -/
theorem cut_all {xs : List V} {lo hi : Option Int} (h : HT.sIx xs.length 0 lo = 0 ∧ HT.sIx xs.length xs.length hi = xs.length) : cutV xs lo hi = xs := by
  unfold cutV
  rw [h.1, h.2]
  simp
theorem cut_to {xs : List V} {k : Nat} : cutV xs none (some (k : Int)) = xs.take k := by
  unfold cutV
  rw [HT.sIx_none, HT.sIx_nat, Nat.sub_zero, List.drop_zero]
  by_cases h : k ≤ xs.length
  · rw [Nat.min_eq_left h]
  · rw [Nat.min_eq_right (by omega), List.take_length, List.take_of_length_le (by omega)]
theorem cut_from {xs : List V} {k : Nat} : cutV xs (some (k : Int)) none = xs.drop k := by
  unfold cutV
  rw [HT.sIx_none, HT.sIx_nat]
  by_cases h : k ≤ xs.length
  · rw [Nat.min_eq_left h, List.take_of_length_le (by rw [List.length_drop] <;> omega)]
  · rw [Nat.min_eq_right (by omega), List.drop_length, List.drop_of_length_le (by omega)]
    simp
theorem sla_of {H : Hp} {p : Addr} {xs : List V} {lo hi : Option Int} {Q : VK} (hx : SqT K H p xs) (q : ∀ r H', Same H H' → SqT K H' r (cutV xs lo hi) → Q (.ref r) H') : rSlA K (.ref p) lo hi H Q := by
  refine ⟨p, xs, rfl, hx, fun hw => q p H (Same.refl H) ?_, fun _ t nt => q t _ (Same.new nt) (.inl (.inl upd_same))⟩
  rw [cut_all hw]
  exact hx
theorem cat_of {H : Hp} {p q : Addr} {xs ys : List V} {Q : VK} (hx : SqT K H p xs) (hy : SqT K H q ys) (hz : xs.length + ys.length ≤ sizeLine) (k : ∀ r H', Same H H' → SqT K H' r (xs ++ ys) → Q (.ref r) H') : rCatA K (.ref p) (.ref q) H Q := by
  refine ⟨p, q, xs, ys, rfl, rfl, hx, hy, hz, fun e => k q H (Same.refl H) ?_, fun _ e => k p H (Same.refl H) ?_, fun _ _ t nt => k t _ (Same.new nt) (.inl (.inl upd_same))⟩
  · rw [e]; exact hy
  · rw [e, List.append_nil]; exact hx
theorem good_weak {n a a' : Int} {ms : List Mt} (h : good n a ms = true) (ha : a' ≤ a) : good n a' ms = true := by
  cases ms with
  | nil => rfl
  | cons m ms =>
    simp only [good, mtOk, Bool.and_eq_true, Bool.not_eq_true', decide_eq_true_eq, decide_eq_false_iff_not] at h ⊢
    refine ⟨⟨⟨h.1.1.1, by omega⟩, h.1.2⟩, h.2⟩
theorem good_erase {n : Int} : ∀ {a : Int} {ms : List Mt} {i : Nat}, good n a ms = true → good n a (ms.take i ++ ms.drop (i + 1)) = true
  | a, [], i, _ => by simp [good]
  | a, m :: ms, 0, h => by
    simp only [good, mtOk, Bool.and_eq_true, Bool.not_eq_true', decide_eq_true_eq, decide_eq_false_iff_not] at h
    have g : good n m.2.1 ms = true := h.2
    simpa using good_weak (a' := a) g (by omega)
  | a, m :: ms, i + 1, h => by
    have h0 := h
    simp only [good, Bool.and_eq_true] at h
    have ih := good_erase (i := i) h.2
    show (mtOk m && !decide (m.1 < a) && !decide (n < m.2.1) && good n m.2.1 (ms.take i ++ ms.drop (i + 1))) = true
    rw [ih, Bool.and_eq_true, Bool.and_eq_true, Bool.and_eq_true]
    exact ⟨h.1, rfl⟩
theorem mts_len {n : Int} {ms : List Mt} (O : DayOk n ms) : ms.length ≤ 1000 := by
  have h := good_len O.g (by have := O.lo; omega)
  have := O.hi
  omega
def sp_Day_without (d : Ad) (K : PySem.W.Frag) : Sp := fun vs H Q _ => ∃ (v : V) (n : Int) (ms : List Mt) (i : Nat), vs = [v, .int i] ∧ IsDay d K H v n ms ∧ DayOk n ms ∧ i < ms.length ∧ ∀ v' H', Same H H' → IsDay d K H' v' n (ms.take i ++ ms.drop (i + 1)) → Q v' H'
theorem ok_Day_without (T : Txt K mg d) : FnR P w K mg base CX0 7 d.f_Day_without (sp_Day_without d K) := by
  refine mkR T.F_Day_without sc_Day_without (fun vs H Q E h => ?_) (fun _ _ _ _ _ _ us hl => match us, hl with | [_, _], _ => rfl) (fun cdv A outer s H vs Q E hr h => ?_)
  · obtain ⟨_, _, _, _, rfl, _⟩ := h
    rfl
  · obtain ⟨v, n, ms, i, rfl, ⟨a, dx, t, vs, rfl, ha, ht, hm⟩, O, hi, q⟩ := h
    have ol := mts_len O
    refine ⟨_, (pss_cons (ps_if (PW.pt (pw_or (pt_cmpR op_lt (pv 1) pe_int (nomark _)) (pw_or1 (pt_cmpR op_ge (pv 1) (pe_callB call_len_seq (by rfl) T.b_len PySem.boot_len (pa_cons (pe_fld (pv 0) rfl) pa_nil)) (nomark _))))) (pss_one ps_dead) pss_nil) (pss_one (ps_ret (pe_makeR T.mk_Day (ok_Day_init2 T) (hr.mono (by decide)) rfl T.m_Day pass0 (pa_cons (pe_fld (pv 0) rfl) (pa_cons (pe_op op_catA (pe_slice sl_tupA (pe_fld (pv 0) rfl) po_none (po_some (pv 1))) (pe_slice sl_tupA (pe_fld (pv 0) rfl) (po_some (pe_op op_add (pv 1) pe_int)) po_none)) pa_nil)))))), ?_⟩
    -- if at < 0 or at >= len(self.meetings)
    refine ⟨_, rfl, _, _, rfl, rfl, _, rfl, ?_⟩
    rw [decide_eq_false (by omega)]
    refine iteF ⟨_, rfl, _, rfl, a, _, dx, _, _, rfl, ha, T.cl_Day, T.na_Day_meetings, lkD_meetings, t, vs, rfl, .inr ht, _, _, rfl, rfl, _, rfl, ?_⟩
    rw [decide_eq_false (by rw [hm.1]; omega)]
    refine iteF ?_
    -- Day(self.length, ..)
    refine ⟨_, rfl, a, _, dx, _, _, rfl, ha, T.cl_Day, T.na_Day_length, lkD_length, ?_⟩
    refine ⟨_, rfl, a, _, dx, _, _, rfl, ha, T.cl_Day, T.na_Day_meetings, lkD_meetings, _, rfl, i, rfl, ?_⟩
    refine sla_of ht fun r H1 s1 hr1 => ?_
    refine ⟨_, rfl, a, _, dx, _, _, rfl, s1 _ _ ha, T.cl_Day, T.na_Day_meetings, lkD_meetings, _, rfl, _, _, rfl, rfl, _, rfl, ?_⟩
    dsimp only [tNoPart]
    refine sla_of (Same.tup s1 ht) fun r2 H2 s2 hr2 => ?_
    rw [cut_to] at hr1
    rw [show ((i : Int) + 1) = ((i + 1 : Nat) : Int) from by omega, cut_from] at hr2
    have h1 := hm.1
    refine cat_of (Same.tup s2 hr1) hr2 (by rw [List.length_take, List.length_drop]; exact sz (by omega)) fun r3 H3 s3 hr3 => ?_
    have s03 := s1.trans (s2.trans s3)
    exact made_day ⟨r3, _, rfl, .inr hr3, ((hm.take i).append (hm.drop (i + 1))).mono s03⟩ ⟨O.lo, O.hi, good_erase O.g⟩ fun v' H' e I => q v' H' (s03.trans e) I
/-- how many begin ahead of b -/
def before (b : Int) (ms : List Mt) : Nat := (ms.filter fun m => decide (m.1 < b)).length
theorem before_le {b : Int} {ms : List Mt} : before b ms ≤ ms.length := List.length_filter_le _ _
theorem before_snoc {b : Int} {ms : List Mt} {m : Mt} : before b (ms ++ [m]) = before b ms + (if m.1 < b then 1 else 0) := by
  unfold before
  rw [List.filter_append, List.length_append]
  by_cases h : m.1 < b <;> simp [h]
def insAt (m : Mt) (ms : List Mt) : List Mt := ms.take (before m.1 ms) ++ [m] ++ ms.drop (before m.1 ms)
def sp_Day_having (d : Ad) (K : PySem.W.Frag) : Sp := fun vs H Q _ => ∃ (v : V) (n : Int) (ms : List Mt) (u : V) (m : Mt), vs = [v, u] ∧ IsDay d K H v n ms ∧ DayOk n ms ∧ IsMt H u m ∧ mtOk m = true ∧ DayOk n (insAt m ms) ∧ ∀ v' H', Same H H' → IsDay d K H' v' n (insAt m ms) → Q v' H'
theorem ok_Day_having (T : Txt K mg d) : FnR P w K mg base CX0 7 d.f_Day_having (sp_Day_having d K) := by
  refine mkR T.F_Day_having sc_Day_having (fun vs H Q E h => ?_) (fun _ _ _ _ _ _ us hl => match us, hl with | [_, _], _ => rfl) (fun cdv A outer s H vs Q E hr h => ?_)
  · obtain ⟨_, _, _, _, _, rfl, _⟩ := h
    rfl
  · obtain ⟨v, n, ms, u, m, rfl, ⟨a, dx, t, vs, rfl, ha, ht, hm⟩, O, hu, ho, O2, q⟩ := h
    have ol := mts_len O
    have h1 := hm.1
    obtain ⟨c, rfl, hc⟩ := id hu
    refine ⟨_, (pss_cons (ps_if (pt_not (pt_val (pe_callR (ok__is_meeting T) (hr.mono (by decide)) rfl T.m__is_meeting T.k__is_meeting pass0 (pa_cons (pv 1) pa_nil)))) (pss_one ps_dead) pss_nil) (pss_cons (ps_set (i := 2) sc_Day_having.nd rfl (by first | exact Or.inl rfl | exact Or.inr rfl) (pe_callB call_len_seq (by rfl) T.b_len PySem.boot_len (pa_cons (pe_lc (own := [("one", 3)]) rfl sc_Day_having.nd (pi_tup (pe_fld (pv 0) rfl)) (blkOk_by (N := ["self", "meeting", "place", "one"]) (sc := defScope s_Day_having) (by decide +kernel)) (fun _ _ _ _ _ => (pg_name (i := 3) sc_Day_having.nd rfl (by first | exact Or.inl rfl | exact Or.inr rfl))) (fun _ _ _ _ _ => (pts_one (pt_cmpR op_lt (pe_ix (ixT_K (K := K)) (pv 3) pe_int (fun _ _ => rfl)) (pe_ix (ixT_K (K := K)) (pv 1) pe_int (fun _ _ => rfl)) (nomark _)))) (fun _ _ _ _ _ => (pv 3))) pa_nil))) (pss_one (ps_ret (pe_makeR T.mk_Day (ok_Day_init2 T) (hr.mono (by decide)) rfl T.m_Day pass0 (pa_cons (pe_fld (pv 0) rfl) (pa_cons (pe_op op_catA (pe_op op_catA (pe_slice sl_tupA (pe_fld (pv 0) rfl) po_none (po_some (pv 2))) (pe_tup (pa_cons (pv 1) pa_nil))) (pe_slice sl_tupA (pe_fld (pv 0) rfl) (po_some (pv 2)) po_none)) pa_nil))))))), ?_⟩
    refine ⟨_, rfl, _, m, rfl, hu, ?_⟩
    refine ⟨_, rfl, ?_⟩
    rw [ho]
    refine iteF ?_
    -- place = len([one for one in self.meetings if one[0] < meeting[0]])
    refine ⟨_, rfl, a, _, dx, _, _, rfl, ha, T.cl_Day, T.na_Day_meetings, lkD_meetings, t, rfl, ⟨vs, ht⟩, fun D nD => ?_⟩
    have sD : Same H (upd H D (.lst [])) := Same.new nD
    refine lc_tup (K := K) (a := t) (xs := vs) (fun i H2 => Same H H2 ∧ ∃ acc, H2 D = some (.lst acc) ∧ acc.length = before m.1 (ms.take i)) ⟨sD, _, upd_same, rfl⟩ (fun i H2 _ h2 => Same.tup h2.1 ht) ?_ ?_
    · rintro i x H2 hx ⟨s2, acc, h2, hl⟩
      obtain ⟨k, hk1, hk2⟩ := hm.get hx
      obtain ⟨b, rfl, hb⟩ := hk2.mono s2
      have e1 : ms.take (i + 1) = ms.take i ++ [k] := take_snoc hk1
      have il := (List.getElem?_eq_some_iff.mp hk1).1
      have bl := before_le (b := m.1) (ms := ms.take i)
      rw [List.length_take] at bl
      refine ⟨rfl, ?_⟩
      refine ⟨_, rfl, b, _, _, _, rfl, rfl, .inl (.inl hb), atI_nat (j := 0) rfl, _, rfl, c, _, _, _, rfl, rfl, .inl (.inl (s2 _ _ hc)), atI_nat (j := 0) rfl, _, _, rfl, rfl, _, rfl, ?_⟩
      by_cases hlt : k.1 < m.1
      · rw [decide_eq_true hlt]
        refine iteT ?_
        refine ⟨_, rfl, acc, h2, small1000 (by omega), ?_, _, upd_same, ?_⟩
        · intro p o e
          rw [upd_ne (ne_of_none e nD)]
          exact s2 p o e
        · rw [List.length_append, hl, e1, before_snoc, if_pos hlt]
          rfl
      · rw [decide_eq_false hlt]
        refine iteF ?_
        refine ⟨s2, acc, h2, ?_⟩
        rw [hl, e1, before_snoc, if_neg hlt]
        rfl
    · rintro H2 ⟨s2, acc, h2, hl⟩
      rw [h1, List.take_length] at hl
      refine ⟨D, acc, rfl, .inl (.inl (.inl h2)), ?_⟩
      rw [hl]
      have bl := before_le (b := m.1) (ms := ms)
      -- Day(self.length, self.meetings[:place] + (meeting,) + self.meetings[place:])
      refine ⟨_, rfl, a, _, dx, _, _, rfl, s2 _ _ ha, T.cl_Day, T.na_Day_length, lkD_length, ?_⟩
      refine ⟨_, rfl, a, _, dx, _, _, rfl, s2 _ _ ha, T.cl_Day, T.na_Day_meetings, lkD_meetings, _, rfl, _, rfl, ?_⟩
      refine sla_of (Same.tup s2 ht) fun r3 H3 s3 hr3 => ?_
      refine ⟨_, rfl, (by show 1 ≤ sizeLine; decide), fun p np => ?_⟩
      have s4 : Same H3 (upd H3 p (.tup [.ref c])) := Same.new np
      rw [cut_to] at hr3
      refine cat_of (Same.tup s4 hr3) (.inl (.inl upd_same)) (by rw [List.length_take]; exact sz (by show _ + 1 ≤ _; omega)) fun r5 H5 s5 hr5 => ?_
      have s25 := s3.trans (s4.trans s5)
      refine ⟨_, rfl, a, _, dx, _, _, rfl, s25 _ _ (s2 _ _ ha), T.cl_Day, T.na_Day_meetings, lkD_meetings, _, rfl, _, rfl, ?_⟩
      dsimp only [tNoPart]
      refine sla_of (Same.tup (s2.trans s25) ht) fun r6 H6 s6 hr6 => ?_
      rw [cut_from] at hr6
      refine cat_of (Same.tup s6 hr5) hr6 (by rw [List.length_append, List.length_take, List.length_drop]; exact sz (by show _ + 1 + _ ≤ _; omega)) fun r7 H7 s7 hr7 => ?_
      have s07 := s2.trans (s25.trans (s6.trans s7))
      have z : IsMts H7 [.ref c] [m] := .cons (hu.mono s07) .nil
      exact made_day ⟨r7, _, rfl, .inr hr7, (((hm.take _).mono s07).append z).append ((hm.drop _).mono s07)⟩ O2 fun v' H' e I => q v' H' (s07.trans e) I
end
end DD

set_option Elab.async false
set_option linter.all false
set_option maxRecDepth 100000
set_option maxHeartbeats 2000000
namespace DD
open PySem PySem.Spec PyProof.Rows L2 StX
section
variable {P : Program} {w : World} {K : PySem.W.Frag} {mg : Str → Option Value} {base : Heap} {d : Ad}
/-! ### the law's own draws -/
def sp_seed (K : PySem.W.Frag) : Sp := fun vs H Q _ => ∃ (a : Addr) (ns : List Int) (k : Nat), vs = [.ref a, .int k] ∧ SqL K H a (ns.map V.int) ∧ ∀ b x y H', H b = none → Same H H' → H' b = some (.lst [.int x, .int y]) → Q (.ref b) H'
theorem ok__law_seed (T : Txt K mg d) : FnR P w K mg base CX0 1 d.f__law_seed (sp_seed K) := by
  refine mkR T.F__law_seed sc__law_seed (fun vs H Q E h => ?_) (fun _ _ _ _ _ _ us hl => match us, hl with | [_, _], _ => rfl) (fun cdv A outer s H vs Q E hr h => ?_)
  · obtain ⟨_, _, _, rfl, _⟩ := h
    rfl
  · obtain ⟨a, ns, k, rfl, hS, q⟩ := h
    refine ⟨_, (pss_cons (ps_set (i := 2) sc__law_seed.nd rfl (by first | exact Or.inl rfl | exact Or.inr rfl) (pe_op op_add (pe_op op_mul pe_int (pv 1)) pe_int)) (pss_cons (ps_if (pt_cmpR op_lt (pv 1) (pe_callB call_len_seq (by rfl) T.b_len PySem.boot_len (pa_cons (pv 0) pa_nil)) (nomark _)) (pss_one (ps_set (i := 2) sc__law_seed.nd rfl (by first | exact Or.inl rfl | exact Or.inr rfl) (pe_callB call_abs (by rfl) T.b_abs (by decide +kernel) (pa_cons (pe_ix ix_list (pv 0) (pv 1) (fun _ _ => rfl)) pa_nil)))) (pss_one (ps_if (pt_cmpR op_gt (pe_callB call_len_seq (by rfl) T.b_len PySem.boot_len (pa_cons (pv 0) pa_nil)) pe_int (nomark _)) (pss_one (ps_set (i := 2) sc__law_seed.nd rfl (by first | exact Or.inl rfl | exact Or.inr rfl) (pe_op op_add (pv 2) (pe_op op_mul (pe_op op_mod (pe_callTy call_int1 rfl T.b_int (by decide +kernel) (pa_cons (pe_callB call_abs (by rfl) T.b_abs (by decide +kernel) (pa_cons (pe_ix ix_list (pv 0) (pe_op op_mod (pe_callTy call_int1 rfl T.b_int (by decide +kernel) (pa_cons (pv 1) pa_nil)) (pe_callB call_len_seq (by rfl) T.b_len PySem.boot_len (pa_cons (pv 0) pa_nil))) (fun _ _ => rfl)) pa_nil)) pa_nil)) pe_int) pe_int)))) pss_nil))) (pss_one (ps_ret (pe_lst (pa_cons (pe_ifExp (pt_cmpR op_ge (pv 2) (pe_op op_pow pe_int pe_int) (nomark _)) (pv 2) pe_int) (pa_cons (pe_op op_add (pe_op op_mod (pe_callTy call_int1 rfl T.b_int (by decide +kernel) (pa_cons (pe_op op_add (pe_op op_mul (pe_op op_mod (pe_callTy call_int1 rfl T.b_int (by decide +kernel) (pa_cons (pv 2) pa_nil)) pe_int) pe_int) (pe_op op_mul pe_int (pv 1))) pa_nil)) pe_int) pe_int) pa_nil))))))), ?_⟩
    refine ⟨_, rfl, _, _, rfl, rfl, .inl ⟨by decide, by decide⟩, _, _, rfl, rfl, ?_⟩
    refine ⟨_, rfl, _, rfl, a, _, rfl, .inl hS, _, _, rfl, rfl, _, rfl, ?_⟩
    refine ite2 (fun h1 => ?_) (fun h1 => ?_)
    · have hk : k < ns.length := by
        have := of_decide_eq_true h1
        rw [List.length_map] at this
        omega
      refine ⟨_, rfl, _, rfl, a, _, _, _, rfl, rfl, hS, atI_nat (j := k) (by rw [List.getElem?_map, List.getElem?_eq_getElem hk]; rfl), _, rfl, ?_⟩
      refine ⟨_, rfl, _, _, rfl, rfl, ⟨by decide, by decide, by decide⟩, _, _, rfl, rfl, _, rfl, ?_⟩
      refine ite2 (fun _ => ?_) (fun _ => ?_)
      · refine ⟨_, rfl, _, rfl, .inl ⟨_, rfl, _, _, rfl, rfl, (by show (0 : Int) < 2147483629; decide), _, _, rfl, rfl, .inr ⟨by decide, by decide⟩, _, rfl, _, _, rfl, rfl, .inl ⟨by decide, by decide⟩, _, _, rfl, rfl, .inl ⟨_, rfl, _, _, rfl, rfl, (by show (0 : Int) < 2147483629; decide), _, _, rfl, rfl, (by show 2 ≤ sizeLine; decide), fun p np => ?_⟩⟩⟩
        exact q p _ _ _ np (Same.new np) upd_same
      · refine ⟨_, rfl, .inl ⟨_, rfl, _, _, rfl, rfl, (by show (0 : Int) < 2147483629; decide), _, _, rfl, rfl, .inr ⟨by decide, by decide⟩, _, rfl, _, _, rfl, rfl, .inl ⟨by decide, by decide⟩, _, _, rfl, rfl, .inl ⟨_, rfl, _, _, rfl, rfl, (by show (0 : Int) < 2147483629; decide), _, _, rfl, rfl, (by show 2 ≤ sizeLine; decide), fun p np => ?_⟩⟩⟩
        exact q p _ _ _ np (Same.new np) upd_same
    · refine ⟨_, rfl, a, _, rfl, .inl hS, _, _, rfl, rfl, _, rfl, ?_⟩
      refine ite2 (fun h2 => ?_) (fun h2 => ?_)
      · have hn : 0 < ns.length := by
          have := of_decide_eq_true h2
          rw [List.length_map] at this
          omega
        have e : ((k : Int) % ((ns.map V.int).length : Int)) = ((k % ns.length : Nat) : Int) := by rw [List.length_map, Int.natCast_emod]
        have hk : k % ns.length < ns.length := Nat.mod_lt _ hn
        refine ⟨_, rfl, _, rfl, _, rfl, .inl ⟨_, rfl, _, rfl, a, _, rfl, .inl hS, _, _, rfl, rfl, (by rw [List.length_map]; omega), ?_⟩⟩
        have hat : atI (ns.map V.int) ((k : Int) % ((ns.map V.int).length : Int)) = some (V.int (ns[k % ns.length])) := by
          rw [e]
          exact atI_nat (j := k % ns.length) (by rw [List.getElem?_map, List.getElem?_eq_getElem hk]; rfl)
        refine ⟨a, _, _, _, rfl, rfl, hS, hat, _, rfl, .inl ⟨_, rfl, _, _, rfl, rfl, (by show (0 : Int) < 2147483629; decide), _, _, rfl, rfl, .inr ⟨by decide, by decide⟩, _, _, rfl, rfl, ?_⟩⟩
        refine ⟨_, rfl, _, _, rfl, rfl, ⟨by decide, by decide, by decide⟩, _, _, rfl, rfl, _, rfl, ?_⟩
        refine ite2 (fun _ => ?_) (fun _ => ?_)
        · refine ⟨_, rfl, _, rfl, .inl ⟨_, rfl, _, _, rfl, rfl, (by show (0 : Int) < 2147483629; decide), _, _, rfl, rfl, .inr ⟨by decide, by decide⟩, _, rfl, _, _, rfl, rfl, .inl ⟨by decide, by decide⟩, _, _, rfl, rfl, .inl ⟨_, rfl, _, _, rfl, rfl, (by show (0 : Int) < 2147483629; decide), _, _, rfl, rfl, (by show 2 ≤ sizeLine; decide), fun p np => ?_⟩⟩⟩
          exact q p _ _ _ np (Same.new np) upd_same
        · refine ⟨_, rfl, .inl ⟨_, rfl, _, _, rfl, rfl, (by show (0 : Int) < 2147483629; decide), _, _, rfl, rfl, .inr ⟨by decide, by decide⟩, _, rfl, _, _, rfl, rfl, .inl ⟨by decide, by decide⟩, _, _, rfl, rfl, .inl ⟨_, rfl, _, _, rfl, rfl, (by show (0 : Int) < 2147483629; decide), _, _, rfl, rfl, (by show 2 ≤ sizeLine; decide), fun p np => ?_⟩⟩⟩
          exact q p _ _ _ np (Same.new np) upd_same
      · refine ⟨_, rfl, _, _, rfl, rfl, ⟨by decide, by decide, by decide⟩, _, _, rfl, rfl, _, rfl, ?_⟩
        refine ite2 (fun _ => ?_) (fun _ => ?_)
        · refine ⟨_, rfl, _, rfl, .inl ⟨_, rfl, _, _, rfl, rfl, (by show (0 : Int) < 2147483629; decide), _, _, rfl, rfl, .inr ⟨by decide, by decide⟩, _, rfl, _, _, rfl, rfl, .inl ⟨by decide, by decide⟩, _, _, rfl, rfl, .inl ⟨_, rfl, _, _, rfl, rfl, (by show (0 : Int) < 2147483629; decide), _, _, rfl, rfl, (by show 2 ≤ sizeLine; decide), fun p np => ?_⟩⟩⟩
          exact q p _ _ _ np (Same.new np) upd_same
        · refine ⟨_, rfl, .inl ⟨_, rfl, _, _, rfl, rfl, (by show (0 : Int) < 2147483629; decide), _, _, rfl, rfl, .inr ⟨by decide, by decide⟩, _, rfl, _, _, rfl, rfl, .inl ⟨by decide, by decide⟩, _, _, rfl, rfl, .inl ⟨_, rfl, _, _, rfl, rfl, (by show (0 : Int) < 2147483629; decide), _, _, rfl, rfl, (by show 2 ≤ sizeLine; decide), fun p np => ?_⟩⟩⟩
          exact q p _ _ _ np (Same.new np) upd_same
/-- a draw from a box -/
def sp_choose : Sp := fun vs H Q _ => ∃ (b : Addr) (x y m : Int), vs = [.ref b, .int m] ∧ H b = some (.lst [.int x, .int y]) ∧ 0 < m ∧ m < 1073741824 ∧ ∀ r x' y', 0 ≤ r → r < m → Q (.int r) (upd H b (.lst [.int x', .int y']))
theorem ok__law_choose (T : Txt K mg d) : FnR P w K mg base CX0 1 d.f__law_choose sp_choose := by
  refine mkR T.F__law_choose sc__law_choose (fun vs H Q E h => ?_) (fun _ _ _ _ _ _ us hl => match us, hl with | [_, _], _ => rfl) (fun cdv A outer s H vs Q E hr h => ?_)
  · obtain ⟨_, _, _, _, rfl, _⟩ := h
    rfl
  · obtain ⟨b, x, y, m, rfl, hb, hm, hm2, q⟩ := h
    refine ⟨_, (pss_cons (ps_if (pt_cmpR op_gt (pe_ix ix_list (pv 0) pe_int (fun _ _ => rfl)) pe_int (nomark _)) (pss_cons (ps_set (i := 3) sc__law_choose.nd rfl (by first | exact Or.inl rfl | exact Or.inr rfl) (pe_op op_mod (pe_callTy call_int1 rfl T.b_int (by decide +kernel) (pa_cons (pe_ix ix_list (pv 0) pe_int (fun _ _ => rfl)) pa_nil)) (pv 1))) (pss_cons (ps_asg (pe_op op_fdiv (pe_ix ix_list (pv 0) pe_int (fun _ _ => rfl)) (pv 1)) (pg_sub (pv 0) pe_int set_list)) (pss_one (ps_ret (pv 3))))) pss_nil) (pss_cons (ps_set (i := 2) sc__law_choose.nd rfl (by first | exact Or.inl rfl | exact Or.inr rfl) (pe_op op_mod (pe_callTy call_int1 rfl T.b_int (by decide +kernel) (pa_cons (pe_op op_add (pe_op op_mul (pe_ix ix_list (pv 0) pe_int (fun _ _ => rfl)) pe_int) pe_int) pa_nil)) pe_int)) (pss_cons (ps_asg (pe_op op_add (pe_op op_mod (pe_callTy call_int1 rfl T.b_int (by decide +kernel) (pa_cons (pe_op op_add (pe_op op_mul (pv 2) pe_int) pe_int) pa_nil)) pe_int) pe_int) (pg_sub (pv 0) pe_int set_list)) (pss_one (ps_ret (pe_op op_mod (pe_callTy call_int1 rfl T.b_int (by decide +kernel) (pa_cons (pe_op op_fdiv (pe_op op_add (pe_op op_mul (pv 2) pe_int) (pe_ix ix_list (pv 0) pe_int (fun _ _ => rfl))) pe_int) pa_nil)) (pv 1))))))), ?_⟩
    refine ⟨_, rfl, b, _, _, _, rfl, rfl, .inl (.inl hb), atI_nat (j := 0) rfl, _, _, rfl, rfl, _, rfl, ?_⟩
    refine ite2 (fun _ => ?_) (fun _ => ?_)
    · refine ⟨_, rfl, b, _, _, _, rfl, rfl, .inl (.inl hb), atI_nat (j := 0) rfl, .inl ⟨_, rfl, _, rfl, _, _, rfl, rfl, hm, ?_⟩⟩
      refine ⟨_, rfl, b, _, _, _, rfl, rfl, .inl (.inl hb), atI_nat (j := 0) rfl, _, rfl, _, _, rfl, rfl, ⟨hm, hm2⟩, ?_⟩
      refine ⟨_, rfl, b, _, _, 0, rfl, rfl, hb, rfl, ?_⟩
      refine ⟨_, rfl, ?_⟩
      exact q _ _ _ (Int.emod_nonneg _ (by omega)) (Int.emod_lt_of_pos _ hm)
    · refine ⟨_, rfl, b, _, _, _, rfl, rfl, .inl (.inl hb), atI_nat (j := 1) rfl, _, _, rfl, rfl, .inr ⟨by decide, by decide⟩, _, _, rfl, rfl, .inl ⟨_, rfl, _, _, rfl, rfl, (by show (0 : Int) < 2147483563; decide), ?_⟩⟩
      refine ⟨_, rfl, _, _, rfl, rfl, .inr ⟨by decide, by decide⟩, _, _, rfl, rfl, .inl ⟨_, rfl, _, _, rfl, rfl, (by show (0 : Int) < 2147483629; decide), _, _, rfl, rfl, ?_⟩⟩
      refine ⟨_, rfl, b, _, _, 1, rfl, rfl, hb, rfl, ?_⟩
      refine ⟨_, rfl, _, _, rfl, rfl, .inr ⟨by decide, by decide⟩, _, rfl, b, _, _, _, rfl, rfl, .inl (.inl upd_same), atI_nat (j := 1) rfl, _, _, rfl, rfl, _, _, rfl, rfl, ⟨by decide, by decide⟩, .inl ⟨_, rfl, _, rfl, _, _, rfl, rfl, hm, ?_⟩⟩
      exact q _ _ _ (Int.emod_nonneg _ (by omega)) (Int.emod_lt_of_pos _ hm)
end
end DD

set_option Elab.async false
set_option linter.all false
set_option maxRecDepth 100000
set_option maxHeartbeats 2000000
namespace DD
open PySem PySem.Spec PyProof.Rows L2 StX
/-! ### texts -/
abbrev intT (i : Int) : Str := Str.ofString (toString i)
theorem len_app {x y : Str} {n m : Nat} (hx : x.length ≤ n) (hy : y.length ≤ m) : (x ++ y).length ≤ n + m := by
  rw [Str.length_append]
  omega
theorem len_int {i : Int} (h0 : 0 ≤ i) (h : i ≤ 1000) : (intT i).length ≤ 5 := by
  have e := int_text_length_le10 (a := i) (k := 4) (by decide) (by omega)
  show (Str.ofString (toString i)).length ≤ 5
  rw [PySem.ofString_length]
  omega
theorem log_int {i : Int} (h0 : 0 ≤ i) (h : i ≤ 1000) : i.natAbs.log2 < 1920 := by
  have := Nat.log2_le_self i.natAbs
  omega
def mtText (m : Mt) : Str := if m.2.2 = true then Str.empty ++ intT m.1 ++ ("-" : Str) ++ intT m.2.1 ++ (" private" : Str) else Str.empty ++ intT m.1 ++ ("-" : Str) ++ intT m.2.1
def mtsText (ms : List Mt) : Str := if ms.length = 0 then "-" else Txt.join (", " : Str) (ms.map mtText)
def dayText (n : Int) (ms : List Mt) : Str := Str.empty ++ intT n ++ (": " : Str) ++ mtsText ms
def MtIn (m : Mt) : Prop := 0 ≤ m.1 ∧ m.1 ≤ 1000 ∧ 0 ≤ m.2.1 ∧ m.2.1 ≤ 1000
theorem le0 : Str.empty.length ≤ 0 := by decide
theorem le1 : ("-" : Str).length ≤ 1 := by decide +kernel
theorem le8 : (" private" : Str).length ≤ 8 := by decide +kernel
theorem le2 : (": " : Str).length ≤ 2 := by decide +kernel
theorem le2c : (", " : Str).length ≤ 2 := by decide +kernel
theorem mtText_len {m : Mt} (h : MtIn m) : (mtText m).length ≤ 19 := by
  obtain ⟨a, b, c, e⟩ := h
  have h3 := len_app (len_app (len_app le0 (len_int a b)) le1) (len_int c e)
  unfold mtText
  split
  · exact len_app h3 le8
  · omega
theorem sum_le {α : Type} {f : α → Nat} {k : Nat} : ∀ {xs : List α}, (∀ x ∈ xs, f x ≤ k) → (xs.map f).sum ≤ xs.length * k
  | [], _ => by simp
  | x :: xs, h => by
    have h1 := h x (List.mem_cons_self ..)
    have h2 := sum_le (xs := xs) fun y hy => h y (List.mem_cons_of_mem _ hy)
    simp only [List.map_cons, List.sum_cons, List.length_cons, Nat.add_mul]
    omega
theorem good_in {n : Int} {ms : List Mt} (O : DayOk n ms) : ∀ m ∈ ms, MtIn m := fun m hm => by
  obtain ⟨i, hi, e⟩ := List.mem_iff_getElem.mp hm
  obtain ⟨a, b, c⟩ := good_at O.g (i := i) (m := m) (by rw [List.getElem?_eq_getElem hi, e])
  have := O.hi
  exact ⟨a, by omega, by omega, by omega⟩
section
variable {P : Program} {w : World} {K : PySem.W.Frag} {mg : Str → Option Value} {base : Heap} {d : Ad}
def sp_meeting_text : Sp := fun vs H Q _ => ∃ v m, vs = [v] ∧ IsMt H v m ∧ MtIn m ∧ Q (.str (mtText m)) H
theorem ok__meeting_text (T : Txt K mg d) : FnR P w K mg base CX0 1 d.f__meeting_text sp_meeting_text := by
  refine mkR T.F__meeting_text sc__meeting_text (fun vs H Q E h => ?_) (fun _ _ _ _ _ _ us hl => match us, hl with | [_], _ => rfl) (fun cdv A outer s H vs Q E hr h => ?_)
  · obtain ⟨_, _, rfl, _⟩ := h
    rfl
  · obtain ⟨v, ⟨b, e, p⟩, rfl, ⟨a, rfl, ha⟩, ⟨i1, i2, i3, i4⟩, q⟩ := h
    refine ⟨_, (pss_cons (ps_asg (pv 0) (pg_tup rfl (pgs_cons (pg_name (i := 1) sc__meeting_text.nd rfl (by first | exact Or.inl rfl | exact Or.inr rfl)) (pgs_cons (pg_name (i := 2) sc__meeting_text.nd rfl (by first | exact Or.inl rfl | exact Or.inr rfl)) (pgs_cons (pg_name (i := 3) sc__meeting_text.nd rfl (by first | exact Or.inl rfl | exact Or.inr rfl)) pgs_nil))))) (pss_cons (ps_if (pt_val (pv 3)) (pss_one (ps_ret (pe_joined (PJ.cons (pe_fmt (pv 1)) (PJ.cons pe_str (PJ.cons (pe_fmt (pv 2)) (PJ.cons pe_str PJ.nil))))))) pss_nil) (pss_one (ps_ret (pe_joined (PJ.cons (pe_fmt (pv 1)) (PJ.cons pe_str (PJ.cons (pe_fmt (pv 2)) PJ.nil)))))))), ?_⟩
    refine ⟨_, rfl, a, _, rfl, .inl (.inl ha), rfl, _, _, rfl, _, _, rfl, _, _, rfl, rfl, ?_⟩
    refine ⟨_, rfl, _, rfl, ?_⟩
    have l1 := len_app le0 (len_int i1 i2)
    have l2 := len_app l1 le1
    have l3 := len_app l2 (len_int i3 i4)
    have l4 := len_app l3 le8
    have e0 : mtText (b, e, p) = if p = true then Str.empty ++ intT b ++ ("-" : Str) ++ intT e ++ (" private" : Str) else Str.empty ++ intT b ++ ("-" : Str) ++ intT e := rfl
    rw [e0] at q
    cases p with
    | true =>
      refine iteT ?_
      refine ⟨_, rfl, .inr ⟨b, rfl, log_int i1 i2, _, rfl, sz (Nat.le_trans l1 (by decide)), _, rfl, sz (Nat.le_trans l2 (by decide)), _, rfl, .inr ⟨e, rfl, log_int i3 i4, _, rfl, sz (Nat.le_trans l3 (by decide)), _, rfl, sz (Nat.le_trans l4 (by decide)), ?_⟩⟩⟩
      exact q
    | false =>
      refine iteF ?_
      refine ⟨_, rfl, .inr ⟨b, rfl, log_int i1 i2, _, rfl, sz (Nat.le_trans l1 (by decide)), _, rfl, sz (Nat.le_trans l2 (by decide)), _, rfl, .inr ⟨e, rfl, log_int i3 i4, _, rfl, sz (Nat.le_trans l3 (by decide)), ?_⟩⟩⟩
      exact q
def sp_meetings_text (K : PySem.W.Frag) : Sp := fun vs H Q _ => ∃ (a : Addr) (ws : List V) (ms : List Mt), vs = [.ref a] ∧ SqT K H a ws ∧ IsMts H ws ms ∧ (∀ m ∈ ms, MtIn m) ∧ ms.length ≤ 1000 ∧ ∀ H', Same H H' → Q (.str (mtsText ms)) H'
theorem ok__meetings_text (T : Txt K mg d) : FnR P w K mg base CX0 2 d.f__meetings_text (sp_meetings_text K) := by
  refine mkR T.F__meetings_text sc__meetings_text (fun vs H Q E h => ?_) (fun _ _ _ _ _ _ us hl => match us, hl with | [_], _ => rfl) (fun cdv A outer s H vs Q E hr h => ?_)
  · obtain ⟨_, _, _, rfl, _⟩ := h
    rfl
  · obtain ⟨a, ws, ms, rfl, hT, hm, hin, hl, q⟩ := h
    have h1 := hm.1
    refine ⟨_, (pss_cons (ps_if (pt_cmpR op_eq (pe_callB call_len_seq (by rfl) T.b_len PySem.boot_len (pa_cons (pv 0) pa_nil)) pe_int (nomark _)) (pss_one (ps_ret pe_str)) pss_nil) (pss_one (ps_ret (pe_bm PySem.F.plainAttrs_str PySem.F.slot_str_join PySem.F.type_str_join mt_join pe_str (pa_cons (pe_lc (own := [("meeting", 1)]) rfl sc__meetings_text.nd (pi_tup (pv 0)) (blkOk_by (N := ["meetings", "meeting"]) (sc := defScope s__meetings_text) (by decide +kernel)) (fun _ _ _ _ _ => (pg_name (i := 1) sc__meetings_text.nd rfl (by first | exact Or.inl rfl | exact Or.inr rfl))) (fun _ _ _ _ _ => pts_nil) (fun _ _ _ _ _ => (pe_callR (ok__meeting_text T) (hr.mono (by decide)) rfl T.m__meeting_text T.k__meeting_text pass0 (pa_cons (pv 1) pa_nil)))) pa_nil))))), ?_⟩
    refine ⟨_, rfl, a, ws, rfl, .inr hT, rfl, _, rfl, ?_⟩
    by_cases hz : ms.length = 0
    · rw [decide_eq_true (show V.int (ws.length : Int) = V.int 0 by rw [h1, hz]; rfl)]
      refine iteT ?_
      have q2 := q H (Same.refl H)
      unfold mtsText at q2
      rw [if_pos hz] at q2
      exact q2
    · rw [decide_eq_false (fun e : V.int (ws.length : Int) = V.int 0 => hz (by have := V.int.inj e; omega))]
      refine iteF ?_
      refine ⟨rfl, _, rfl, a, rfl, ⟨ws, hT⟩, fun D nD => ?_⟩
      have sD : Same H (upd H D (.lst [])) := Same.new nD
      refine lc_tup (K := K) (a := a) (xs := ws) (fun i H2 => Same H H2 ∧ H2 D = some (.lst (((ms.take i).map mtText).map V.str))) ⟨sD, upd_same⟩ (fun i H2 _ h2 => Same.tup h2.1 hT) ?_ ?_
      · rintro i x H2 hx ⟨s2, h2⟩
        obtain ⟨m, hm1, hm2⟩ := hm.get hx
        have e1 : ms.take (i + 1) = ms.take i ++ [m] := take_snoc hm1
        have mi : m ∈ ms := List.mem_of_getElem? hm1
        refine ⟨rfl, ?_⟩
        refine ⟨_, rfl, x, m, rfl, hm2.mono s2, hin m mi, ?_⟩
        refine ⟨_, h2, ?_, ?_, ?_⟩
        · rw [List.length_map, List.length_map, List.length_take]
          exact small1000 (by omega)
        · intro c o e
          rw [upd_ne (ne_of_none e nD)]
          exact s2 c o e
        · rw [upd_same, e1, List.map_append, List.map_append]
          rfl
      · rintro H2 ⟨s2, h2⟩
        rw [h1, List.take_length] at h2
        refine ⟨_, D, ms.map mtText, rfl, rfl, .inl (.inl (.inl h2)), ?_, ?_⟩
        · have e1 := sum_le (f := fun m => (mtText m).length) (k := 19) (xs := ms) fun m hm => mtText_len (hin m hm)
          have e2 := le2c
          rw [List.map_map, List.length_map]
          have e3 : ms.length * (", " : Str).length ≤ ms.length * 2 := Nat.mul_le_mul_left _ e2
          show (ms.map fun m => (mtText m).length).sum + _ ≤ _
          omega
        · have q2 := q H2 s2
          unfold mtsText at q2
          rw [if_neg hz] at q2
          exact q2
theorem join_len {s : Str} {xs : List Str} : (Txt.join s xs).length ≤ (xs.map (·.length)).sum + xs.length * s.length := by
  rw [show Txt.join s xs = Str.join s xs from StrLaws.glued_eq_join s xs]
  exact StrLaws.join_length_le s xs
theorem mtsText_len {ms : List Mt} (hin : ∀ m ∈ ms, MtIn m) (hl : ms.length ≤ 1000) : (mtsText ms).length ≤ 21000 := by
  unfold mtsText
  split
  · exact Nat.le_trans le1 (by decide)
  · have e1 := sum_le (f := fun m => (mtText m).length) (k := 19) (xs := ms) fun m hm => mtText_len (hin m hm)
    have e2 := join_len (s := (", " : Str)) (xs := ms.map mtText)
    rw [List.map_map, List.length_map] at e2
    have e3 : ms.length * (", " : Str).length ≤ ms.length * 2 := Nat.mul_le_mul_left _ le2c
    have e4 : (ms.map ((fun x => x.length) ∘ mtText)).sum = (ms.map fun m => (mtText m).length).sum := rfl
    omega
def sp_Day_str (d : Ad) (K : PySem.W.Frag) : Sp := fun vs H Q _ => ∃ (v : V) (n : Int) (ms : List Mt), vs = [v] ∧ IsDay d K H v n ms ∧ DayOk n ms ∧ ∀ H', Same H H' → Q (.str (dayText n ms)) H'
theorem ok_Day___str__ (T : Txt K mg d) : FnR P w K mg base CX0 3 d.f_Day___str__ (sp_Day_str d K) := by
  refine mkR T.F_Day___str__ sc_Day___str__ (fun vs H Q E h => ?_) (fun _ _ _ _ _ _ us hl => match us, hl with | [_], _ => rfl) (fun cdv A outer s H vs Q E hr h => ?_)
  · obtain ⟨_, _, _, rfl, _⟩ := h
    rfl
  · obtain ⟨v, n, ms, rfl, ⟨a, dx, t, vs, rfl, ha, ht, hm⟩, O, q⟩ := h
    have i1 : 0 ≤ n := by have := O.lo; omega
    have l1 := len_app le0 (len_int i1 O.hi)
    have l2 := len_app l1 le2
    have l3 := len_app l2 (mtsText_len (good_in O) (mts_len O))
    refine ⟨_, (pss_one (ps_ret (pe_joined (PJ.cons (pe_fmt (pe_fld (pv 0) rfl)) (PJ.cons pe_str (PJ.cons (pe_fmt (pe_callR (ok__meetings_text T) (hr.mono (by decide)) rfl T.m__meetings_text T.k__meetings_text pass0 (pa_cons (pe_fld (pv 0) rfl) pa_nil))) PJ.nil)))))), ?_⟩
    refine ⟨_, rfl, a, _, dx, _, _, rfl, ha, T.cl_Day, T.na_Day_length, lkD_length, .inr ⟨n, rfl, log_int i1 O.hi, _, rfl, sz (Nat.le_trans l1 (by decide)), _, rfl, sz (Nat.le_trans l2 (by decide)), ?_⟩⟩
    refine ⟨_, rfl, a, _, dx, _, _, rfl, ha, T.cl_Day, T.na_Day_meetings, lkD_meetings, t, vs, ms, rfl, ht, hm, good_in O, mts_len O, fun H' s1 => ?_⟩
    exact .inl ⟨_, rfl, sz (Nat.le_trans (mtsText_len (good_in O) (mts_len O)) (by decide)), _, rfl, sz (Nat.le_trans l3 (by decide)), q H' s1⟩
end
end DD

set_option Elab.async false
set_option linter.all false
set_option maxRecDepth 100000
set_option maxHeartbeats 4000000
namespace DD
open PySem PySem.Spec PyProof.Rows L2 StX
section
variable {P : Program} {w : World} {K : PySem.W.Frag} {mg : Str → Option Value} {base : Heap} {d : Ad}
theorem Same.mut {H H' : Hp} {p : Addr} {o : HO} (e : Same H H') (h : H p = none) : Same H (upd H' p o) := fun a u ha => by
  rw [upd_ne (ne_of_none ha h)]
  exact e a u ha
theorem made_rule' {H1 : Hp} {s g l : Int} {p : Str} {h : V} {o : Option (Int × Int)} {W : VK} {E : XK} {x dx : Addr} (hh : IsHours H1 h o) (R : RuleOk s g l p o) (nx : H1 x = none) (ndx : H1 dx = none) (ne : dx ≠ x) (q : ∀ H', Same H1 H' → IsRule d H' (.ref x) s g l p o → W .non H') :
    sp_Rule_init d [.ref x, .int s, .int g, .int l, .str p, h] (upd (upd H1 dx (.own x)) x (.ins d.C_Rule dx [])) W E := by
  have s0 : Same H1 (upd (upd H1 dx (.own x)) x (.ins d.C_Rule dx [])) := Same.new' (Same.new ndx) (by rw [upd_ne (Ne.symm ne)]; exact nx)
  refine ⟨x, dx, s, g, l, p, h, o, rfl, upd_same, hh.mono s0, R, fun H' k1 k2 => ?_⟩
  have s1 : Same H1 H' := fun b u e => k1 b u (s0 b u e) (ne_of_none e nx)
  exact q H' s1 ⟨x, dx, h, rfl, k2, hh.mono s1⟩
theorem made_day' {H1 : Hp} {n : Int} {v : V} {ms : List Mt} {W : VK} {E : XK} {x dx : Addr} (hv : MtsV K H1 v ms) (O : DayOk n ms) (nx : H1 x = none) (ndx : H1 dx = none) (ne : dx ≠ x) (q : ∀ H', Same H1 H' → IsDay d K H' (.ref x) n ms → W .non H') :
    sp_Day_init d K [.ref x, .int n, v] (upd (upd H1 dx (.own x)) x (.ins d.C_Day dx [])) W E := by
  have s0 : Same H1 (upd (upd H1 dx (.own x)) x (.ins d.C_Day dx [])) := Same.new' (Same.new ndx) (by rw [upd_ne (Ne.symm ne)]; exact nx)
  refine ⟨x, dx, n, v, ms, rfl, upd_same, hv.mono s0, O, fun H' t ws k1 k2 k3 k4 => ?_⟩
  have s1 : Same H1 H' := fun b u e => k1 b u (s0 b u e) (ne_of_none e nx)
  exact q H' s1 ⟨x, dx, t, ws, rfl, k2, k3, k4⟩
theorem lkD_no {m : Str} {n : Int} {t : V} (h : (["length", "meetings"] : List Str).contains m = false) : (flD n t).lookup m = none := look_no rfl h
def spLaw (K : PySem.W.Frag) : Sp := fun vs H Q _ => ∃ (a : Addr) (ns : List Int), vs = [.ref a] ∧ SqL K H a (ns.map V.int) ∧ ns.length ≤ 63 ∧ ∀ H', Q (.bl true) H'
def ms3 (a : Int) : List Mt := [(a, a + 2, false), (a + 2, a + 3, true), (a + 9, a + 10, false)]
theorem ok3 {a : Int} (h0 : 0 ≤ a) (h1 : a < 30) : DayOk 48 (ms3 a) := by
  refine ⟨by decide, by decide, ?_⟩
  simp only [ms3, good, mtOk, Bool.and_eq_true, Bool.not_eq_true', decide_eq_true_eq, decide_eq_false_iff_not]
  refine ⟨⟨⟨?_, ?_⟩, ?_⟩, ⟨⟨⟨?_, ?_⟩, ?_⟩, ⟨⟨⟨?_, ?_⟩, ?_⟩, ?_⟩⟩⟩ <;> first | trivial | omega | (refine ⟨⟨?_, ?_⟩, ?_⟩ <;> omega)
/-! ### tuples of ints, texts -/
def intsD (l : List Int) : PyData := .tuple (l.map PyData.int)
theorem dpA : ∀ {H : Hp} {l : List Int}, DpAll K H (l.map V.int) (l.map PyData.int)
  | _, [] => .nil
  | _, i :: l => .cons (.int i) dpA
theorem dp_ints {H : Hp} {r : Addr} {l : List Int} (h : SqT K H r (l.map V.int)) : Dp K H (.ref r) (intsD l) := .tup h dpA
theorem lay_ints : ∀ {l : List Int}, PyData.canLayAll0 (l.map PyData.int) = true
  | [] => rfl
  | i :: l => by
    show (PyData.canLay0 (.int i) && PyData.canLayAll0 (l.map PyData.int)) = true
    rw [lay_ints (l := l)]
    rfl
theorem depth_ints : ∀ {l : List Int}, PyData.depthAll (l.map PyData.int) = 0
  | [] => rfl
  | i :: l => by
    show max (PyData.depth (.int i)) (PyData.depthAll (l.map PyData.int)) = 0
    rw [depth_ints (l := l)]
    rfl
theorem shaped_ints {l : List Int} : SeqAt.shaped (intsD l) = true := by
  unfold SeqAt.shaped
  rw [Bool.and_eq_true_iff]
  refine ⟨lay_ints, decide_eq_true ?_⟩
  show PyData.depthAll (l.map PyData.int) + 1 ≤ 64
  rw [depth_ints]
  decide
theorem eqv_same {l : List Int} : PyData.eqv (intsD l) (intsD l) = true := by
  show PyData.eqvAll (l.map PyData.int) (l.map PyData.int) = true
  induction l with
  | nil => rfl
  | cons i l ih =>
    show (PyData.eqv (.int i) (.int i) && PyData.eqvAll (l.map PyData.int) (l.map PyData.int)) = true
    rw [ih]
    show ((i == i) && true) = true
    simp
theorem ticks3 {a : Int} : ticks (ms3 a) = [a, a + 1, a + 2, a + 9] := by
  have e1 : (a + 2 - a).toNat = 2 := by omega
  have e2 : (a + 3 - (a + 2)).toNat = 1 := by omega
  have e3 : (a + 10 - (a + 9)).toNat = 1 := by omega
  simp only [ticks, ms3, e1, e2, e3, rangeL]
  simp [List.range_succ]
def ms4 (a : Int) : List Mt := [(a, a + 2, false), (a + 4, a + 9, true), (a + 9, a + 10, false)]
theorem ms3_without {a : Int} : (ms3 a).take 1 ++ (ms3 a).drop (1 + 1) = [(a, a + 2, false), (a + 9, a + 10, false)] := rfl
theorem ins4 {a : Int} : insAt (a + 4, a + 9, true) [(a, a + 2, false), (a + 9, a + 10, false)] = ms4 a := by
  have e : before (a + 4) [((a, a + 2, false) : Mt), (a + 9, a + 10, false)] = 1 := by
    unfold before
    rw [List.filter_cons_of_pos (by simp; omega), List.filter_cons_of_neg (by simp)]
    rfl
  unfold insAt
  rw [e]
  rfl
theorem ok2 {a : Int} (h0 : 0 ≤ a) (h1 : a < 30) : DayOk 48 [(a, a + 2, false), (a + 9, a + 10, false)] := ⟨by decide, by decide, by rw [← ms3_without]; exact good_erase (ok3 h0 h1).g⟩
theorem ok4 {a : Int} (h0 : 0 ≤ a) (h1 : a < 30) : DayOk 48 (ms4 a) := by
  refine ⟨by decide, by decide, ?_⟩
  simp only [ms4, good, mtOk, Bool.and_eq_true, Bool.not_eq_true', decide_eq_true_eq, decide_eq_false_iff_not]
  refine ⟨⟨⟨?_, ?_⟩, ?_⟩, ⟨⟨⟨?_, ?_⟩, ?_⟩, ⟨⟨⟨?_, ?_⟩, ?_⟩, ?_⟩⟩⟩ <;> first | trivial | omega | (refine ⟨⟨?_, ?_⟩, ?_⟩ <;> omega)
theorem ticks4 {a : Int} : ticks (ms4 a) = [a, a + 1, a + 4, a + 5, a + 6, a + 7, a + 8, a + 9] := by
  have e1 : (a + 2 - a).toNat = 2 := by omega
  have e2 : (a + 9 - (a + 4)).toNat = 5 := by omega
  have e3 : (a + 10 - (a + 9)).toNat = 1 := by omega
  simp only [ticks, ms4, e1, e2, e3, rangeL]
  simp [List.range_succ]
  omega
def headT (a : Int) : Str := ("48: " : Str) ++ intT a ++ ("-" : Str) ++ intT (a + 2) ++ (", " : Str) ++ intT (a + 2) ++ ("-" : Str)
def headT2 (a : Int) : Str := headT a ++ intT (a + 3) ++ (" private, " : Str) ++ intT (a + 9) ++ ("-" : Str)
theorem text3 {a : Int} : dayText 48 (ms3 a) = headT2 a ++ intT (a + 10) := by
  have e1 : intT 48 = ("48" : Str) := by decide +kernel
  have e2 : ("48: " : Str) = ("48" : Str) ++ (": " : Str) := by decide +kernel
  have e3 : (" private, " : Str) = (" private" : Str) ++ (", " : Str) := by decide +kernel
  unfold dayText mtsText headT2 headT
  rw [if_neg (by simp [ms3]), show Txt.join (", " : Str) ((ms3 a).map mtText) = Str.join (", " : Str) ((ms3 a).map mtText) from StrLaws.glued_eq_join _ _]
  show Str.empty ++ intT 48 ++ (": " : Str) ++ (mtText (a, a + 2, false) ++ (", " : Str) ++ (mtText (a + 2, a + 3, true) ++ (", " : Str) ++ mtText (a + 9, a + 10, false))) = _
  have m1 : mtText (a, a + 2, false) = Str.empty ++ intT a ++ ("-" : Str) ++ intT (a + 2) := rfl
  have m2 : mtText (a + 2, a + 3, true) = Str.empty ++ intT (a + 2) ++ ("-" : Str) ++ intT (a + 3) ++ (" private" : Str) := rfl
  have m3 : mtText (a + 9, a + 10, false) = Str.empty ++ intT (a + 9) ++ ("-" : Str) ++ intT (a + 10) := rfl
  rw [m1, m2, m3, e1, e2, e3]
  simp only [Str.append_assoc, Str.empty_append]
theorem lenA {x y : Str} {n m : Nat} (hx : x.length ≤ n) (hy : y.length ≤ m) (h : n + m ≤ 100000) : x.length + y.length ≤ sizeLine := sz (by omega)
theorem le4 : ("48: " : Str).length ≤ 4 := by decide +kernel
theorem le10 : (" private, " : Str).length ≤ 10 := by decide +kernel
theorem lay4 {H : Hp} {p1 p2 p3 p4 : Addr} {o1 o2 o3 o4 : HO} (n1 : H p1 = none) (n2 : upd H p1 o1 p2 = none) (n3 : upd (upd H p1 o1) p2 o2 p3 = none) (n4 : upd (upd (upd H p1 o1) p2 o2) p3 o3 p4 = none) :
    Same H (upd (upd (upd (upd H p1 o1) p2 o2) p3 o3) p4 o4) ∧ upd (upd (upd (upd H p1 o1) p2 o2) p3 o3) p4 o4 p1 = some o1 ∧ upd (upd (upd (upd H p1 o1) p2 o2) p3 o3) p4 o4 p2 = some o2 ∧ upd (upd (upd (upd H p1 o1) p2 o2) p3 o3) p4 o4 p3 = some o3 ∧ upd (upd (upd (upd H p1 o1) p2 o2) p3 o3) p4 o4 p4 = some o4 := by
  have s2 := Same.new (o := o2) n2
  have s3 := Same.new (o := o3) n3
  have s4 := Same.new (o := o4) n4
  exact ⟨(Same.new n1).trans (s2.trans (s3.trans s4)), s4 _ _ (s3 _ _ (s2 _ _ upd_same)), s4 _ _ (s3 _ _ upd_same), s4 _ _ upd_same, upd_same⟩
theorem iteNB {c : Bool} {A B : Prop} (hc : c = true) (h : B) : if (!c) = true then A else B := by
  rw [hc]
  exact iteF h
theorem iteFB {c : Bool} {A B : Prop} (hc : c = false) (h : B) : if c = true then A else B := by
  rw [hc]
  exact iteF h
theorem ok_law {f : Addr} {fd : FuncData} (T : Txt K mg d) (F : Fun K "law" "law" s_law f fd) : FnOk P w K mg base CX0 14 f fd ["_law_script"] (spLaw K) := by
  refine F.ok sc_law (fun vs H Q E h => ?_) (fun cdv A outer s H vs Q E hr h => ?_)
  · obtain ⟨_, _, rfl, _⟩ := h
    rfl
  · obtain ⟨a, ns, rfl, hS, hl, q⟩ := h
    have hu := hr.units
    refine ⟨_, (pss_cons (ps_for PassesOwn.never rfl (pi_range1 rfl T.b_range (pa_cons (pe_callB (call_max2 rfl) (by rfl) T.b_max (by decide +kernel) (pa_cons pe_int (pa_cons (pe_callB (call_min2 rfl) (by rfl) T.b_min (by decide +kernel) (pa_cons pe_int (pa_cons (pe_callB call_len_seq (by rfl) T.b_len PySem.boot_len (pa_cons (pv 0) pa_nil)) pa_nil))) pa_nil))) pa_nil)) (pg_name (i := 1) sc_law.nd rfl (by first | exact Or.inl rfl | exact Or.inr rfl)) (pss_cons (ps_set (i := 2) sc_law.nd rfl (by first | exact Or.inl rfl | exact Or.inr rfl) (pe_callR (ok__law_seed T) (hr.mono (by decide)) rfl T.m__law_seed T.k__law_seed pass0 (pa_cons (pv 0) (pa_cons (pv 1) pa_nil)))) (pss_cons (ps_set (i := 3) sc_law.nd rfl (by first | exact Or.inl rfl | exact Or.inr rfl) (pe_callR (ok__law_choose T) (hr.mono (by decide)) rfl T.m__law_choose T.k__law_choose pass0 (pa_cons (pv 2) (pa_cons pe_int pa_nil)))) (pss_cons (ps_set (i := 4) sc_law.nd rfl (by first | exact Or.inl rfl | exact Or.inr rfl) (pe_makeR T.mk_Day (ok_Day_init2 T) (hr.mono (by decide)) rfl T.m_Day pass0 (pa_cons pe_int (pa_cons (pe_lst (pa_cons (pe_tup (pa_cons (pv 3) (pa_cons (pe_op op_add (pv 3) pe_int) (pa_cons pe_bl pa_nil)))) (pa_cons (pe_tup (pa_cons (pe_op op_add (pv 3) pe_int) (pa_cons (pe_op op_add (pv 3) pe_int) (pa_cons pe_bl pa_nil)))) (pa_cons (pe_tup (pa_cons (pe_op op_add (pv 3) pe_int) (pa_cons (pe_op op_add (pv 3) pe_int) (pa_cons pe_bl pa_nil)))) pa_nil)))) pa_nil)))) (pss_cons (ps_set (i := 5) sc_law.nd rfl (by first | exact Or.inl rfl | exact Or.inr rfl) (pe_op op_add_str (pe_op op_add_str (pe_op op_add_str (pe_op op_add_str (pe_op op_add_str (pe_op op_add_str pe_str (pe_callTy call_str_int rfl T.b_str (by decide +kernel) (pa_cons (pv 3) pa_nil))) pe_str) (pe_callTy call_str_int rfl T.b_str (by decide +kernel) (pa_cons (pe_op op_add (pv 3) pe_int) pa_nil))) pe_str) (pe_callTy call_str_int rfl T.b_str (by decide +kernel) (pa_cons (pe_op op_add (pv 3) pe_int) pa_nil))) pe_str)) (pss_cons (ps_set (i := 5) sc_law.nd rfl (by first | exact Or.inl rfl | exact Or.inr rfl) (pe_op op_add_str (pe_op op_add_str (pe_op op_add_str (pe_op op_add_str (pv 5) (pe_callTy call_str_int rfl T.b_str (by decide +kernel) (pa_cons (pe_op op_add (pv 3) pe_int) pa_nil))) pe_str) (pe_callTy call_str_int rfl T.b_str (by decide +kernel) (pa_cons (pe_op op_add (pv 3) pe_int) pa_nil))) pe_str)) (pss_cons (ps_if (PW.pt (pw_or (pt_cmpR op_ne (pe_callTy (call_strO T.s_Day T.sf_Day (ok_Day___str__ T) (hr.mono (by decide)) pass0) rfl T.b_str (by decide +kernel) (pa_cons (pv 4) pa_nil)) (pe_op op_add_str (pv 5) (pe_callTy call_str_int rfl T.b_str (by decide +kernel) (pa_cons (pe_op op_add (pv 3) pe_int) pa_nil))) (nomark _)) (pw_or1 (pt_cmpR (op_neD hu) (pe_propR (pv 4) T.cl_Day T.p_Day_taken (ok_Day_taken T) (hr.mono (by decide)) pass0) (pe_tup (pa_cons (pv 3) (pa_cons (pe_op op_add (pv 3) pe_int) (pa_cons (pe_op op_add (pv 3) pe_int) (pa_cons (pe_op op_add (pv 3) pe_int) pa_nil))))) (nomark _))))) (pss_one (ps_ret pe_bl)) pss_nil) (pss_cons (ps_set (i := 6) sc_law.nd rfl (by first | exact Or.inl rfl | exact Or.inr rfl) (pe_methR (pe_methR (pv 4) T.cl_Day T.me_Day_without (ok_Day_without T) (hr.mono (by decide)) pass0 (pa_cons pe_int pa_nil)) T.cl_Day T.me_Day_having (ok_Day_having T) (hr.mono (by decide)) pass0 (pa_cons (pe_tup (pa_cons (pe_op op_add (pv 3) pe_int) (pa_cons (pe_op op_add (pv 3) pe_int) (pa_cons pe_bl pa_nil)))) pa_nil))) (pss_cons (ps_if (pt_cmpR (op_neD hu) (pe_propR (pv 6) T.cl_Day T.p_Day_taken (ok_Day_taken T) (hr.mono (by decide)) pass0) (pe_tup (pa_cons (pv 3) (pa_cons (pe_op op_add (pv 3) pe_int) (pa_cons (pe_op op_add (pv 3) pe_int) (pa_cons (pe_op op_add (pv 3) pe_int) (pa_cons (pe_op op_add (pv 3) pe_int) (pa_cons (pe_op op_add (pv 3) pe_int) (pa_cons (pe_op op_add (pv 3) pe_int) (pa_cons (pe_op op_add (pv 3) pe_int) pa_nil))))))))) (nomark _)) (pss_one (ps_ret pe_bl)) pss_nil) (pss_cons (ps_set (i := 7) sc_law.nd rfl (by first | exact Or.inl rfl | exact Or.inr rfl) (pe_op op_add pe_int (pe_callR (ok__law_choose T) (hr.mono (by decide)) rfl T.m__law_choose T.k__law_choose pass0 (pa_cons (pv 2) (pa_cons pe_int pa_nil))))) (pss_cons (ps_set (i := 8) sc_law.nd rfl (by first | exact Or.inl rfl | exact Or.inr rfl) (pe_makeR T.mk_Rule (ok_Rule_init5 T) (hr.mono (by decide)) rfl T.m_Rule pass0 (pa_cons (pv 7) (pa_cons (pe_op op_add (pv 7) pe_int) (pa_cons (pv 7) (pa_cons pe_str (pa_cons (pe_tup (pa_cons (pv 3) (pa_cons (pe_op op_add (pv 3) pe_int) pa_nil))) pa_nil))))))) (pss_cons (ps_if (pt_cmpR (op_neO T.n_Rule T.o_Rule T.e_Rule T.ef_Rule (ok_Rule___eq__ T) (hr.mono (by decide)) pass0) (pe_propR (pv 8) T.cl_Rule T.p_Rule_normal (ok_Rule_normal T) (hr.mono (by decide)) pass0) (pe_makeR T.mk_Rule (ok_Rule_init5 T) (hr.mono (by decide)) rfl T.m_Rule pass0 (pa_cons (pv 7) (pa_cons (pv 7) (pa_cons pe_int (pa_cons pe_str (pa_cons (pe_tup (pa_cons (pv 3) (pa_cons (pe_op op_add (pv 3) pe_int) pa_nil))) pa_nil)))))) (nomark _)) (pss_one (ps_ret pe_bl)) pss_nil) (pss_cons (ps_if (pt_not (pt_val (pe_callR (ok_alike T) (hr.mono (by decide)) rfl T.m_alike T.k_alike pass0 (pa_cons (pv 8) (pa_cons (pe_makeR T.mk_Rule (ok_Rule_init4 T) (hr.mono (by decide)) rfl T.m_Rule pass0 (pa_cons (pv 7) (pa_cons (pe_op op_sub (pe_op op_mul pe_int (pv 7)) pe_int) (pa_cons pe_int (pa_cons pe_str pa_nil))))) pa_nil))))) (pss_one (ps_ret pe_bl)) pss_nil) (pss_cons (ps_if (PW.pt (pw_or (pt_val (pe_callR (ok_alike T) (hr.mono (by decide)) rfl T.m_alike T.k_alike pass0 (pa_cons (pv 8) (pa_cons (pe_makeR T.mk_Rule (ok_Rule_init4 T) (hr.mono (by decide)) rfl T.m_Rule pass0 (pa_cons (pv 7) (pa_cons (pe_op op_mul pe_int (pv 7)) (pa_cons pe_int (pa_cons pe_str pa_nil))))) pa_nil)))) (pw_or1 (pt_val (pe_callR (ok_alike T) (hr.mono (by decide)) rfl T.m_alike T.k_alike pass0 (pa_cons (pv 8) (pa_cons (pe_makeR T.mk_Rule (ok_Rule_init4 T) (hr.mono (by decide)) rfl T.m_Rule pass0 (pa_cons (pv 7) (pa_cons (pv 7) (pa_cons (pe_op op_add (pv 7) pe_int) (pa_cons pe_str pa_nil))))) pa_nil))))))) (pss_one (ps_ret pe_bl)) pss_nil) (pss_cons (ps_if (PW.pt (pw_or (pt_val (pe_callR (ok_alike T) (hr.mono (by decide)) rfl T.m_alike T.k_alike pass0 (pa_cons (pv 8) (pa_cons (pe_makeR T.mk_Rule (ok_Rule_init4 T) (hr.mono (by decide)) rfl T.m_Rule pass0 (pa_cons (pv 7) (pa_cons (pv 7) (pa_cons pe_int (pa_cons pe_str pa_nil))))) pa_nil)))) (pw_or1 (pt_val (pe_callR (ok_alike T) (hr.mono (by decide)) rfl T.m_alike T.k_alike pass0 (pa_cons (pe_makeR T.mk_Rule (ok_Rule_init2 T) (hr.mono (by decide)) rfl T.m_Rule pass0 (pa_cons pe_int (pa_cons pe_int pa_nil))) (pa_cons (pe_makeR T.mk_Rule (ok_Rule_init2 T) (hr.mono (by decide)) rfl T.m_Rule pass0 (pa_cons pe_int (pa_cons pe_int pa_nil))) pa_nil))))))) (pss_one (ps_ret pe_bl)) pss_nil) (pss_cons (ps_if (pt_not (pt_val (pe_callR (ok_alike T) (hr.mono (by decide)) rfl T.m_alike T.k_alike pass0 (pa_cons (pe_makeR T.mk_Rule (ok_Rule_init3 T) (hr.mono (by decide)) rfl T.m_Rule pass0 (pa_cons pe_int (pa_cons pe_int (pa_cons pe_int pa_nil)))) (pa_cons (pe_makeR T.mk_Rule (ok_Rule_init2 T) (hr.mono (by decide)) rfl T.m_Rule pass0 (pa_cons pe_int (pa_cons pe_int pa_nil))) pa_nil))))) (pss_one (ps_ret pe_bl)) pss_nil) (pss_one (ps_if (PW.pt (pw_or (pt_cmpR op_ne (pe_fld (pe_propR (pe_makeR T.mk_Rule (ok_Rule_init3 T) (hr.mono (by decide)) rfl T.m_Rule pass0 (pa_cons (pv 7) (pa_cons pe_int (pa_cons (pe_op op_add (pv 7) pe_int) pa_nil)))) T.cl_Rule T.p_Rule_normal (ok_Rule_normal T) (hr.mono (by decide)) pass0) rfl) (pe_op op_mul pe_int (pv 7)) (nomark _)) (pw_or1 (pt_cmpR op_ne (pe_fld (pe_propR (pe_makeR T.mk_Rule (ok_Rule_init2 T) (hr.mono (by decide)) rfl T.m_Rule pass0 (pa_cons (pv 7) (pa_cons (pe_op op_sub (pv 7) pe_int) pa_nil))) T.cl_Rule T.p_Rule_normal (ok_Rule_normal T) (hr.mono (by decide)) pass0) rfl) pe_int (nomark _))))) (pss_one (ps_ret pe_bl)) pss_nil)))))))))))))))))) (pss_one (ps_ret pe_bl))), ?_⟩
    refine ⟨_, rfl, a, _, rfl, .inl hS, _, _, rfl, _, _, rfl, _, rfl, ?_, ?_, ?_⟩
    · rw [List.length_map]
      split <;> split <;> omega
    · rw [List.length_map]
      split <;> split <;> omega
    refine for_range (fun i σ H2 => ∃ s1 s2 s3 s4 s5 s6 s7 s8, σ = [some (.ref a), s1, s2, s3, s4, s5, s6, s7, s8] ∧ Same H H2) ⟨_, _, _, _, _, _, _, _, rfl, Same.refl H⟩ ?_ ?_
    · rintro i σ H2 hi ⟨s1, s2, s3, s4, s5, s6, s7, s8, rfl, e2⟩
      -- _law_box = _law_seed(..)
      refine ⟨_, rfl, _, rfl, a, ns, i, by rw [Int.zero_add], e2.seq hS, fun b x y H3 nb e3 hb => ?_⟩
      -- _law_a = _law_choose(_law_box, 30)
      refine ⟨_, rfl, b, x, y, 30, rfl, hb, by decide, by decide, fun z x' y' z0 z1 => ?_⟩
      have nbH : H b = none := e2.free nb
      have f1 : Same H (upd H3 b (.lst [.int x', .int y'])) := Same.mut (e2.trans e3) nbH
      generalize hH4 : upd H3 b (HO.lst [V.int x', V.int y']) = H4 at f1
      have hb4 : H4 b = some (.lst [.int x', .int y']) := by rw [← hH4]; exact upd_same
      -- _law_day = Day(48, [..])
      refine ⟨_, rfl, _, rfl, _, _, rfl, rfl, (by show 3 ≤ sizeLine; decide), fun p1 n1 => ?_⟩
      refine ⟨_, rfl, _, _, rfl, rfl, _, rfl, _, _, rfl, rfl, (by show 3 ≤ sizeLine; decide), fun p2 n2 => ?_⟩
      refine ⟨_, rfl, _, _, rfl, rfl, _, rfl, _, _, rfl, rfl, (by show 3 ≤ sizeLine; decide), fun p3 n3 => ?_⟩
      refine ⟨(by show 3 ≤ sizeLine; decide), fun p4 n4 => ?_⟩
      obtain ⟨e5, k1, k2, k3, k4⟩ := lay4 (o4 := .lst [.ref p1, .ref p2, .ref p3]) n1 n2 n3 n4
      have O3 := ok3 z0 z1
      refine fun x6 dx6 nx6 ndx6 ne6 => made_day' (K := K) (ms := ms3 z) ⟨p4, _, rfl, .inl (.inl (.inl k4)), .cons ⟨p1, rfl, k1⟩ (.cons ⟨p2, rfl, k2⟩ (.cons ⟨p3, rfl, k3⟩ .nil))⟩ O3 nx6 ndx6 ne6 fun H6 e6 D6 => ⟨rfl, ?_⟩
      obtain ⟨ad, dxd, td, vd, hv, hd, hrest⟩ := id D6
      cases hv
      have hb6 := e6 _ _ (e5 _ _ hb4)
      have f6 : Same H H6 := f1.trans (e5.trans e6)
      -- _law_head
      have la := len_int z0 (by omega : z ≤ 1000)
      have la2 := len_int (i := z + 2) (by omega) (by omega)
      have la3 := len_int (i := z + 3) (by omega) (by omega)
      have la9 := len_int (i := z + 9) (by omega) (by omega)
      have la10 := len_int (i := z + 10) (by omega) (by omega)
      have L1 := len_app le4 la
      have L2 := len_app L1 le1
      have L3 := len_app L2 la2
      have L4 := len_app L3 le2c
      have L5 := len_app L4 la2
      have L6 := len_app L5 le1
      have M1 := len_app L6 la3
      have M2 := len_app M1 le10
      have M3 := len_app M2 la9
      have M4 := len_app M3 le1
      refine ⟨_, rfl, _, rfl, log_int z0 (by omega), _, _, rfl, rfl, lenA le4 la (by decide), _, _, rfl, rfl, lenA L1 le1 (by decide), _, rfl, _, _, rfl, rfl, _, rfl, log_int (i := z + 2) (by omega) (by omega), _, _, rfl, rfl, lenA L2 la2 (by decide), _, _, rfl, rfl, lenA L3 le2c (by decide), _, rfl, _, _, rfl, rfl, _, rfl, log_int (i := z + 2) (by omega) (by omega), _, _, rfl, rfl, lenA L4 la2 (by decide), _, _, rfl, rfl, lenA L5 le1 (by decide), ?_⟩
      refine ⟨_, rfl, _, rfl, _, _, rfl, rfl, _, rfl, log_int (i := z + 3) (by omega) (by omega), _, _, rfl, rfl, lenA L6 la3 (by decide), _, _, rfl, rfl, lenA M1 le10 (by decide), _, rfl, _, _, rfl, rfl, _, rfl, log_int (i := z + 9) (by omega) (by omega), _, _, rfl, rfl, lenA M2 la9 (by decide), _, _, rfl, rfl, lenA M3 le1 (by decide), ?_⟩
      -- if str(_law_day) != .. or _law_day.taken != ..
      refine ⟨_, rfl, _, dxd, _, rfl, hd, _, 48, ms3 z, rfl, D6, O3, fun H7 e7 => ⟨_, rfl, ?_⟩⟩
      refine ⟨_, rfl, _, rfl, _, _, rfl, rfl, _, rfl, log_int (i := z + 10) (by omega) (by omega), _, _, rfl, rfl, lenA M4 la10 (by decide), rfl, _, rfl, ?_⟩
      refine iteNS (congrArg V.str text3) ?_
      clear k1 k2 k3 k4 e5 e6 nx6 ndx6 n1 n2 n3 n4 L1 L2 L3 L4 L5 L6 M1 M2 M3 M4 la la2 la3 la9 la10 hH4 hb e3 nb
      refine ⟨_, rfl, _, dxd, _, rfl, e7 _ _ hd, _, 48, ms3 z, rfl, D6.mono e7, O3, fun r8 H8 e8 h8 => ?_⟩
      refine ⟨_, rfl, _, rfl, _, _, rfl, rfl, _, rfl, _, _, rfl, rfl, _, rfl, _, _, rfl, rfl, (by show 4 ≤ sizeLine; decide), fun p9 n9 => ?_⟩
      have e9 := e7.trans (Same.new' (o := .tup [.int z, .int (z + 1), .int (z + 2), .int (z + 9)]) e8 n9)
      refine ⟨intsD (ticks (ms3 z)), intsD [z, z + 1, z + 2, z + 9], dp_ints (.inl (.inl ((Same.new n9) _ _ h8))), dp_ints (.inl (.inl upd_same)), shaped_ints, shaped_ints, _, rfl, ?_⟩
      rw [ticks3, eqv_same]
      refine iteF ?_
      -- _law_other
      refine ⟨_, rfl, _, dxd, _, rfl, e9 _ _ hd, lkD_no (by decide +kernel), _, 48, ms3 z, 1, rfl, D6.mono e9, O3, (by show 1 < 3; decide), fun v10 H10 e10 D10 => ?_⟩
      rw [ms3_without] at D10
      obtain ⟨a10, dx10, t10, ws10, rfl, hd10, hr10⟩ := id D10
      refine ⟨a10, dx10, _, rfl, hd10, lkD_no (by decide +kernel), _, rfl, _, _, rfl, rfl, _, rfl, _, _, rfl, rfl, (by show 3 ≤ sizeLine; decide), fun p11 n11 => ?_⟩
      have e11 := Same.new (o := .tup [.int (z + 4), .int (z + 9), .bl true]) n11
      refine ⟨_, 48, _, _, (z + 4, z + 9, true), rfl, D10.mono e11, ok2 z0 z1, ⟨p11, rfl, upd_same⟩, (by simp only [mtOk, Bool.and_eq_true, decide_eq_true_eq]; omega), (by rw [ins4]; exact ok4 z0 z1), fun v12 H12 e12 D12 => ?_⟩
      rw [ins4] at D12
      have e12' : Same H6 H12 := e9.trans (e10.trans (e11.trans e12))
      obtain ⟨a12, dx12, t12, ws12, rfl, hd12, hr12⟩ := id D12
      refine ⟨_, rfl, _, dx12, _, rfl, hd12, _, 48, ms4 z, rfl, D12, ok4 z0 z1, fun r13 H13 e13 h13 => ?_⟩
      refine ⟨_, rfl, _, rfl, _, _, rfl, rfl, _, rfl, _, _, rfl, rfl, _, rfl, _, _, rfl, rfl, _, rfl, _, _, rfl, rfl, _, rfl, _, _, rfl, rfl, _, rfl, _, _, rfl, rfl, _, rfl, _, _, rfl, rfl, (by show 8 ≤ sizeLine; decide), fun p14 n14 => ?_⟩
      refine ⟨intsD (ticks (ms4 z)), intsD [z, z + 1, z + 4, z + 5, z + 6, z + 7, z + 8, z + 9], dp_ints (.inl (.inl ((Same.new n14) _ _ h13))), dp_ints (.inl (.inl upd_same)), shaped_ints, shaped_ints, _, rfl, ?_⟩
      rw [ticks4, eqv_same]
      refine iteF ?_
      have e14 := e12'.trans (Same.new' (o := .tup [.int z, .int (z + 1), .int (z + 4), .int (z + 5), .int (z + 6), .int (z + 7), .int (z + 8), .int (z + 9)]) e13 n14)
      -- _law_step = 2 + _law_choose(_law_box, 6)
      refine ⟨_, rfl, b, _, _, 6, rfl, e14 _ _ hb6, by decide, by decide, fun r x15 y15 r0 r1 => ⟨_, _, rfl, rfl, ?_⟩⟩
      have f15 : Same H _ := Same.mut (o := .lst [.int x15, .int y15]) (f6.trans e14) nbH
      generalize upd _ b (HO.lst [V.int x15, V.int y15]) = H15 at f15 ⊢
      clear e14 n14 h13 e13 hr12 hd12 D12 e12' e12 e11 n11 hr10 hd10 D10 e10 e9 n9 h8 e8 e7 hb6 hrest hd D6 O3 f6 hb4 f1
      have h6 : r = 0 ∨ r = 1 ∨ r = 2 ∨ r = 3 ∨ r = 4 ∨ r = 5 := by omega
      have hz : hoursOk (some (z, z + 1)) = true := by
        simp only [hoursOk, Bool.and_eq_true, decide_eq_true_eq]
        omega
      have ap : inV (.str "apart") v_PRIVATE_WORDS = true := by decide +kernel
      have bu : inV (.str "busy") v_PRIVATE_WORDS = true := by decide +kernel
      have on : inV (.str "one") v_PRIVATE_WORDS = true := by decide +kernel
      -- _law_rule
      refine ⟨_, rfl, _, rfl, _, _, rfl, rfl, _, rfl, _, rfl, _, rfl, _, _, rfl, rfl, (by show 2 ≤ sizeLine; decide), fun p16 n16 => ?_⟩
      have R0 : RuleOk (2 + r) (2 + r + 1) (2 + r) "apart" (some (z, z + 1)) := ⟨by omega, by omega, by omega, ap, hz⟩
      have S0 : Small (2 + r) (2 + r + 1) (2 + r) := ⟨by omega, by omega, by omega⟩
      refine fun x17 dx17 nx17 ndx17 ne17 => made_rule' (.inr ⟨p16, z, z + 1, rfl, upd_same, rfl⟩) R0 nx17 ndx17 ne17 fun H17 e17 I17 => ⟨rfl, ?_⟩
      have f17 : Same H H17 := f15.trans ((Same.new n16).trans e17)
      clear nx17 ndx17 e17
      obtain ⟨a17, dx17', hh17, hv, hd17, hr17⟩ := id I17
      cases hv
      -- if _law_rule.normal != Rule(..)
      refine ⟨_, rfl, _, _, _, rfl, hd17, _, _, _, _, _, _, rfl, I17, R0, S0, fun v18 H18 e18 I18 => ?_⟩
      obtain ⟨a18, dx18, hh18, rfl, hd18, hr18⟩ := id I18
      refine ⟨_, rfl, _, rfl, _, rfl, _, rfl, _, _, rfl, rfl, (by show 2 ≤ sizeLine; decide), fun p19 n19 => ?_⟩
      have e19 := Same.new (o := .tup [.int z, .int (z + 1)]) n19
      refine fun x20 dx20 nx20 ndx20 ne20 => made_rule' (.inr ⟨p19, z, z + 1, rfl, upd_same, rfl⟩) (⟨by omega, by omega, by decide, ap, hz⟩ : RuleOk (2 + r) (2 + r) 0 "apart" (some (z, z + 1))) nx20 ndx20 ne20 fun H20 e20 I20 => ⟨rfl, ?_⟩
      obtain ⟨a20, dx20', hh20, hv, hd20, hr20⟩ := id I20
      cases hv
      have e1820 := e19.trans e20
      refine ⟨a18, dx18, _, _, dx20', _, rfl, rfl, e1820 _ _ hd18, hd20, _, _, _, _, _, _, _, _, _, _, _, _, rfl, I18.mono e1820, I20, ⟨_, rfl, _, rfl, iteNB ?_ ?_⟩⟩
      · simp only [eqH, decide_true, Bool.and_true, Bool.true_and, Bool.and_eq_true, decide_eq_true_eq]
        rcases h6 with rfl | rfl | rfl | rfl | rfl | rfl <;> decide +kernel
      have f20 := e18.trans e1820
      clear nx20 ndx20 e20 e1820 e19 n19
      -- if not alike(..)
      have RA1 : RuleOk (2 + r) (2 * (2 + r) - 1) 1 "apart" none := ⟨by omega, by omega, by omega, by decide +kernel, rfl⟩
      have SA1 : Small (2 + r) (2 * (2 + r) - 1) 1 := ⟨by omega, by omega, by omega⟩
      refine ⟨_, rfl, _, rfl, _, rfl, _, _, rfl, rfl, .inl ⟨by decide, by decide⟩, _, _, rfl, rfl, fun xa dxa na nda nea => made_rule' (.inl ⟨rfl, rfl⟩) RA1 na nda nea fun HA1 eA1 IA1 => ⟨rfl, ?_⟩⟩
      refine ⟨_, _, _, _, _, _, _, _, _, _, _, _, rfl, I17.mono (f20.trans eA1), IA1, R0, RA1, S0, SA1, fun HB1 eB1 => ⟨_, rfl, iteNB ?_ ?_⟩⟩
      · rcases h6 with rfl | rfl | rfl | rfl | rfl | rfl <;> decide +kernel
      have g1 : Same H17 HB1 := f20.trans (eA1.trans eB1)
      have RA2 : RuleOk (2 + r) (2 * (2 + r)) 0 "apart" none := ⟨by omega, by omega, by omega, by decide +kernel, rfl⟩
      have SA2 : Small (2 + r) (2 * (2 + r)) 0 := ⟨by omega, by omega, by omega⟩
      refine ⟨_, rfl, _, rfl, _, rfl, _, _, rfl, rfl, .inl ⟨by decide, by decide⟩, fun xa dxa na nda nea => made_rule' (.inl ⟨rfl, rfl⟩) RA2 na nda nea fun HA2 eA2 IA2 => ⟨rfl, ?_⟩⟩
      refine ⟨_, _, _, _, _, _, _, _, _, _, _, _, rfl, I17.mono (g1.trans eA2), IA2, R0, RA2, S0, SA2, fun HB2 eB2 => ⟨_, rfl, iteFB ?_ ?_⟩⟩
      · rcases h6 with rfl | rfl | rfl | rfl | rfl | rfl <;> decide +kernel
      have g2 : Same H17 HB2 := g1.trans (eA2.trans eB2)
      have RA3 : RuleOk (2 + r) (2 + r) ((2 + r) + 1) "apart" none := ⟨by omega, by omega, by omega, by decide +kernel, rfl⟩
      have SA3 : Small (2 + r) (2 + r) ((2 + r) + 1) := ⟨by omega, by omega, by omega⟩
      refine ⟨_, rfl, _, rfl, _, rfl, _, rfl, _, _, rfl, rfl, fun xa dxa na nda nea => made_rule' (.inl ⟨rfl, rfl⟩) RA3 na nda nea fun HA3 eA3 IA3 => ⟨rfl, ?_⟩⟩
      refine ⟨_, _, _, _, _, _, _, _, _, _, _, _, rfl, I17.mono (g2.trans eA3), IA3, R0, RA3, S0, SA3, fun HB3 eB3 => ⟨_, rfl, iteFB ?_ ?_⟩⟩
      · rcases h6 with rfl | rfl | rfl | rfl | rfl | rfl <;> decide +kernel
      have g3 : Same H17 HB3 := g2.trans (eA3.trans eB3)
      have RA4 : RuleOk (2 + r) (2 + r) 0 "one" none := ⟨by omega, by omega, by omega, by decide +kernel, rfl⟩
      have SA4 : Small (2 + r) (2 + r) 0 := ⟨by omega, by omega, by omega⟩
      refine ⟨_, rfl, _, rfl, _, rfl, fun xa dxa na nda nea => made_rule' (.inl ⟨rfl, rfl⟩) RA4 na nda nea fun HA4 eA4 IA4 => ⟨rfl, ?_⟩⟩
      refine ⟨_, _, _, _, _, _, _, _, _, _, _, _, rfl, I17.mono (g3.trans eA4), IA4, R0, RA4, S0, SA4, fun HB4 eB4 => ⟨_, rfl, iteFB ?_ ?_⟩⟩
      · rcases h6 with rfl | rfl | rfl | rfl | rfl | rfl <;> decide +kernel
      have g4 : Same H17 HB4 := g3.trans (eA4.trans eB4)
      have RA5 : RuleOk 1 3 0 "busy" none := ⟨by omega, by omega, by omega, by decide +kernel, rfl⟩
      have SA5 : Small 1 3 0 := ⟨by omega, by omega, by omega⟩
      have RA6 : RuleOk 1 2 0 "busy" none := ⟨by omega, by omega, by omega, by decide +kernel, rfl⟩
      have SA6 : Small 1 2 0 := ⟨by omega, by omega, by omega⟩
      refine fun xa dxa na nda nea => made_rule' (.inl ⟨rfl, rfl⟩) RA5 na nda nea fun HA5 eA5 IA5 => ⟨rfl, ?_⟩
      refine fun xb dxb nb ndb neb => made_rule' (.inl ⟨rfl, rfl⟩) RA6 nb ndb neb fun HA6 eA6 IA6 => ⟨rfl, ?_⟩
      refine ⟨_, _, _, _, _, _, _, _, _, _, _, _, rfl, IA5.mono eA6, IA6, RA5, RA6, SA5, SA6, fun HB6 eB6 => ⟨_, rfl, iteFB ?_ ?_⟩⟩
      · decide +kernel
      have g6 : Same H17 HB6 := g4.trans (eA5.trans (eA6.trans eB6))
      have RA7 : RuleOk 1 3 1 "busy" none := ⟨by omega, by omega, by omega, by decide +kernel, rfl⟩
      have SA7 : Small 1 3 1 := ⟨by omega, by omega, by omega⟩
      have RA8 : RuleOk 1 3 0 "busy" none := ⟨by omega, by omega, by omega, by decide +kernel, rfl⟩
      have SA8 : Small 1 3 0 := ⟨by omega, by omega, by omega⟩
      refine fun xa dxa na nda nea => made_rule' (.inl ⟨rfl, rfl⟩) RA7 na nda nea fun HA7 eA7 IA7 => ⟨rfl, ?_⟩
      refine fun xb dxb nb ndb neb => made_rule' (.inl ⟨rfl, rfl⟩) RA8 nb ndb neb fun HA8 eA8 IA8 => ⟨rfl, ?_⟩
      refine ⟨_, _, _, _, _, _, _, _, _, _, _, _, rfl, IA7.mono eA8, IA8, RA7, RA8, SA7, SA8, fun HB8 eB8 => ⟨_, rfl, iteNB ?_ ?_⟩⟩
      · decide +kernel
      have g8 : Same H17 HB8 := g6.trans (eA7.trans (eA8.trans eB8))
      have RA9 : RuleOk (2 + r) 0 ((2 + r) + 1) "busy" none := ⟨by omega, by omega, by omega, by decide +kernel, rfl⟩
      have SA9 : Small (2 + r) 0 ((2 + r) + 1) := ⟨by omega, by omega, by omega⟩
      refine ⟨_, rfl, _, rfl, _, _, rfl, rfl, fun xa dxa na nda nea => made_rule' (.inl ⟨rfl, rfl⟩) RA9 na nda nea fun HA9 eA9 IA9 => ⟨rfl, ?_⟩⟩
      obtain ⟨aA9, dA9, hA9, hv, hdA9, _⟩ := id IA9
      cases hv
      refine ⟨_, _, _, rfl, hdA9, _, _, _, _, _, _, rfl, IA9, RA9, SA9, fun v9 HB9 eB9 IB9 => ?_⟩
      obtain ⟨aB9, dB9, hB9, rfl, hdB9, _⟩ := id IB9
      refine ⟨aB9, _, _, _, _, rfl, hdB9, T.cl_Rule, T.na_Rule_least, lkR_least, _, rfl, _, _, rfl, rfl, .inl ⟨by decide, by decide⟩, rfl, _, rfl, iteNS (congrArg V.int ?_) ?_⟩
      · rcases h6 with rfl | rfl | rfl | rfl | rfl | rfl <;> decide +kernel
      have g9 : Same H17 HB9 := g8.trans (eA9.trans eB9)
      have RA10 : RuleOk (2 + r) ((2 + r) - 1) 0 "busy" none := ⟨by omega, by omega, by omega, by decide +kernel, rfl⟩
      have SA10 : Small (2 + r) ((2 + r) - 1) 0 := ⟨by omega, by omega, by omega⟩
      refine ⟨_, rfl, _, rfl, _, _, rfl, rfl, fun xa dxa na nda nea => made_rule' (.inl ⟨rfl, rfl⟩) RA10 na nda nea fun HA10 eA10 IA10 => ⟨rfl, ?_⟩⟩
      obtain ⟨aA10, dA10, hA10, hv, hdA10, _⟩ := id IA10
      cases hv
      refine ⟨_, _, _, rfl, hdA10, _, _, _, _, _, _, rfl, IA10, RA10, SA10, fun v10 HB10 eB10 IB10 => ?_⟩
      obtain ⟨aB10, dB10, hB10, rfl, hdB10, _⟩ := id IB10
      refine ⟨aB10, _, _, _, _, rfl, hdB10, T.cl_Rule, T.na_Rule_gap, lkR_gap, rfl, _, rfl, iteNS (congrArg V.int ?_) ?_⟩
      · rcases h6 with rfl | rfl | rfl | rfl | rfl | rfl <;> decide +kernel
      have g10 : Same H17 HB10 := g9.trans (eA10.trans eB10)
      exact ⟨_, _, _, _, _, _, _, _, rfl, f17.trans g10⟩
    · rintro σ H2 ⟨s1, s2, s3, s4, s5, s6, s7, s8, rfl, e2⟩
      exact q H2
end
end DD

set_option Elab.async false
set_option linter.all false
set_option maxRecDepth 100000
set_option maxHeartbeats 4000000
namespace DD
open PySem PySem.Spec PyProof.Rows L2 StX

theorem all_mk {l : PySem.W.OpenLaw} {w : World} {K : PySem.W.Frag} {h : Heap} {mg : Str → Option Value} {fa : Addr} (X : K.In h) (G : h.Ns mainGlobals mg) (hfa : mg "law" = some (.ref fa))
    {f_is_integer f_is_number f_is_positive f_is_sequence f__are_hours f__wrong_argument f__normal_parts f_alike f__is_meeting f__are_meetings f__meeting_text f__meetings_text f__law_seed f__law_choose f_law f_Rule___init__ f_Rule_normal q_Rule_normal f_Rule___eq__ f_Day___init__ f_Day_taken q_Day_taken f_Day_without f_Day_having f_Day___str__ C_Rule C_Day c_PRIVATE_WORDS : Addr}
     (a_Day : PySem.W.nsIn K mainGlobals "Day" = some (some (.ref C_Day)))
     (a_Rule : PySem.W.nsIn K mainGlobals "Rule" = some (some (.ref C_Rule)))
    {oc_is_integer kV_is_integer do_is_integer pm_is_integer cd_is_integer ct_is_integer : Value} {od_is_integer an_is_integer : Option Addr} {sl_is_integer : Array (Option Value)} (a_is_integer : PySem.W.nsIn K mainGlobals "is_integer" = some (some (.ref f_is_integer)))
     (l_is_integer : K.lookup f_is_integer = some ⟨oc_is_integer, od_is_integer, .func (PySem.W.fnOf "is_integer" "is_integer" (defArgs s_is_integer) (defBody s_is_integer) (defScope s_is_integer) .none kV_is_integer do_is_integer pm_is_integer an_is_integer cd_is_integer ct_is_integer), sl_is_integer⟩)
     (c_is_integer : PySem.W.codeIn K cd_is_integer "is_integer" = true)
     (k_is_integer : PySem.W.keepIn K (.ref f_is_integer) = true)
    {oc_is_number kV_is_number do_is_number pm_is_number cd_is_number ct_is_number : Value} {od_is_number an_is_number : Option Addr} {sl_is_number : Array (Option Value)} (a_is_number : PySem.W.nsIn K mainGlobals "is_number" = some (some (.ref f_is_number)))
     (l_is_number : K.lookup f_is_number = some ⟨oc_is_number, od_is_number, .func (PySem.W.fnOf "is_number" "is_number" (defArgs s_is_number) (defBody s_is_number) (defScope s_is_number) .none kV_is_number do_is_number pm_is_number an_is_number cd_is_number ct_is_number), sl_is_number⟩)
     (c_is_number : PySem.W.codeIn K cd_is_number "is_number" = true)
     (k_is_number : PySem.W.keepIn K (.ref f_is_number) = true)
    {oc_is_positive kV_is_positive do_is_positive pm_is_positive cd_is_positive ct_is_positive : Value} {od_is_positive an_is_positive : Option Addr} {sl_is_positive : Array (Option Value)} (a_is_positive : PySem.W.nsIn K mainGlobals "is_positive" = some (some (.ref f_is_positive)))
     (l_is_positive : K.lookup f_is_positive = some ⟨oc_is_positive, od_is_positive, .func (PySem.W.fnOf "is_positive" "is_positive" (defArgs s_is_positive) (defBody s_is_positive) (defScope s_is_positive) .none kV_is_positive do_is_positive pm_is_positive an_is_positive cd_is_positive ct_is_positive), sl_is_positive⟩)
     (c_is_positive : PySem.W.codeIn K cd_is_positive "is_positive" = true)
     (k_is_positive : PySem.W.keepIn K (.ref f_is_positive) = true)
    {oc_is_sequence kV_is_sequence do_is_sequence pm_is_sequence cd_is_sequence ct_is_sequence : Value} {od_is_sequence an_is_sequence : Option Addr} {sl_is_sequence : Array (Option Value)} (a_is_sequence : PySem.W.nsIn K mainGlobals "is_sequence" = some (some (.ref f_is_sequence)))
     (l_is_sequence : K.lookup f_is_sequence = some ⟨oc_is_sequence, od_is_sequence, .func (PySem.W.fnOf "is_sequence" "is_sequence" (defArgs s_is_sequence) (defBody s_is_sequence) (defScope s_is_sequence) .none kV_is_sequence do_is_sequence pm_is_sequence an_is_sequence cd_is_sequence ct_is_sequence), sl_is_sequence⟩)
     (c_is_sequence : PySem.W.codeIn K cd_is_sequence "is_sequence" = true)
     (k_is_sequence : PySem.W.keepIn K (.ref f_is_sequence) = true)
    {oc__are_hours kV__are_hours do__are_hours pm__are_hours cd__are_hours ct__are_hours : Value} {od__are_hours an__are_hours : Option Addr} {sl__are_hours : Array (Option Value)} (a__are_hours : PySem.W.nsIn K mainGlobals "_are_hours" = some (some (.ref f__are_hours)))
     (l__are_hours : K.lookup f__are_hours = some ⟨oc__are_hours, od__are_hours, .func (PySem.W.fnOf "_are_hours" "_are_hours" (defArgs s__are_hours) (defBody s__are_hours) (defScope s__are_hours) .none kV__are_hours do__are_hours pm__are_hours an__are_hours cd__are_hours ct__are_hours), sl__are_hours⟩)
     (c__are_hours : PySem.W.codeIn K cd__are_hours "_are_hours" = true)
     (k__are_hours : PySem.W.keepIn K (.ref f__are_hours) = true)
    {oc__wrong_argument kV__wrong_argument do__wrong_argument pm__wrong_argument cd__wrong_argument ct__wrong_argument : Value} {od__wrong_argument an__wrong_argument : Option Addr} {sl__wrong_argument : Array (Option Value)} (a__wrong_argument : PySem.W.nsIn K mainGlobals "_wrong_argument" = some (some (.ref f__wrong_argument)))
     (l__wrong_argument : K.lookup f__wrong_argument = some ⟨oc__wrong_argument, od__wrong_argument, .func (PySem.W.fnOf "_wrong_argument" "_wrong_argument" (defArgs s__wrong_argument) (defBody s__wrong_argument) (defScope s__wrong_argument) .none kV__wrong_argument do__wrong_argument pm__wrong_argument an__wrong_argument cd__wrong_argument ct__wrong_argument), sl__wrong_argument⟩)
     (c__wrong_argument : PySem.W.codeIn K cd__wrong_argument "_wrong_argument" = true)
     (k__wrong_argument : PySem.W.keepIn K (.ref f__wrong_argument) = true)
    {oc__normal_parts kV__normal_parts do__normal_parts pm__normal_parts cd__normal_parts ct__normal_parts : Value} {od__normal_parts an__normal_parts : Option Addr} {sl__normal_parts : Array (Option Value)} (a__normal_parts : PySem.W.nsIn K mainGlobals "_normal_parts" = some (some (.ref f__normal_parts)))
     (l__normal_parts : K.lookup f__normal_parts = some ⟨oc__normal_parts, od__normal_parts, .func (PySem.W.fnOf "_normal_parts" "_normal_parts" (defArgs s__normal_parts) (defBody s__normal_parts) (defScope s__normal_parts) .none kV__normal_parts do__normal_parts pm__normal_parts an__normal_parts cd__normal_parts ct__normal_parts), sl__normal_parts⟩)
     (c__normal_parts : PySem.W.codeIn K cd__normal_parts "_normal_parts" = true)
     (k__normal_parts : PySem.W.keepIn K (.ref f__normal_parts) = true)
    {oc_alike kV_alike do_alike pm_alike cd_alike ct_alike : Value} {od_alike an_alike : Option Addr} {sl_alike : Array (Option Value)} (a_alike : PySem.W.nsIn K mainGlobals "alike" = some (some (.ref f_alike)))
     (l_alike : K.lookup f_alike = some ⟨oc_alike, od_alike, .func (PySem.W.fnOf "alike" "alike" (defArgs s_alike) (defBody s_alike) (defScope s_alike) .none kV_alike do_alike pm_alike an_alike cd_alike ct_alike), sl_alike⟩)
     (c_alike : PySem.W.codeIn K cd_alike "alike" = true)
     (k_alike : PySem.W.keepIn K (.ref f_alike) = true)
    {oc__is_meeting kV__is_meeting do__is_meeting pm__is_meeting cd__is_meeting ct__is_meeting : Value} {od__is_meeting an__is_meeting : Option Addr} {sl__is_meeting : Array (Option Value)} (a__is_meeting : PySem.W.nsIn K mainGlobals "_is_meeting" = some (some (.ref f__is_meeting)))
     (l__is_meeting : K.lookup f__is_meeting = some ⟨oc__is_meeting, od__is_meeting, .func (PySem.W.fnOf "_is_meeting" "_is_meeting" (defArgs s__is_meeting) (defBody s__is_meeting) (defScope s__is_meeting) .none kV__is_meeting do__is_meeting pm__is_meeting an__is_meeting cd__is_meeting ct__is_meeting), sl__is_meeting⟩)
     (c__is_meeting : PySem.W.codeIn K cd__is_meeting "_is_meeting" = true)
     (k__is_meeting : PySem.W.keepIn K (.ref f__is_meeting) = true)
    {oc__are_meetings kV__are_meetings do__are_meetings pm__are_meetings cd__are_meetings ct__are_meetings : Value} {od__are_meetings an__are_meetings : Option Addr} {sl__are_meetings : Array (Option Value)} (a__are_meetings : PySem.W.nsIn K mainGlobals "_are_meetings" = some (some (.ref f__are_meetings)))
     (l__are_meetings : K.lookup f__are_meetings = some ⟨oc__are_meetings, od__are_meetings, .func (PySem.W.fnOf "_are_meetings" "_are_meetings" (defArgs s__are_meetings) (defBody s__are_meetings) (defScope s__are_meetings) .none kV__are_meetings do__are_meetings pm__are_meetings an__are_meetings cd__are_meetings ct__are_meetings), sl__are_meetings⟩)
     (c__are_meetings : PySem.W.codeIn K cd__are_meetings "_are_meetings" = true)
     (k__are_meetings : PySem.W.keepIn K (.ref f__are_meetings) = true)
    {oc__meeting_text kV__meeting_text do__meeting_text pm__meeting_text cd__meeting_text ct__meeting_text : Value} {od__meeting_text an__meeting_text : Option Addr} {sl__meeting_text : Array (Option Value)} (a__meeting_text : PySem.W.nsIn K mainGlobals "_meeting_text" = some (some (.ref f__meeting_text)))
     (l__meeting_text : K.lookup f__meeting_text = some ⟨oc__meeting_text, od__meeting_text, .func (PySem.W.fnOf "_meeting_text" "_meeting_text" (defArgs s__meeting_text) (defBody s__meeting_text) (defScope s__meeting_text) .none kV__meeting_text do__meeting_text pm__meeting_text an__meeting_text cd__meeting_text ct__meeting_text), sl__meeting_text⟩)
     (c__meeting_text : PySem.W.codeIn K cd__meeting_text "_meeting_text" = true)
     (k__meeting_text : PySem.W.keepIn K (.ref f__meeting_text) = true)
    {oc__meetings_text kV__meetings_text do__meetings_text pm__meetings_text cd__meetings_text ct__meetings_text : Value} {od__meetings_text an__meetings_text : Option Addr} {sl__meetings_text : Array (Option Value)} (a__meetings_text : PySem.W.nsIn K mainGlobals "_meetings_text" = some (some (.ref f__meetings_text)))
     (l__meetings_text : K.lookup f__meetings_text = some ⟨oc__meetings_text, od__meetings_text, .func (PySem.W.fnOf "_meetings_text" "_meetings_text" (defArgs s__meetings_text) (defBody s__meetings_text) (defScope s__meetings_text) .none kV__meetings_text do__meetings_text pm__meetings_text an__meetings_text cd__meetings_text ct__meetings_text), sl__meetings_text⟩)
     (c__meetings_text : PySem.W.codeIn K cd__meetings_text "_meetings_text" = true)
     (k__meetings_text : PySem.W.keepIn K (.ref f__meetings_text) = true)
    {oc__law_seed kV__law_seed do__law_seed pm__law_seed cd__law_seed ct__law_seed : Value} {od__law_seed an__law_seed : Option Addr} {sl__law_seed : Array (Option Value)} (a__law_seed : PySem.W.nsIn K mainGlobals "_law_seed" = some (some (.ref f__law_seed)))
     (l__law_seed : K.lookup f__law_seed = some ⟨oc__law_seed, od__law_seed, .func (PySem.W.fnOf "_law_seed" "_law_seed" (defArgs s__law_seed) (defBody s__law_seed) (defScope s__law_seed) .none kV__law_seed do__law_seed pm__law_seed an__law_seed cd__law_seed ct__law_seed), sl__law_seed⟩)
     (c__law_seed : PySem.W.codeIn K cd__law_seed "_law_seed" = true)
     (k__law_seed : PySem.W.keepIn K (.ref f__law_seed) = true)
    {oc__law_choose kV__law_choose do__law_choose pm__law_choose cd__law_choose ct__law_choose : Value} {od__law_choose an__law_choose : Option Addr} {sl__law_choose : Array (Option Value)} (a__law_choose : PySem.W.nsIn K mainGlobals "_law_choose" = some (some (.ref f__law_choose)))
     (l__law_choose : K.lookup f__law_choose = some ⟨oc__law_choose, od__law_choose, .func (PySem.W.fnOf "_law_choose" "_law_choose" (defArgs s__law_choose) (defBody s__law_choose) (defScope s__law_choose) .none kV__law_choose do__law_choose pm__law_choose an__law_choose cd__law_choose ct__law_choose), sl__law_choose⟩)
     (c__law_choose : PySem.W.codeIn K cd__law_choose "_law_choose" = true)
     (k__law_choose : PySem.W.keepIn K (.ref f__law_choose) = true)
    {oc_law kV_law do_law pm_law cd_law ct_law : Value} {od_law an_law : Option Addr} {sl_law : Array (Option Value)} (a_law : PySem.W.nsIn K mainGlobals "law" = some (some (.ref f_law)))
     (l_law : K.lookup f_law = some ⟨oc_law, od_law, .func (PySem.W.fnOf "law" "law" (defArgs s_law) (defBody s_law) (defScope s_law) .none kV_law do_law pm_law an_law cd_law ct_law), sl_law⟩)
     (c_law : PySem.W.codeIn K cd_law "law" = true)
     (k_law : PySem.W.keepIn K (.ref f_law) = true)
    {oc_Rule___init__ kV_Rule___init__ do_Rule___init__ pm_Rule___init__ cd_Rule___init__ ct_Rule___init__ : Value} {od_Rule___init__ an_Rule___init__ : Option Addr} {sl_Rule___init__ : Array (Option Value)} (a_Rule___init__ : PySem.W.findIn K (.ref C_Rule) "__init__" = some (some (.ref f_Rule___init__)))
     (i_Rule___init__ : PySem.W.isFn K (.ref f_Rule___init__) = true)
    {T_Rule___init__ : Addr} (l_Rule___init__ : K.lookup f_Rule___init__ = some ⟨oc_Rule___init__, od_Rule___init__, .func (PySem.W.fnOf "__init__" "Rule.__init__" (defArgs s_Rule___init__) (defBody s_Rule___init__) (defScope s_Rule___init__) (.ref T_Rule___init__) kV_Rule___init__ do_Rule___init__ pm_Rule___init__ an_Rule___init__ cd_Rule___init__ ct_Rule___init__), sl_Rule___init__⟩)
    {tc_Rule___init__ : Value} {td_Rule___init__ : Option Addr} {it_Rule___init__ : Array Value} {tn_Rule___init__ : Nat} {ts_Rule___init__ : Array (Option Value)} (lt_Rule___init__ : K.lookup T_Rule___init__ = some ⟨tc_Rule___init__, td_Rule___init__, .seq it_Rule___init__ tn_Rule___init__, ts_Rule___init__⟩)
     (lv_Rule___init__ : it_Rule___init__.toList.mapM absV = some [V.int 1, V.int 0, V.int 0, V.str "busy", V.non])
     (c_Rule___init__ : PySem.W.codeIn K cd_Rule___init__ "Rule.__init__" = true)
     (k_Rule___init__ : PySem.W.keepIn K (.ref f_Rule___init__) = true)
    {oc_Rule_normal kV_Rule_normal do_Rule_normal pm_Rule_normal cd_Rule_normal ct_Rule_normal : Value} {od_Rule_normal an_Rule_normal : Option Addr} {sl_Rule_normal : Array (Option Value)} (a_Rule_normal : PySem.W.findIn K (.ref C_Rule) "normal" = some (some (.ref q_Rule_normal)))
     (pg_Rule_normal : PySem.W.specialIn K (.ref q_Rule_normal) "__get__" = some (some (.builtin "property.__get__")))
     (pt_Rule_normal : PySem.W.takesIn K (.ref q_Rule_normal) = some true)
    {rest_Rule_normal : List Value} (pr_Rule_normal : PySem.W.recIn K q_Rule_normal "property" = some (.ref f_Rule_normal :: rest_Rule_normal))
     (l_Rule_normal : K.lookup f_Rule_normal = some ⟨oc_Rule_normal, od_Rule_normal, .func (PySem.W.fnOf "normal" "Rule.normal" (defArgs s_Rule_normal) (defBody s_Rule_normal) (defScope s_Rule_normal) .none kV_Rule_normal do_Rule_normal pm_Rule_normal an_Rule_normal cd_Rule_normal ct_Rule_normal), sl_Rule_normal⟩)
     (c_Rule_normal : PySem.W.codeIn K cd_Rule_normal "Rule.normal" = true)
     (k_Rule_normal : PySem.W.keepIn K (.ref f_Rule_normal) = true)
    {oc_Rule___eq__ kV_Rule___eq__ do_Rule___eq__ pm_Rule___eq__ cd_Rule___eq__ ct_Rule___eq__ : Value} {od_Rule___eq__ an_Rule___eq__ : Option Addr} {sl_Rule___eq__ : Array (Option Value)} (a_Rule___eq__ : PySem.W.findIn K (.ref C_Rule) "__eq__" = some (some (.ref f_Rule___eq__)))
     (i_Rule___eq__ : PySem.W.isFn K (.ref f_Rule___eq__) = true)
     (l_Rule___eq__ : K.lookup f_Rule___eq__ = some ⟨oc_Rule___eq__, od_Rule___eq__, .func (PySem.W.fnOf "__eq__" "Rule.__eq__" (defArgs s_Rule___eq__) (defBody s_Rule___eq__) (defScope s_Rule___eq__) .none kV_Rule___eq__ do_Rule___eq__ pm_Rule___eq__ an_Rule___eq__ cd_Rule___eq__ ct_Rule___eq__), sl_Rule___eq__⟩)
     (c_Rule___eq__ : PySem.W.codeIn K cd_Rule___eq__ "Rule.__eq__" = true)
     (k_Rule___eq__ : PySem.W.keepIn K (.ref f_Rule___eq__) = true)
    {oc_Day___init__ kV_Day___init__ do_Day___init__ pm_Day___init__ cd_Day___init__ ct_Day___init__ : Value} {od_Day___init__ an_Day___init__ : Option Addr} {sl_Day___init__ : Array (Option Value)} (a_Day___init__ : PySem.W.findIn K (.ref C_Day) "__init__" = some (some (.ref f_Day___init__)))
     (i_Day___init__ : PySem.W.isFn K (.ref f_Day___init__) = true)
    {T_Day___init__ : Addr} (l_Day___init__ : K.lookup f_Day___init__ = some ⟨oc_Day___init__, od_Day___init__, .func (PySem.W.fnOf "__init__" "Day.__init__" (defArgs s_Day___init__) (defBody s_Day___init__) (defScope s_Day___init__) (.ref T_Day___init__) kV_Day___init__ do_Day___init__ pm_Day___init__ an_Day___init__ cd_Day___init__ ct_Day___init__), sl_Day___init__⟩)
    {tc_Day___init__ : Value} {td_Day___init__ : Option Addr} {it_Day___init__ : Array Value} {tn_Day___init__ : Nat} {ts_Day___init__ : Array (Option Value)} (lt_Day___init__ : K.lookup T_Day___init__ = some ⟨tc_Day___init__, td_Day___init__, .seq it_Day___init__ tn_Day___init__, ts_Day___init__⟩)
    {z_Day : Addr} (lv_Day___init__ : it_Day___init__.toList.mapM absV = some [V.ref z_Day])
    {td_zDay : Option Addr} {it_zDay : Array Value} {tn_zDay : Nat} {ts_zDay : Array (Option Value)} (l_zDay : K.lookup z_Day = some ⟨.type "tuple", td_zDay, .seq it_zDay tn_zDay, ts_zDay⟩)
     (lv_zDay : it_zDay.toList.mapM absV = some [])
     (c_Day___init__ : PySem.W.codeIn K cd_Day___init__ "Day.__init__" = true)
     (k_Day___init__ : PySem.W.keepIn K (.ref f_Day___init__) = true)
    {oc_Day_taken kV_Day_taken do_Day_taken pm_Day_taken cd_Day_taken ct_Day_taken : Value} {od_Day_taken an_Day_taken : Option Addr} {sl_Day_taken : Array (Option Value)} (a_Day_taken : PySem.W.findIn K (.ref C_Day) "taken" = some (some (.ref q_Day_taken)))
     (pg_Day_taken : PySem.W.specialIn K (.ref q_Day_taken) "__get__" = some (some (.builtin "property.__get__")))
     (pt_Day_taken : PySem.W.takesIn K (.ref q_Day_taken) = some true)
    {rest_Day_taken : List Value} (pr_Day_taken : PySem.W.recIn K q_Day_taken "property" = some (.ref f_Day_taken :: rest_Day_taken))
     (l_Day_taken : K.lookup f_Day_taken = some ⟨oc_Day_taken, od_Day_taken, .func (PySem.W.fnOf "taken" "Day.taken" (defArgs s_Day_taken) (defBody s_Day_taken) (defScope s_Day_taken) .none kV_Day_taken do_Day_taken pm_Day_taken an_Day_taken cd_Day_taken ct_Day_taken), sl_Day_taken⟩)
     (c_Day_taken : PySem.W.codeIn K cd_Day_taken "Day.taken" = true)
     (k_Day_taken : PySem.W.keepIn K (.ref f_Day_taken) = true)
    {oc_Day_without kV_Day_without do_Day_without pm_Day_without cd_Day_without ct_Day_without : Value} {od_Day_without an_Day_without : Option Addr} {sl_Day_without : Array (Option Value)} (a_Day_without : PySem.W.findIn K (.ref C_Day) "without" = some (some (.ref f_Day_without)))
     (i_Day_without : PySem.W.isFn K (.ref f_Day_without) = true)
     (l_Day_without : K.lookup f_Day_without = some ⟨oc_Day_without, od_Day_without, .func (PySem.W.fnOf "without" "Day.without" (defArgs s_Day_without) (defBody s_Day_without) (defScope s_Day_without) .none kV_Day_without do_Day_without pm_Day_without an_Day_without cd_Day_without ct_Day_without), sl_Day_without⟩)
     (c_Day_without : PySem.W.codeIn K cd_Day_without "Day.without" = true)
     (k_Day_without : PySem.W.keepIn K (.ref f_Day_without) = true)
    {oc_Day_having kV_Day_having do_Day_having pm_Day_having cd_Day_having ct_Day_having : Value} {od_Day_having an_Day_having : Option Addr} {sl_Day_having : Array (Option Value)} (a_Day_having : PySem.W.findIn K (.ref C_Day) "having" = some (some (.ref f_Day_having)))
     (i_Day_having : PySem.W.isFn K (.ref f_Day_having) = true)
     (l_Day_having : K.lookup f_Day_having = some ⟨oc_Day_having, od_Day_having, .func (PySem.W.fnOf "having" "Day.having" (defArgs s_Day_having) (defBody s_Day_having) (defScope s_Day_having) .none kV_Day_having do_Day_having pm_Day_having an_Day_having cd_Day_having ct_Day_having), sl_Day_having⟩)
     (c_Day_having : PySem.W.codeIn K cd_Day_having "Day.having" = true)
     (k_Day_having : PySem.W.keepIn K (.ref f_Day_having) = true)
    {oc_Day___str__ kV_Day___str__ do_Day___str__ pm_Day___str__ cd_Day___str__ ct_Day___str__ : Value} {od_Day___str__ an_Day___str__ : Option Addr} {sl_Day___str__ : Array (Option Value)} (a_Day___str__ : PySem.W.findIn K (.ref C_Day) "__str__" = some (some (.ref f_Day___str__)))
     (i_Day___str__ : PySem.W.isFn K (.ref f_Day___str__) = true)
     (l_Day___str__ : K.lookup f_Day___str__ = some ⟨oc_Day___str__, od_Day___str__, .func (PySem.W.fnOf "__str__" "Day.__str__" (defArgs s_Day___str__) (defBody s_Day___str__) (defScope s_Day___str__) .none kV_Day___str__ do_Day___str__ pm_Day___str__ an_Day___str__ cd_Day___str__ ct_Day___str__), sl_Day___str__⟩)
     (c_Day___str__ : PySem.W.codeIn K cd_Day___str__ "Day.__str__" = true)
     (k_Day___str__ : PySem.W.keepIn K (.ref f_Day___str__) = true)
     (pg_Rule : PySem.W.plainGet K C_Rule Str.empty = true)
     (hd_Rule : PySem.W.hasDictIn K C_Rule = true)
     (po_Rule : PySem.W.plainOver K C_Rule = true)
     (sa_Rule : PySem.W.findIn K (.ref C_Rule) "__setattr__" = some (some (.builtin "object.__setattr__")))
     (mk_Rule : PySem.W.makesIn K C_Rule = true)
     (kc_Rule : PySem.W.keepIn K (.ref C_Rule) = true)
     (na_Rule_step : PySem.W.findIn K (.ref C_Rule) "step" = some none)
     (na_Rule_gap : PySem.W.findIn K (.ref C_Rule) "gap" = some none)
     (na_Rule_least : PySem.W.findIn K (.ref C_Rule) "least" = some none)
     (na_Rule_private : PySem.W.findIn K (.ref C_Rule) "private" = some none)
     (na_Rule_hours : PySem.W.findIn K (.ref C_Rule) "hours" = some none)
     (n_Rule : PySem.W.findIn K (.ref C_Rule) "__ne__" = some (some (.builtin "object.__ne__")))
     (o_Rule : PySem.W.mroIn K C_Rule (.type "object") = some true)
     (ic_Rule : PySem.W.findIn K (.ref C_Rule) "__class__" = some (some (.builtin "object.__class__")))
     (pg_Day : PySem.W.plainGet K C_Day Str.empty = true)
     (hd_Day : PySem.W.hasDictIn K C_Day = true)
     (po_Day : PySem.W.plainOver K C_Day = true)
     (sa_Day : PySem.W.findIn K (.ref C_Day) "__setattr__" = some (some (.builtin "object.__setattr__")))
     (mk_Day : PySem.W.makesIn K C_Day = true)
     (kc_Day : PySem.W.keepIn K (.ref C_Day) = true)
     (na_Day_length : PySem.W.findIn K (.ref C_Day) "length" = some none)
     (na_Day_meetings : PySem.W.findIn K (.ref C_Day) "meetings" = some none)
     (o_Day : PySem.W.mroIn K C_Day (.type "object") = some true)
     (ic_Day : PySem.W.findIn K (.ref C_Day) "__class__" = some (some (.builtin "object.__class__")))
     (oc1 : PySem.W.specialIn K (.builtin "object.__class__") "__get__" = some (some (.builtin "getset_descriptor.__get__")))
     (oc2 : PySem.W.takesIn K (.builtin "object.__class__") = some true)
     (b_isinstance : PySem.W.nsIn K mainGlobals "isinstance" = some none)
     (b_int : PySem.W.nsIn K mainGlobals "int" = some none)
     (b_bool : PySem.W.nsIn K mainGlobals "bool" = some none)
     (b_list : PySem.W.nsIn K mainGlobals "list" = some none)
     (b_tuple : PySem.W.nsIn K mainGlobals "tuple" = some none)
     (b_len : PySem.W.nsIn K mainGlobals "len" = some none)
     (b_range : PySem.W.nsIn K mainGlobals "range" = some none)
     (b_abs : PySem.W.nsIn K mainGlobals "abs" = some none)
     (b_min : PySem.W.nsIn K mainGlobals "min" = some none)
     (b_max : PySem.W.nsIn K mainGlobals "max" = some none)
     (b_str : PySem.W.nsIn K mainGlobals "str" = some none)
     (a_PRIVATE_WORDS : PySem.W.nsIn K mainGlobals "PRIVATE_WORDS" = some (some (.ref c_PRIVATE_WORDS)))
    {td_PRIVATE_WORDS : Option Addr} {it_PRIVATE_WORDS : Array Value} {tn_PRIVATE_WORDS : Nat} {ts_PRIVATE_WORDS : Array (Option Value)} (l_PRIVATE_WORDS : K.lookup c_PRIVATE_WORDS = some ⟨.type "tuple", td_PRIVATE_WORDS, .seq it_PRIVATE_WORDS tn_PRIVATE_WORDS, ts_PRIVATE_WORDS⟩)
     (lv_PRIVATE_WORDS : it_PRIVATE_WORDS.toList.mapM absV = some v_PRIVATE_WORDS)
    : ∃ fd : FuncData, (∀ (s : Shared) (v : Value), BindsTo s fd ⟨[v], []⟩ [("_law_script", v)]) ∧ ∀ base : Heap, K.In base → base.Ns mainGlobals mg → FnOk l.prog w K mg base CX0 14 fa fd ["_law_script"] (spLaw K) := by
  have e := hfa.symm.trans (PySem.W.mg_of X G a_law)
  cases e
  have T : Txt K mg { f_is_integer := f_is_integer, f_is_number := f_is_number, f_is_positive := f_is_positive, f_is_sequence := f_is_sequence, f__are_hours := f__are_hours, f__wrong_argument := f__wrong_argument, f__normal_parts := f__normal_parts, f_alike := f_alike, f__is_meeting := f__is_meeting, f__are_meetings := f__are_meetings, f__meeting_text := f__meeting_text, f__meetings_text := f__meetings_text, f__law_seed := f__law_seed, f__law_choose := f__law_choose, f_law := fa, f_Rule___init__ := f_Rule___init__, f_Rule_normal := f_Rule_normal, q_Rule_normal := q_Rule_normal, f_Rule___eq__ := f_Rule___eq__, f_Day___init__ := f_Day___init__, z_Day := z_Day, f_Day_taken := f_Day_taken, q_Day_taken := q_Day_taken, f_Day_without := f_Day_without, f_Day_having := f_Day_having, f_Day___str__ := f_Day___str__, C_Rule := C_Rule, C_Day := C_Day, c_PRIVATE_WORDS := c_PRIVATE_WORDS } := { m_is_integer := PySem.W.mg_of X G a_is_integer, k_is_integer := k_is_integer, F_is_integer := ⟨_, fun_mk (st := s_is_integer) l_is_integer c_is_integer k_is_integer⟩, m_is_number := PySem.W.mg_of X G a_is_number, k_is_number := k_is_number, F_is_number := ⟨_, fun_mk (st := s_is_number) l_is_number c_is_number k_is_number⟩, m_is_positive := PySem.W.mg_of X G a_is_positive, k_is_positive := k_is_positive, F_is_positive := ⟨_, fun_mk (st := s_is_positive) l_is_positive c_is_positive k_is_positive⟩, m_is_sequence := PySem.W.mg_of X G a_is_sequence, k_is_sequence := k_is_sequence, F_is_sequence := ⟨_, fun_mk (st := s_is_sequence) l_is_sequence c_is_sequence k_is_sequence⟩, m__are_hours := PySem.W.mg_of X G a__are_hours, k__are_hours := k__are_hours, F__are_hours := ⟨_, fun_mk (st := s__are_hours) l__are_hours c__are_hours k__are_hours⟩, m__wrong_argument := PySem.W.mg_of X G a__wrong_argument, k__wrong_argument := k__wrong_argument, F__wrong_argument := ⟨_, fun_mk (st := s__wrong_argument) l__wrong_argument c__wrong_argument k__wrong_argument⟩, m__normal_parts := PySem.W.mg_of X G a__normal_parts, k__normal_parts := k__normal_parts, F__normal_parts := ⟨_, fun_mk (st := s__normal_parts) l__normal_parts c__normal_parts k__normal_parts⟩, m_alike := PySem.W.mg_of X G a_alike, k_alike := k_alike, F_alike := ⟨_, fun_mk (st := s_alike) l_alike c_alike k_alike⟩, m__is_meeting := PySem.W.mg_of X G a__is_meeting, k__is_meeting := k__is_meeting, F__is_meeting := ⟨_, fun_mk (st := s__is_meeting) l__is_meeting c__is_meeting k__is_meeting⟩, m__are_meetings := PySem.W.mg_of X G a__are_meetings, k__are_meetings := k__are_meetings, F__are_meetings := ⟨_, fun_mk (st := s__are_meetings) l__are_meetings c__are_meetings k__are_meetings⟩, m__meeting_text := PySem.W.mg_of X G a__meeting_text, k__meeting_text := k__meeting_text, F__meeting_text := ⟨_, fun_mk (st := s__meeting_text) l__meeting_text c__meeting_text k__meeting_text⟩, m__meetings_text := PySem.W.mg_of X G a__meetings_text, k__meetings_text := k__meetings_text, F__meetings_text := ⟨_, fun_mk (st := s__meetings_text) l__meetings_text c__meetings_text k__meetings_text⟩, m__law_seed := PySem.W.mg_of X G a__law_seed, k__law_seed := k__law_seed, F__law_seed := ⟨_, fun_mk (st := s__law_seed) l__law_seed c__law_seed k__law_seed⟩, m__law_choose := PySem.W.mg_of X G a__law_choose, k__law_choose := k__law_choose, F__law_choose := ⟨_, fun_mk (st := s__law_choose) l__law_choose c__law_choose k__law_choose⟩, m_law := PySem.W.mg_of X G a_law, k_law := k_law, F_law := ⟨_, fun_mk (st := s_law) l_law c_law k_law⟩, F_Rule___init__ := ⟨_, fund_mk l_Rule___init__ lt_Rule___init__ lv_Rule___init__ (List.cons_ne_nil _ _) c_Rule___init__ k_Rule___init__⟩, F_Rule_normal := ⟨_, fun_mk (st := s_Rule_normal) l_Rule_normal c_Rule_normal k_Rule_normal⟩, p_Rule_normal := ⟨a_Rule_normal, pg_Rule_normal, pt_Rule_normal, ⟨_, pr_Rule_normal⟩⟩, F_Rule___eq__ := ⟨_, fun_mk (st := s_Rule___eq__) l_Rule___eq__ c_Rule___eq__ k_Rule___eq__⟩, e_Rule := a_Rule___eq__, ef_Rule := i_Rule___eq__, w_zDay := fun _ => sqt_mk l_zDay lv_zDay (by decide), F_Day___init__ := ⟨_, fund_mk l_Day___init__ lt_Day___init__ lv_Day___init__ (List.cons_ne_nil _ _) c_Day___init__ k_Day___init__⟩, F_Day_taken := ⟨_, fun_mk (st := s_Day_taken) l_Day_taken c_Day_taken k_Day_taken⟩, p_Day_taken := ⟨a_Day_taken, pg_Day_taken, pt_Day_taken, ⟨_, pr_Day_taken⟩⟩, F_Day_without := ⟨_, fun_mk (st := s_Day_without) l_Day_without c_Day_without k_Day_without⟩, me_Day_without := ⟨a_Day_without, i_Day_without, k_Day_without⟩, F_Day_having := ⟨_, fun_mk (st := s_Day_having) l_Day_having c_Day_having k_Day_having⟩, me_Day_having := ⟨a_Day_having, i_Day_having, k_Day_having⟩, F_Day___str__ := ⟨_, fun_mk (st := s_Day___str__) l_Day___str__ c_Day___str__ k_Day___str__⟩, s_Day := a_Day___str__, sf_Day := i_Day___str__, m_Rule := PySem.W.mg_of X G a_Rule, cl_Rule := ⟨pg_Rule, hd_Rule, po_Rule, sa_Rule⟩, mk_Rule := ⟨mk_Rule, a_Rule___init__, i_Rule___init__, kc_Rule⟩, na_Rule_step := na_Rule_step, na_Rule_gap := na_Rule_gap, na_Rule_least := na_Rule_least, na_Rule_private := na_Rule_private, na_Rule_hours := na_Rule_hours, n_Rule := n_Rule, o_Rule := o_Rule, ic_Rule := ic_Rule, m_Day := PySem.W.mg_of X G a_Day, cl_Day := ⟨pg_Day, hd_Day, po_Day, sa_Day⟩, mk_Day := ⟨mk_Day, a_Day___init__, i_Day___init__, kc_Day⟩, na_Day_length := na_Day_length, na_Day_meetings := na_Day_meetings, o_Day := o_Day, ic_Day := ic_Day, oc1 := oc1, oc2 := oc2, b_isinstance := PySem.W.mg_none_of X G b_isinstance, b_int := PySem.W.mg_none_of X G b_int, b_bool := PySem.W.mg_none_of X G b_bool, b_list := PySem.W.mg_none_of X G b_list, b_tuple := PySem.W.mg_none_of X G b_tuple, b_len := PySem.W.mg_none_of X G b_len, b_range := PySem.W.mg_none_of X G b_range, b_abs := PySem.W.mg_none_of X G b_abs, b_min := PySem.W.mg_none_of X G b_min, b_max := PySem.W.mg_none_of X G b_max, b_str := PySem.W.mg_none_of X G b_str, m_PRIVATE_WORDS := PySem.W.mg_of X G a_PRIVATE_WORDS, w_PRIVATE_WORDS := fun _ => sqt_mk l_PRIVATE_WORDS lv_PRIVATE_WORDS (by decide) }
  exact ⟨PySem.W.fnOf "law" "law" (defArgs s_law) (defBody s_law) (defScope s_law) .none kV_law do_law pm_law an_law cd_law ct_law, fun s v => .of_eq rfl, fun base _ _ => ok_law T (fun_mk l_law c_law k_law)⟩
theorem walk {l : PySem.W.OpenLaw} {q : Program} {loose : List Str} {XP : (Str → Option Value) → Heap → Prop} {YP : World → Heap → Prop} {d : DefRec} {K : Params → PySem.W.Frag} (hn : l.most = some 63) (hdf : d.params.defaults = [])
    (hY : ∀ (w : World) (h : Heap), YP w h → (K w.params).In h)
    (F : ∀ (w : World) (mg : Str → Option Value) (fa : Addr) (h : Heap), (K w.params).In h → h.Ns mainGlobals mg → mg d.name = some (.ref fa) →
      ∃ fd : FuncData, (∀ (s : Shared) (u : Value), BindsTo s fd ⟨[u], []⟩ [("_law_script", u)]) ∧ ∀ base : Heap, (K w.params).In base → base.Ns mainGlobals mg → FnOk l.prog w (K w.params) mg base CX0 14 fa fd ["_law_script"] (spLaw (K w.params))) :
    PySem.W.WalkO q loose XP YP l.row.toRowW d [] (fun f vs => PySem.call f vs) :=
  L2.walk_of (n := 63) (k := 14) (x := "_law_script") (CX := fun _ => CX0) (sp := fun w => spLaw (K w.params)) hn (by decide) hdf ⟨rfl, by decide, by decide⟩ hY F (fun _ _ a ns hl _ hS => ⟨a, ns, rfl, hS, hl, fun _ => rfl⟩) fun _ _ _ _ _ z => z
end DD
open PySem PySem.W PyProof.Rows
set_option maxRecDepth 100000 in
set_option maxHeartbeats 0 in
theorem PySem.Challenge.cw_dimdays_k12_days_and_rules_known_holds : PySem.Challenge.rw_dimdays_k12_days_and_rules_known.Holds := by
  w_on; o_law; k_head; (case hw => w_witness2)
  k_fill
  refine DD.walk (l := PySem.Challenge.rw_dimdays_k12_days_and_rules_known) rfl rfl (fun w h Y => PySem.W.kIn_of Y) ?F
  case F =>
    intro w mg fa h KX G hmg
    refine' DD.all_mk KX G hmg ?a_Day ?a_Rule ?a_is_integer ?l_is_integer ?c_is_integer ?k_is_integer ?a_is_number ?l_is_number ?c_is_number ?k_is_number ?a_is_positive ?l_is_positive ?c_is_positive ?k_is_positive ?a_is_sequence ?l_is_sequence ?c_is_sequence ?k_is_sequence ?a__are_hours ?l__are_hours ?c__are_hours ?k__are_hours ?a__wrong_argument ?l__wrong_argument ?c__wrong_argument ?k__wrong_argument ?a__normal_parts ?l__normal_parts ?c__normal_parts ?k__normal_parts ?a_alike ?l_alike ?c_alike ?k_alike ?a__is_meeting ?l__is_meeting ?c__is_meeting ?k__is_meeting ?a__are_meetings ?l__are_meetings ?c__are_meetings ?k__are_meetings ?a__meeting_text ?l__meeting_text ?c__meeting_text ?k__meeting_text ?a__meetings_text ?l__meetings_text ?c__meetings_text ?k__meetings_text ?a__law_seed ?l__law_seed ?c__law_seed ?k__law_seed ?a__law_choose ?l__law_choose ?c__law_choose ?k__law_choose ?a_law ?l_law ?c_law ?k_law ?a_Rule___init__ ?i_Rule___init__ ?l_Rule___init__ ?lt_Rule___init__ ?lv_Rule___init__ ?c_Rule___init__ ?k_Rule___init__ ?a_Rule_normal ?pg_Rule_normal ?pt_Rule_normal ?pr_Rule_normal ?l_Rule_normal ?c_Rule_normal ?k_Rule_normal ?a_Rule___eq__ ?i_Rule___eq__ ?l_Rule___eq__ ?c_Rule___eq__ ?k_Rule___eq__ ?a_Day___init__ ?i_Day___init__ ?l_Day___init__ ?lt_Day___init__ ?lv_Day___init__ ?l_zDay ?lv_zDay ?c_Day___init__ ?k_Day___init__ ?a_Day_taken ?pg_Day_taken ?pt_Day_taken ?pr_Day_taken ?l_Day_taken ?c_Day_taken ?k_Day_taken ?a_Day_without ?i_Day_without ?l_Day_without ?c_Day_without ?k_Day_without ?a_Day_having ?i_Day_having ?l_Day_having ?c_Day_having ?k_Day_having ?a_Day___str__ ?i_Day___str__ ?l_Day___str__ ?c_Day___str__ ?k_Day___str__ ?pg_Rule ?hd_Rule ?po_Rule ?sa_Rule ?mk_Rule ?kc_Rule ?na_Rule_step ?na_Rule_gap ?na_Rule_least ?na_Rule_private ?na_Rule_hours ?n_Rule ?o_Rule ?ic_Rule ?pg_Day ?hd_Day ?po_Day ?sa_Day ?mk_Day ?kc_Day ?na_Day_length ?na_Day_meetings ?o_Day ?ic_Day ?oc1 ?oc2 ?b_isinstance ?b_int ?b_bool ?b_list ?b_tuple ?b_len ?b_range ?b_abs ?b_min ?b_max ?b_str ?a_PRIVATE_WORDS ?l_PRIVATE_WORDS ?lv_PRIVATE_WORDS
    (case a_Day => k_is)
    (case a_Rule => k_is)
    (case a_is_integer => k_is)
    (case l_is_integer => k_is)
    (case c_is_integer => k_is)
    (case k_is_integer => k_is)
    (case a_is_number => k_is)
    (case l_is_number => k_is)
    (case c_is_number => k_is)
    (case k_is_number => k_is)
    (case a_is_positive => k_is)
    (case l_is_positive => k_is)
    (case c_is_positive => k_is)
    (case k_is_positive => k_is)
    (case a_is_sequence => k_is)
    (case l_is_sequence => k_is)
    (case c_is_sequence => k_is)
    (case k_is_sequence => k_is)
    (case a__are_hours => k_is)
    (case l__are_hours => k_is)
    (case c__are_hours => k_is)
    (case k__are_hours => k_is)
    (case a__wrong_argument => k_is)
    (case l__wrong_argument => k_is)
    (case c__wrong_argument => k_is)
    (case k__wrong_argument => k_is)
    (case a__normal_parts => k_is)
    (case l__normal_parts => k_is)
    (case c__normal_parts => k_is)
    (case k__normal_parts => k_is)
    (case a_alike => k_is)
    (case l_alike => k_is)
    (case c_alike => k_is)
    (case k_alike => k_is)
    (case a__is_meeting => k_is)
    (case l__is_meeting => k_is)
    (case c__is_meeting => k_is)
    (case k__is_meeting => k_is)
    (case a__are_meetings => k_is)
    (case l__are_meetings => k_is)
    (case c__are_meetings => k_is)
    (case k__are_meetings => k_is)
    (case a__meeting_text => k_is)
    (case l__meeting_text => k_is)
    (case c__meeting_text => k_is)
    (case k__meeting_text => k_is)
    (case a__meetings_text => k_is)
    (case l__meetings_text => k_is)
    (case c__meetings_text => k_is)
    (case k__meetings_text => k_is)
    (case a__law_seed => k_is)
    (case l__law_seed => k_is)
    (case c__law_seed => k_is)
    (case k__law_seed => k_is)
    (case a__law_choose => k_is)
    (case l__law_choose => k_is)
    (case c__law_choose => k_is)
    (case k__law_choose => k_is)
    (case a_law => k_is)
    (case l_law => k_is)
    (case c_law => k_is)
    (case k_law => k_is)
    (case a_Rule___init__ => k_is)
    (case i_Rule___init__ => k_is)
    (case l_Rule___init__ => k_is)
    (case lt_Rule___init__ => k_is)
    (case lv_Rule___init__ => exact rfl)
    (case c_Rule___init__ => k_is)
    (case k_Rule___init__ => k_is)
    (case a_Rule_normal => k_is)
    (case pg_Rule_normal => k_is)
    (case pt_Rule_normal => k_is)
    (case pr_Rule_normal => k_is)
    (case l_Rule_normal => k_is)
    (case c_Rule_normal => k_is)
    (case k_Rule_normal => k_is)
    (case a_Rule___eq__ => k_is)
    (case i_Rule___eq__ => k_is)
    (case l_Rule___eq__ => k_is)
    (case c_Rule___eq__ => k_is)
    (case k_Rule___eq__ => k_is)
    (case a_Day___init__ => k_is)
    (case i_Day___init__ => k_is)
    (case l_Day___init__ => k_is)
    (case lt_Day___init__ => k_is)
    (case lv_Day___init__ => exact rfl)
    (case l_zDay => k_is)
    (case lv_zDay => exact rfl)
    (case c_Day___init__ => k_is)
    (case k_Day___init__ => k_is)
    (case a_Day_taken => k_is)
    (case pg_Day_taken => k_is)
    (case pt_Day_taken => k_is)
    (case pr_Day_taken => k_is)
    (case l_Day_taken => k_is)
    (case c_Day_taken => k_is)
    (case k_Day_taken => k_is)
    (case a_Day_without => k_is)
    (case i_Day_without => k_is)
    (case l_Day_without => k_is)
    (case c_Day_without => k_is)
    (case k_Day_without => k_is)
    (case a_Day_having => k_is)
    (case i_Day_having => k_is)
    (case l_Day_having => k_is)
    (case c_Day_having => k_is)
    (case k_Day_having => k_is)
    (case a_Day___str__ => k_is)
    (case i_Day___str__ => k_is)
    (case l_Day___str__ => k_is)
    (case c_Day___str__ => k_is)
    (case k_Day___str__ => k_is)
    (case pg_Rule => k_is)
    (case hd_Rule => k_is)
    (case po_Rule => k_is)
    (case sa_Rule => k_is)
    (case mk_Rule => k_is)
    (case kc_Rule => k_is)
    (case na_Rule_step => k_is)
    (case na_Rule_gap => k_is)
    (case na_Rule_least => k_is)
    (case na_Rule_private => k_is)
    (case na_Rule_hours => k_is)
    (case n_Rule => k_is)
    (case o_Rule => k_is)
    (case ic_Rule => k_is)
    (case pg_Day => k_is)
    (case hd_Day => k_is)
    (case po_Day => k_is)
    (case sa_Day => k_is)
    (case mk_Day => k_is)
    (case kc_Day => k_is)
    (case na_Day_length => k_is)
    (case na_Day_meetings => k_is)
    (case o_Day => k_is)
    (case ic_Day => k_is)
    (case oc1 => k_is)
    (case oc2 => k_is)
    (case b_isinstance => k_is)
    (case b_int => k_is)
    (case b_bool => k_is)
    (case b_list => k_is)
    (case b_tuple => k_is)
    (case b_len => k_is)
    (case b_range => k_is)
    (case b_abs => k_is)
    (case b_min => k_is)
    (case b_max => k_is)
    (case b_str => k_is)
    (case a_PRIVATE_WORDS => k_is)
    (case l_PRIVATE_WORDS => k_is)
    (case lv_PRIVATE_WORDS => exact rfl)
