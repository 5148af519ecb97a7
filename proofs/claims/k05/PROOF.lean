import PyProof.Rows.All
import Wide.All
import OpenK.AllK
import Wide.FinOn
import HandS.ForMost
import HandS.Defaults
import HandS.Property
import HandS.OwnEq
import HandS.FStr
import HandS.IsInst
import HandS.TupAny
import HandS.Evl
import HandS.Star
import HandS.SlotsOwn
import KE.KCallOwn
import HandS.Conv
import HandS.ClsMeth
import HandS.CallLocal
import HandS.Text
import HandS.StrMore
import HandS.Style
import HandS.Lambda
import PyProof.ReprRoads
import HandS.SortRule
import HandS.Iter
import KE.LtData
import KE.DataFind
import HandS.Deep
import HandS.RaiseMore
import HandS.SortInts
import HandS.NoneIn
import HandS.RevRange
import KE.SortData
import HandS.Ends
import HandS.Zip
import HandS.Dict
import KE.KStar
import KE.KParD
import HandS.Words
import HandS.TryOnly
import HandS.ExcInit
import HandS.ExcOwn
import HandS.ExcIs
import HandS.ExcField
import HandS.WordsExc
import KE.KExcIs
import KE.GoesRaise
import KE.KxMul
import KE.GoesMore
import KE.GoesZip
import KE.KTurns
import KE.KExcInit
import PyProof.ExcBaseAll.IndexError
import HandS.EndOwn
import HandS.FStrTup
import PySem.Challenge.RW_dimdays_k05_days_with_one_meeting_more_o
set_option Elab.async false
set_option linter.all false
set_option maxRecDepth 100000
set_option maxHeartbeats 2000000
namespace DD
open PySem PySem.Spec PyProof.Rows L2
section
variable {X : Cx} {CX : CXT} {k : Nat} {f C p g : Addr} {sp : Sp} {E : XK} {x m : Str} {pp pos apos : Pos} {e o : Expr} {es : List Expr} {ta : TE} {t : TA}
def tCallR (sp : Sp) (E : XK) (t : TA) : TE := fun σ H Q => t σ H fun vs H1 => sp vs H1 Q E
theorem wp_fnR {pins : List (Addr × Obj)} {σ : L2.St} {H : Hp} {s : Shared} {Q : VK} {us : List Value} {vs : List V} (F : FnR X.prog X.w X.K X.mg X.base CX k f sp) (hr : Room k X.A) (hx : Passes CX X E) (I : Inv X pins σ H s) (r : Vals vs us) (h : sp vs H Q E) :
    wpAny (model X.prog X.w) X.A (call (.ref f) us) (EP X pins σ Q) X.xe s := wpAny_call (run_fnR F hr hx I r h)
theorem pe_callR (F : FnR X.prog X.w X.K X.mg X.base CX k f sp) (hr : Room k X.A) (hg : Gl X x) (hm : X.mg x = some (.ref f)) (hk : PySem.W.keepIn X.K (.ref f) = true) (hx : Passes CX X E)
    (ha : PA X (e :: es) t) (hdb : (x == ("__debug__" : Str)) = false := by decide) (he : starEach (e :: es) X.env = (false, eval e X.env) :: starEach es X.env := by rfl) (hpl : (backTo pos (starEach es X.env)).any (·.1) = false := by rfl) :
    PE X (.Call (.Name x pp) (e :: es) [] pos) (tCallR sp E t) := by
  refine ⟨fun pins s σ H Q I h => ?_⟩
  refine wpAny_Call_Name_kw (ld_glob I hg hm ?_ hdb)
  refine PySem.W.callWith_K (h₀ := X.base) I.ok.mod.kin hk (thn (ha.run pos pins s σ H _ I h) fun us s1 ⟨vs, H1, I1, r, q⟩ => ⟨I1.kIn, ?_⟩) he hpl
  exact wp_fnR F hr hx I1 r q
/-- o.m(..) of an instance of the class at C -/
def tMethR (C : Addr) (m : Str) (sp : Sp) (E : XK) (ta : TE) (t : TA) : TE := fun σ H Q => ta σ H fun x H1 => ∃ a dx fs, x = .ref a ∧ H1 a = some (.ins C dx fs) ∧ fs.lookup m = none ∧
  t σ H1 fun vs H2 => sp (x :: vs) H2 Q E
theorem pe_methR {pl : Sem Bool} (he : PE X o ta) (c : Cls X.K C) (hm : Meth X.K C m f) (F : FnR X.prog X.w X.K X.mg X.base CX k f sp) (hr : Room k X.A) (hx : Passes CX X E) (ha : PA X (e :: es) t)
    (hst : starEach (e :: es) X.env = (false, eval e X.env) :: starEach es X.env := by rfl) (hpl : (backTo pos (starEach es X.env)).any (·.1) = false := by rfl)
    (ht : eval (.Call (.Attribute o m apos) (e :: es) [] pos) X.env = (do
      let ov ← eval o X.env
      standAt apos.atName
      let (f, first) ← holding [ov] (getMethod ov m pl)
      callWith pos f first (backTo pos (starEach (e :: es) X.env)) (backToKw pos (keywordEach [] X.env))) := by rfl) :
    PE X (.Call (.Attribute o m apos) (e :: es) [] pos) (tMethR C m sp E ta t) := by
  refine ⟨fun pins s σ H Q I h => ?_⟩
  refine PySem.W.methodCall_KW (pl := pl) (thn (he.run pins s σ H _ I h) fun u s1 ⟨x, H1, I1, rx, a, dx, fs, ex, ea, l, q⟩ => ?_) ht
  subst ex
  obtain rfl : u = Value.ref a := rx
  refine getmeth_ok I1 ea c hm l ?_
  refine PySem.W.callWith_K (first := [.ref a]) (h₀ := X.base) I.ok.mod.kin hm.kp (thn (ha.run pos pins s1 σ H1 _ I1 q) fun us s2 ⟨vs, H2, I2, r, q2⟩ => ⟨I2.kIn, ?_⟩) hst hpl
  exact wp_fnR (us := .ref a :: us) (vs := .ref a :: vs) F hr hx I2 (.cons rfl r) q2
/-- a statement that is never reached -/
theorem ps_dead {st : Stmt} : PS X st (fun _ _ _ => False) := ⟨fun _ _ _ _ _ _ h => h.elim⟩
end
section
variable {X : Cx} {CX : CXT} {n : Nat} {f C : Addr} {sp : Sp} {E : XK}
theorem run_atR {pins : List (Addr × Obj)} {σ : L2.St} {H : Hp} {s : Shared} {A : Around} {Q : VK} {us : List Value} {ws : List V} (F : FnR X.prog X.w X.K X.mg X.base CX n f sp) (hr : Room n A) (e0 : Env0 X.prog X.w X.K X.mg X.base A X.stack s H) (hx : Passes CX X E) (I : Inv X pins σ H s) (r : Vals ws us) (h : sp ws H Q E) :
    wpAny (model X.prog X.w) A (call (.ref f) us) (EP X pins σ Q) X.xe s := wpAny_call (SlX.run_at F hr e0 hx I r h)
/-- str(o) by its own __str__ -/
def rStrO (C : Addr) (sp : Sp) (E : XK) : List V → Hp → VK → Prop := fun xs H Q => ∃ a dx fs, xs = [V.ref a] ∧ H a = some (.ins C dx fs) ∧ sp [.ref a] H (fun v H' => ∃ y, v = .str y ∧ Q v H') E
theorem call_strO (hs : PySem.W.findIn X.K (.ref C) "__str__" = some (some (.ref f))) (hf : PySem.W.isFn X.K (.ref f) = true) (F : FnR X.prog X.w X.K X.mg X.base CX n f sp) (hr : Room (n + 2) X.A) (hx : Passes CX X E) : CallR X (.type "str") (rStrO C sp E) := by
  intro pins s σ H xs us Q I r h
  obtain ⟨a, dx, fs, rfl, ea, q⟩ := h
  obtain ⟨u, rfl, ru⟩ := r.one
  cases (show u = Value.ref a from ru)
  obtain ⟨mA, O, _⟩ := ins_get I.hok ea
  obtain ⟨od, J, _⟩ := O.look
  have hr2 : Room n X.A.in1.in1 := (show Room (n + 1) X.A.in1 from Room.in1 hr).in1
  refine PySem.W.kso_call hr2.units0 I.kIn J hs hf (thn (run_atR (us := [.ref a]) (ws := [.ref a]) F hr2 I.env0.in1.in1 hx I (.cons rfl .nil) q) fun w s' z => ?_)
  obtain ⟨v, H', I', rv, y, ev, qv⟩ := z
  subst ev
  obtain ⟨t, rfl⟩ := rv
  exact ⟨.str y, H', I', ⟨t, rfl⟩, qv⟩
theorem ifBound_B {M : Model} {A : Around} {E : Value → Shared → Prop} {s : Shared} {K : PySem.W.Frag} {x C : Addr} {ox : Obj} {od : Option Obj} {name : Str} {id : String} {args : List Value} {Q : Option Value → Shared → Prop} (Xk : K.In s.heap) (I : PySem.W.InstAt s.heap x ox C od)
    (hs : PySem.W.findIn K (.ref C) name = some (some (.builtin id))) (hb : ∀ self, bindSpecial (.builtin id) self = pure (.builtin id, [self]))
    (h : wpAny M A (call (.builtin id) (.ref x :: args)) (fun v => Q (some v)) E s) : wpAny M A (callSpecialIfBound? (.ref x) name args) Q E s := by
  simp only [callSpecialIfBound?, bindSpecialIfBound?]
  refine wpAny_holding (wpAny_bind (wpAny_bind (wpAny_bind (I.type.here ((PySem.W.looks_findIn Xk hs).here ?_)))))
  refine wpAny_bind (wpAny_askSetting (wpAny_ite ?_))
  have fin : wpAny M A (call (.builtin id) ([.ref x] ++ args) >>= fun v => pure (some v)) Q E s := wpAny_bind (wpAny_mono h (fun v s' h' => wpAny_pure h') fun _ _ h' => h')
  split
  · exact wpAny_bind ((PySem.W.Looks.of_pure (hb _)).here (wpAny_pure (by exact fin)))
  · exact wpAny_tryCatch (wpAny_bind ((PySem.W.Looks.of_pure (hb _)).here (wpAny_pure (by exact fin))))
/-- x != y by object.__ne__ over the own __eq__ -/
theorem objNe_K {prog : Program} {w : World} {A : Around} {E : Value → Shared → Prop} {s : Shared} {K : PySem.W.Frag} {x y C f : Addr} {ox : Obj} {od : Option Obj} {Q : Fin → Shared → Prop} (Xk : K.In s.heap) (I : PySem.W.InstAt s.heap x ox C od)
    (hs : PySem.W.findIn K (.ref C) "__eq__" = some (some (.ref f))) (hf : PySem.W.isFn K (.ref f) = true) (hu : A.units < cLine)
    (hcall : wpAny (model prog w) A (call (.ref f) [.ref x, .ref y]) (fun v s' => ∃ b, v = .bool b ∧ Q (.done (.ret (.bool (!b)))) s') E s) :
    wpAny (model prog w) A (Builtin.«object.__ne__» ⟨[.ref x, .ref y], []⟩) Q E s := by
  unfold Builtin.«object.__ne__»
  repeat (first
    | with_reducible refine wpAny_cRoomFor hu ?_
    | (refine wpAny_bind (m := callSpecialIfBound? (.ref x) (Str.ofString "__eq__") [.ref y])
        (PySem.W.ifBound_K Xk I hs hf (wpAny_mono hcall (fun r s' hr => by
          obtain ⟨b, rfl, hq⟩ := hr
          repeat (first | exact hq | exact wpAny_pure hq | exact wpAny_truthy_bool hq | (refine wpAny_bind (m := truthy (.bool _)) (wpAny_truthy_bool ?_)) | wp_step)) fun _ _ e => e)))
    | wp_step)
theorem ne_K {prog : Program} {w : World} {A : Around} {E : Value → Shared → Prop} {s : Shared} {K : PySem.W.Frag} {x y C f : Addr} {ox : Obj} {od : Option Obj} {Q : Value → Shared → Prop} (Xk : K.In s.heap) (I : PySem.W.InstAt s.heap x ox C od)
    (hb : PySem.W.Looks (model prog w) s.heap (typeOf (.ref y)) (.ref C))
    (hn : PySem.W.findIn K (.ref C) "__ne__" = some (some (.builtin "object.__ne__"))) (hm : PySem.W.mroIn K C (.type "object") = some true)
    (hs : PySem.W.findIn K (.ref C) "__eq__" = some (some (.ref f))) (hf : PySem.W.isFn K (.ref f) = true) (hu : A.units + 1 < cLine)
    (hcall : wpAny (model prog w) A.in1 (call (.ref f) [.ref x, .ref y]) (fun v s' => ∃ b, v = .bool b ∧ Q (.bool (!b)) s') E s) :
    wpAny (model prog w) A (richCompare .NotEq (.ref x) (.ref y)) Q E s := by
  unfold richCompare
  simp only [oneThing_ref]
  refine wpAny_holding (wpAny_bind (wpAny_cRoomFor (Nat.lt_of_succ_lt hu) ?_))
  rw [cmpInfo_NotEq]
  dsimp only
  refine wpAny_bind (I.type.here (wpAny_bind (hb.here ?_)))
  rw [show (Value.ref C != Value.ref C) = false from by simp]
  simp only [Bool.false_eq_true, if_false]
  refine wpAny_bind (wpAny_pure ?_)
  simp only [Bool.false_eq_true, if_false]
  simp only [tryCompare]
  refine wpAny_bind (wpAny_bind (ifBound_B Xk I hn (fun _ => rfl) (wpAny_call (codeAny_call_builtin (by decide +kernel) F.cmpEntry_ne (PySem.W.check_slot (i := "object.__ne__") (owner := "object") (n := "__ne__") F.cmpKind_ne F.cmpSplit_ne (I.type.andThen (PySem.W.looks_mroIn Xk hm)) (F.cmpArgs_ne _ _)
    (objNe_K (A := A.in1) Xk I hs hf (by exact hu) (wpAny_mono hcall (fun v s' hv => ?_) fun _ _ e => e)))))))
  obtain ⟨b, rfl, hq⟩ := hv
  first | exact ⟨b, rfl, wpAny_pure (wpAny_pure hq)⟩ | exact ⟨b, rfl, wpAny_pure hq⟩ | exact ⟨b, rfl, hq⟩
def rNeO (C : Addr) (sp : Sp) (E : XK) : R2 := fun x y H Q => ∃ a dx fs b dy gs, x = .ref a ∧ y = .ref b ∧ H a = some (.ins C dx fs) ∧ H b = some (.ins C dy gs) ∧ sp [.ref a, .ref b] H (fun v H' => ∃ c, v = .bl c ∧ Q (.bl (!c)) H') E
theorem op_neO (hn : PySem.W.findIn X.K (.ref C) "__ne__" = some (some (.builtin "object.__ne__"))) (hm : PySem.W.mroIn X.K C (.type "object") = some true) (hs : PySem.W.findIn X.K (.ref C) "__eq__" = some (some (.ref f))) (hf : PySem.W.isFn X.K (.ref f) = true) (F : FnR X.prog X.w X.K X.mg X.base CX n f sp) (hr : Room (n + 1) X.A) (hx : Passes CX X E) : OpR X (compareOp .NotEq) (rNeO C sp E) := by
  intro pins s σ H x y v u Q I rx ry h
  obtain ⟨a, dx, fs, b, dy, gs, rfl, rfl, ea, eb, q⟩ := h
  cases (show v = Value.ref a from rx)
  cases (show u = Value.ref b from ry)
  obtain ⟨mA, O, _⟩ := ins_get I.hok ea
  obtain ⟨od, J, _⟩ := O.look
  obtain ⟨mB, O', _⟩ := ins_get I.hok eb
  obtain ⟨od', J', _⟩ := O'.look
  show wpAny _ _ (richCompare .NotEq _ _) _ _ _
  refine ne_K I.kIn J J'.type hn hm hs hf (hu_of hr) (thn (run_atR (us := [.ref a, .ref b]) (ws := [.ref a, .ref b]) F hr.in1 I.env0.in1 hx I (.cons rfl (.cons rfl .nil)) q) fun w s' z => ?_)
  obtain ⟨z', H', I', rz, c, ez, qz⟩ := z
  subst ez
  cases rz
  exact ⟨c, rfl, .bl (!c), H', I', rfl, qz⟩
end
end DD
set_option Elab.async false
set_option linter.all false
set_option maxRecDepth 100000
set_option maxHeartbeats 2000000
namespace DD
open PySem PySem.Spec PyProof.Rows L2
section
variable {X : Cx} {CX : CXT} {n : Nat} {f C : Addr} {sp : Sp} {E : XK}
/-- o[i] by its own __getitem__ -/
def rIxO (C : Addr) (sp : Sp) (E : XK) : R2 := fun x y H Q => ∃ a dx fs, x = .ref a ∧ H a = some (.ins C dx fs) ∧ sp [.ref a, y] H Q E
theorem pe_ixO {a b : Expr} {ta tb : TE} {pos : Pos} (hs : PySem.W.findIn X.K (.ref C) "__getitem__" = some (some (.ref f))) (hf : PySem.W.fnIn X.K f = true) (hfn : PySem.W.isFn X.K (.ref f) = true) (F : FnR X.prog X.w X.K X.mg X.base CX n f sp) (hr : Room (n + 1) X.A) (hx : Passes CX X E) (ha : PE X a ta) (hb : PE X b tb)
    (hsl : ∀ x i, subscripted b true (.ref x) i = runValue (.builtin "lifetime.subscript" ⟨[.ref x, i], []⟩) := by intro _ _; rfl) : PE X (.Subscript a b pos) (tOp (rIxO C sp E) ta tb) := by
  refine ⟨fun pins s σ H Q I h => ?_⟩
  refine Subscript_ (binT ha hb I h fun v u s2 x y H2 I2 rx ry q => ?_)
  obtain ⟨p, dx, fs, rfl, ea, q⟩ := q
  cases (show v = Value.ref p from rx)
  obtain ⟨mA, O, _⟩ := ins_get I2.hok ea
  obtain ⟨od, J, _⟩ := O.look
  obtain ⟨m, hF⟩ := I2.fr
  exact PySem.W.sub_K hF I2.ok.mod.kin J hs hf hfn (run_atR (us := [.ref p, u]) (ws := [.ref p, y]) F hr.in1 I2.env0.in1 hx I2 (.cons rfl (.cons ry .nil)) q) (hsl p u)
end
end DD
set_option Elab.async false
set_option linter.all false
set_option maxRecDepth 100000
set_option maxHeartbeats 2000000
namespace DD
open PySem PySem.Spec PyProof.Rows L2
theorem Same.mut {H H' : Hp} {p : Addr} {o : HO} (e : Same H H') (h : H p = none) : Same H (upd H' p o) := fun a u ha => by
  rw [upd_ne (ne_of_none ha h)]
  exact e a u ha
theorem ixN_last {ws : List V} {x : V} : ixN (ws ++ [x]).length (-1) = some ws.length := by
  unfold ixN
  rw [if_neg (by decide), if_pos (by rw [List.length_append, List.length_singleton]; omega), List.length_append, List.length_singleton]
  congr 1
  omega
theorem set_last {ws : List V} {x y : V} : (ws ++ [x]).set ws.length y = ws ++ [y] := by
  rw [List.set_append_right _ _ (Nat.le_refl _)]
  simp
def IsRw {α : Type} (f : α → List V) (H : Hp) (v : V) (m : α) : Prop := ∃ a, v = .ref a ∧ H a = some (.tup (f m))
def IsRs {α : Type} (f : α → List V) (H : Hp) (vs : List V) (ms : List α) : Prop := vs.length = ms.length ∧ ∀ (i : Nat) v m, vs[i]? = some v → ms[i]? = some m → IsRw f H v m
section
variable {α : Type} {f : α → List V}
theorem IsRw.on {H H' : Hp} {v : V} {m : α} (e : ∀ a xs, H a = some (.tup xs) → H' a = some (.tup xs)) (x : IsRw f H v m) : IsRw f H' v m := by
  obtain ⟨a, e1, e2⟩ := x
  exact ⟨a, e1, e _ _ e2⟩
theorem IsRs.on {H H' : Hp} {vs : List V} {ms : List α} (e : ∀ a xs, H a = some (.tup xs) → H' a = some (.tup xs)) (x : IsRs f H vs ms) : IsRs f H' vs ms := ⟨x.1, fun i v m h1 h2 => (x.2 i v m h1 h2).on e⟩
theorem IsRs.mono {H H' : Hp} {vs : List V} {ms : List α} (e : Same H H') (x : IsRs f H vs ms) : IsRs f H' vs ms := x.on fun a xs h => e a _ h
theorem IsRs.nil {H : Hp} : IsRs f H [] [] := ⟨rfl, fun i v m h => by simp at h⟩
theorem IsRs.get {H : Hp} {vs : List V} {ms : List α} (x : IsRs f H vs ms) {i : Nat} {v : V} (h : vs[i]? = some v) : ∃ m, ms[i]? = some m ∧ IsRw f H v m := by
  have hi : i < ms.length := by rw [← x.1]; exact (List.getElem?_eq_some_iff.mp h).1
  exact ⟨ms[i], List.getElem?_eq_getElem hi, x.2 i v _ h (List.getElem?_eq_getElem hi)⟩
theorem IsRs.cons {H : Hp} {v : V} {m : α} {vs : List V} {ms : List α} (x : IsRw f H v m) (xs : IsRs f H vs ms) : IsRs f H (v :: vs) (m :: ms) := by
  refine ⟨by simp [xs.1], fun i v' m' h1 h2 => ?_⟩
  cases i with
  | zero =>
    simp at h1 h2
    subst h1 h2
    exact x
  | succ i =>
    simp at h1 h2
    exact xs.2 i v' m' h1 h2
theorem IsRs.append {H : Hp} {vs ws : List V} {ms ns : List α} (x : IsRs f H vs ms) (y : IsRs f H ws ns) : IsRs f H (vs ++ ws) (ms ++ ns) := by
  refine ⟨by simp [x.1, y.1], fun i v m h1 h2 => ?_⟩
  by_cases hi : i < vs.length
  · rw [List.getElem?_append_left hi] at h1
    rw [List.getElem?_append_left (by rw [← x.1]; exact hi)] at h2
    exact x.2 i v m h1 h2
  · rw [List.getElem?_append_right (by omega)] at h1
    rw [List.getElem?_append_right (by rw [← x.1]; omega), ← x.1] at h2
    exact y.2 _ v m h1 h2
theorem IsRs.one {H : Hp} {v : V} {m : α} (x : IsRw f H v m) : IsRs f H [v] [m] := .cons x .nil
theorem IsRs.take {H : Hp} {vs : List V} {ms : List α} (x : IsRs f H vs ms) (n : Nat) : IsRs f H (vs.take n) (ms.take n) := by
  refine ⟨by simp [x.1], fun i v m h1 h2 => ?_⟩
  rw [List.getElem?_take] at h1 h2
  split at h1
  · rename_i hi
    rw [if_pos hi] at h2
    exact x.2 i v m h1 h2
  · cases h1
end
/-- rows of values, each as told -/
structure AllR {α : Type} (R : V → α → Prop) (vs : List V) (ms : List α) : Prop where
  len : vs.length = ms.length
  at_ : ∀ (i : Nat) v m, vs[i]? = some v → ms[i]? = some m → R v m
theorem AllR.nil {α : Type} {R : V → α → Prop} : AllR R [] [] := ⟨rfl, fun i v m h => by simp at h⟩
theorem AllR.imp {α : Type} {R S : V → α → Prop} {vs : List V} {ms : List α} (h : ∀ v m, R v m → S v m) (x : AllR R vs ms) : AllR S vs ms := ⟨x.len, fun i v m h1 h2 => h v m (x.at_ i v m h1 h2)⟩
theorem AllR.snoc {α : Type} {R : V → α → Prop} {vs : List V} {ms : List α} {v : V} {m : α} (x : AllR R vs ms) (y : R v m) : AllR R (vs ++ [v]) (ms ++ [m]) := by
  refine ⟨by simp [x.len], fun i v' m' h1 h2 => ?_⟩
  by_cases hi : i < vs.length
  · rw [List.getElem?_append_left hi] at h1
    rw [List.getElem?_append_left (by rw [← x.len]; exact hi)] at h2
    exact x.at_ i v' m' h1 h2
  · rw [List.getElem?_append_right (by omega)] at h1
    rw [List.getElem?_append_right (by rw [← x.len]; omega), ← x.len] at h2
    cases e : i - vs.length with
    | zero =>
      rw [e] at h1 h2
      simp at h1 h2
      subst h1 h2
      exact y
    | succ k =>
      rw [e] at h1
      simp at h1
theorem AllR.get {α : Type} {R : V → α → Prop} {vs : List V} {ms : List α} (x : AllR R vs ms) {i : Nat} {v : V} (h : vs[i]? = some v) : ∃ m, ms[i]? = some m ∧ R v m := by
  have hi : i < ms.length := by rw [← x.len]; exact (List.getElem?_eq_some_iff.mp h).1
  exact ⟨ms[i], List.getElem?_eq_getElem hi, x.at_ i v _ h (List.getElem?_eq_getElem hi)⟩
theorem none_of {H H' : Hp} {a : Addr} (e : Same H H') (h : H' a = none) : H a = none := by
  cases z : H a with
  | none => rfl
  | some o => rw [e a o z] at h; cases h
end DD
set_option Elab.async false
set_option linter.all false
set_option maxRecDepth 100000
set_option maxHeartbeats 2000000
namespace DL
open PySem PySem.Spec PyProof.Rows L2 DD
abbrev Fg := PySem.W.Frag
/-- data -/
inductive D where
  | non | bl (b : Bool) | int (i : Int) | str (x : Str)
  | tup (ds : List D) | lst (ds : List D) | scr (ds : List D) | ins (C : Addr) (ks : List Str) (ds : List D) | cls (C : Addr)
  deriving Inhabited
/-- what is owned: its content -/
inductive O where
  | lst (ds : List D) | ins (C : Addr) (ks : List Str) (ds : List D)
@[simp] def O.d : O → D
  | .lst ds => .lst ds
  | .ins C ks ds => .ins C ks ds
inductive Slot where
  | none | val (d : D) | own (o : O) | bor (o : O) | lck (o : O)
abbrev En := List Slot
mutual
/-- v stands for d, in the frozen part G -/
inductive Rep (K : Fg) (G : Hp) : V → D → Prop
  | non : Rep K G .non .non
  | bl (b : Bool) : Rep K G (.bl b) (.bl b)
  | int (i : Int) : Rep K G (.int i) (.int i)
  | str (x : Str) : Rep K G (.str x) (.str x)
  | tup {a : Addr} {vs : List V} {ds : List D} : SqT K G a vs → RepA K G vs ds → Rep K G (.ref a) (.tup ds)
  | lst {a : Addr} {vs : List V} {ds : List D} : G a = some (.lst vs) → RepA K G vs ds → Rep K G (.ref a) (.lst ds)
  | scr {a : Addr} {vs : List V} {ds : List D} : SqL K G a vs → RepA K G vs ds → Rep K G (.ref a) (.scr ds)
  | ins {a C dx : Addr} {fs : List (Str × V)} {ks : List Str} {ds : List D} : G a = some (.ins C dx fs) → fs.map (·.1) = ks → RepA K G (fs.map (·.2)) ds → Rep K G (.ref a) (.ins C ks ds)
  | cls (C : Addr) : Rep K G (.ref C) (.cls C)
inductive RepA (K : Fg) (G : Hp) : List V → List D → Prop
  | nil : RepA K G [] []
  | cons {v : V} {vs : List V} {d : D} {ds : List D} : Rep K G v d → RepA K G vs ds → RepA K G (v :: vs) (d :: ds)
end
theorem smNew {H : Hp} {p : Addr} {o : HO} (h : H p = none) : Same H (upd H p o) := fun a u e => by
  rw [upd_ne (ne_of_none e h)]
  exact e
theorem smTup {K : Fg} {H H' : Hp} {a : Addr} {xs : List V} (e : Same H H') (h : SqT K H a xs) : SqT K H' a xs := by
  rcases h with (h | ⟨o, h⟩) | h
  · exact .inl (.inl (e _ _ h))
  · exact .inl (.inr ⟨o, e _ _ h⟩)
  · exact .inr h
theorem smLst {K : Fg} {H H' : Hp} {a : Addr} {xs : List V} (e : Same H H') (h : SqL K H a xs) : SqL K H' a xs := by
  rcases h with (h | ⟨o, h⟩) | h
  · exact .inl (.inl (e _ _ h))
  · exact .inl (.inr ⟨o, e _ _ h⟩)
  · exact .inr h
section
variable {K : Fg} {G G' : Hp}
mutual
theorem Rep.mono (e : Same G G') : ∀ {v : V} {d : D}, Rep K G v d → Rep K G' v d
  | _, _, .non => .non
  | _, _, .bl b => .bl b
  | _, _, .int i => .int i
  | _, _, .str x => .str x
  | _, _, .tup h r => .tup (smTup e h) (RepA.mono e r)
  | _, _, .lst h r => .lst (e _ _ h) (RepA.mono e r)
  | _, _, .scr h r => .scr (smLst e h) (RepA.mono e r)
  | _, _, .ins h k r => .ins (e _ _ h) k (RepA.mono e r)
  | _, _, .cls C => .cls C
theorem RepA.mono (e : Same G G') : ∀ {vs : List V} {ds : List D}, RepA K G vs ds → RepA K G' vs ds
  | _, _, .nil => .nil
  | _, _, .cons h r => .cons (Rep.mono e h) (RepA.mono e r)
end
theorem RepA.len : ∀ {vs : List V} {ds : List D}, RepA K G vs ds → vs.length = ds.length
  | _, _, .nil => rfl
  | _, _, .cons _ r => by rw [List.length_cons, List.length_cons, r.len]
theorem RepA.get : ∀ {vs : List V} {ds : List D} {i : Nat} {d : D}, RepA K G vs ds → ds[i]? = some d → ∃ v, vs[i]? = some v ∧ Rep K G v d
  | _, _, _, _, .nil, h => by simp at h
  | _, _, 0, _, .cons h r, e => by simp at e; subst e; exact ⟨_, rfl, h⟩
  | _, _, i + 1, _, .cons h r, e => by
    obtain ⟨v, h1, h2⟩ := r.get (i := i) (by simpa using e)
    exact ⟨v, by simpa using h1, h2⟩
theorem RepA.get' : ∀ {vs : List V} {ds : List D} {i : Nat} {v : V}, RepA K G vs ds → vs[i]? = some v → ∃ d, ds[i]? = some d ∧ Rep K G v d
  | _, _, _, _, .nil, h => by simp at h
  | _, _, 0, _, .cons h r, e => by simp at e; subst e; exact ⟨_, rfl, h⟩
  | _, _, i + 1, _, .cons h r, e => by
    obtain ⟨d, h1, h2⟩ := r.get' (i := i) (by simpa using e)
    exact ⟨d, by simpa using h1, h2⟩
theorem RepA.app : ∀ {vs ws : List V} {ds es : List D}, RepA K G vs ds → RepA K G ws es → RepA K G (vs ++ ws) (ds ++ es)
  | _, _, _, _, .nil, r => r
  | _, _, _, _, .cons h r, s => .cons h (r.app s)
theorem RepA.take : ∀ {vs : List V} {ds : List D} (n : Nat), RepA K G vs ds → RepA K G (vs.take n) (ds.take n)
  | _, _, 0, _ => .nil
  | _, _, _ + 1, .nil => .nil
  | _, _, n + 1, .cons h r => .cons h (r.take n)
theorem RepA.drop : ∀ {vs : List V} {ds : List D} (n : Nat), RepA K G vs ds → RepA K G (vs.drop n) (ds.drop n)
  | _, _, 0, r => r
  | _, _, _ + 1, .nil => .nil
  | _, _, n + 1, .cons h r => r.drop n
theorem RepA.set : ∀ {vs : List V} {ds : List D} {v : V} {d : D} (i : Nat), RepA K G vs ds → Rep K G v d → RepA K G (vs.set i v) (ds.set i d)
  | _, _, _, _, _, .nil, _ => .nil
  | _, _, _, _, 0, .cons h r, s => .cons s r
  | _, _, _, _, i + 1, .cons h r, s => .cons h (r.set i s)
theorem RepA.one {v : V} {d : D} (h : Rep K G v d) : RepA K G [v] [d] := .cons h .nil
theorem RepA.ofInts : ∀ {ns : List Int}, RepA K G (ns.map V.int) (ns.map D.int)
  | [] => .nil
  | n :: ns => .cons (.int n) RepA.ofInts
end
/-- tables of code objects: they may grow -/
abbrev Tbs := List (Addr × Str)
structure Fm where
  H0 : Hp
  G0 : Hp
  M : Nat → Option Addr
  L : Nat → Option Addr
  T : Tbs
/-- the tables stand, none is frozen -/
def TabR (T : Tbs) (G0 G H : Hp) : Prop := LamX.Tabs T H ∧ (∀ p ∈ T, G p.1 = none) ∧ ∀ a o, G a = some o → G0 a = none → ∀ ps, o ≠ .tbl ps
/-- neither a table nor a code object -/
def Usual (a : Addr) (u : HO) : Prop := (∀ ps, u ≠ .tbl ps) ∧ ∀ q, u ≠ LamX.CodeO a q
theorem usual_lst {a : Addr} {vs : List V} : Usual a (.lst vs) := ⟨fun _ h => (by cases h), fun _ h => (by unfold LamX.CodeO at h; cases h)⟩
theorem usual_ins {a C dx : Addr} {fs : List (Str × V)} : Usual a (.ins C dx fs) := ⟨fun _ h => (by cases h), fun _ h => (by unfold LamX.CodeO at h; cases h)⟩
theorem TabR.nil {G H : Hp} : TabR [] G G H := ⟨fun p h => (by simp at h), fun p h => (by simp at h), fun a o h h' => (by rw [h] at h'; cases h')⟩
theorem TabR.tbl {T : Tbs} {G0 G H : Hp} (t : TabR T G0 G H) {p : Addr × Str} (h : p ∈ T) : ∃ ps, H p.1 = some (.tbl ps) := by
  obtain ⟨ps, e, _⟩ := t.1 p h
  exact ⟨ps, e⟩
theorem TabR.grow {T : Tbs} {G0 G H H' : Hp} (t : TabR T G0 G H) (e : Same H H') : TabR T G0 G H' := ⟨t.1.ext e, t.2⟩
theorem TabR.chg {T : Tbs} {G0 G H : Hp} {a : Addr} {u o : HO} (t : TabR T G0 G H) (ha : H a = some u) (n : Usual a u) : TabR T G0 G (upd H a o) := ⟨fun p hp => by
  obtain ⟨ps, h1, h2, h3⟩ := t.1 p hp
  refine ⟨ps, ?_, h2, fun pos cv hc => ?_⟩
  · rw [upd_ne (fun z => by rw [z, ha] at h1; exact n.1 ps (Option.some.inj h1))]
    exact h1
  · obtain ⟨c, e1, e2⟩ := h3 pos cv hc
    refine ⟨c, e1, ?_⟩
    rw [upd_ne (fun z => by rw [z, ha] at e2; exact n.2 _ (Option.some.inj e2))]
    exact e2, t.2⟩
/-- all that stood and was not changed; what is newly frozen was not there -/
theorem TabR.after {T : Tbs} {G0 G G' H H' : Hp} {ch : Addr → Prop} (t : TabR T G0 G H) (s : Same G G') (gt : ∀ b o, G' b = some o → G b = none → ∀ ps, o ≠ .tbl ps) (g : ∀ b o, G' b = some o → G b = none → H b = none) (hk : ∀ b o, H b = some o → ¬ ch b → H' b = some o) (n : ∀ b u, ch b → H b = some u → Usual b u) : TabR T G0 G' H' := by
  refine ⟨fun p hp => ?_, fun p hp => ?_, fun a o h h0 => ?_⟩
  · obtain ⟨ps, h1, h2, h3⟩ := t.1 p hp
    refine ⟨ps, hk _ _ h1 fun z => (n _ _ z h1).1 ps rfl, h2, fun pos cv hc => ?_⟩
    obtain ⟨c, e1, e2⟩ := h3 pos cv hc
    exact ⟨c, e1, hk _ _ e2 fun z => (n _ _ z e2).2 _ rfl⟩
  · cases e : G' p.1 with
    | none => rfl
    | some o =>
      obtain ⟨ps, h1⟩ := t.tbl hp
      have := g _ _ e (t.2.1 p hp)
      rw [h1] at this
      cases this
  · cases e : G a with
    | none => exact gt a o h e
    | some u =>
      rw [s _ _ e] at h
      have q := Option.some.inj h
      subst q
      exact t.2.2 a _ e h0
theorem TabR.frz {T : Tbs} {G0 G H : Hp} {a : Addr} {o : HO} (t : TabR T G0 G H) (h : H a = some o) (n : ∀ ps, o ≠ .tbl ps) : TabR T G0 (upd G a o) H := by
  refine ⟨t.1, fun p hp => ?_, fun b u e h0 => ?_⟩
  · obtain ⟨ps, h1⟩ := t.tbl hp
    rw [upd_ne (fun z => by rw [z, h] at h1; exact n ps (Option.some.inj h1))]
    exact t.2.1 p hp
  · by_cases q : b = a
    · subst q
      rw [upd_same] at e
      cases e
      exact n
    · rw [upd_ne q] at e
      exact t.2.2 b u e h0
def ObjO (K : Fg) (G H : Hp) (a : Addr) : O → Prop
  | .lst ds => ∃ vs, H a = some (.lst vs) ∧ RepA K G vs ds
  | .ins C ks ds => ∃ dx fs, H a = some (.ins C dx fs) ∧ fs.map (·.1) = ks ∧ RepA K G (fs.map (·.2)) ds
theorem ObjO.mono {K : Fg} {G G' H H' : Hp} {a : Addr} {o : O} (e : Same G G') (k : ∀ u, H a = some u → H' a = some u) (h : ObjO K G H a o) : ObjO K G' H' a o := by
  cases o with
  | lst ds =>
    obtain ⟨vs, h1, h2⟩ := h
    exact ⟨vs, k _ h1, h2.mono e⟩
  | ins C ks ds =>
    obtain ⟨dx, fs, h1, h2, h3⟩ := h
    exact ⟨dx, fs, k _ h1, h2, h3.mono e⟩
theorem ObjO.ex {K : Fg} {G H : Hp} {a : Addr} {o : O} (h : ObjO K G H a o) : ∃ u, H a = some u := by
  cases o with
  | lst ds => exact ⟨_, h.choose_spec.1⟩
  | ins C ks ds =>
    obtain ⟨dx, fs, h1, _⟩ := h
    exact ⟨_, h1⟩
theorem ObjO.usual {K : Fg} {G H : Hp} {a : Addr} {o : O} {u : HO} (h : ObjO K G H a o) (e : H a = some u) : Usual a u := by
  cases o with
  | lst ds =>
    obtain ⟨vs, h1, _⟩ := h
    rw [h1] at e
    cases e
    exact usual_lst
  | ins C ks ds =>
    obtain ⟨dx, fs, h1, _⟩ := h
    rw [h1] at e
    cases e
    exact usual_ins
def SlotR (K : Fg) (F : Fm) (G H : Hp) (i : Nat) (x : Option V) : Slot → Prop
  | .none => True
  | .val d => ∃ v, x = some v ∧ Rep K G v d
  | .own o => ∃ a, x = some (.ref a) ∧ F.H0 a = none ∧ G a = none ∧ ObjO K G H a o
  | .bor o => ∃ a, x = some (.ref a) ∧ F.M i = some a ∧ G a = none ∧ ObjO K G H a o
  | .lck o => ∃ a u, x = some (.ref a) ∧ F.L i = some a ∧ G a = none ∧ F.H0 a = some u ∧ (∀ j, F.M j ≠ some a) ∧ ObjO K G H a o
structure Rl (K : Fg) (F : Fm) (G H : Hp) (σ : L2.St) (ρ : En) : Prop where
  gh : Same G H
  g0 : Same F.G0 G
  gn : ∀ a o, G a = some o → F.G0 a = none → F.H0 a = none
  hk : ∀ a o, F.H0 a = some o → (∀ i, F.M i ≠ some a) → H a = some o
  hm : ∀ i a, F.M i = some a → H a ≠ none ∧ F.H0 a ≠ none ∧ ∃ o, ρ[i]? = some (.bor o)
  hl : ∀ i a, F.L i = some a → ∃ o, ρ[i]? = some (.lck o)
  sl : ∀ i s, ρ[i]? = some s → ∃ x, σ[i]? = some x ∧ SlotR K F G H i x s
  di : ∀ (i j : Nat) (o o' : O) (a : Addr), ρ[i]? = some (.own o) → ρ[j]? = some (.own o') → σ[i]? = some (some (.ref a)) → σ[j]? = some (some (.ref a)) → i = j
  mi : ∀ i j a, F.M i = some a → F.M j = some a → i = j
  tb : TabR F.T F.G0 G H
section
variable {K : Fg} {F : Fm} {G G' H H' : Hp} {σ σ' : L2.St} {ρ ρ' : En} {a p : Addr}
theorem Rl.fresh (R : Rl K F G H σ ρ) (h : H p = none) : F.H0 p = none := by
  cases e : F.H0 p with
  | none => rfl
  | some o =>
    by_cases q : ∃ i, F.M i = some p
    · obtain ⟨i, q⟩ := q
      exact absurd h (R.hm i p q).1
    · have := R.hk p o e fun i z => q ⟨i, z⟩
      rw [h] at this
      cases this
theorem Rl.freshG (R : Rl K F G H σ ρ) (h : H p = none) : G p = none := none_of R.gh h
/-- the owner's address -/
theorem Rl.own {i : Nat} {o : O} (R : Rl K F G H σ ρ) (h : ρ[i]? = some (.own o)) : ∃ a, σ[i]? = some (some (.ref a)) ∧ F.H0 a = none ∧ G a = none ∧ ObjO K G H a o := by
  obtain ⟨x, h1, a, rfl, h2, h3, h4⟩ := R.sl i _ h
  exact ⟨a, h1, h2, h3, h4⟩
theorem Rl.bor {i : Nat} {o : O} (R : Rl K F G H σ ρ) (h : ρ[i]? = some (.bor o)) : ∃ a, σ[i]? = some (some (.ref a)) ∧ F.M i = some a ∧ G a = none ∧ ObjO K G H a o := by
  obtain ⟨x, h1, a, rfl, h2, h3, h4⟩ := R.sl i _ h
  exact ⟨a, h1, h2, h3, h4⟩
theorem Rl.val {i : Nat} {d : D} (R : Rl K F G H σ ρ) (h : ρ[i]? = some (.val d)) : ∃ v, σ[i]? = some (some v) ∧ Rep K G v d := by
  obtain ⟨x, h1, v, rfl, h2⟩ := R.sl i _ h
  exact ⟨v, h1, h2⟩
/-- a slot whose object stands as before -/
theorem SlotR.mono {i : Nat} {x : Option V} {s : Slot} (e : Same G G') (n : ∀ a, x = some (.ref a) → G a = none → (∃ u, H a = some u) → G' a = none) (k : ∀ a u, x = some (.ref a) → H a = some u → H' a = some u) (h : SlotR K F G H i x s) : SlotR K F G' H' i x s := by
  cases s with
  | none => trivial
  | val d =>
    obtain ⟨v, e1, e2⟩ := h
    exact ⟨v, e1, e2.mono e⟩
  | own o =>
    obtain ⟨a, e1, e2, e3, e4⟩ := h
    exact ⟨a, e1, e2, n a e1 e3 e4.ex, e4.mono e fun u => k a u e1⟩
  | bor o =>
    obtain ⟨a, e1, e2, e3, e4⟩ := h
    exact ⟨a, e1, e2, n a e1 e3 e4.ex, e4.mono e fun u => k a u e1⟩
  | lck o =>
    obtain ⟨a, u, e1, e2, e3, e5, e6, e4⟩ := h
    exact ⟨a, u, e1, e2, n a e1 e3 e4.ex, e5, e6, e4.mono e fun u => k a u e1⟩
theorem smNewG {o : HO} (h : G a = none) : Same G (upd G a o) := smNew h
/-- the heap grows, nothing that stood changes -/
theorem Rl.grow (R : Rl K F G H σ ρ) (k : Same H H') : Rl K F G H' σ ρ where
  gh := R.gh.trans k
  g0 := R.g0
  gn := R.gn
  hk := fun a o h n => k _ _ (R.hk a o h n)
  hm := fun i a h => by
    obtain ⟨h1, h2, h3⟩ := R.hm i a h
    refine ⟨fun z => ?_, h2, h3⟩
    cases e : H a with
    | none => exact h1 e
    | some u => rw [k a u e] at z; cases z
  hl := R.hl
  sl := fun i s h => by
    obtain ⟨x, h1, h2⟩ := R.sl i s h
    exact ⟨x, h1, h2.mono (Same.refl G) (fun _ _ g _ => g) fun a u _ e => k a u e⟩
  di := R.di
  mi := R.mi
  tb := R.tb.grow k
theorem Rl.laid {o : HO} (R : Rl K F G H σ ρ) (h : H p = none) : Rl K F G (upd H p o) σ ρ := R.grow (smNew h)
/-- what no slot owns is frozen -/
theorem Rl.frz {o : HO} (R : Rl K F G H σ ρ) (h : H a = some o) (h0 : F.H0 a = none) (hg : G a = none) (n : ∀ (j : Nat) (u : O), ρ[j]? = some (.own u) → σ[j]? ≠ some (some (.ref a))) (nt : ∀ ps, o ≠ .tbl ps) : Rl K F (upd G a o) H σ ρ where
  gh := fun b u e => by
    by_cases q : b = a
    · subst q
      rw [upd_same] at e
      cases e
      exact h
    · rw [upd_ne q] at e
      exact R.gh b u e
  g0 := R.g0.trans (smNew hg)
  gn := fun b u e g => by
    by_cases q : b = a
    · subst q; exact h0
    · rw [upd_ne q] at e
      exact R.gn b u e g
  hk := R.hk
  hm := R.hm
  hl := R.hl
  sl := fun i s hs => by
    obtain ⟨x, h1, h2⟩ := R.sl i s hs
    refine ⟨x, h1, ?_⟩
    have ne : ∀ b, b ≠ a → G b = none → upd G a o b = none := fun b q g => by rw [upd_ne q]; exact g
    have M := smNewG (o := o) hg
    cases s with
    | none => trivial
    | val d =>
      obtain ⟨v, e1, e2⟩ := h2
      exact ⟨v, e1, e2.mono M⟩
    | own u =>
      obtain ⟨b, rfl, e2, e3, e4⟩ := h2
      exact ⟨b, rfl, e2, ne b (fun q => n i u hs (by rw [h1, q])) e3, e4.mono M fun _ z => z⟩
    | bor u =>
      obtain ⟨b, rfl, e2, e3, e4⟩ := h2
      exact ⟨b, rfl, e2, ne b (fun q => (R.hm i b e2).2.1 (by rw [q]; exact h0)) e3, e4.mono M fun _ z => z⟩
    | lck u =>
      obtain ⟨b, u', rfl, e2, e3, e5, e6, e4⟩ := h2
      exact ⟨b, u', rfl, e2, ne b (fun q => by rw [q, h0] at e5; cases e5) e3, e5, e6, e4.mono M fun _ z => z⟩
  di := R.di
  mi := R.mi
  tb := R.tb.frz h nt
/-- a new frozen object -/
theorem Rl.add {o : HO} (R : Rl K F G H σ ρ) (h : H p = none) (nt : ∀ ps, o ≠ .tbl ps := by intro ps h; cases h) : Rl K F (upd G p o) (upd H p o) σ ρ := by
  refine (R.laid (o := o) h).frz upd_same (R.fresh h) (R.freshG h) (fun j u hj z => ?_) nt
  obtain ⟨b, h1, _, _, h4⟩ := R.own hj
  rw [h1] at z
  cases z
  obtain ⟨u, e⟩ := h4.ex
  rw [h] at e
  cases e
theorem getset {α : Type} {l : List α} {i j : Nat} {x y : α} (h : (l.set i x)[j]? = some y) : (i = j ∧ x = y ∧ i < l.length) ∨ (i ≠ j ∧ l[j]? = some y) := by
  by_cases e : i = j
  · subst e
    by_cases q : i < l.length
    · rw [List.getElem?_set_self q] at h
      exact .inl ⟨rfl, Option.some.inj h, q⟩
    · rw [List.getElem?_eq_none (by simpa using q)] at h
      cases h
  · rw [List.getElem?_set_ne e] at h
    exact .inr ⟨e, h⟩
theorem Rl.lt {i : Nat} (R : Rl K F G H σ ρ) (h : i < ρ.length) : i < σ.length := by
  obtain ⟨x, h1, _⟩ := R.sl i _ (List.getElem?_eq_getElem h)
  exact (List.getElem?_eq_some_iff.mp h1).1
/-- may a name be stored to -/
def Slot.free : Slot → Bool
  | .bor _ | .lck _ => false
  | _ => true
@[simp] def freeAt (ρ : En) (i : Nat) : Bool := match ρ[i]? with
  | some s => s.free
  | none => false
theorem freeAt_lt {i : Nat} (h : freeAt ρ i = true) : i < ρ.length := by
  unfold freeAt at h
  cases e : ρ[i]? with
  | none => rw [e] at h; cases h
  | some s => exact (List.getElem?_eq_some_iff.mp e).1
/-- a slot is stored to -/
theorem Rl.put {i : Nat} {v : V} {s : Slot} (R : Rl K F G H σ ρ) (hf : freeAt ρ i = true) (hs : SlotR K F G H i (some v) s) (hn : s.free = true) (hd : ∀ (o : O), s = .own o → ∀ (j : Nat) (o' : O), j ≠ i → ρ[j]? = some (.own o') → σ[j]? ≠ some (some v)) : Rl K F G H (σ.set i (some v)) (ρ.set i s) where
  gh := R.gh
  g0 := R.g0
  gn := R.gn
  hk := R.hk
  hm := fun j a h => by
    obtain ⟨h1, h2, o, h3⟩ := R.hm j a h
    refine ⟨h1, h2, o, ?_⟩
    by_cases e : i = j
    · subst e
      unfold freeAt at hf
      rw [h3] at hf
      cases hf
    · rw [List.getElem?_set_ne e]; exact h3
  hl := fun j a h => by
    obtain ⟨o, h3⟩ := R.hl j a h
    refine ⟨o, ?_⟩
    by_cases e : i = j
    · subst e
      unfold freeAt at hf
      rw [h3] at hf
      cases hf
    · rw [List.getElem?_set_ne e]; exact h3
  sl := fun j t h => by
    rcases getset h with ⟨rfl, rfl, hl⟩ | ⟨ne, h⟩
    · exact ⟨some v, by rw [List.getElem?_set_self (R.lt hl)], hs⟩
    · obtain ⟨x, h1, h2⟩ := R.sl j t h
      exact ⟨x, by rw [List.getElem?_set_ne ne]; exact h1, h2⟩
  di := fun j k o o' a h1 h2 h3 h4 => by
    have hil : i < ρ.length := freeAt_lt hf
    rcases getset h1 with ⟨rfl, rfl, _⟩ | ⟨n1, h1⟩
    · rcases getset h2 with ⟨rfl, _, _⟩ | ⟨n2, h2⟩
      · rfl
      · rw [List.getElem?_set_self (R.lt hil)] at h3
        rw [List.getElem?_set_ne n2] at h4
        cases h3
        exact absurd h4 (hd o rfl k o' (Ne.symm n2) h2)
    · have h1x := h1
      rw [List.getElem?_set_ne n1] at h3
      rcases getset h2 with ⟨rfl, rfl, _⟩ | ⟨n2, h2⟩
      · rw [List.getElem?_set_self (R.lt hil)] at h4
        cases h4
        exact absurd h3 (hd o' rfl j o (Ne.symm n1) h1x)
      · rw [List.getElem?_set_ne n2] at h4
        exact R.di j k o o' a h1 h2 h3 h4
  mi := R.mi
  tb := R.tb
/-- a slot is forgotten -/
theorem Rl.forget {i : Nat} {x : Option V} (R : Rl K F G H σ ρ) (hf : freeAt ρ i = true) : Rl K F G H (σ.set i x) (ρ.set i .none) where
  gh := R.gh
  g0 := R.g0
  gn := R.gn
  hk := R.hk
  hm := fun j a h => by
    obtain ⟨h1, h2, o, h3⟩ := R.hm j a h
    refine ⟨h1, h2, o, ?_⟩
    by_cases e : i = j
    · subst e
      unfold freeAt at hf
      rw [h3] at hf
      cases hf
    · rw [List.getElem?_set_ne e]; exact h3
  hl := fun j a h => by
    obtain ⟨o, h3⟩ := R.hl j a h
    refine ⟨o, ?_⟩
    by_cases e : i = j
    · subst e
      unfold freeAt at hf
      rw [h3] at hf
      cases hf
    · rw [List.getElem?_set_ne e]; exact h3
  sl := fun j t h => by
    rcases getset h with ⟨rfl, rfl, hl⟩ | ⟨ne, h⟩
    · exact ⟨x, by rw [List.getElem?_set_self (R.lt hl)], trivial⟩
    · obtain ⟨x, h1, h2⟩ := R.sl j t h
      exact ⟨x, by rw [List.getElem?_set_ne ne]; exact h1, h2⟩
  di := fun j k o o' a h1 h2 h3 h4 => by
    rcases getset h1 with ⟨rfl, e, _⟩ | ⟨n1, h1⟩
    · cases e
    · rcases getset h2 with ⟨rfl, e, _⟩ | ⟨n2, h2⟩
      · cases e
      · rw [List.getElem?_set_ne n1] at h3
        rw [List.getElem?_set_ne n2] at h4
        exact R.di j k o o' a h1 h2 h3 h4
  mi := R.mi
  tb := R.tb
/-- what is owned changes -/
def Slot.re : Slot → O → Option Slot
  | .own _, o => some (.own o)
  | .bor _, o => some (.bor o)
  | _, _ => Option.none
def Slot.co : Slot → Option O
  | .own o | .bor o => some o
  | _ => Option.none
theorem re_cases {s s' : Slot} {o : O} (h : s.re o = some s') : (∃ u, s = .own u ∧ s' = .own o) ∨ (∃ u, s = .bor u ∧ s' = .bor o) := by
  cases s <;> simp [Slot.re] at h
  · exact .inl ⟨_, rfl, h.symm⟩
  · exact .inr ⟨_, rfl, h.symm⟩
theorem co_cases {s : Slot} {o : O} (h : s.co = some o) : s = .own o ∨ s = .bor o := by
  cases s <;> simp [Slot.co] at h
  · exact .inl (by rw [h])
  · exact .inr (by rw [h])
theorem Rl.holder {i : Nat} {s : Slot} {o : O} (R : Rl K F G H σ ρ) (h : ρ[i]? = some s) (hc : s.co = some o) : ∃ a, σ[i]? = some (some (.ref a)) ∧ G a = none ∧ ObjO K G H a o := by
  rcases co_cases hc with rfl | rfl
  · obtain ⟨a, h1, _, h2, h3⟩ := R.own h
    exact ⟨a, h1, h2, h3⟩
  · obtain ⟨a, h1, _, h2, h3⟩ := R.bor h
    exact ⟨a, h1, h2, h3⟩
theorem Rl.mut {i : Nat} {s s' : Slot} {o : O} {u : HO} (R : Rl K F G H σ ρ) (h : ρ[i]? = some s) (hs : s.re o = some s') (hv : σ[i]? = some (some (.ref a))) (ho : ObjO K G (upd H a u) a o) : Rl K F G (upd H a u) σ (ρ.set i s') := by
  have hil : i < ρ.length := (List.getElem?_eq_some_iff.mp h).1
  have hg : G a = none := by
    rcases re_cases hs with ⟨u0, rfl, rfl⟩ | ⟨u0, rfl, rfl⟩
    · obtain ⟨b, h1, _, h2, _⟩ := R.own h
      rw [hv] at h1; cases h1; exact h2
    · obtain ⟨b, h1, _, h2, _⟩ := R.bor h
      rw [hv] at h1; cases h1; exact h2
  have exo : ∃ w, ObjO K G H a w := by
    rcases re_cases hs with ⟨u0, rfl, rfl⟩ | ⟨u0, rfl, rfl⟩
    · obtain ⟨b, h1, _, _, h2⟩ := R.own h
      rw [hv] at h1; cases h1; exact ⟨_, h2⟩
    · obtain ⟨b, h1, _, _, h2⟩ := R.bor h
      rw [hv] at h1; cases h1; exact ⟨_, h2⟩
  obtain ⟨wo, exo⟩ := exo
  have ex := exo.ex
  have hc : ∀ x, F.H0 a = some x → ∃ j, F.M j = some a := fun x e => by
    rcases re_cases hs with ⟨u0, rfl, rfl⟩ | ⟨u0, rfl, rfl⟩
    · obtain ⟨b, h1, h2, _⟩ := R.own h
      rw [hv] at h1; cases h1; rw [h2] at e; cases e
    · obtain ⟨b, h1, h2, _⟩ := R.bor h
      rw [hv] at h1; cases h1; exact ⟨i, h2⟩
  have hold : H a = some (Classical.choose ex) ∧ Usual a (Classical.choose ex) := ⟨Classical.choose_spec ex, exo.usual (Classical.choose_spec ex)⟩
  refine ⟨fun b x e => ?_, R.g0, R.gn, fun b x e n => ?_, fun j b e => ?_, fun j b e => ?_, fun j t e => ?_, fun j k w w' b h1 h2 h3 h4 => ?_, R.mi, R.tb.chg hold.1 hold.2⟩
  · rw [upd_ne (ne_of_none e hg)]
    exact R.gh b x e
  · by_cases q : b = a
    · subst q
      obtain ⟨j, z⟩ := hc x e
      exact absurd z (n j)
    · rw [upd_ne q]
      exact R.hk b x e n
  · obtain ⟨h1, h2, w, h3⟩ := R.hm j b e
    refine ⟨fun z => ?_, h2, ?_⟩
    · by_cases q : b = a
      · rw [q, upd_same] at z; cases z
      · rw [upd_ne q] at z; exact h1 z
    · by_cases q : i = j
      · subst q
        rw [h] at h3
        rcases re_cases hs with ⟨u0, rfl, rfl⟩ | ⟨u0, rfl, rfl⟩
        · cases h3
        · exact ⟨o, List.getElem?_set_self hil⟩
      · rw [List.getElem?_set_ne q]
        exact ⟨w, h3⟩
  · obtain ⟨w, h3⟩ := R.hl j b e
    by_cases q : i = j
    · subst q
      rw [h] at h3
      rcases re_cases hs with ⟨u0, rfl, rfl⟩ | ⟨u0, rfl, rfl⟩ <;> cases h3
    · rw [List.getElem?_set_ne q]
      exact ⟨w, h3⟩
  · rcases getset e with ⟨rfl, rfl, _⟩ | ⟨ne, e'⟩
    · refine ⟨_, hv, ?_⟩
      rcases re_cases hs with ⟨u0, rfl, rfl⟩ | ⟨u0, rfl, rfl⟩
      · obtain ⟨b, h1, h2, h3, _⟩ := R.own h
        rw [hv] at h1; cases h1
        exact ⟨_, rfl, h2, h3, ho⟩
      · obtain ⟨b, h1, h2, h3, _⟩ := R.bor h
        rw [hv] at h1; cases h1
        exact ⟨_, rfl, h2, h3, ho⟩
    · obtain ⟨x, h1, h2⟩ := R.sl j t e'
      refine ⟨x, h1, ?_⟩
      have far : ∀ {b w}, b ≠ a → ObjO K G H b w → ObjO K G (upd H a u) b w := fun {b w} q z => z.mono (Same.refl G) fun y e => by rw [upd_ne q]; exact e
      cases t with
      | none => trivial
      | val d => exact h2
      | own w =>
        obtain ⟨b, rfl, e2, e3, e4⟩ := h2
        refine ⟨b, rfl, e2, e3, far (fun q => ?_) e4⟩
        subst q
        rcases re_cases hs with ⟨u0, rfl, rfl⟩ | ⟨u0, rfl, rfl⟩
        · exact ne (R.di i j _ _ b h e' hv h1)
        · obtain ⟨c, h1, h2, _⟩ := R.bor h
          rw [hv] at h1; cases h1
          exact (R.hm i _ h2).2.1 e2
      | bor w =>
        obtain ⟨b, rfl, e2, e3, e4⟩ := h2
        refine ⟨b, rfl, e2, e3, far (fun q => ?_) e4⟩
        subst q
        rcases re_cases hs with ⟨u0, rfl, rfl⟩ | ⟨u0, rfl, rfl⟩
        · obtain ⟨c, h1, h2, _⟩ := R.own h
          rw [hv] at h1; cases h1
          exact (R.hm j _ e2).2.1 h2
        · obtain ⟨c, h1, h2, _⟩ := R.bor h
          rw [hv] at h1; cases h1
          exact ne (R.mi i j b h2 e2)
      | lck w =>
        obtain ⟨b, y, rfl, e2, e3, e5, e6, e4⟩ := h2
        refine ⟨b, y, rfl, e2, e3, e5, e6, far (fun q => ?_) e4⟩
        subst q
        obtain ⟨j, z⟩ := hc y e5
        exact e6 j z
  · rcases getset h1 with ⟨rfl, e1, _⟩ | ⟨n1, h1'⟩
    · rcases getset h2 with ⟨rfl, _, _⟩ | ⟨n2, h2'⟩
      · rfl
      · rcases re_cases hs with ⟨u0, rfl, rfl⟩ | ⟨u0, rfl, rfl⟩
        · exact R.di _ _ _ _ b h h2' h3 h4
        · cases e1
    · rcases getset h2 with ⟨rfl, e2, _⟩ | ⟨n2, h2'⟩
      · rcases re_cases hs with ⟨u0, rfl, rfl⟩ | ⟨u0, rfl, rfl⟩
        · exact R.di _ _ _ _ b h1' h h3 h4
        · cases e2
      · exact R.di j k w w' b h1' h2' h3 h4
end
end DL
set_option Elab.async false
set_option linter.all false
set_option maxRecDepth 100000
set_option maxHeartbeats 2000000
namespace DD
open PySem PySem.Spec PyProof.Rows L2
end DD
set_option Elab.async false
set_option linter.all false
set_option maxRecDepth 100000
set_option maxHeartbeats 2000000
namespace DD
open PySem PySem.Spec PyProof.Rows L2
end DD
set_option Elab.async false
set_option linter.all false
set_option maxRecDepth 100000
set_option maxHeartbeats 2000000
namespace DD
open PySem PySem.Spec PyProof.Rows L2
end DD
set_option Elab.async false
set_option linter.all false
set_option maxRecDepth 100000
set_option maxHeartbeats 2000000
namespace DD
open PySem PySem.Spec PyProof.Rows L2
abbrev intT (i : Int) : Str := Str.ofString (toString i)
theorem sum_le {α : Type} {f : α → Nat} {k : Nat} : ∀ {xs : List α}, (∀ x ∈ xs, f x ≤ k) → (xs.map f).sum ≤ xs.length * k
  | [], _ => by simp
  | x :: xs, h => by
    have h1 := h x (List.mem_cons_self ..)
    have h2 := sum_le (xs := xs) fun y hy => h y (List.mem_cons_of_mem _ hy)
    simp only [List.map_cons, List.sum_cons, List.length_cons, Nat.add_mul]
    omega
theorem join_len {s : Str} {xs : List Str} : (Txt.join s xs).length ≤ (xs.map (·.length)).sum + xs.length * s.length := by
  rw [show Txt.join s xs = Str.join s xs from StrLaws.glued_eq_join s xs]
  exact StrLaws.join_length_le s xs
theorem tl_int {i : Int} (h : 0 ≤ i) : TL.tl (intT i) = TL.numL i.toNat := by
  have e : i = ((i.toNat : Nat) : Int) := by omega
  conv => lhs; rw [e]
  exact TL.tl_num _
end DD
set_option Elab.async false
set_option linter.all false
set_option maxRecDepth 100000
set_option maxHeartbeats 2000000
namespace DD
open PySem PySem.Spec PyProof.Rows L2
def strsD (l : List Str) : PyData := .list (l.map PyData.str)
theorem okStr {x : Str} (h : ∀ c ∈ TL.tl x, c < 0x110000) : PyData.strOk x = true := by
  unfold PyData.strOk
  rw [← Array.all_toList]
  exact List.all_eq_true.mpr fun c hc => decide_eq_true (h c hc)
theorem okInt {i : Int} (h : 0 ≤ i) : PyData.strOk (intT i) = true := okStr fun z hz => by
  rw [tl_int h] at hz
  by_cases h2 : 57 < z
  · exact absurd hz (TL.numL_free (by omega))
  · omega
theorem layStrs : ∀ {l : List Str}, (∀ x ∈ l, PyData.strOk x = true) → PyData.canLayAll0 (l.map PyData.str) = true
  | [], _ => rfl
  | i :: l, h => by
    show (PyData.strOk i && PyData.canLayAll0 (l.map PyData.str)) = true
    rw [layStrs (l := l) fun x hx => h x (List.mem_cons_of_mem _ hx), h i (List.mem_cons_self ..)]
    rfl
theorem depthStrs : ∀ {l : List Str}, PyData.depthAll (l.map PyData.str) = 0
  | [] => rfl
  | i :: l => by
    show max (PyData.depth (.str i)) (PyData.depthAll (l.map PyData.str)) = 0
    rw [depthStrs (l := l)]
    rfl
theorem shapedStrs {l : List Str} (h : ∀ x ∈ l, PyData.strOk x = true) : SeqAt.shaped (strsD l) = true := by
  unfold SeqAt.shaped
  rw [Bool.and_eq_true_iff]
  refine ⟨layStrs h, decide_eq_true ?_⟩
  show PyData.depthAll (l.map PyData.str) + 1 ≤ 64
  rw [depthStrs]
  decide
end DD
set_option Elab.async false
set_option linter.all false
set_option maxRecDepth 100000
set_option maxHeartbeats 2000000
namespace DD
open PySem PySem.Spec PyProof.Rows L2
section
variable {X : Cx}
def rLtD (K : PySem.W.Frag) : R2 := fun x y H Q => ∃ d e, Dp K H x d ∧ Dp K H y e ∧ PySem.W.alike d e = true ∧ d ≠ .none ∧ min d.depth e.depth ≤ 60 ∧ Q (.bl (PySem.W.dataLt d e)) H
theorem op_ltD (hu : X.A.units + 64 < cLine) : OpR X (compareOp .Lt) (rLtD X.K) := by
  intro pins s σ H x y v u Q I rx ry h
  obtain ⟨d, e, hd, he, ha, hn, hp, q⟩ := h
  obtain ⟨as, r1⟩ := Dp.reads I d x v hd rx
  obtain ⟨bs, r2⟩ := Dp.reads I e y u he ry
  show wpAny _ _ (richCompare .Lt v u) _ _ _
  exact PySem.W.rcLt_alike d e X.A s v u as bs r1 r2 ha hn (by omega) X.prog X.w _ _ ⟨.bl _, H, I, rfl, q⟩
end
end DD
set_option Elab.async false
set_option linter.all false
set_option maxRecDepth 100000
set_option maxHeartbeats 2000000
namespace DL
open PySem PySem.Spec PyProof.Rows L2 DD
/-- what an expression hands on: data, an owner's slot, a new owned thing -/
inductive X where
  | val (d : D) | own (i : Nat) | new (o : O)
def X.settle : X → X
  | .new o => .val o.d
  | x => x
def Slot.dd : Slot → Option D
  | .val d => some d
  | .own o | .bor o | .lck o => some o.d
  | .none => Option.none
def deref (ρ : En) : X → Option D
  | .val d => some d
  | .new o => some o.d
  | .own i => ρ[i]?.bind Slot.dd
/-- as frozen data -/
def toVal (ρ : En) : X → Option (D × En)
  | .val d => some (d, ρ)
  | .new o => some (o.d, ρ)
  | .own i => match ρ[i]? with
    | some (.val d) => some (d, ρ)
    | some (.own o) => some (o.d, ρ.set i (.val o.d))
    | _ => none
structure Xc where
  cls : Value
  ks : List Str
  ds : List D
inductive Res (α : Type) where
  | ok (a : α) (ρ : En) | err (x : Xc) (ρ : En) | stuck
def Res.bind {α β : Type} : Res α → (α → En → Res β) → Res β
  | .ok a ρ, U => U a ρ
  | .err x ρ, _ => .err x ρ
  | .stuck, _ => .stuck
def lift {α : Type} (o : Option α) (ρ : En) : Res α := match o with
  | some a => .ok a ρ
  | none => .stuck
def RepX (K : Fg) (F : Fm) (G H : Hp) (σ : L2.St) (ρ : En) (v : V) : X → Prop
  | .val d => Rep K G v d
  | .own i => σ[i]? = some (some v)
  | .new o => ∃ a, v = .ref a ∧ F.H0 a = none ∧ G a = none ∧ ObjO K G H a o ∧ ∀ (j : Nat) (u : O), ρ[j]? = some (.own u) → σ[j]? ≠ some (some (.ref a))
/-- a value that is read: frozen, or owned by someone -/
def DRep (K : Fg) (G H : Hp) (v : V) (d : D) : Prop := Rep K G v d ∨ ∃ a o, v = .ref a ∧ d = O.d o ∧ ObjO K G H a o
inductive DRepA (K : Fg) (G H : Hp) : List V → List D → Prop
  | nil : DRepA K G H [] []
  | cons {v : V} {vs : List V} {d : D} {ds : List D} : DRep K G H v d → DRepA K G H vs ds → DRepA K G H (v :: vs) (d :: ds)
inductive RepXs (K : Fg) (F : Fm) (G H : Hp) (σ : L2.St) (ρ : En) : List V → List X → Prop
  | nil : RepXs K F G H σ ρ [] []
  | cons {v : V} {vs : List V} {x : X} {xs : List X} : RepX K F G H σ ρ v x → (∀ o, x ≠ .new o) → RepXs K F G H σ ρ vs xs → RepXs K F G H σ ρ (v :: vs) (x :: xs)
def XRep (K : Fg) (G H : Hp) (c : Value) (od : Option Addr) (x : Xc) : Prop := c = x.cls ∧ ((od = none ∧ x.ks = []) ∨ ∃ e fs, od = some e ∧ G e = some (.xd fs) ∧ fs.map (·.1) = x.ks ∧ RepA K G (fs.map (·.2)) x.ds)
section
variable {K : Fg} {F : Fm} {G G' H H' : Hp} {σ σ' : L2.St} {ρ ρ' : En} {v : V} {x : X} {d : D}
/-- a settled thing stays -/
theorem RepX.keep (h : RepX K F G H σ ρ v x) (n : ∀ o, x ≠ .new o) (e : Same G G') : RepX K F G' H' σ ρ' v x := by
  cases x with
  | val d => exact Rep.mono e h
  | own i => exact h
  | new o => exact absurd rfl (n o)
theorem settle_no : ∀ o, x.settle ≠ .new o := by
  intro o
  cases x <;> intro z <;> cases z
theorem ObjO.rep {a : Addr} {o : O} (h : ObjO K G H a o) : ∃ u, H a = some u ∧ ∀ G', Same G G' → G' a = some u → Rep K G' (.ref a) o.d := by
  cases o with
  | lst ds =>
    obtain ⟨vs, h1, h2⟩ := h
    exact ⟨_, h1, fun G' e g => .lst g (h2.mono e)⟩
  | ins C ks ds =>
    obtain ⟨dx, fs, h1, h2, h3⟩ := h
    exact ⟨_, h1, fun G' e g => .ins g h2 (h3.mono e)⟩
theorem Rl.settle (R : Rl K F G H σ ρ) (h : RepX K F G H σ ρ v x) : ∃ G', Rl K F G' H σ ρ ∧ Same G G' ∧ RepX K F G' H σ ρ v x.settle := by
  cases x with
  | val d => exact ⟨G, R, Same.refl G, h⟩
  | own i => exact ⟨G, R, Same.refl G, h⟩
  | new o =>
    obtain ⟨a, rfl, h0, hg, ho, n⟩ := h
    obtain ⟨u, hu, r⟩ := ho.rep
    exact ⟨upd G a u, R.frz hu h0 hg n (ho.usual hu).1, smNew hg, r _ (smNew hg) upd_same⟩
/-- the owner of slot i gives its thing up -/
theorem Rl.give {i : Nat} {o : O} (R : Rl K F G H σ ρ) (h : ρ[i]? = some (.own o)) : ∃ G' a, σ[i]? = some (some (.ref a)) ∧ Rl K F G' H σ (ρ.set i (.val o.d)) ∧ Same G G' ∧ Rep K G' (.ref a) o.d := by
  obtain ⟨a, hv, h0, hg, ho⟩ := R.own h
  obtain ⟨u, hu, r⟩ := ho.rep
  have hil : i < ρ.length := (List.getElem?_eq_some_iff.mp h).1
  have hf : freeAt ρ i = true := by unfold freeAt; rw [h]; rfl
  have R1 : Rl K F G H (σ.set i (some (.ref a))) (ρ.set i .none) := R.forget hf
  have eσ : σ.set i (some (.ref a)) = σ := by
    apply List.ext_getElem?
    intro j
    by_cases e : i = j
    · subst e
      rw [List.getElem?_set_self (R.lt hil), hv]
    · rw [List.getElem?_set_ne e]
  rw [eσ] at R1
  have n : ∀ (j : Nat) (u : O), (ρ.set i Slot.none)[j]? = some (.own u) → σ[j]? ≠ some (some (.ref a)) := fun j u hj z => by
    rcases getset hj with ⟨_, e, _⟩ | ⟨ne, hj⟩
    · cases e
    · exact ne (R.di i j _ _ a h hj hv z)
  have R2 := R1.frz hu h0 hg n (ho.usual hu).1
  have rp := r _ (smNew (o := u) hg) upd_same
  have R3 := R2.put (i := i) (v := .ref a) (s := .val o.d) (by unfold freeAt; rw [List.getElem?_set_self hil]; rfl) ⟨_, rfl, rp⟩ rfl (fun o e => by cases e)
  rw [eσ, List.set_set] at R3
  exact ⟨_, a, hv, R3, smNew hg, rp⟩
theorem Rl.toVal (R : Rl K F G H σ ρ) (h : RepX K F G H σ ρ v x) (e : toVal ρ x = some (d, ρ')) : ∃ G', Rl K F G' H σ ρ' ∧ Same G G' ∧ Rep K G' v d := by
  cases x with
  | val d' =>
    cases e
    exact ⟨G, R, Same.refl G, h⟩
  | new o =>
    cases e
    obtain ⟨G', R', s, r⟩ := R.settle h
    exact ⟨G', R', s, r⟩
  | own i =>
    simp only [DL.toVal] at e
    cases e2 : ρ[i]? with
    | none => rw [e2] at e; cases e
    | some s =>
      rw [e2] at e
      cases s with
      | val d' =>
        cases e
        obtain ⟨v', h1, h2⟩ := R.val e2
        rw [show σ[i]? = some (some v) from h] at h1
        cases h1
        exact ⟨G, R, Same.refl G, h2⟩
      | own o =>
        cases e
        obtain ⟨G', a, h1, R', s, r⟩ := R.give e2
        rw [show σ[i]? = some (some v) from h] at h1
        cases h1
        exact ⟨G', R', s, r⟩
      | none => cases e
      | bor o => cases e
      | lck o => cases e
theorem Rl.deref (R : Rl K F G H σ ρ) (h : RepX K F G H σ ρ v x) (e : deref ρ x = some d) : DRep K G H v d := by
  cases x with
  | val d' => cases e; exact .inl h
  | new o =>
    cases e
    obtain ⟨a, rfl, _, _, ho, _⟩ := h
    exact .inr ⟨a, o, rfl, rfl, ho⟩
  | own i =>
    simp only [DL.deref] at e
    cases e2 : ρ[i]? with
    | none => rw [e2] at e; cases e
    | some s =>
      rw [e2] at e
      obtain ⟨x, h1, h2⟩ := R.sl i s e2
      rw [show σ[i]? = some (some v) from h] at h1
      cases h1
      cases s with
      | none => cases e
      | val d' =>
        cases e
        obtain ⟨v', e3, h3⟩ := h2
        cases e3
        exact .inl h3
      | own o =>
        cases e
        obtain ⟨a, e3, _, _, h3⟩ := h2
        cases e3
        exact .inr ⟨a, o, rfl, rfl, h3⟩
      | bor o =>
        cases e
        obtain ⟨a, e3, _, _, h3⟩ := h2
        cases e3
        exact .inr ⟨a, o, rfl, rfl, h3⟩
      | lck o =>
        cases e
        obtain ⟨a, u, e3, _, _, _, _, h3⟩ := h2
        cases e3
        exact .inr ⟨a, o, rfl, rfl, h3⟩
theorem DRep.rep (e : Same G H) (h : DRep K G H v d) : Rep K H v d := by
  rcases h with h | ⟨a, o, rfl, rfl, h⟩
  · exact h.mono e
  · obtain ⟨u, hu, r⟩ := h.rep
    exact r H e hu
theorem DRep.non (h : DRep K G H v .non) : v = .non := by
  rcases h with h | ⟨a, o, rfl, e, _⟩
  · cases h; rfl
  · cases o <;> cases e
theorem DRep.bl {b : Bool} (h : DRep K G H v (.bl b)) : v = .bl b := by
  rcases h with h | ⟨a, o, rfl, e, _⟩
  · cases h; rfl
  · cases o <;> cases e
theorem DRep.int {i : Int} (h : DRep K G H v (.int i)) : v = .int i := by
  rcases h with h | ⟨a, o, rfl, e, _⟩
  · cases h; rfl
  · cases o <;> cases e
theorem DRep.str {z : Str} (h : DRep K G H v (.str z)) : v = .str z := by
  rcases h with h | ⟨a, o, rfl, e, _⟩
  · cases h; rfl
  · cases o <;> cases e
theorem DRep.tup {ds : List D} (e : Same G H) (h : DRep K G H v (.tup ds)) : ∃ a vs, v = .ref a ∧ SqT K G a vs ∧ SqT K H a vs ∧ RepA K G vs ds := by
  rcases h with h | ⟨a, o, rfl, e, _⟩
  · cases h with
    | tup h1 h2 => exact ⟨_, _, rfl, h1, smTup e h1, h2⟩
  · cases o <;> cases e
theorem DRep.lst {ds : List D} (e : Same G H) (h : DRep K G H v (.lst ds)) : ∃ a vs, v = .ref a ∧ H a = some (.lst vs) ∧ RepA K G vs ds := by
  rcases h with h | ⟨a, o, rfl, e2, h⟩
  · cases h with
    | lst h1 h2 => exact ⟨_, _, rfl, e _ _ h1, h2⟩
  · cases o with
    | lst ds' =>
      cases e2
      obtain ⟨vs, h1, h2⟩ := h
      exact ⟨a, vs, rfl, h1, h2⟩
    | ins C ks ds' => cases e2
theorem DRep.scr {ds : List D} (e : Same G H) (h : DRep K G H v (.scr ds)) : ∃ a vs, v = .ref a ∧ SqL K H a vs ∧ RepA K G vs ds := by
  rcases h with h | ⟨a, o, rfl, e2, h⟩
  · cases h with
    | scr h1 h2 => exact ⟨_, _, rfl, smLst e h1, h2⟩
  · cases o <;> cases e2
theorem DRep.ins {C : Addr} {ks : List Str} {ds : List D} (e : Same G H) (h : DRep K G H v (.ins C ks ds)) : ∃ a dx fs, v = .ref a ∧ H a = some (.ins C dx fs) ∧ fs.map (·.1) = ks ∧ RepA K G (fs.map (·.2)) ds := by
  rcases h with h | ⟨a, o, rfl, e2, h⟩
  · cases h with
    | ins h1 h2 h3 => exact ⟨_, _, _, rfl, e _ _ h1, h2, h3⟩
  · cases o with
    | lst ds' => cases e2
    | ins C' ks' ds' =>
      cases e2
      obtain ⟨dx, fs, h1, h2, h3⟩ := h
      exact ⟨a, dx, fs, rfl, h1, h2, h3⟩
end
abbrev Rel (β α : Type) := Fm → Hp → Hp → L2.St → En → β → α → Prop
def Wants {α β : Type} (K : Fg) (E : XK) (rel : Rel β α) (F : Fm) (G : Hp) (σ : L2.St) (Q : β → Hp → Prop) : Res α → Prop
  | .ok a ρ' => ∀ b G' H', Rl K F G' H' σ ρ' → Same G G' → rel F G' H' σ ρ' b a → Q b H'
  | .err x ρ' => ∀ c od G' H', Rl K F G' H' σ ρ' → Same G G' → XRep K G' H' c od x → E c od H'
  | .stuck => False
def LG {α β : Type} (K : Fg) (E : XK) (rel : Rel β α) (t : L2.St → Hp → (β → Hp → Prop) → Prop) (T : En → Res α) : Prop :=
  ∀ (F : Fm) (G H : Hp) (σ : L2.St) (ρ : En) (Q : β → Hp → Prop), Rl K F G H σ ρ → Wants K E rel F G σ Q (T ρ) → t σ H Q
abbrev LE (K : Fg) (E : XK) (t : TE) (T : En → Res X) : Prop := LG K E (RepX K) t T
abbrev LA (K : Fg) (E : XK) (t : TA) (T : En → Res (List X)) : Prop := LG K E (RepXs K) t T
abbrev LT (K : Fg) (E : XK) (t : TT) (T : En → Res Bool) : Prop := LG K E (fun _ _ _ _ _ b a => b = a) t T
section
variable {α β γ δ : Type} {K : Fg} {E : XK} {F : Fm} {G G' H H' : Hp} {σ : L2.St} {ρ ρ' : En}
theorem Wants.mono {rel : Rel β α} {Q : β → Hp → Prop} {r : Res α} (e : Same G G') (h : Wants K E rel F G σ Q r) : Wants K E rel F G' σ Q r := by
  cases r with
  | ok a ρ' => exact fun b G2 H2 R s q => h b G2 H2 R (e.trans s) q
  | err x ρ' => exact fun c od G2 H2 R s q => h c od G2 H2 R (e.trans s) q
  | stuck => exact h
theorem Wants.bind {rel : Rel β α} {rel2 : Rel δ γ} {Q : δ → Hp → Prop} {Q1 : β → Hp → Prop} {r : Res α} {U : α → En → Res γ} (h : Wants K E rel2 F G σ Q (r.bind U))
    (k : ∀ b a G' H' ρ', Rl K F G' H' σ ρ' → Same G G' → rel F G' H' σ ρ' b a → Wants K E rel2 F G' σ Q (U a ρ') → Q1 b H') : Wants K E rel F G σ Q1 r := by
  cases r with
  | ok a ρ' => exact fun b G2 H2 R s q => k b a G2 H2 ρ' R s q (Wants.mono s h)
  | err x ρ' => exact h
  | stuck => exact h
theorem LG.bind {rel : Rel β α} {rel2 : Rel δ γ} {t : L2.St → Hp → (β → Hp → Prop) → Prop} {T : En → Res α} {k : β → L2.St → Hp → (δ → Hp → Prop) → Prop} {U : α → En → Res γ} (h : LG K E rel t T)
    (h2 : ∀ F G H σ ρ b a Q, Rl K F G H σ ρ → rel F G H σ ρ b a → Wants K E rel2 F G σ Q (U a ρ) → k b σ H Q) : LG K E rel2 (fun σ H Q => t σ H fun b H1 => k b σ H1 Q) (fun ρ => (T ρ).bind U) := by
  intro F G H σ ρ Q R w
  exact h F G H σ ρ _ R (w.bind fun b a G' H' ρ' R' s q w' => h2 F G' H' σ ρ' b a Q R' q w')
/-- what ends here -/
theorem Wants.lift {rel : Rel β α} {Q : β → Hp → Prop} {o : Option α} (h : Wants K E rel F G σ Q (lift o ρ)) : ∃ a, o = some a ∧ ∀ b G' H', Rl K F G' H' σ ρ → Same G G' → rel F G' H' σ ρ b a → Q b H' := by
  cases o with
  | none => exact h.elim
  | some a => exact ⟨a, rfl, h⟩
end
def dVar (i : Nat) : En → Res X := fun ρ => match ρ[i]? with
  | some (.val d) => .ok (.val d) ρ
  | some (.own _) | some (.bor _) | some (.lck _) => .ok (.own i) ρ
  | _ => .stuck
def dC (d : D) : En → Res X := fun ρ => .ok (.val d) ρ
section
variable {K : Fg} {E : XK}
theorem L_var {i : Nat} : LE K E (tVar i) (dVar i) := by
  intro F G H σ ρ Q R w
  unfold dVar at w
  cases e : ρ[i]? with
  | none => rw [e] at w; exact w.elim
  | some s =>
    rw [e] at w
    cases s with
    | none => exact w.elim
    | val d =>
      obtain ⟨v, h1, h2⟩ := R.val e
      exact ⟨v, h1, w v G H R (Same.refl G) h2⟩
    | own o =>
      obtain ⟨a, h1, _⟩ := R.own e
      exact ⟨_, h1, w _ G H R (Same.refl G) h1⟩
    | bor o =>
      obtain ⟨a, h1, _⟩ := R.bor e
      exact ⟨_, h1, w _ G H R (Same.refl G) h1⟩
    | lck o =>
      obtain ⟨x, h1, a, u, rfl, _⟩ := R.sl i _ e
      exact ⟨_, h1, w _ G H R (Same.refl G) h1⟩
theorem L_c {v : V} {d : D} (h : ∀ G, Rep K G v d) : LE K E (tC v) (dC d) := fun F G H σ ρ Q R w => w v G H R (Same.refl G) (h G)
theorem L_int {i : Int} : LE K E (tC (.int i)) (dC (.int i)) := L_c fun _ => .int i
theorem L_bl {b : Bool} : LE K E (tC (.bl b)) (dC (.bl b)) := L_c fun _ => .bl b
theorem L_str {z : Str} : LE K E (tC (.str z)) (dC (.str z)) := L_c fun _ => .str z
theorem L_non : LE K E (tC .non) (dC .non) := L_c fun _ => .non
end
abbrev D2 := D → D → Option X
def OpS (K : Fg) (r : R2) (op : D2) : Prop := ∀ (F : Fm) (G H : Hp) (σ : L2.St) (ρ : En) (x y : V) (d e : D) (z : X) (Q : VK), Rl K F G H σ ρ → DRep K G H x d → DRep K G H y e → op d e = some z →
  (∀ v G' H', Rl K F G' H' σ ρ → Same G G' → RepX K F G' H' σ ρ v z → Q v H') → r x y H Q
@[simp] def ap2 (op : D2) (a b : X) (ρ : En) : Res X := match deref ρ a, deref ρ b with
  | some d, some e => lift (op d e) ρ
  | _, _ => .stuck
def dBin (op : D2) (A B : En → Res X) : En → Res X := fun ρ => (A ρ).bind fun a ρ1 => (B ρ1).bind fun b ρ2 => ap2 op a.settle b ρ2
section
variable {K : Fg} {E : XK} {r r' : R2} {op op' : D2} {ta tb tc : TE} {A B C : En → Res X}
theorem ap2_run {F : Fm} {G H : Hp} {σ : L2.St} {ρ : En} {Q : VK} {x y : V} {a b : X} (hr : OpS K r op) (R : Rl K F G H σ ρ) (hx : RepX K F G H σ ρ x a) (hy : RepX K F G H σ ρ y b) (w : Wants K E (RepX K) F G σ Q (ap2 op a b ρ)) : r x y H Q := by
  unfold ap2 at w
  cases e1 : deref ρ a with
  | none => rw [e1] at w; exact w.elim
  | some d =>
    cases e2 : deref ρ b with
    | none => rw [e1, e2] at w; exact w.elim
    | some e =>
      rw [e1, e2] at w
      obtain ⟨z, ez, q⟩ := w.lift
      exact hr F G H σ ρ x y d e z Q R (R.deref hx e1) (R.deref hy e2) ez q
theorem L_bin (hr : OpS K r op) (ha : LE K E ta A) (hb : LE K E tb B) : LE K E (tOp r ta tb) (dBin op A B) := by
  refine LG.bind (k := fun x σ H Q => tb σ H fun y H2 => r x y H2 Q) ha fun F G H σ ρ x a Q R hx w => ?_
  obtain ⟨G1, R1, s1, hx1⟩ := R.settle hx
  refine hb F G1 H σ ρ _ R1 ((w.mono s1).bind fun y b G2 H2 ρ2 R2 s2 hy w2 => ?_)
  exact ap2_run hr R2 (hx1.keep settle_no s2) hy w2
@[simp] def opI (g : Int → Int → D) : D2
  | .int i, .int j => some (.val (g i j))
  | _, _ => none
open Classical in
@[simp] noncomputable def opIC (C : Int → Int → Prop) (g : Int → Int → D) : D2
  | .int i, .int j => if C i j then some (.val (g i j)) else none
  | _, _ => none
theorem S_I0 {g : Int → Int → V} {g' : Int → Int → D} (hg : ∀ i j G, Rep K G (g i j) (g' i j)) : OpS K (rI0 g) (opI g') := by
  intro F G H σ ρ x y d e z Q R hx hy ez q
  cases d <;> cases e <;> first | cases ez | skip
  exact ⟨_, _, hx.int, hy.int, q _ G H R (Same.refl G) (hg _ _ G)⟩
theorem S_IC {C : Int → Int → Prop} {g : Int → Int → V} {g' : Int → Int → D} (hg : ∀ i j G, Rep K G (g i j) (g' i j)) : OpS K (rI C g) (opIC C g') := by
  intro F G H σ ρ x y d e z Q R hx hy ez q
  cases d <;> cases e <;> first | cases ez | skip
  simp only [opIC] at ez
  split at ez
  · rename_i hc
    cases ez
    exact ⟨_, _, hx.int, hy.int, hc, q _ G H R (Same.refl G) (hg _ _ G)⟩
  · cases ez
end
end DL
set_option Elab.async false
set_option linter.all false
set_option maxRecDepth 100000
set_option maxHeartbeats 2000000
namespace DL
open PySem PySem.Spec PyProof.Rows L2 DD
mutual
def D.py : D → Option PyData
  | .non => some .none
  | .bl b => some (.bool b)
  | .int i => some (.int i)
  | .str x => some (.str x)
  | .tup ds => (D.pyA ds).map PyData.tuple
  | .lst ds => (D.pyA ds).map PyData.list
  | .scr ds => (D.pyA ds).map PyData.list
  | .ins .. | .cls _ => none
def D.pyA : List D → Option (List PyData)
  | [] => some []
  | d :: ds => match D.py d, D.pyA ds with
    | some p, some ps => some (p :: ps)
    | _, _ => none
end
theorem pyA_cons {d : D} {ds : List D} {ps : List PyData} (h : D.pyA (d :: ds) = some ps) : ∃ p r, ps = p :: r ∧ d.py = some p ∧ D.pyA ds = some r := by
  simp only [D.pyA] at h
  cases e1 : d.py with
  | none => rw [e1] at h; cases h
  | some p =>
    cases e2 : D.pyA ds with
    | none => rw [e1, e2] at h; cases h
    | some r => rw [e1, e2] at h; cases h; exact ⟨p, r, rfl, rfl, rfl⟩
section
variable {K : Fg} {H : Hp}
mutual
theorem Rep.dp : ∀ {v : V} {d : D} {p : PyData}, Rep K H v d → d.py = some p → Dp K H v p
  | _, _, _, .non, e => by cases e; exact .non
  | _, _, _, .bl b, e => by cases e; exact .bl b
  | _, _, _, .int i, e => by cases e; exact .int i
  | _, _, _, .str x, e => by cases e; exact .str x
  | _, .tup ds, _, .tup h r, e => by
    simp only [D.py] at e
    cases e2 : D.pyA ds with
    | none => rw [e2] at e; cases e
    | some ps => rw [e2] at e; cases e; exact .tup h (RepA.dp r e2)
  | _, .lst ds, _, .lst h r, e => by
    simp only [D.py] at e
    cases e2 : D.pyA ds with
    | none => rw [e2] at e; cases e
    | some ps => rw [e2] at e; cases e; exact .lst (.inl (.inl h)) (RepA.dp r e2)
  | _, .scr ds, _, .scr h r, e => by
    simp only [D.py] at e
    cases e2 : D.pyA ds with
    | none => rw [e2] at e; cases e
    | some ps => rw [e2] at e; cases e; exact .lst h (RepA.dp r e2)
  | _, _, _, .ins _ _ _, e => by cases e
  | _, _, _, .cls _, e => by cases e
theorem RepA.dp : ∀ {vs : List V} {ds : List D} {ps : List PyData}, RepA K H vs ds → D.pyA ds = some ps → DpAll K H vs ps
  | _, _, _, .nil, e => by cases e; exact .nil
  | _, d :: ds, _, .cons h r, e => by
    obtain ⟨p, r', rfl, e1, e2⟩ := pyA_cons e
    exact .cons (Rep.dp h e1) (RepA.dp r e2)
end
end
section
variable {K : Fg}
theorem S_add : OpS K (rI0 fun i j => .int (i + j)) (opI fun i j => .int (i + j)) := S_I0 fun _ _ _ => .int _
theorem S_sub : OpS K (rI0 fun i j => .int (i - j)) (opI fun i j => .int (i - j)) := S_I0 fun _ _ _ => .int _
theorem S_mul : OpS K (rI CMul fun i j => .int (i * j)) (opIC CMul fun i j => .int (i * j)) := S_IC fun _ _ _ => .int _
theorem S_fdiv : OpS K (rI CDiv fun i j => .int (i / j)) (opIC CDiv fun i j => .int (i / j)) := S_IC fun _ _ _ => .int _
theorem S_mod : OpS K (rI (fun _ j => 0 < j) fun i j => .int (i % j)) (opIC (fun _ j => 0 < j) fun i j => .int (i % j)) := S_IC fun _ _ _ => .int _
theorem S_pow : OpS K (rI CPow fun i j => .int (i ^ j.toNat)) (opIC CPow fun i j => .int (i ^ j.toNat)) := S_IC fun _ _ _ => .int _
theorem S_lt : OpS K (rI0 fun i j => .bl (decide (i < j))) (opI fun i j => .bl (decide (i < j))) := S_I0 fun _ _ _ => .bl _
theorem S_le : OpS K (rI0 fun i j => .bl (decide (i ≤ j))) (opI fun i j => .bl (decide (i ≤ j))) := S_I0 fun _ _ _ => .bl _
theorem S_gt : OpS K (rI0 fun i j => .bl (decide (j < i))) (opI fun i j => .bl (decide (j < i))) := S_I0 fun _ _ _ => .bl _
theorem S_ge : OpS K (rI0 fun i j => .bl (decide (j ≤ i))) (opI fun i j => .bl (decide (j ≤ i))) := S_I0 fun _ _ _ => .bl _
def rAddS : R2 := fun x y H Q => ∃ i j, x = .str i ∧ y = .str j ∧ i.length + j.length ≤ sizeLine ∧ Q (.str (i ++ j)) H
def opAddS : D2
  | .str i, .str j => if i.length + j.length ≤ sizeLine then some (.val (.str (i ++ j))) else none
  | _, _ => none
theorem S_addS : OpS K rAddS opAddS := by
  intro F G H σ ρ x y d e z Q R hx hy ez q
  cases d <;> cases e <;> first | cases ez | skip
  simp only [opAddS] at ez
  split at ez
  · rename_i hc
    cases ez
    exact ⟨_, _, hx.str, hy.str, hc, q _ G H R (Same.refl G) (.str _)⟩
  · cases ez
def opAddT : D2
  | .tup ds, .tup es => if ds.length + es.length ≤ sizeLine then some (.val (.tup (ds ++ es))) else none
  | _, _ => none
theorem S_addT : OpS K (rCatA K) opAddT := by
  intro F G H σ ρ x y d e z Q R hx hy ez q
  cases d <;> cases e <;> first | cases ez | skip
  rename_i ds es
  simp only [opAddT] at ez
  split at ez
  · rename_i hc
    cases ez
    obtain ⟨a, xs, rfl, g1, h1, r1⟩ := hx.tup R.gh
    obtain ⟨b, ys, rfl, g2, h2, r2⟩ := hy.tup R.gh
    refine ⟨a, b, xs, ys, rfl, rfl, h1, h2, by rw [r1.len, r2.len]; exact hc, fun e => ?_, fun _ e => ?_, fun _ _ p np => ?_⟩
    · subst e
      cases r1
      exact q _ G H R (Same.refl G) (.tup g2 r2)
    · subst e
      cases r2
      rw [List.append_nil] at q
      exact q _ G H R (Same.refl G) (.tup g1 r1)
    · have gp := R.freshG np
      exact q _ _ _ (R.add np) (smNew gp) (.tup (.inl (.inl upd_same)) ((r1.app r2).mono (smNew gp)))
  · cases ez
/-- a new list -/
theorem newL {F : Fm} {G H : Hp} {σ : L2.St} {ρ : En} {p : Addr} {vs : List V} {ds : List D} (R : Rl K F G H σ ρ) (np : H p = none) (r : RepA K G vs ds) : Rl K F G (upd H p (.lst vs)) σ ρ ∧ RepX K F G (upd H p (.lst vs)) σ ρ (.ref p) (.new (.lst ds)) := by
  refine ⟨R.laid np, p, rfl, R.fresh np, R.freshG np, ⟨vs, upd_same, r⟩, fun j u hj z => ?_⟩
  obtain ⟨b, h1, _, _, h4⟩ := R.own hj
  rw [h1] at z
  cases z
  obtain ⟨u, e⟩ := h4.ex
  rw [np] at e
  cases e
theorem newT {F : Fm} {G H : Hp} {σ : L2.St} {ρ : En} {p : Addr} {vs : List V} {ds : List D} (R : Rl K F G H σ ρ) (np : H p = none) (r : RepA K G vs ds) : Rl K F (upd G p (.tup vs)) (upd H p (.tup vs)) σ ρ ∧ Same G (upd G p (.tup vs)) ∧ Rep K (upd G p (.tup vs)) (.ref p) (.tup ds) :=
  ⟨R.add np, smNew (R.freshG np), .tup (.inl (.inl upd_same)) (r.mono (smNew (R.freshG np)))⟩
def opAddL : D2
  | .lst ds, .lst es => if ds.length + es.length ≤ sizeLine then some (.new (.lst (ds ++ es))) else none
  | _, _ => none
theorem S_addL : OpS K rCat opAddL := by
  intro F G H σ ρ x y d e z Q R hx hy ez q
  cases d <;> cases e <;> first | cases ez | skip
  rename_i ds es
  simp only [opAddL] at ez
  split at ez
  · rename_i hc
    cases ez
    obtain ⟨a, xs, rfl, h1, r1⟩ := hx.lst R.gh
    obtain ⟨b, ys, rfl, h2, r2⟩ := hy.lst R.gh
    refine ⟨a, b, xs, ys, rfl, rfl, h1, h2, by rw [r1.len, r2.len]; exact hc, fun p np => ?_⟩
    obtain ⟨R', x'⟩ := newL R np (r1.app r2)
    exact q _ _ _ R' (Same.refl G) x'
  · cases ez
def rAdd4 (K : Fg) : R2 := fun x y H Q => rI0 (fun i j => .int (i + j)) x y H Q ∨ rAddS x y H Q ∨ rCatA K x y H Q ∨ rCat x y H Q
@[simp] def opAdd : D2
  | .int i, .int j => some (.val (.int (i + j)))
  | .str i, .str j => if i.length + j.length ≤ sizeLine then some (.val (.str (i ++ j))) else none
  | .tup ds, .tup es => if ds.length + es.length ≤ sizeLine then some (.val (.tup (ds ++ es))) else none
  | .lst ds, .lst es => if ds.length + es.length ≤ sizeLine then some (.new (.lst (ds ++ es))) else none
  | _, _ => none
theorem S_add4 : OpS K (rAdd4 K) opAdd := by
  intro F G H σ ρ x y d e z Q R hx hy ez q
  cases d <;> cases e <;> first | cases ez | skip
  · exact .inl (S_add F G H σ ρ x y _ _ _ Q R hx hy rfl q)
  · exact .inr (.inl (S_addS F G H σ ρ x y _ _ _ Q R hx hy ez q))
  · exact .inr (.inr (.inl (S_addT F G H σ ρ x y _ _ _ Q R hx hy ez q)))
  · exact .inr (.inr (.inr (S_addL F G H σ ρ x y _ _ _ Q R hx hy ez q)))
end
theorem OpRor {X : Cx} {f : Value → Value → Sem Value} {r r' : R2} (h : OpR X f r) (h' : OpR X f r') : OpR X f (fun x y H Q => r x y H Q ∨ r' x y H Q) := by
  intro pins s σ H x y v u Q I rx ry q
  rcases q with q | q
  · exact h pins s σ H x y v u Q I rx ry q
  · exact h' pins s σ H x y v u Q I rx ry q
theorem op_add4 {X : Cx} {K : Fg} (h : X.K = K := by rfl) : OpR X (binaryOp .Add) (rAdd4 K) := h ▸ OpRor op_add (OpRor op_add_str (OpRor op_catA op_cat))
section
variable {K : Fg}
/-- == -/
def eqB : D → D → Option Bool
  | .str x, .str y => some (decide (x = y))
  | .int x, .int y => some (decide (x = y))
  | .bl x, .bl y => some (decide (x = y))
  | .non, .non => some true
  | d, e => match d.py, e.py with
    | some p, some q => if SeqAt.shaped p = true ∧ SeqAt.shaped q = true then some (PyData.eqv p q) else none
    | _, _ => match d, e with
      | .lst ds, .lst es => if ds.length = es.length then none else some false
      | _, _ => none
@[simp] def opEq : D2 := fun d e => (eqB d e).map fun b => .val (.bl b)
@[simp] def opNe : D2 := fun d e => (eqB d e).map fun b => .val (.bl !b)
def rEqL (K : Fg) : R2 := fun x y H Q => ∃ a b xs ys, x = .ref a ∧ y = .ref b ∧ SqL K H a xs ∧ SqL K H b ys ∧ xs.length ≠ ys.length ∧ Q (.bl false) H
def rNeL (K : Fg) : R2 := fun x y H Q => ∃ a b xs ys, x = .ref a ∧ y = .ref b ∧ SqL K H a xs ∧ SqL K H b ys ∧ xs.length ≠ ys.length ∧ Q (.bl true) H
theorem isL_of {h : Heap} {a : Addr} {vs : Array Value} (p : PlainL h a vs) : h.IsList a vs := by
  obtain ⟨o, n, h1, h2, h3, h4⟩ := p
  exact ⟨o, h1, h2, n, h4⟩
theorem op_eqL {X : Cx} (hu : X.A.units + 64 < cLine) : OpR X (compareOp .Eq) (rEqL X.K) := by
  intro pins s σ H x y v u Q I rx ry h
  obtain ⟨a, b, xs, ys, rfl, rfl, ha, hb, hn, q⟩ := h
  cases (show v = Value.ref a from rx)
  cases (show u = Value.ref b from ry)
  obtain ⟨is, ra, pa, _⟩ := I.list ha
  obtain ⟨js, rb, pb, _⟩ := I.list hb
  have l1 := ra.length
  have l2 := rb.length
  exact SeqAt.eq_list_lengthsAt (isL_of pa) (isL_of pb) (by simp; omega) (by omega) ⟨.bl false, H, I, rfl, q⟩
theorem op_neL {X : Cx} (hu : X.A.units + 64 < cLine) : OpR X (compareOp .NotEq) (rNeL X.K) := by
  intro pins s σ H x y v u Q I rx ry h
  obtain ⟨a, b, xs, ys, rfl, rfl, ha, hb, hn, q⟩ := h
  cases (show v = Value.ref a from rx)
  cases (show u = Value.ref b from ry)
  obtain ⟨is, ra, pa, _⟩ := I.list ha
  obtain ⟨js, rb, pb, _⟩ := I.list hb
  have l1 := ra.length
  have l2 := rb.length
  exact SeqAt.RcNeAt.lists_lengths (isL_of pa) (isL_of pb) (by simp; omega) (by omega) _ _ _ _ ⟨.bl true, H, I, rfl, q⟩
def rEq2 (K : Fg) : R2 := fun x y H Q => rEq x y H Q ∨ rEqD K x y H Q ∨ rEqL K x y H Q
def rNe2 (K : Fg) : R2 := fun x y H Q => rNe x y H Q ∨ rNeD K x y H Q ∨ rNeL K x y H Q
theorem S_eqB {F : Fm} {G H : Hp} {σ : L2.St} {ρ : En} {x y : V} {d e : D} {b : Bool} (R : Rl K F G H σ ρ) (hx : DRep K G H x d) (hy : DRep K G H y e) (ez : eqB d e = some b) :
    (scal x y = true ∧ decide (x = y) = b) ∨ (∃ p q, Dp K H x p ∧ Dp K H y q ∧ SeqAt.shaped p = true ∧ SeqAt.shaped q = true ∧ PyData.eqv p q = b) ∨ ∃ a b' xs ys, x = .ref a ∧ y = .ref b' ∧ SqL K H a xs ∧ SqL K H b' ys ∧ xs.length ≠ ys.length ∧ b = false := by
  unfold eqB at ez
  split at ez
  · cases ez
    obtain rfl := hx.str
    obtain rfl := hy.str
    exact .inl ⟨rfl, by simp⟩
  · cases ez
    obtain rfl := hx.int
    obtain rfl := hy.int
    exact .inl ⟨rfl, by simp⟩
  · cases ez
    obtain rfl := hx.bl
    obtain rfl := hy.bl
    exact .inl ⟨rfl, by simp⟩
  · cases ez
    obtain rfl := hx.non
    obtain rfl := hy.non
    exact .inl ⟨rfl, rfl⟩
  · split at ez
    · rename_i p q' e1 e2
      split at ez
      · rename_i hc
        cases ez
        exact .inr (.inl ⟨p, q', (hx.rep R.gh).dp e1, (hy.rep R.gh).dp e2, hc.1, hc.2, rfl⟩)
      · cases ez
    · split at ez
      · split at ez
        · cases ez
        · rename_i hl
          cases ez
          obtain ⟨a, xs, rfl, ha, ra⟩ := hx.lst R.gh
          obtain ⟨b', ys, rfl, hb, rb⟩ := hy.lst R.gh
          exact .inr (.inr ⟨a, b', xs, ys, rfl, rfl, .inl (.inl ha), .inl (.inl hb), by rw [ra.len, rb.len]; exact hl, rfl⟩)
      · cases ez
theorem S_eq : OpS K (rEq2 K) opEq := by
  intro F G H σ ρ x y d e z Q R hx hy ez q
  simp only [opEq, Option.map_eq_some_iff] at ez
  obtain ⟨b, eb, rfl⟩ := ez
  rcases S_eqB R hx hy eb with ⟨h1, rfl⟩ | ⟨p, q', h1, h2, h3, h4, rfl⟩ | ⟨a, b', xs, ys, h1, h2, h3, h4, h5, rfl⟩
  · exact .inl ⟨h1, q _ G H R (Same.refl G) (.bl _)⟩
  · exact .inr (.inl ⟨p, q', h1, h2, h3, h4, q _ G H R (Same.refl G) (.bl _)⟩)
  · exact .inr (.inr ⟨a, b', xs, ys, h1, h2, h3, h4, h5, q _ G H R (Same.refl G) (.bl _)⟩)
theorem S_ne : OpS K (rNe2 K) opNe := by
  intro F G H σ ρ x y d e z Q R hx hy ez q
  simp only [opNe, Option.map_eq_some_iff] at ez
  obtain ⟨b, eb, rfl⟩ := ez
  rcases S_eqB R hx hy eb with ⟨h1, rfl⟩ | ⟨p, q', h1, h2, h3, h4, rfl⟩ | ⟨a, b', xs, ys, h1, h2, h3, h4, h5, rfl⟩
  · exact .inl ⟨h1, q _ G H R (Same.refl G) (.bl _)⟩
  · exact .inr (.inl ⟨p, q', h1, h2, h3, h4, q _ G H R (Same.refl G) (.bl _)⟩)
  · exact .inr (.inr ⟨a, b', xs, ys, h1, h2, h3, h4, h5, q _ G H R (Same.refl G) (.bl _)⟩)
def opLtD : D2 := fun d e => match d.py, e.py with
  | some p, some q => if PySem.W.alike p q = true ∧ p.depth ≤ 60 then some (.val (.bl (PySem.W.dataLt p q))) else none
  | _, _ => none
def rLt2 (K : Fg) : R2 := fun x y H Q => rI0 (fun i j => .bl (decide (i < j))) x y H Q ∨ rLtD K x y H Q
@[simp] def opLt : D2
  | .int i, .int j => some (.val (.bl (decide (i < j))))
  | .tup ds, .tup es => opLtD (.tup ds) (.tup es)
  | .str x, .str y => opLtD (.str x) (.str y)
  | _, _ => none
theorem S_ltD {ds es : D} (hn : ds.py ≠ some .none) {F : Fm} {G H : Hp} {σ : L2.St} {ρ : En} {x y : V} {z : X} {Q : VK} (R : Rl K F G H σ ρ) (hx : DRep K G H x ds) (hy : DRep K G H y es) (ez : opLtD ds es = some z)
    (q : ∀ v G' H', Rl K F G' H' σ ρ → Same G G' → RepX K F G' H' σ ρ v z → Q v H') : rLtD K x y H Q := by
  simp only [opLtD] at ez
  split at ez
  · rename_i p q' e1 e2
    split at ez
    · rename_i hc
      cases ez
      exact ⟨p, q', (hx.rep R.gh).dp e1, (hy.rep R.gh).dp e2, hc.1, fun z => hn (by rw [e1, z]), by omega, q _ G H R (Same.refl G) (.bl _)⟩
    · cases ez
  · cases ez
theorem S_lt2 : OpS K (rLt2 K) opLt := by
  intro F G H σ ρ x y d e z Q R hx hy ez q
  cases d <;> cases e <;> first | (cases ez; done) | skip
  · exact .inl (S_lt F G H σ ρ x y _ _ _ Q R hx hy ez q)
  · exact .inr (S_ltD (fun z => by cases z) R hx hy ez q)
  · refine .inr (S_ltD (fun z => ?_) R hx hy ez q)
    simp only [D.py] at z
    rename_i ds _
    cases e2 : D.pyA ds with
    | none => rw [e2] at z; cases z
    | some ps => rw [e2] at z; cases z
end
theorem op_eq2 {X : Cx} {K : Fg} (hu : X.A.units + 64 < cLine) (h : X.K = K := by rfl) : OpR X (compareOp .Eq) (rEq2 K) := h ▸ OpRor op_eq (OpRor (op_eqD hu) (op_eqL hu))
theorem op_ne2 {X : Cx} {K : Fg} (hu : X.A.units + 64 < cLine) (h : X.K = K := by rfl) : OpR X (compareOp .NotEq) (rNe2 K) := h ▸ OpRor op_ne (OpRor (op_neD hu) (op_neL hu))
theorem op_lt2 {X : Cx} {K : Fg} (hu : X.A.units + 64 < cLine) (h : X.K = K := by rfl) : OpR X (compareOp .Lt) (rLt2 K) := h ▸ OpRor op_lt (op_ltD hu)
@[simp] def D.flat : D → Bool
  | .non | .bl _ | .int _ | .str _ => true
  | _ => false
@[simp] def D.items : D → Option (List D)
  | .tup ds | .lst ds | .scr ds => some ds
  | _ => none
def pyEq (d e : D) : Bool := match d.py, e.py with
  | some p, some q => PyData.eqv p q
  | _, _ => false
def inD (d : D) (es : List D) : Bool := es.any fun e => pyEq e d
def opInB (d e : D) : Option Bool := match e.items with
  | some es => if d.flat = true ∧ es.all D.flat = true then some (inD d es) else
    match e, d.py, D.pyA es with
    | .lst _, some p, some ps => if SeqAt.shaped p = true ∧ SeqAt.shaped (.list ps) = true then some (ps.any fun z => PyData.eqv z p) else none
    | .tup _, some p, some ps => if SeqAt.shaped p = true ∧ SeqAt.shaped (.tuple ps) = true then some (ps.any fun z => PyData.eqv z p) else none
    | _, _, _ => none
  | none => none
@[simp] def opIn : D2 := fun d e => (opInB d e).map fun b => .val (.bl b)
@[simp] def opNotIn : D2 := fun d e => (opInB d e).map fun b => .val (.bl !b)
section
variable {K : Fg}
@[simp] def opIsB : D2
  | .bl a, .bl b => some (.val (.bl (decide (a = b))))
  | _, _ => none
@[simp] def opNotB : D2
  | .bl a, .bl b => some (.val (.bl (!decide (a = b))))
  | _, _ => none
end
@[simp] def D.isNon : D → Bool
  | .non => true
  | _ => false
def dIsN (A : En → Res X) : En → Res X := fun ρ => (A ρ).bind fun a ρ1 => match deref ρ1 a with
  | some d => .ok (.val (.bl d.isNon)) ρ1
  | none => .stuck
def dNotN (A : En → Res X) : En → Res X := fun ρ => (A ρ).bind fun a ρ1 => match deref ρ1 a with
  | some d => .ok (.val (.bl !d.isNon)) ρ1
  | none => .stuck
section
variable {K : Fg} {E : XK} {ta tb tc : TE} {A B C : En → Res X}
@[simp] def asB (ρ : En) (a : X) : Option Bool := match deref ρ a with
  | some (.bl b) => some b
  | _ => none
theorem Rl.asB {F : Fm} {G H : Hp} {σ : L2.St} {ρ : En} {v : V} {a : X} {b : Bool} (R : Rl K F G H σ ρ) (hx : RepX K F G H σ ρ v a) (e : asB ρ a = some b) : v = .bl b := by
  unfold DL.asB at e
  cases e2 : DL.deref ρ a with
  | none => rw [e2] at e; cases e
  | some d =>
    rw [e2] at e
    cases d <;> cases e
    exact (R.deref hx e2).bl
def dTest (A : En → Res X) : En → Res Bool := fun ρ => (A ρ).bind fun a ρ1 => lift (asB ρ1 a) ρ1
theorem L_test (ha : LE K E ta A) : LT K E (fun σ H Q => ta σ H fun x H' => ∃ k, x = .bl k ∧ Q k H') (dTest A) := by
  refine LG.bind (k := fun x σ H Q => ∃ k, x = .bl k ∧ Q k H) ha fun F G H σ ρ x a Q R hx w => ?_
  obtain ⟨b, e, q⟩ := w.lift
  exact ⟨b, R.asB hx e, q _ G H R (Same.refl G) rfl⟩
def dNot (A : En → Res X) : En → Res X := fun ρ => (A ρ).bind fun a ρ1 => lift ((asB ρ1 a).map fun b => X.val (.bl !b)) ρ1
theorem L_not (ha : LE K E ta A) : LE K E (tNotV ta) (dNot A) := by
  refine LG.bind (k := fun (x : V) σ H (Q : VK) => ∃ c, x = .bl c ∧ Q (.bl (!c)) H) ha fun F G H σ ρ x a Q R hx w => ?_
  obtain ⟨b, e, q⟩ := w.lift
  rw [Option.map_eq_some_iff] at e
  obtain ⟨c, e, rfl⟩ := e
  exact ⟨c, R.asB hx e, q _ G H R (Same.refl G) (.bl _)⟩
def dAnd (A B : En → Res X) : En → Res X := fun ρ => (A ρ).bind fun a ρ1 => match asB ρ1 a with
  | some true => B ρ1
  | some false => .ok (.val (.bl false)) ρ1
  | none => .stuck
def dOr (A B : En → Res X) : En → Res X := fun ρ => (A ρ).bind fun a ρ1 => match asB ρ1 a with
  | some false => B ρ1
  | some true => .ok (.val (.bl true)) ρ1
  | none => .stuck
theorem L_and (ha : LE K E ta A) (hb : LE K E tb B) : LE K E (tAndV ta tb) (dAnd A B) := by
  refine LG.bind (k := fun x σ H Q => ∃ c, x = .bl c ∧ if c = true then tb σ H Q else Q (.bl false) H) ha fun F G H σ ρ x a Q R hx w => ?_
  cases e : asB ρ a with
  | none => rw [e] at w; exact w.elim
  | some c =>
    rw [e] at w
    refine ⟨c, R.asB hx e, ?_⟩
    cases c with
    | true => exact iteT (hb F G H σ ρ Q R w)
    | false => exact iteF (w _ G H R (Same.refl G) (.bl _))
variable {t u : TT} {T U : En → Res Bool}
def tnd (T U : En → Res Bool) : En → Res Bool := fun ρ => (T ρ).bind fun a ρ1 => match a with
  | true => U ρ1
  | false => .ok false ρ1
def tor (T U : En → Res Bool) : En → Res Bool := fun ρ => (T ρ).bind fun a ρ1 => match a with
  | true => .ok true ρ1
  | false => U ρ1
def tnot (T : En → Res Bool) : En → Res Bool := fun ρ => (T ρ).bind fun a ρ1 => .ok (!a) ρ1
theorem L_tand (ha : LT K E t T) (hb : LT K E u U) : LT K E (tAnd t u) (tnd T U) := by
  refine LG.bind (k := fun c σ H Q => if c = true then u σ H Q else Q false H) ha fun F G H σ ρ x a Q R hx w => ?_
  subst hx
  cases x with
  | true => exact iteT (hb F G H σ ρ Q R w)
  | false => exact iteF (w _ G H R (Same.refl G) rfl)
theorem L_tor (ha : LT K E t T) (hb : LT K E u U) : LT K E (tOr t u) (tor T U) := by
  refine LG.bind (k := fun c σ H Q => if c = true then Q true H else u σ H Q) ha fun F G H σ ρ x a Q R hx w => ?_
  subst hx
  cases x with
  | true => exact iteT (w _ G H R (Same.refl G) rfl)
  | false => exact iteF (hb F G H σ ρ Q R w)
theorem L_tnot (ha : LT K E t T) : LT K E (tNot t) (tnot T) := by
  refine LG.bind (k := fun c σ H Q => Q (!c) H) ha fun F G H σ ρ x a Q R hx w => ?_
  subst hx
  exact w _ G H R (Same.refl G) rfl
def dIfE (T : En → Res Bool) (A B : En → Res X) : En → Res X := fun ρ => (T ρ).bind fun a ρ1 => match a with
  | true => A ρ1
  | false => B ρ1
theorem L_ifE (ht : LT K E t T) (ha : LE K E ta A) (hb : LE K E tb B) : LE K E (tIf t ta tb) (dIfE T A B) := by
  refine LG.bind (k := fun c σ H Q => if c = true then ta σ H Q else tb σ H Q) ht fun F G H σ ρ x a Q R hx w => ?_
  subst hx
  cases x with
  | true => exact iteT (ha F G H σ ρ Q R w)
  | false => exact iteF (hb F G H σ ρ Q R w)
/-- a op b op' c -/
def dChain (op op' : D2) (A B C : En → Res X) : En → Res X := fun ρ => (A ρ).bind fun a ρ1 => (B ρ1).bind fun b ρ2 => (ap2 op a.settle b.settle ρ2).bind fun z ρ3 => match asB ρ3 z with
  | some true => (C ρ3).bind fun c ρ4 => ap2 op' b.settle c ρ4
  | some false => .ok (.val (.bl false)) ρ3
  | none => .stuck
end
end DL
set_option Elab.async false
set_option linter.all false
set_option maxRecDepth 100000
set_option maxHeartbeats 2000000
namespace DL
open PySem PySem.Spec PyProof.Rows L2 DD
section
variable {K : Fg} {E : XK} {ta tb tc : TE} {A B C : En → Res X} {t : TA} {T : En → Res (List X)}
def aNil : En → Res (List X) := fun ρ => .ok [] ρ
def aCons (A : En → Res X) (T : En → Res (List X)) : En → Res (List X) := fun ρ => (A ρ).bind fun a ρ1 => (T ρ1).bind fun as ρ2 => .ok (a.settle :: as) ρ2
theorem A_nil : LA K E tNil aNil := fun F G H σ ρ Q R w => w [] G H R (Same.refl G) .nil
theorem RepXs.keep {F : Fm} {G G' H H' : Hp} {σ : L2.St} {ρ ρ' : En} : ∀ {vs : List V} {xs : List X}, RepXs K F G H σ ρ vs xs → Same G G' → RepXs K F G' H' σ ρ' vs xs
  | _, _, .nil, _ => .nil
  | _, _, .cons h n r, e => .cons (h.keep n e) n (r.keep e)
theorem A_cons (ha : LE K E ta A) (ht : LA K E t T) : LA K E (tCons ta t) (aCons A T) := by
  refine LG.bind (k := fun x σ H (Q : List V → Hp → Prop) => t σ H fun xs H2 => Q (x :: xs) H2) ha fun F G H σ ρ x a Q R hx w => ?_
  obtain ⟨G1, R1, s1, hx1⟩ := R.settle hx
  refine ht F G1 H σ ρ _ R1 ((w.mono s1).bind fun ys b G2 H2 ρ2 R2 s2 hy w2 => ?_)
  exact w2 _ G2 H2 R2 (Same.refl G2) (.cons (hx1.keep settle_no s2) settle_no hy)
@[simp] def derefs (ρ : En) : List X → Option (List D)
  | [] => some []
  | x :: xs => match deref ρ x, derefs ρ xs with
    | some d, some ds => some (d :: ds)
    | _, _ => none
theorem Rl.derefs {F : Fm} {G H : Hp} {σ : L2.St} {ρ : En} (R : Rl K F G H σ ρ) : ∀ {vs : List V} {xs : List X} {ds : List D}, RepXs K F G H σ ρ vs xs → derefs ρ xs = some ds → DRepA K G H vs ds
  | _, _, _, .nil, e => by cases e; exact .nil
  | _, x :: xs, _, .cons h n r, e => by
    simp only [DL.derefs] at e
    cases e1 : DL.deref ρ x with
    | none => rw [e1] at e; cases e
    | some d =>
      cases e2 : DL.derefs ρ xs with
      | none => rw [e1, e2] at e; cases e
      | some ds => rw [e1, e2] at e; cases e; exact .cons (R.deref h e1) (R.derefs r e2)
/-- as frozen data -/
@[simp] def toVals : En → List X → Option (List D × En)
  | ρ, [] => some ([], ρ)
  | ρ, x :: xs => match toVal ρ x with
    | some (d, ρ1) => match toVals ρ1 xs with
      | some (ds, ρ2) => some (d :: ds, ρ2)
      | none => none
    | none => none
theorem Rl.toVals {F : Fm} {H : Hp} {σ : L2.St} : ∀ {G : Hp} {ρ ρ' : En} {vs : List V} {xs : List X} {ds : List D}, Rl K F G H σ ρ → RepXs K F G H σ ρ vs xs → toVals ρ xs = some (ds, ρ') → ∃ G', Rl K F G' H σ ρ' ∧ Same G G' ∧ RepA K G' vs ds
  | G, ρ, _, _, _, _, R, .nil, e => by cases e; exact ⟨G, R, Same.refl G, .nil⟩
  | G, ρ, _, _, x :: xs, _, R, .cons h n r, e => by
    simp only [DL.toVals] at e
    cases e1 : DL.toVal ρ x with
    | none => rw [e1] at e; cases e
    | some p =>
      obtain ⟨d, ρ1⟩ := p
      rw [e1] at e
      dsimp only at e
      cases e2 : DL.toVals ρ1 xs with
      | none => rw [e2] at e; cases e
      | some p2 =>
        obtain ⟨ds, ρ2⟩ := p2
        rw [e2] at e
        cases e
        obtain ⟨G1, R1, s1, h1⟩ := R.toVal h e1
        obtain ⟨G2, R2, s2, h2⟩ := R1.toVals (r.keep s1) e2
        exact ⟨G2, R2, s1.trans s2, .cons (h1.mono s2) h2⟩
def dTup (T : En → Res (List X)) : En → Res X := fun ρ => (T ρ).bind fun xs ρ1 => match toVals ρ1 xs with
  | some (ds, ρ2) => if ds.length ≤ sizeLine then .ok (.val (.tup ds)) ρ2 else .stuck
  | none => .stuck
def dLst (T : En → Res (List X)) : En → Res X := fun ρ => (T ρ).bind fun xs ρ1 => match toVals ρ1 xs with
  | some (ds, ρ2) => if ds.length ≤ sizeLine then .ok (.new (.lst ds)) ρ2 else .stuck
  | none => .stuck
theorem L_tup (ht : LA K E t T) : LE K E (tTup t) (dTup T) := by
  refine LG.bind (k := fun xs σ H (Q : VK) => xs.length ≤ sizeLine ∧ ∀ p, H p = none → Q (.ref p) (upd H p (.tup xs))) ht fun F G H σ ρ vs xs Q R hx w => ?_
  cases e : toVals ρ xs with
  | none => rw [e] at w; exact w.elim
  | some p =>
    obtain ⟨ds, ρ2⟩ := p
    rw [e] at w
    dsimp only at w
    obtain ⟨G1, R1, s1, r1⟩ := R.toVals hx e
    split at w
    · rename_i hz
      refine ⟨by rw [r1.len]; exact hz, fun p np => ?_⟩
      obtain ⟨R2, s2, r2⟩ := newT R1 np r1
      exact w _ _ _ R2 (s1.trans s2) r2
    · exact w.elim
theorem L_lst (ht : LA K E t T) : LE K E (tLst t) (dLst T) := by
  refine LG.bind (k := fun xs σ H (Q : VK) => xs.length ≤ sizeLine ∧ ∀ p, H p = none → Q (.ref p) (upd H p (.lst xs))) ht fun F G H σ ρ vs xs Q R hx w => ?_
  cases e : toVals ρ xs with
  | none => rw [e] at w; exact w.elim
  | some p =>
    obtain ⟨ds, ρ2⟩ := p
    rw [e] at w
    dsimp only at w
    obtain ⟨G1, R1, s1, r1⟩ := R.toVals hx e
    split at w
    · rename_i hz
      refine ⟨by rw [r1.len]; exact hz, fun p np => ?_⟩
      obtain ⟨R2, r2⟩ := newL R1 np r1
      exact w _ _ _ R2 s1 r2
    · exact w.elim
@[simp] def opIx : D2
  | .tup ds, .int i | .lst ds, .int i | .scr ds, .int i => (atI ds i).map X.val
  | .str z, .int i => if z.length ≤ sizeLine then (atI z.cps.toList i).map fun c => X.val (.str ⟨#[c]⟩) else none
  | _, _ => none
theorem atI_rep {G : Hp} {vs : List V} {ds : List D} {i : Int} {d : D} (r : RepA K G vs ds) (e : atI ds i = some d) : ∃ v, atI vs i = some v ∧ Rep K G v d := by
  unfold atI at e ⊢
  rw [r.len]
  cases e1 : ixN ds.length i with
  | none => rw [e1] at e; cases e
  | some j =>
    rw [e1] at e
    exact r.get e
theorem S_ix : OpS K (rIx K) opIx := by
  intro F G H σ ρ x y d e z Q R hx hy ez q
  cases d <;> cases e <;> first | (cases ez; done) | skip
  · simp only [opIx] at ez
    split at ez
    · rename_i hc
      rw [Option.map_eq_some_iff] at ez
      obtain ⟨c, e1, rfl⟩ := ez
      exact .inr (.inr ⟨_, _, c, hx.str, hy.int, hc, e1, q _ G H R (Same.refl G) (.str _)⟩)
    · cases ez
  · simp only [opIx, Option.map_eq_some_iff] at ez
    obtain ⟨d, e1, rfl⟩ := ez
    obtain ⟨a, vs, rfl, g, h, r⟩ := hx.tup R.gh
    obtain ⟨v, e2, h2⟩ := atI_rep r e1
    exact .inr (.inl ⟨a, vs, _, v, rfl, hy.int, h, e2, q _ G H R (Same.refl G) h2⟩)
  · simp only [opIx, Option.map_eq_some_iff] at ez
    obtain ⟨d, e1, rfl⟩ := ez
    obtain ⟨a, vs, rfl, h, r⟩ := hx.lst R.gh
    obtain ⟨v, e2, h2⟩ := atI_rep r e1
    exact .inl ⟨a, vs, _, v, rfl, hy.int, .inl (.inl h), e2, q _ G H R (Same.refl G) h2⟩
  · simp only [opIx, Option.map_eq_some_iff] at ez
    obtain ⟨d, e1, rfl⟩ := ez
    obtain ⟨a, vs, rfl, h, r⟩ := hx.scr R.gh
    obtain ⟨v, e2, h2⟩ := atI_rep r e1
    exact .inl ⟨a, vs, _, v, rfl, hy.int, h, e2, q _ G H R (Same.refl G) h2⟩
def cutD (ds : List D) (lo hi : Option Int) : List D := (ds.drop (HT.sIx ds.length 0 lo)).take (HT.sIx ds.length ds.length hi - HT.sIx ds.length 0 lo)
theorem cut_rep {G : Hp} {vs : List V} {ds : List D} {lo hi : Option Int} (r : RepA K G vs ds) : RepA K G (cutV vs lo hi) (cutD ds lo hi) := by
  unfold cutV cutD
  rw [r.len]
  exact (r.drop _).take _
theorem cut_all {ds : List D} {lo hi : Option Int} (h : HT.sIx ds.length 0 lo = 0 ∧ HT.sIx ds.length ds.length hi = ds.length) : cutD ds lo hi = ds := by
  unfold cutD
  rw [h.1, h.2]
  simp
abbrev TOp := L2.St → Hp → (Option Int → Hp → Prop) → Prop
def oNone : En → Res (Option Int) := fun ρ => .ok none ρ
@[simp] def asI (ρ : En) (a : X) : Option Int := match deref ρ a with
  | some (.int i) => some i
  | _ => none
def oSome (A : En → Res X) : En → Res (Option Int) := fun ρ => (A ρ).bind fun a ρ1 => lift ((asI ρ1 a).map some) ρ1
theorem Rl.asI {F : Fm} {G H : Hp} {σ : L2.St} {ρ : En} {v : V} {a : X} {b : Int} (R : Rl K F G H σ ρ) (hx : RepX K F G H σ ρ v a) (e : asI ρ a = some b) : v = .int b := by
  unfold DL.asI at e
  cases e2 : DL.deref ρ a with
  | none => rw [e2] at e; cases e
  | some d =>
    rw [e2] at e
    cases d <;> cases e
    exact (R.deref hx e2).int
abbrev LO (K : Fg) (E : XK) (t : TOp) (T : En → Res (Option Int)) : Prop := LG K E (fun _ _ _ _ _ b a => b = a) t T
theorem O_none : LO K E tNoPart oNone := fun F G H σ ρ Q R w => w _ G H R (Same.refl G) rfl
theorem O_some (ha : LE K E ta A) : LO K E (tPart ta) (oSome A) := by
  refine LG.bind (k := fun x σ H (Q : Option Int → Hp → Prop) => ∃ i, x = .int i ∧ Q (some i) H) ha fun F G H σ ρ x a Q R hx w => ?_
  obtain ⟨b, e, q⟩ := w.lift
  rw [Option.map_eq_some_iff] at e
  obtain ⟨i, e, rfl⟩ := e
  exact ⟨i, R.asI hx e, q _ G H R (Same.refl G) rfl⟩
@[simp] def opSl (d : D) (lo hi : Option Int) : Option X := match d with
  | .tup ds => some (.val (.tup (cutD ds lo hi)))
  | .lst ds => some (.new (.lst (cutD ds lo hi)))
  | .str z => if z.length ≤ sizeLine then some (.val (.str (cutS z lo hi))) else none
  | _ => none
def rSl3 (K : Fg) : V → Option Int → Option Int → Hp → VK → Prop := fun x lo hi H Q => rSlA K x lo hi H Q ∨ rSlL K x lo hi H Q ∨ rSlS x lo hi H Q
def dSl (A : En → Res X) (L U : En → Res (Option Int)) : En → Res X := fun ρ => (A ρ).bind fun a ρ1 => (L ρ1).bind fun lo ρ2 => (U ρ2).bind fun hi ρ3 => match deref ρ3 a.settle with
  | some d => lift (opSl d lo hi) ρ3
  | none => .stuck
theorem L_sl {tl th : TOp} {L U : En → Res (Option Int)} (ha : LE K E ta A) (hl : LO K E tl L) (hu : LO K E th U) : LE K E (tSl (rSl3 K) ta tl th) (dSl A L U) := by
  refine LG.bind (k := fun x σ H (Q : VK) => tl σ H fun l H2 => th σ H2 fun u H3 => rSl3 K x l u H3 Q) ha fun F G H σ ρ x a Q R hx w => ?_
  obtain ⟨G1, R1, s1, hx1⟩ := R.settle hx
  refine hl F G1 H σ ρ _ R1 ((w.mono s1).bind fun lo lo' G2 H2 ρ2 R2 s2 el w2 => ?_)
  subst el
  refine hu F G2 H2 σ ρ2 _ R2 (w2.bind fun hi hi' G3 H3 ρ3 R3 s3 eu w3 => ?_)
  subst eu
  have hx3 := hx1.keep (H' := H3) (ρ' := ρ3) settle_no (s2.trans s3)
  cases e : deref ρ3 a.settle with
  | none => rw [e] at w3; exact w3.elim
  | some d =>
    rw [e] at w3
    obtain ⟨z, ez, q⟩ := w3.lift
    have hd := R3.deref hx3 e
    cases d <;> first | (cases ez; done) | skip
    · simp only [opSl] at ez
      split at ez
      · rename_i hc
        cases ez
        exact .inr (.inr ⟨_, hd.str, hc, q _ G3 H3 R3 (Same.refl G3) (.str _)⟩)
      · cases ez
    · cases ez
      obtain ⟨b, vs, rfl, g, h, r⟩ := hd.tup R3.gh
      refine .inl ⟨b, vs, rfl, h, fun hw => ?_, fun _ p np => ?_⟩
      · rw [r.len] at hw
        rw [cut_all hw] at q
        exact q _ G3 H3 R3 (Same.refl G3) (.tup g r)
      · obtain ⟨R4, s4, r4⟩ := newT R3 np (cut_rep (lo := lo) (hi := hi) r)
        exact q _ _ _ R4 s4 r4
    · cases ez
      obtain ⟨b, vs, rfl, h, r⟩ := hd.lst R3.gh
      refine .inr (.inl ⟨b, vs, rfl, .inl (.inl h), fun p np => ?_⟩)
      obtain ⟨R4, r4⟩ := newL R3 np (cut_rep (lo := lo) (hi := hi) r)
      exact q _ _ _ R4 (Same.refl G3) r4
end
theorem SlRor {X : Cx} {r r' : V → Option Int → Option Int → Hp → VK → Prop} (h : SlR X r) (h' : SlR X r') : SlR X (fun x lo hi H Q => r x lo hi H Q ∨ r' x lo hi H Q) := by
  intro pins s σ H x v vl vu lo hi sl Q I rx hs pl pu q
  rcases q with q | q
  · exact h pins s σ H x v vl vu lo hi sl Q I rx hs pl pu q
  · exact h' pins s σ H x v vl vu lo hi sl Q I rx hs pl pu q
theorem sl_3 {X : Cx} {K : Fg} (h : X.K = K := by rfl) : SlR X (rSl3 K) := h ▸ SlRor sl_tupA (SlRor sl_list sl_str)
theorem ix_3 {X : Cx} {K : Fg} (h : X.K = K := by rfl) : IxR X (rIx K) := h ▸ ix_seq
theorem CallRor {X : Cx} {f : Value} {r r' : List V → Hp → VK → Prop} (h : CallR X f r) (h' : CallR X f r') : CallR X f (fun xs H Q => r xs H Q ∨ r' xs H Q) := by
  intro pins s σ H xs us Q I rx q
  rcases q with q | q
  · exact h pins s σ H xs us Q I rx q
  · exact h' pins s σ H xs us Q I rx q
def CallS (K : Fg) (r : List V → Hp → VK → Prop) (f : List D → Option X) : Prop := ∀ (F : Fm) (G H : Hp) (σ : L2.St) (ρ : En) (vs : List V) (ds : List D) (z : X) (Q : VK), Rl K F G H σ ρ → DRepA K G H vs ds → f ds = some z →
  (∀ v G' H', Rl K F G' H' σ ρ → Same G G' → RepX K F G' H' σ ρ v z → Q v H') → r vs H Q
@[simp] def apN (f : List D → Option X) (xs : List X) (ρ : En) : Res X := match derefs ρ xs with
  | some ds => lift (f ds) ρ
  | none => .stuck
def dCB (f : List D → Option X) (T : En → Res (List X)) : En → Res X := fun ρ => (T ρ).bind (apN f)
section
variable {K : Fg} {E : XK} {ta tb tc : TE} {A B C : En → Res X} {t : TA} {T : En → Res (List X)} {r : List V → Hp → VK → Prop} {f : List D → Option X}
theorem L_cb (hr : CallS K r f) (ht : LA K E t T) : LE K E (tCB r t) (dCB f T) := by
  refine LG.bind (k := fun vs σ H (Q : VK) => r vs H Q) ht fun F G H σ ρ vs xs Q R hx w => ?_
  unfold apN at w
  cases e : derefs ρ xs with
  | none => rw [e] at w; exact w.elim
  | some ds =>
    rw [e] at w
    obtain ⟨z, ez, q⟩ := w.lift
    exact hr F G H σ ρ vs ds z Q R (R.derefs hx e) ez q
theorem DRepA.one {G H : Hp} {vs : List V} {d : D} (h : DRepA K G H vs [d]) : ∃ v, vs = [v] ∧ DRep K G H v d := by
  cases h with
  | cons h r => cases r; exact ⟨_, rfl, h⟩
theorem DRepA.two {G H : Hp} {vs : List V} {d e : D} (h : DRepA K G H vs [d, e]) : ∃ v w, vs = [v, w] ∧ DRep K G H v d ∧ DRep K G H w e := by
  cases h with
  | cons h r =>
    obtain ⟨w, rfl, h2⟩ := r.one
    exact ⟨_, w, rfl, h, h2⟩
@[simp] def fLen : List D → Option X
  | [.tup ds] | [.lst ds] | [.scr ds] => some (.val (.int ds.length))
  | [.str z] => if z.length ≤ sizeLine then some (.val (.int z.length)) else none
  | _ => none
def rLen2 (K : Fg) : List V → Hp → VK → Prop := fun xs H Q => (∃ p ys, xs = [.ref p] ∧ (SqL K H p ys ∨ SqT K H p ys) ∧ Q (.int ys.length) H) ∨ ∃ z, xs = [.str z] ∧ z.length ≤ sizeLine ∧ Q (.int z.length) H
theorem C_len : CallS K (rLen2 K) fLen := by
  intro F G H σ ρ vs ds z Q R hx ez q
  unfold fLen at ez
  split at ez
  · cases ez
    obtain ⟨v, rfl, h⟩ := hx.one
    obtain ⟨a, ws, rfl, g, h, r⟩ := h.tup R.gh
    exact .inl ⟨a, ws, rfl, .inr h, by rw [r.len]; exact q _ G H R (Same.refl G) (.int _)⟩
  · cases ez
    obtain ⟨v, rfl, h⟩ := hx.one
    obtain ⟨a, ws, rfl, h, r⟩ := h.lst R.gh
    exact .inl ⟨a, ws, rfl, .inl (.inl (.inl h)), by rw [r.len]; exact q _ G H R (Same.refl G) (.int _)⟩
  · cases ez
    obtain ⟨v, rfl, h⟩ := hx.one
    obtain ⟨a, ws, rfl, h, r⟩ := h.scr R.gh
    exact .inl ⟨a, ws, rfl, .inl h, by rw [r.len]; exact q _ G H R (Same.refl G) (.int _)⟩
  · split at ez
    · rename_i hc
      cases ez
      obtain ⟨v, rfl, h⟩ := hx.one
      obtain rfl := h.str
      exact .inr ⟨_, rfl, hc, q _ G H R (Same.refl G) (.int _)⟩
    · cases ez
  · cases ez
@[simp] def fAbs : List D → Option X
  | [.int i] => some (.val (.int (if i < 0 then -i else i)))
  | _ => none
theorem C_abs : CallS K (fun xs H Q => ∃ i, xs = [.int i] ∧ Q (.int (if i < 0 then -i else i)) H) fAbs := by
  intro F G H σ ρ vs ds z Q R hx ez q
  unfold fAbs at ez
  split at ez
  · cases ez
    obtain ⟨v, rfl, h⟩ := hx.one
    obtain rfl := h.int
    exact ⟨_, rfl, q _ G H R (Same.refl G) (.int _)⟩
  · cases ez
@[simp] def fMax : List D → Option X
  | [.int i, .int j] => some (.val (.int (if j > i then j else i)))
  | _ => none
theorem C_max : CallS K (fun xs H Q => ∃ i j, xs = [.int i, .int j] ∧ Q (.int (if j > i then j else i)) H) fMax := by
  intro F G H σ ρ vs ds z Q R hx ez q
  unfold fMax at ez
  split at ez
  · cases ez
    obtain ⟨v, w, rfl, h, h2⟩ := hx.two
    obtain rfl := h.int
    obtain rfl := h2.int
    exact ⟨_, _, rfl, q _ G H R (Same.refl G) (.int _)⟩
  · cases ez
@[simp] def fMin : List D → Option X
  | [.int i, .int j] => some (.val (.int (if j < i then j else i)))
  | _ => none
theorem C_min : CallS K (fun xs H Q => ∃ i j, xs = [.int i, .int j] ∧ Q (.int (if j < i then j else i)) H) fMin := by
  intro F G H σ ρ vs ds z Q R hx ez q
  unfold fMin at ez
  split at ez
  · cases ez
    obtain ⟨v, w, rfl, h, h2⟩ := hx.two
    obtain rfl := h.int
    obtain rfl := h2.int
    exact ⟨_, _, rfl, q _ G H R (Same.refl G) (.int _)⟩
  · cases ez
def rInt2 : List V → Hp → VK → Prop := fun xs H Q => ((∃ i, xs = [.int i] ∧ Q (.int i) H) ∨ ∃ k, xs = [.bl k] ∧ Q (.int (if k then 1 else 0)) H) ∨ ∃ a n, xs = [.str a] ∧ PySem.intText? a = some n ∧ a.length ≤ 640 ∧ Q (.int n) H
@[simp] def fInt : List D → Option X
  | [.int i] => some (.val (.int i))
  | [.bl k] => some (.val (.int (if k then 1 else 0)))
  | [.str a] => if a.length ≤ 640 then (PySem.intText? a).map fun n => .val (.int n) else none
  | _ => none
theorem C_int : CallS K rInt2 fInt := by
  intro F G H σ ρ vs ds z Q R hx ez q
  unfold fInt at ez
  split at ez
  · cases ez
    obtain ⟨v, rfl, h⟩ := hx.one
    obtain rfl := h.int
    exact .inl (.inl ⟨_, rfl, q _ G H R (Same.refl G) (.int _)⟩)
  · cases ez
    obtain ⟨v, rfl, h⟩ := hx.one
    obtain rfl := h.bl
    exact .inl (.inr ⟨_, rfl, q _ G H R (Same.refl G) (.int _)⟩)
  · split at ez
    · rename_i hc
      rw [Option.map_eq_some_iff] at ez
      obtain ⟨n, en, rfl⟩ := ez
      obtain ⟨v, rfl, h⟩ := hx.one
      obtain rfl := h.str
      exact .inr ⟨_, n, rfl, en, hc, q _ G H R (Same.refl G) (.int _)⟩
    · cases ez
  · cases ez
@[simp] def fStr : List D → Option X
  | [.int i] => if i.natAbs.log2 < 1920 then some (.val (.str (toString i))) else none
  | _ => none
theorem C_str : CallS K (fun xs H Q => ∃ i, xs = [.int i] ∧ i.natAbs.log2 < 1920 ∧ Q (.str (toString i)) H) fStr := by
  intro F G H σ ρ vs ds z Q R hx ez q
  unfold fStr at ez
  split at ez
  · split at ez
    · rename_i hc
      cases ez
      obtain ⟨v, rfl, h⟩ := hx.one
      obtain rfl := h.int
      exact ⟨_, rfl, hc, q _ G H R (Same.refl G) (.str _)⟩
    · cases ez
  · cases ez
@[simp] def fList : List D → Option X
  | [.tup ds] | [.lst ds] | [.scr ds] => some (.new (.lst ds))
  | _ => none
@[simp] def fTuple : List D → Option X
  | [.tup ds] | [.lst ds] | [.scr ds] => some (.val (.tup ds))
  | _ => none
theorem C_tuple : CallS K (fun xs H Q => ∃ p ys, xs = [.ref p] ∧ ((SqL K H p ys ∧ ∀ l, H l = none → Q (.ref l) (upd H l (.tup ys))) ∨ (SqT K H p ys ∧ Q (.ref p) H))) fTuple := by
  intro F G H σ ρ vs ds z Q R hx ez q
  unfold fTuple at ez
  split at ez
  · cases ez
    obtain ⟨v, rfl, h⟩ := hx.one
    obtain ⟨a, ws, rfl, g, h, r⟩ := h.tup R.gh
    exact ⟨a, ws, rfl, .inr ⟨h, q _ G H R (Same.refl G) (.tup g r)⟩⟩
  · cases ez
    obtain ⟨v, rfl, h⟩ := hx.one
    obtain ⟨a, ws, rfl, h, r⟩ := h.lst R.gh
    refine ⟨a, ws, rfl, .inl ⟨.inl (.inl h), fun p np => ?_⟩⟩
    obtain ⟨R2, s2, r2⟩ := newT R np r
    exact q _ _ _ R2 s2 r2
  · cases ez
    obtain ⟨v, rfl, h⟩ := hx.one
    obtain ⟨a, ws, rfl, h, r⟩ := h.scr R.gh
    refine ⟨a, ws, rfl, .inl ⟨h, fun p np => ?_⟩⟩
    obtain ⟨R2, s2, r2⟩ := newT R np r
    exact q _ _ _ R2 s2 r2
  · cases ez
@[simp] def allB : List D → Option (List Bool)
  | [] => some []
  | .bl b :: ds => (allB ds).map (b :: ·)
  | _ => none
@[simp] def fAll : List D → Option X
  | [.lst ds] => (allB ds).map fun bs => .val (.bl (bs.all id))
  | _ => none
@[simp] def fAny : List D → Option X
  | [.lst ds] => (allB ds).map fun bs => .val (.bl (bs.any id))
  | _ => none
@[simp] def allI : List D → Option (List Int)
  | [] => some []
  | .int b :: ds => (allI ds).map (b :: ·)
  | _ => none
@[simp] def fSum : List D → Option X
  | [.lst ds] => (allI ds).map fun bs => .val (.int bs.sum)
  | _ => none
@[simp] def allS : List D → Option (List Str)
  | [] => some []
  | .str b :: ds => (allS ds).map (b :: ·)
  | _ => none
theorem allS_rep {G : Hp} : ∀ {vs : List V} {ds : List D} {bs : List Str}, RepA K G vs ds → allS ds = some bs → vs = bs.map V.str
  | _, _, _, .nil, e => by cases e; rfl
  | _, .str b :: ds, _, .cons h r, e => by
    simp only [allS, Option.map_eq_some_iff] at e
    obtain ⟨bs, e, rfl⟩ := e
    cases h
    rw [allS_rep r e]
    rfl
  | _, .int _ :: ds, _, .cons h r, e => by cases e
  | _, .bl _ :: ds, _, .cons h r, e => by cases e
  | _, .non :: ds, _, .cons h r, e => by cases e
  | _, .tup _ :: ds, _, .cons h r, e => by cases e
  | _, .lst _ :: ds, _, .cons h r, e => by cases e
  | _, .scr _ :: ds, _, .cons h r, e => by cases e
  | _, .ins _ _ _ :: ds, _, .cons h r, e => by cases e
  | _, .cls _ :: ds, _, .cons h r, e => by cases e
def rgD (a b : Int) : List D := (List.range (b - a).toNat).map fun i => D.int (a + (i : Nat))
def g1 (A : En → Res X) : En → Res (Int × Int) := fun ρ => (A ρ).bind fun a ρ1 => lift ((asI ρ1 a).map fun n => (0, n)) ρ1
def g2 (A B : En → Res X) : En → Res (Int × Int) := fun ρ => (A ρ).bind fun a ρ1 => (B ρ1).bind fun b ρ2 => match asI ρ2 a.settle, asI ρ2 b with
  | some i, some j => .ok (i, j) ρ2
  | _, _ => .stuck
open Classical in
noncomputable def dLstRg (T : En → Res (Int × Int)) : En → Res X := fun ρ => (T ρ).bind fun p ρ1 => if RgOk p.1 p.2 then .ok (.new (.lst (rgD p.1 p.2))) ρ1 else .stuck
@[simp] def fmtD : D → Option Str
  | .str y => if y.length ≤ sizeLine then some y else none
  | .int i => if i.natAbs.log2 < 1920 then some (toString i) else none
  | _ => none
def dFmt (A : En → Res X) : En → Res X := fun ρ => (A ρ).bind fun a ρ1 => match deref ρ1 a with
  | some d => lift ((fmtD d).map fun s => X.val (.str s)) ρ1
  | none => .stuck
theorem L_fmt (ha : LE K E ta A) : LE K E (tFmt ta) (dFmt A) := by
  refine LG.bind (k := fun x σ H (Q : VK) => (∃ y : Str, x = .str y ∧ y.length ≤ sizeLine ∧ Q (.str y) H) ∨ ∃ i : Int, x = .int i ∧ i.natAbs.log2 < 1920 ∧ Q (.str (toString i)) H) ha fun F G H σ ρ x a Q R hx w => ?_
  cases e : deref ρ a with
  | none => rw [e] at w; exact w.elim
  | some d =>
    rw [e] at w
    obtain ⟨z, ez, q⟩ := w.lift
    rw [Option.map_eq_some_iff] at ez
    obtain ⟨s, ez, rfl⟩ := ez
    have hd := R.deref hx e
    cases d <;> simp only [fmtD] at ez <;> first | (cases ez; done) | skip
    · split at ez
      · rename_i hc
        cases ez
        exact .inr ⟨_, hd.int, hc, q _ G H R (Same.refl G) (.str _)⟩
      · cases ez
    · split at ez
      · rename_i hc
        cases ez
        exact .inl ⟨_, hd.str, hc, q _ G H R (Same.refl G) (.str _)⟩
      · cases ez
def jNil : Str → En → Res Str := fun acc ρ => .ok acc ρ
def jCons (A : En → Res X) (J : Str → En → Res Str) : Str → En → Res Str := fun acc ρ => (A ρ).bind fun a ρ1 => match deref ρ1 a with
  | some (.str y) => if (acc ++ y).length ≤ sizeLine then J (acc ++ y) ρ1 else .stuck
  | _ => .stuck
abbrev LJ (K : Fg) (E : XK) (ts : List TE) (J : Str → En → Res Str) : Prop := ∀ acc, LG K E (fun _ _ _ _ _ b a => b = a) (fun σ H Q => tJs ts acc σ H Q) (J acc)
theorem J_nil : LJ K E [] jNil := fun acc F G H σ ρ Q R w => w acc G H R (Same.refl G) rfl
theorem J_cons {ts : List TE} {J : Str → En → Res Str} (ha : LE K E ta A) (hj : LJ K E ts J) : LJ K E (ta :: ts) (jCons A J) := by
  intro acc F G H σ ρ Q R w
  refine ha F G H σ ρ _ R (Wants.bind w fun x a G' H' ρ' R' s hx w' => ?_)
  cases e : deref ρ' a with
  | none => rw [e] at w'; exact w'.elim
  | some d =>
    rw [e] at w'
    have hd := R'.deref hx e
    cases d <;> try exact w'.elim
    rename_i y
    dsimp only at w'
    split at w'
    · rename_i hc
      exact ⟨y, hd.str, hc, hj _ F G' H' σ ρ' Q R' w'⟩
    · exact w'.elim
def dJoin (J : Str → En → Res Str) : En → Res X := fun ρ => (J Str.empty ρ).bind fun s ρ1 => .ok (.val (.str s)) ρ1
theorem L_join {ts : List TE} {J : Str → En → Res Str} (hj : LJ K E ts J) : LE K E (fun σ H Q => tJs ts Str.empty σ H fun out H1 => Q (.str out) H1) (dJoin J) := by
  intro F G H σ ρ Q R w
  refine hj Str.empty F G H σ ρ _ R (Wants.bind w fun x a G' H' ρ' R' s hx w' => ?_)
  subst hx
  exact w' _ G' H' R' (Same.refl G') (.str _)
def MtS (K : Fg) (r : V → List V → Hp → VK → Prop) (f : D → List D → Option X) : Prop := ∀ (F : Fm) (G H : Hp) (σ : L2.St) (ρ : En) (x : V) (d : D) (vs : List V) (ds : List D) (z : X) (Q : VK), Rl K F G H σ ρ → DRep K G H x d → DRepA K G H vs ds → f d ds = some z →
  (∀ v G' H', Rl K F G' H' σ ρ → Same G G' → RepX K F G' H' σ ρ v z → Q v H') → r x vs H Q
def dMt (f : D → List D → Option X) (A : En → Res X) (T : En → Res (List X)) : En → Res X := fun ρ => (A ρ).bind fun a ρ1 => match deref ρ1 a with
  | some (.str s) => (T ρ1).bind fun xs ρ2 => match derefs ρ2 xs with
    | some ds => lift (f (.str s) ds) ρ2
    | none => .stuck
  | _ => .stuck
theorem L_mt {m : V → List V → Hp → VK → Prop} {g : D → List D → Option X} (hm : MtS K m g) (ha : LE K E ta A) (ht : LA K E t T) : LE K E (tBM K "str" m ta t) (dMt g A T) := by
  refine LG.bind (k := fun x σ H (Q : VK) => tyV K "str" x H ∧ t σ H fun xs H2 => m x xs H2 Q) ha fun F G H σ ρ x a Q R hx w => ?_
  cases e : deref ρ a with
  | none => rw [e] at w; exact w.elim
  | some d =>
    rw [e] at w
    have hd := R.deref hx e
    cases d <;> try exact w.elim
    obtain rfl := hd.str
    refine ⟨rfl, ht F G H σ ρ _ R (w.bind fun ys b G2 H2 ρ2 R2 s2 hy w2 => ?_)⟩
    cases e2 : derefs ρ2 b with
    | none => rw [e2] at w2; exact w2.elim
    | some ds =>
      rw [e2] at w2
      obtain ⟨z, ez, q⟩ := w2.lift
      exact hm F G2 H2 σ ρ2 _ _ ys ds z Q R2 (.inl (.str _)) (R2.derefs hy e2) ez q
@[simp] def fJoin : D → List D → Option X
  | .str a, [.lst ds] | .str a, [.tup ds] => match allS ds with
    | some ys => if (ys.map (·.length)).sum + ys.length * a.length ≤ 16777216 then some (.val (.str (Txt.join a ys))) else none
    | none => none
  | _, _ => none
theorem M_join : MtS K (fun x xs H Q => ∃ a p, ∃ ys : List Str, x = .str a ∧ xs = [.ref p] ∧ (SqL K H p (ys.map V.str) ∨ SqT K H p (ys.map V.str)) ∧ (ys.map (·.length)).sum + ys.length * a.length ≤ 16777216 ∧ Q (.str (Txt.join a ys)) H) fJoin := by
  intro F G H σ ρ x d vs ds z Q R hx hv ez q
  unfold fJoin at ez
  split at ez
  · split at ez
    · rename_i ys ey
      split at ez
      · rename_i hc
        cases ez
        obtain rfl := hx.str
        obtain ⟨v, rfl, h⟩ := hv.one
        obtain ⟨a, ws, rfl, h, r⟩ := h.lst R.gh
        rw [allS_rep r ey] at h
        exact ⟨_, a, ys, rfl, rfl, .inl (.inl (.inl h)), hc, q _ G H R (Same.refl G) (.str _)⟩
      · cases ez
    · cases ez
  · split at ez
    · rename_i ys ey
      split at ez
      · rename_i hc
        cases ez
        obtain rfl := hx.str
        obtain ⟨v, rfl, h⟩ := hv.one
        obtain ⟨a, ws, rfl, g, h, r⟩ := h.tup R.gh
        rw [allS_rep r ey] at h
        exact ⟨_, a, ys, rfl, rfl, .inr h, hc, q _ G H R (Same.refl G) (.str _)⟩
      · cases ez
    · cases ez
  · cases ez
end
theorem call_len2 {X : Cx} {K : Fg} (h : X.K = K := by rfl) : CallR X (.builtin "len") (rLen2 K) := h ▸ CallRor call_len_seq call_len_str
theorem call_int2 {X : Cx} : CallR X (.type "int") rInt2 := CallRor call_int1 call_int_str
end DL
set_option Elab.async false
set_option linter.all false
set_option maxRecDepth 100000
set_option maxHeartbeats 2000000
namespace DL
open PySem PySem.Spec PyProof.Rows L2 DD
def Fm.at (F : Fm) (G : Hp) : Fm := { F with G0 := G }
def Fm.hold (F : Fm) (a : Addr) (o : HO) : Fm := { F with H0 := upd F.H0 a o }
section
variable {K : Fg} {F : Fm} {G G' H H' : Hp} {σ σ' : L2.St} {ρ ρ' : En} {a p : Addr}
theorem Rl.at (R : Rl K F G H σ ρ) : Rl K (F.at G) G H σ ρ :=
  ⟨R.gh, Same.refl G, fun a o h h' => (by rw [show G a = none from h'] at h; cases h), R.hk, R.hm, R.hl, R.sl, R.di, R.mi, ⟨R.tb.1, R.tb.2.1, fun a o h h' => (by rw [show G a = none from h'] at h; cases h)⟩⟩
theorem Rl.back (R : Rl K F G H σ ρ) (R' : Rl K (F.at G) G' H' σ' ρ') : Rl K F G' H' σ' ρ' :=
  ⟨R'.gh, R.g0.trans R'.g0, fun a o h h' => (by
    cases e : G a with
    | some u => exact R.gn a u e h'
    | none => exact R'.gn a o h e), R'.hk, R'.hm, R'.hl, R'.sl, R'.di, R'.mi, ⟨R'.tb.1, R'.tb.2.1, fun a o h h' => (by
    cases e : G a with
    | some u =>
      have z := R'.g0 _ _ e
      rw [h] at z
      cases z
      exact R.tb.2.2 a o e h'
    | none => exact R'.tb.2.2 a o h e)⟩⟩
theorem RepX.at {v : V} {x : X} (h : RepX K (F.at G0) G H σ ρ v x) : RepX K F G H σ ρ v x := by cases x <;> exact h
/-- what no slot owns is held -/
theorem Rl.hold {o : HO} (R : Rl K F G H σ ρ) (h : H a = some o) (h0 : F.H0 a = none) (hg : G a = none) (n : ∀ (j : Nat) (u : O), ρ[j]? = some (.own u) → σ[j]? ≠ some (some (.ref a))) : Rl K (F.hold a o) G H σ ρ where
  gh := R.gh
  g0 := R.g0
  gn := fun b u hb hb' => by
    show upd F.H0 a o b = none
    rw [upd_ne (ne_of_none hb hg)]
    exact R.gn b u hb hb'
  hk := fun b u hb hb' => by
    by_cases q : b = a
    · subst q
      rw [show (F.hold b o).H0 b = some o from upd_same] at hb
      cases hb
      exact h
    · rw [show (F.hold a o).H0 b = F.H0 b from upd_ne q] at hb
      exact R.hk b u hb hb'
  hm := fun i b hb => by
    obtain ⟨h1, h2, h3⟩ := R.hm i b hb
    refine ⟨h1, ?_, h3⟩
    show upd F.H0 a o b ≠ none
    rw [upd_ne (fun q => h2 (by rw [q]; exact h0))]
    exact h2
  hl := R.hl
  sl := fun i s hs => by
    obtain ⟨x, h1, h2⟩ := R.sl i s hs
    refine ⟨x, h1, ?_⟩
    cases s with
    | none => trivial
    | val d => exact h2
    | own u =>
      obtain ⟨b, rfl, e2, e3, e4⟩ := h2
      refine ⟨b, rfl, ?_, e3, e4⟩
      show upd F.H0 a o b = none
      rw [upd_ne (fun q => n i u hs (by rw [h1, q]))]
      exact e2
    | bor u => exact h2
    | lck u =>
      obtain ⟨b, u', rfl, e2, e3, e5, e6, e4⟩ := h2
      refine ⟨b, u', rfl, e2, e3, ?_, e6, e4⟩
      show upd F.H0 a o b = some u'
      rw [upd_ne (fun q => by rw [q, h0] at e5; cases e5)]
      exact e5
  di := R.di
  mi := R.mi
  tb := R.tb
theorem Rl.noM (R : Rl K F G H σ ρ) (h0 : F.H0 a = none) (i : Nat) : F.M i ≠ some a := fun z => (R.hm i a z).2.1 h0
theorem Rl.heldG {o : HO} (R : Rl K (F.hold a o) G H σ ρ) (hg : F.G0 a = none) : G a = none := by
  cases e : G a with
  | none => rfl
  | some u =>
    have := R.gn a u e hg
    rw [show (F.hold a o).H0 a = some o from upd_same] at this
    cases this
theorem Rl.heldH {o : HO} (R : Rl K (F.hold a o) G H σ ρ) (hm : ∀ i, F.M i ≠ some a) : H a = some o := R.hk a o upd_same hm
theorem Rl.heldN {o : HO} (R : Rl K (F.hold a o) G H σ ρ) : ∀ (j : Nat) (u : O), ρ[j]? = some (.own u) → σ[j]? ≠ some (some (.ref a)) := fun j u hj z => by
  obtain ⟨b, h1, h2, _⟩ := R.own hj
  rw [h1] at z
  cases z
  rw [show (F.hold a o).H0 a = some o from upd_same] at h2
  cases h2
/-- held no longer -/
theorem Rl.unhold {o : HO} (R : Rl K (F.hold a o) G H σ ρ) (h0 : F.H0 a = none) (hl : ∀ i, F.L i ≠ some a) (hm : ∀ i, F.M i ≠ some a) : Rl K F G H σ ρ where
  gh := R.gh
  g0 := R.g0
  gn := fun b u hb hb' => by
    by_cases q : b = a
    · rw [q]; exact h0
    · have := R.gn b u hb hb'
      rw [show (F.hold a o).H0 b = F.H0 b from upd_ne q] at this
      exact this
  hk := fun b u hb hb' => R.hk b u (by
    rw [show (F.hold a o).H0 b = F.H0 b from upd_ne (ne_of_none hb h0)]
    exact hb) hb'
  hm := fun i b hb => by
    obtain ⟨h1, h2, h3⟩ := R.hm i b hb
    refine ⟨h1, ?_, h3⟩
    rw [show (F.hold a o).H0 b = F.H0 b from upd_ne (fun q => hm i (by rw [← q]; exact hb))] at h2
    exact h2
  hl := R.hl
  sl := fun i s hs => by
    obtain ⟨x, h1, h2⟩ := R.sl i s hs
    refine ⟨x, h1, ?_⟩
    cases s with
    | none => trivial
    | val d => exact h2
    | own u =>
      obtain ⟨b, rfl, e2, e3, e4⟩ := h2
      refine ⟨b, rfl, ?_, e3, e4⟩
      by_cases q : b = a
      · rw [q]; exact h0
      · rw [show (F.hold a o).H0 b = F.H0 b from upd_ne q] at e2
        exact e2
    | bor u => exact h2
    | lck u =>
      obtain ⟨b, u', rfl, e2, e3, e5, e6, e4⟩ := h2
      refine ⟨b, u', rfl, e2, e3, ?_, e6, e4⟩
      rw [show (F.hold a o).H0 b = F.H0 b from upd_ne (fun q => hl i (by rw [← q]; exact e2))] at e5
      exact e5
  di := R.di
  mi := R.mi
  tb := R.tb
theorem Rl.rehold {o o' : HO} (R : Rl K (F.hold a o) G H σ ρ) (h0 : F.H0 a = none) (hg : F.G0 a = none) (hl : ∀ i, F.L i ≠ some a) (hm : ∀ i, F.M i ≠ some a) (nu : Usual a o := by first | exact usual_lst | exact usual_ins) : Rl K (F.hold a o') G (upd H a o') σ ρ := by
  have N := R.heldN
  have hG := R.heldG hg
  have R1 := R.unhold h0 hl hm
  have far : ∀ b, b ≠ a → upd H a o' b = H b := fun b q => upd_ne q
  have R2 : Rl K F G (upd H a o') σ ρ := by
    refine ⟨fun b u hb => by rw [far b (ne_of_none hb hG)]; exact R1.gh b u hb, R1.g0, R1.gn, fun b u hb hb' => by rw [far b (ne_of_none hb h0)]; exact R1.hk b u hb hb', fun i b hb => ?_, R1.hl, fun i s hs => ?_, R1.di, R1.mi, R1.tb.chg (R.heldH hm) nu⟩
    · obtain ⟨h1, h2, h3⟩ := R1.hm i b hb
      exact ⟨by rw [far b (fun q => hm i (by rw [← q]; exact hb))]; exact h1, h2, h3⟩
    · obtain ⟨x, h1, h2⟩ := R1.sl i s hs
      refine ⟨x, h1, ?_⟩
      have mv : ∀ b w, b ≠ a → ObjO K G H b w → ObjO K G (upd H a o') b w := fun b w q z => z.mono (Same.refl G) fun u e => by rw [far b q]; exact e
      cases s with
      | none => trivial
      | val d => exact h2
      | own u =>
        obtain ⟨b, rfl, e2, e3, e4⟩ := h2
        exact ⟨b, rfl, e2, e3, mv b u (fun q => N i u hs (by rw [h1, q])) e4⟩
      | bor u =>
        obtain ⟨b, rfl, e2, e3, e4⟩ := h2
        exact ⟨b, rfl, e2, e3, mv b u (fun q => hm i (by rw [← q]; exact e2)) e4⟩
      | lck u =>
        obtain ⟨b, u', rfl, e2, e3, e5, e6, e4⟩ := h2
        exact ⟨b, u', rfl, e2, e3, e5, e6, mv b u (fun q => hl i (by rw [← q]; exact e2)) e4⟩
  exact R2.hold upd_same h0 hG N
theorem Rl.noL (R : Rl K F G H σ ρ) (h0 : F.H0 a = none) (i : Nat) : F.L i ≠ some a := fun z => by
  obtain ⟨o, h⟩ := R.hl i a z
  obtain ⟨x, _, b, u, _, e2, _, e5, _⟩ := R.sl i _ h
  rw [z] at e2
  cases e2
  rw [h0] at e5
  cases e5
theorem RepX.unhold {v : V} {x : X} {o : HO} (h : RepX K (F.hold a o) G H σ ρ v x) (h0 : F.H0 a = none) : RepX K F G H σ ρ v x := by
  cases x with
  | val d => exact h
  | own i => exact h
  | new u =>
    obtain ⟨b, rfl, e2, e3⟩ := h
    refine ⟨b, rfl, ?_, e3⟩
    by_cases q : b = a
    · rw [q]; exact h0
    · rw [show (F.hold a o).H0 b = F.H0 b from upd_ne q] at e2
      exact e2
end
inductive SR where
  | nx (ρ : En) | rt (x : X) (ρ : En) | bk (ρ : En) | ct (ρ : En) | err (x : Xc) (ρ : En) | stuck
def Res.sb {α : Type} : Res α → (α → En → SR) → SR
  | .ok a ρ, U => U a ρ
  | .err x ρ, _ => .err x ρ
  | .stuck, _ => .stuck
def WS (K : Fg) (E : XK) (F : Fm) (D : Ends) : SR → Prop
  | .nx ρ => ∀ σ G H, Rl K F G H σ ρ → D.nx σ H
  | .rt x ρ => ∀ v σ G H, Rl K F G H σ ρ → RepX K F G H σ ρ v x → D.rt v H
  | .bk ρ => ∀ σ G H, Rl K F G H σ ρ → D.bk σ H
  | .ct ρ => ∀ σ G H, Rl K F G H σ ρ → D.ct σ H
  | .err x ρ => ∀ c od σ G H, Rl K F G H σ ρ → XRep K G H c od x → E c od H
  | .stuck => False
def LS (K : Fg) (E : XK) (t : TS) (T : En → SR) : Prop := ∀ (F : Fm) (G H : Hp) (σ : L2.St) (ρ : En) (D : Ends), Rl K F G H σ ρ → WS K E F D (T ρ) → t D σ H
section
variable {α β : Type} {K : Fg} {E : XK} {F : Fm} {G G' H H' : Hp} {σ : L2.St} {ρ ρ' : En}
theorem WS.sb {rel : Rel β α} {D : Ends} {Q1 : β → Hp → Prop} {r : Res α} {U : α → En → SR} (h : WS K E F D (r.sb U))
    (k : ∀ b a G' H' ρ', Rl K F G' H' σ ρ' → Same G G' → rel F G' H' σ ρ' b a → WS K E F D (U a ρ') → Q1 b H') : Wants K E rel F G σ Q1 r := by
  cases r with
  | ok a ρ' => exact fun b G2 H2 R s q => k b a G2 H2 ρ' R s q h
  | err x ρ' => exact fun c od G2 H2 R _ x => h c od σ G2 H2 R x
  | stuck => exact h
variable {ta tb : TE} {A B : En → Res X} {tt : TT} {T : En → Res Bool} {s u : TS} {S U : En → SR}
def sNext : En → SR := fun ρ => .nx ρ
theorem L_next : LS K E tNext sNext := fun F G H σ ρ D R w => w σ G H R
def sSeq (S U : En → SR) : En → SR := fun ρ => match S ρ with
  | .nx ρ1 => U ρ1
  | r => r
theorem L_seq (h1 : LS K E s S) (h2 : LS K E u U) : LS K E (tSeq s u) (sSeq S U) := by
  intro F G H σ ρ D R w
  refine h1 F G H σ ρ _ R ?_
  unfold sSeq at w
  cases e : S ρ with
  | nx ρ1 =>
    rw [e] at w
    exact fun σ' G' H' R' => h2 F G' H' σ' ρ1 D R' w
  | rt x ρ1 => rw [e] at w; exact w
  | bk ρ1 => rw [e] at w; exact w
  | ct ρ1 => rw [e] at w; exact w
  | err x ρ1 => rw [e] at w; exact w
  | stuck => rw [e] at w; exact w
def sDrop (A : En → Res X) : En → SR := fun ρ => (A ρ).sb fun _ ρ1 => .nx ρ1
theorem L_drop (ha : LE K E ta A) : LS K E (tDrop ta) (sDrop A) := by
  intro F G H σ ρ D R w
  exact ha F G H σ ρ _ R (w.sb fun b a G' H' ρ' R' _ _ w' => w' σ G' H' R')
def sRet (A : En → Res X) : En → SR := fun ρ => (A ρ).sb fun a ρ1 => .rt a ρ1
theorem L_ret (ha : LE K E ta A) : LS K E (tRet ta) (sRet A) := by
  intro F G H σ ρ D R w
  exact ha F G H σ ρ _ R (w.sb fun b a G' H' ρ' R' _ hx w' => w' b σ G' H' R' hx)
def sRetN : En → SR := fun ρ => .rt (.val .non) ρ
def sBreak : En → SR := fun ρ => .bk ρ
def sCont : En → SR := fun ρ => .ct ρ
def sIf (T : En → Res Bool) (S U : En → SR) : En → SR := fun ρ => (T ρ).sb fun b ρ1 => match b with
  | true => S ρ1
  | false => U ρ1
theorem L_if (ht : LT K E tt T) (h1 : LS K E s S) (h2 : LS K E u U) : LS K E (tIfS tt s u) (sIf T S U) := by
  intro F G H σ ρ D R w
  refine ht F G H σ ρ _ R (w.sb fun b a G' H' ρ' R' _ e w' => ?_)
  subst e
  cases b with
  | true => exact iteT (h1 F G' H' σ ρ' D R' w')
  | false => exact iteF (h2 F G' H' σ ρ' D R' w')
@[simp] def putX (i : Nat) (x : X) (ρ : En) : SR := match x with
  | .val d => if freeAt ρ i then .nx (ρ.set i (.val d)) else .stuck
  | .new o => if freeAt ρ i then .nx (ρ.set i (.own o)) else .stuck
  | .own j => match toVal ρ (.own j) with
    | some (d, ρ1) => if freeAt ρ1 i then .nx (ρ1.set i (.val d)) else .stuck
    | none => .stuck
theorem put_run {i : Nat} {x : X} {v : V} {D : Ends} (R : Rl K F G H σ ρ) (hx : RepX K F G H σ ρ v x) (w : WS K E F D (putX i x ρ)) : D.nx (σ.set i (some v)) H := by
  unfold putX at w
  cases x with
  | val d =>
    dsimp only at w
    split at w
    · rename_i hf
      exact w _ G H (R.put hf ⟨v, rfl, hx⟩ rfl fun o e => by cases e)
    · exact w.elim
  | new o =>
    dsimp only at w
    split at w
    · rename_i hf
      obtain ⟨a, rfl, h0, hg, ho, n⟩ := hx
      exact w _ G H (R.put hf ⟨a, rfl, h0, hg, ho⟩ rfl fun o e j o' hj hr => n j o' hr)
    · exact w.elim
  | own j =>
    dsimp only at w
    split at w
    · rename_i d ρ1 e
      obtain ⟨G', R', s, r⟩ := R.toVal hx e
      split at w
      · rename_i hf
        exact w _ G' H (R'.put hf ⟨v, rfl, r⟩ rfl fun o e => by cases e)
      · exact w.elim
    · exact w.elim
def sSet (i : Nat) (A : En → Res X) : En → SR := fun ρ => (A ρ).sb fun a ρ1 => putX i a ρ1
theorem L_set {i : Nat} (ha : LE K E ta A) : LS K E (tAsg ta (gName i)) (sSet i A) := by
  intro F G H σ ρ D R w
  exact ha F G H σ ρ _ R (w.sb fun b a G' H' ρ' R' _ hx w' => put_run R' hx w')
abbrev Tg := D → En → Option En
def LTg (K : Fg) (vs : List Nat) (g : TG) (U : Tg) : Prop := ∀ (F : Fm) (G H : Hp) (σ : L2.St) (ρ ρ' : En) (v : V) (d : D) (Q : L2.St → Hp → Prop), Rl K F G H σ ρ → Rep K G v d → U d ρ = some ρ' →
  (∀ σ', Rl K F G H σ' ρ' → wipe σ' vs = wipe σ vs → Q σ' H) → g v σ H Q
@[simp] def uName (i : Nat) : Tg := fun d ρ => if freeAt ρ i then some (ρ.set i (.val d)) else none
theorem wipe_set : ∀ {vs : List Nat} {i : Nat} {σ : L2.St} {x : Option V}, i ∈ vs → wipe (σ.set i x) vs = wipe σ vs
  | v :: vs, i, σ, x, h => by
    by_cases q : i ∈ vs
    · show (wipe (σ.set i x) vs).set v none = (wipe σ vs).set v none
      rw [wipe_set q]
    · have e : i = v := by
        rcases List.mem_cons.mp h with h | h
        · exact h
        · exact absurd h q
      subst e
      show (wipe (σ.set i x) vs).set i none = (wipe σ vs).set i none
      apply List.ext_getElem?
      intro j
      by_cases e : i = j
      · subst e
        by_cases hl : i < (wipe σ vs).length
        · rw [List.getElem?_set_self hl, List.getElem?_set_self (by rw [wipe_length] at hl ⊢; simpa using hl)]
        · rw [List.getElem?_eq_none (by rw [List.length_set, wipe_length, List.length_set]; rw [wipe_length] at hl; omega), List.getElem?_eq_none (by rw [List.length_set]; omega)]
      · rw [List.getElem?_set_ne e, List.getElem?_set_ne e]
        have : ∀ (ws : List Nat) (τ : L2.St), i ∉ ws → (wipe (τ.set i x) ws)[j]? = (wipe τ ws)[j]? := by
          intro ws
          induction ws with
          | nil => intro τ _; show (τ.set i x)[j]? = τ[j]?; rw [List.getElem?_set_ne e]
          | cons w ws ih =>
            intro τ hn
            show ((wipe (τ.set i x) ws).set w none)[j]? = ((wipe τ ws).set w none)[j]?
            by_cases q2 : w = j
            · subst q2
              by_cases hl : w < τ.length
              · rw [List.getElem?_set_self (by rw [wipe_length]; simpa using hl), List.getElem?_set_self (by rw [wipe_length]; exact hl)]
              · rw [List.getElem?_eq_none (by rw [List.length_set, wipe_length, List.length_set]; omega), List.getElem?_eq_none (by rw [List.length_set, wipe_length]; omega)]
            · rw [List.getElem?_set_ne q2, List.getElem?_set_ne q2]
              exact ih τ fun z => hn (List.mem_cons_of_mem _ z)
        exact this vs σ q
theorem U_name {vs : List Nat} {i : Nat} (hi : i ∈ vs) : LTg K vs (gName i) (uName i) := by
  intro F G H σ ρ ρ' v d Q R hr e q
  unfold uName at e
  split at e
  · rename_i hf
    cases e
    exact q _ (R.put hf ⟨v, rfl, hr⟩ rfl fun o e => by cases e) (wipe_set hi)
  · cases e
abbrev Tgs := List D → En → Option En
def LTgs (K : Fg) (vs : List Nat) (g : TGs) (U : Tgs) : Prop := ∀ (F : Fm) (G H : Hp) (σ : L2.St) (ρ ρ' : En) (ws : List V) (ds : List D) (Q : L2.St → Hp → Prop), Rl K F G H σ ρ → RepA K G ws ds → U ds ρ = some ρ' →
  (∀ σ', Rl K F G H σ' ρ' → wipe σ' vs = wipe σ vs → Q σ' H) → g ws σ H Q
@[simp] def usNil : Tgs := fun ds ρ => match ds with
  | [] => some ρ
  | _ => none
@[simp] def usCons (U : Tg) (Us : Tgs) : Tgs := fun ds ρ => match ds with
  | d :: ds => (U d ρ).bind fun ρ1 => Us ds ρ1
  | [] => none
theorem Us_nil {vs : List Nat} : LTgs K vs gNil usNil := by
  intro F G H σ ρ ρ' ws ds Q R hr e q
  cases ds with
  | nil =>
    cases e
    cases hr
    exact ⟨rfl, q σ R rfl⟩
  | cons d ds => cases e
theorem Us_cons {vs : List Nat} {g : TG} {gs : TGs} {U : Tg} {Us : Tgs} (h : LTg K vs g U) (hs : LTgs K vs gs Us) : LTgs K vs (gCons g gs) (usCons U Us) := by
  intro F G H σ ρ ρ' ws ds Q R hr e q
  cases ds with
  | nil => cases e
  | cons d ds =>
    cases hr with
    | cons r rs =>
      simp only [usCons] at e
      cases e1 : U d ρ with
      | none => rw [e1] at e; cases e
      | some ρ1 =>
        rw [e1] at e
        exact ⟨_, _, rfl, h F G H σ ρ ρ1 _ d _ R r e1 fun σ1 R1 w1 => hs F G H σ1 ρ1 ρ' _ ds Q R1 rs e fun σ2 R2 w2 => q σ2 R2 (w2.trans w1)⟩
@[simp] def uTup (n : Nat) (Us : Tgs) : Tg := fun d ρ => match d with
  | .tup ds => if ds.length = n then Us ds ρ else none
  | _ => none
theorem U_tup {vs : List Nat} {gs : TGs} {Us : Tgs} {n : Nat} (hs : LTgs K vs gs Us) : LTg K vs (gTup K n gs) (uTup n Us) := by
  intro F G H σ ρ ρ' v d Q R hr e q
  cases d <;> first | (cases e; done) | skip
  rename_i ds
  simp only [uTup] at e
  split at e
  · rename_i hn
    cases hr with
    | tup h r => exact ⟨_, _, rfl, smTup R.gh h, by rw [r.len, hn], hs F G H σ ρ ρ' _ ds Q R r e q⟩
  · cases e
def sTgt (U : Tg) (A : En → Res X) : En → SR := fun ρ => (A ρ).sb fun a ρ1 => match toVal ρ1 a with
  | some (d, ρ2) => match U d ρ2 with
    | some ρ3 => .nx ρ3
    | none => .stuck
  | none => .stuck
theorem L_tgt {vs : List Nat} {g : TG} {U : Tg} (ha : LE K E ta A) (hg : LTg K vs g U) : LS K E (tAsg ta g) (sTgt U A) := by
  intro F G H σ ρ D R w
  refine ha F G H σ ρ _ R (w.sb fun b a G' H' ρ' R' _ hx w' => ?_)
  cases e : toVal ρ' a with
  | none => rw [e] at w'; exact w'.elim
  | some p =>
    obtain ⟨d, ρ2⟩ := p
    rw [e] at w'
    obtain ⟨G2, R2, s2, r2⟩ := R'.toVal hx e
    dsimp only at w'
    cases e2 : U d ρ2 with
    | none => rw [e2] at w'; exact w'.elim
    | some ρ3 =>
      rw [e2] at w'
      exact hg F G2 H' σ ρ2 ρ3 b d _ R2 r2 e2 fun σ' R3 _ => w' σ' G2 H' R3
end
end DL
set_option Elab.async false
set_option linter.all false
set_option maxRecDepth 100000
set_option maxHeartbeats 2000000
namespace DL
open PySem PySem.Spec PyProof.Rows L2 DD
section
variable {K : Fg} {E : XK} {F : Fm} {G G' H H' : Hp} {σ : L2.St} {ρ ρ' : En} {ta tb : TE} {A B : En → Res X} {t : TA} {T : En → Res (List X)}
abbrev Mu := List D → List D → Option (D × List D)
@[simp] def lstAt (ρ : En) (i : Nat) : Option (List D) := match ρ[i]? with
  | some (.own (.lst ds)) | some (.bor (.lst ds)) => some ds
  | _ => none
@[simp] def setAt (ρ : En) (i : Nat) (ds : List D) : En := match ρ[i]? with
  | some (.own _) => ρ.set i (.own (.lst ds))
  | some (.bor _) => ρ.set i (.bor (.lst ds))
  | _ => ρ
theorem Rl.lstAt {i : Nat} {ds : List D} (R : Rl K F G H σ ρ) (h : lstAt ρ i = some ds) : ∃ s a vs, ρ[i]? = some s ∧ s.co = some (.lst ds) ∧ σ[i]? = some (some (.ref a)) ∧ G a = none ∧ H a = some (.lst vs) ∧ RepA K G vs ds := by
  unfold DL.lstAt at h
  split at h
  · rename_i ds' e
    cases h
    obtain ⟨a, h1, _, h2, vs, h3, h4⟩ := R.own e
    exact ⟨_, a, vs, e, rfl, h1, h2, h3, h4⟩
  · rename_i ds' e
    cases h
    obtain ⟨a, h1, _, h2, vs, h3, h4⟩ := R.bor e
    exact ⟨_, a, vs, e, rfl, h1, h2, h3, h4⟩
  · cases h
theorem Rl.setAt {i : Nat} {ds ds' : List D} {a : Addr} {ws : List V} (R : Rl K F G H σ ρ) (h : DL.lstAt ρ i = some ds) (ha : σ[i]? = some (some (.ref a))) (r : RepA K G ws ds') : Rl K F G (upd H a (.lst ws)) σ (DL.setAt ρ i ds') := by
  obtain ⟨s, b, vs, h1, h2, h3, h4, h5, h6⟩ := R.lstAt h
  rw [ha] at h3
  cases h3
  rcases co_cases h2 with rfl | rfl
  · have R' := R.mut h1 (s' := .own (.lst ds')) rfl ha ⟨ws, upd_same, r⟩
    have e : DL.setAt ρ i ds' = ρ.set i (.own (.lst ds')) := by
      unfold DL.setAt
      rw [h1]
    rw [e]
    exact R'
  · have R' := R.mut h1 (s' := .bor (.lst ds')) rfl ha ⟨ws, upd_same, r⟩
    have e : DL.setAt ρ i ds' = ρ.set i (.bor (.lst ds')) := by
      unfold DL.setAt
      rw [h1]
    rw [e]
    exact R'
def MuS (K : Fg) (r : V → List V → Hp → VK → Prop) (f : Mu) : Prop := ∀ (G H : Hp) (a : Addr) (ws vs : List V) (ds as ds' : List D) (z : D) (Q : VK), Same G H → H a = some (.lst ws) → RepA K G ws ds → RepA K G vs as → f ds as = some (z, ds') →
  (∀ ws' v, RepA K G ws' ds' → Rep K G v z → Q v (upd H a (.lst ws'))) → r (.ref a) vs H Q
def eMut (i : Nat) (f : Mu) (T : En → Res (List X)) : En → Res X := fun ρ => match lstAt ρ i with
  | none => .stuck
  | some _ => (T ρ).bind fun xs ρ1 => match toVals ρ1 xs with
    | none => .stuck
    | some (as, ρ2) => match lstAt ρ2 i with
      | none => .stuck
      | some ds => match f ds as with
        | none => .stuck
        | some (z, ds') => .ok (.val z) (setAt ρ2 i ds')
theorem L_mut {m : V → List V → Hp → VK → Prop} {f : Mu} {i : Nat} (hm : MuS K m f) (ht : LA K E t T) : LE K E (tBM K "list" m (tVar i) t) (eMut i f T) := by
  intro F G H σ ρ Q R w
  unfold eMut at w
  cases e0 : lstAt ρ i with
  | none => rw [e0] at w; exact w.elim
  | some ds0 =>
    rw [e0] at w
    obtain ⟨s, a, vs, h1, h2, h3, h4, h5, h6⟩ := R.lstAt e0
    refine ⟨_, h3, .inl ⟨rfl, vs, .inl (.inl h5)⟩, ht F G H σ ρ _ R (w.bind fun ys xs G1 H1 ρ1 R1 s1 hy w1 => ?_)⟩
    cases e1 : toVals ρ1 xs with
    | none => rw [e1] at w1; exact w1.elim
    | some p =>
      obtain ⟨as, ρ2⟩ := p
      rw [e1] at w1
      dsimp only at w1
      obtain ⟨G2, R2, s2, r2⟩ := R1.toVals hy e1
      cases e2 : lstAt ρ2 i with
      | none => rw [e2] at w1; exact w1.elim
      | some ds =>
        rw [e2] at w1
        dsimp only at w1
        obtain ⟨s', b, ws, g1, g2, g3, g4, g5, g6⟩ := R2.lstAt e2
        rw [h3] at g3
        cases g3
        cases e3 : f ds as with
        | none => rw [e3] at w1; exact w1.elim
        | some p =>
          obtain ⟨z, ds'⟩ := p
          rw [e3] at w1
          dsimp only at w1
          exact hm G2 H1 a ws ys ds as ds' z Q R2.gh g5 g6 r2 e3 fun ws' v q1 q2 => w1 v G2 _ (R2.setAt e2 h3 q1) s2 q2
@[simp] def mAppend : Mu := fun ds as => match as with
  | [d] => if ds.length < sizeLine then some (.non, ds ++ [d]) else none
  | _ => none
theorem M_append : MuS K rAppend mAppend := by
  intro G H a ws vs ds as ds' z Q s h hw hv e q
  unfold mAppend at e
  split at e
  · split at e
    · rename_i hz
      cases e
      cases hv with
      | cons h1 r =>
        cases r
        exact ⟨a, ws, _, rfl, rfl, h, by rw [hw.len]; exact hz, q _ .non (hw.app (.one h1)) .non⟩
    · cases e
  · cases e
@[simp] def mExtend : Mu := fun ds as => match as with
  | [.lst es] => if ds.length + es.length ≤ sizeLine then some (.non, ds ++ es) else none
  | _ => none
@[simp] def mPop : Mu := fun ds as => match as with
  | [.int i] => if -(2 ^ 63) ≤ i ∧ i < 2 ^ 63 then (seqIndex? i ds.length).bind fun k => (ds[k]?).map fun d => (d, ds.eraseIdx k) else none
  | _ => none
@[simp] def mPop0 : Mu := fun ds as => match as with
  | [] => (ds[ds.length - 1]?).map fun d => (d, ds.dropLast)
  | _ => none
def sPut (i : Nat) (A B : En → Res X) : En → SR := fun ρ => (A ρ).sb fun a ρ1 => match toVal ρ1 a with
  | none => .stuck
  | some (d, ρ2) => match lstAt ρ2 i with
    | none => .stuck
    | some _ => (B ρ2).sb fun b ρ3 => match asI ρ3 b, lstAt ρ3 i with
      | some k, some ds => match ixN ds.length k with
        | some j => .nx (setAt ρ3 i (ds.set j d))
        | none => .stuck
      | _, _ => .stuck
theorem L_put {i : Nat} (ha : LE K E ta A) (hb : LE K E tb B) : LS K E (tAsg ta (gSub (tVar i) tb rSetL)) (sPut i A B) := by
  intro F G H σ ρ D R w
  refine ha F G H σ ρ _ R (w.sb fun v a G1 H1 ρ1 R1 s1 hx w1 => ?_)
  cases e : toVal ρ1 a with
  | none => rw [e] at w1; exact w1.elim
  | some p =>
    obtain ⟨d, ρ2⟩ := p
    rw [e] at w1
    dsimp only at w1
    obtain ⟨G2, R2, s2, r2⟩ := R1.toVal hx e
    cases e0 : lstAt ρ2 i with
    | none => rw [e0] at w1; exact w1.elim
    | some ds0 =>
      rw [e0] at w1
      dsimp only at w1
      obtain ⟨s, b, vs, h1, h2, h3, h4, h5, h6⟩ := R2.lstAt e0
      refine ⟨_, h3, hb F G2 H1 σ ρ2 _ R2 (w1.sb fun y k G3 H3 ρ3 R3 s3 hy w3 => ?_)⟩
      cases e1 : asI ρ3 k with
      | none => rw [e1] at w3; exact w3.elim
      | some n =>
        cases e2 : lstAt ρ3 i with
        | none => rw [e1, e2] at w3; exact w3.elim
        | some ds =>
          rw [e1, e2] at w3
          dsimp only at w3
          cases e3 : ixN ds.length n with
          | none => rw [e3] at w3; exact w3.elim
          | some j =>
            rw [e3] at w3
            obtain ⟨s', c, ws, g1, g2, g3, g4, g5, g6⟩ := R3.lstAt e2
            rw [h3] at g3
            cases g3
            exact ⟨b, ws, n, j, rfl, R3.asI hy e1, g5, by rw [g6.len]; exact e3, w3 _ _ _ (R3.setAt e2 h3 (g6.set j (r2.mono s3)))⟩
@[simp] def getF (f : Str) : List Str → List D → Option D
  | k :: ks, d :: ds => if k = f then some d else getF f ks ds
  | _, _ => none
theorem getF_rep {f : Str} {d : D} : ∀ {fs : List (Str × V)} {ks : List Str} {ds : List D}, fs.map (·.1) = ks → RepA K G (fs.map (·.2)) ds → getF f ks ds = some d → ∃ v, fs.lookup f = some v ∧ Rep K G v d
  | [], _, _, rfl, r, e => by cases e
  | (k, x) :: fs, _, _, rfl, r, e => by
    rw [List.map_cons] at r
    cases r with
    | cons h r =>
      simp only [List.map_cons, getF] at e
      by_cases q : k = f
      · rw [if_pos q] at e
        cases e
        exact ⟨x, by simp [List.lookup, q], h⟩
      · rw [if_neg q] at e
        obtain ⟨v, h1, h2⟩ := getF_rep (fs := fs) rfl r e
        refine ⟨v, ?_, h2⟩
        have : (f == k) = false := by rw [beq_eq_false_iff_ne]; exact fun z => q z.symm
        simp only [List.lookup, this]
        exact h1
def dFld (Cs : List Addr) (f : Str) (A : En → Res X) : En → Res X := fun ρ => (A ρ).bind fun a ρ1 => match deref ρ1 a with
  | some (.ins C ks ds) => if C ∈ Cs then lift ((getF f ks ds).map X.val) ρ1 else .stuck
  | _ => .stuck
theorem L_fld {Cs : List Addr} {f : Str} (hc : ∀ C ∈ Cs, Cls K C ∧ NoAttr K C f) (ha : LE K E ta A) : LE K E (tFld K ta f) (dFld Cs f A) := by
  refine LG.bind (k := fun x σ H (Q : VK) => ∃ a C dx fs v, x = .ref a ∧ H a = some (.ins C dx fs) ∧ Cls K C ∧ NoAttr K C f ∧ fs.lookup f = some v ∧ Q v H) ha fun F G H σ ρ x a Q R hx w => ?_
  cases e : deref ρ a with
  | none => rw [e] at w; exact w.elim
  | some d =>
    rw [e] at w
    have hd := R.deref hx e
    cases d <;> try exact w.elim
    rename_i C ks ds
    dsimp only at w
    split at w
    · rename_i hC
      obtain ⟨z, ez, q⟩ := w.lift
      rw [Option.map_eq_some_iff] at ez
      obtain ⟨d, ez, rfl⟩ := ez
      obtain ⟨b, dx, fs, rfl, h1, h2, h3⟩ := hd.ins R.gh
      obtain ⟨v, h4, h5⟩ := getF_rep h2 h3 ez
      exact ⟨b, C, dx, fs, v, rfl, h1, (hc C hC).1, (hc C hC).2, h4, q _ G H R (Same.refl G) h5⟩
    · exact w.elim
@[simp] def putFD (f : Str) (d : D) : List Str → List D → List Str × List D
  | k :: ks, e :: ds => if k = f then (k :: ks, d :: ds) else ((k :: (putFD f d ks ds).1), (e :: (putFD f d ks ds).2))
  | _, _ => ([f], [d])
theorem putF_rep {f : Str} {v : V} {d : D} (h : Rep K G v d) : ∀ {fs : List (Str × V)} {ks : List Str} {ds : List D}, fs.map (·.1) = ks → RepA K G (fs.map (·.2)) ds → (putF f v fs).map (·.1) = (putFD f d ks ds).1 ∧ RepA K G ((putF f v fs).map (·.2)) (putFD f d ks ds).2
  | [], _, _, rfl, r => by
    cases r
    exact ⟨rfl, .cons h .nil⟩
  | (k, x) :: fs, _, _, rfl, r => by
    rw [List.map_cons] at r
    cases r with
    | cons h0 r =>
      obtain ⟨h1, h2⟩ := putF_rep h (fs := fs) rfl r
      rw [show putF f v ((k, x) :: fs) = (if k = f then (k, v) :: fs else (k, x) :: putF f v fs) from rfl]
      simp only [List.map_cons, putFD]
      by_cases q : k = f
      · rw [if_pos q, if_pos q]
        exact ⟨rfl, .cons h r⟩
      · rw [if_neg q, if_neg q]
        exact ⟨by rw [List.map_cons, h1], .cons h0 h2⟩
@[simp] def insAt (ρ : En) (i : Nat) : Option (Addr × List Str × List D) := match ρ[i]? with
  | some (.own (.ins C ks ds)) | some (.bor (.ins C ks ds)) => some (C, ks, ds)
  | _ => none
@[simp] def setIns (ρ : En) (i : Nat) (o : O) : En := match ρ[i]? with
  | some (.own _) => ρ.set i (.own o)
  | some (.bor _) => ρ.set i (.bor o)
  | _ => ρ
def sFldD (Cs : List Addr) (i : Nat) (f : Str) (A : En → Res X) : En → SR := fun ρ => (A ρ).sb fun a ρ1 => match toVal ρ1 a with
  | none => .stuck
  | some (d, ρ2) => match insAt ρ2 i with
    | some (C, ks, ds) => if C ∈ Cs ∧ ks.length < 1000 then .nx (setIns ρ2 i (.ins C (putFD f d ks ds).1 (putFD f d ks ds).2)) else .stuck
    | none => .stuck
theorem L_sfld {Cs : List Addr} {i : Nat} {f : Str} (hc : ∀ C ∈ Cs, Cls K C ∧ NoAttr K C f) (ha : LE K E ta A) : LS K E (sFld K (tVar i) ta f) (sFldD Cs i f A) := by
  intro F G H σ ρ D R w
  refine ha F G H σ ρ _ R (w.sb fun v a G1 H1 ρ1 R1 s1 hx w1 => ?_)
  cases e : toVal ρ1 a with
  | none => rw [e] at w1; exact w1.elim
  | some p =>
    obtain ⟨d, ρ2⟩ := p
    rw [e] at w1
    dsimp only at w1
    obtain ⟨G2, R2, s2, r2⟩ := R1.toVal hx e
    cases e0 : insAt ρ2 i with
    | none => rw [e0] at w1; exact w1.elim
    | some q =>
      obtain ⟨C, ks, ds⟩ := q
      rw [e0] at w1
      dsimp only at w1
      split at w1
      · rename_i hC
        obtain ⟨s, hs, hco⟩ : ∃ s, ρ2[i]? = some s ∧ s.co = some (.ins C ks ds) := by
          unfold insAt at e0
          split at e0
          · rename_i e; cases e0; exact ⟨_, e, rfl⟩
          · rename_i e; cases e0; exact ⟨_, e, rfl⟩
          · cases e0
        obtain ⟨b, h1, h2, dx, fs, h3, h4, h5⟩ := R2.holder hs hco
        obtain ⟨p1, p2⟩ := putF_rep (f := f) r2 h4 h5
        refine ⟨_, h1, b, C, dx, fs, rfl, h3, (hc C hC.1).1, (hc C hC.1).2, by rw [← h4, List.length_map] at hC; exact hC.2, ?_⟩
        rcases co_cases hco with rfl | rfl
        · have R3 := R2.mut hs (s' := .own (.ins C (putFD f d ks ds).1 (putFD f d ks ds).2)) rfl h1 (u := .ins C dx (putF f v fs)) ⟨dx, _, upd_same, p1, p2⟩
          have e : setIns ρ2 i (.ins C (putFD f d ks ds).1 (putFD f d ks ds).2) = ρ2.set i (.own (.ins C (putFD f d ks ds).1 (putFD f d ks ds).2)) := by
            unfold setIns
            rw [hs]
          rw [e] at w1
          exact w1 _ _ _ R3
        · have R3 := R2.mut hs (s' := .bor (.ins C (putFD f d ks ds).1 (putFD f d ks ds).2)) rfl h1 (u := .ins C dx (putF f v fs)) ⟨dx, _, upd_same, p1, p2⟩
          have e : setIns ρ2 i (.ins C (putFD f d ks ds).1 (putFD f d ks ds).2) = ρ2.set i (.bor (.ins C (putFD f d ks ds).1 (putFD f d ks ds).2)) := by
            unfold setIns
            rw [hs]
          rw [e] at w1
          exact w1 _ _ _ R3
      · exact w1.elim
def newAt (x : X) : Bool := match x with
  | .new _ => true
  | _ => false
/-- values one beside the other, new ones among them -/
inductive RepXn (K : Fg) (F : Fm) (G H : Hp) (σ : L2.St) (ρ : En) : List V → List X → Prop
  | nil : RepXn K F G H σ ρ [] []
  | cons {v : V} {vs : List V} {x : X} {xs : List X} : RepX K F G H σ ρ v x → (newAt x = true → ∀ (j : Nat) (y : X), xs[j]? = some y → newAt y = true → vs[j]? ≠ some v) → RepXn K F G H σ ρ vs xs → RepXn K F G H σ ρ (v :: vs) (x :: xs)
theorem RepXn.get : ∀ {vs : List V} {xs : List X} {j : Nat} {y : X}, RepXn K F G H σ ρ vs xs → xs[j]? = some y → ∃ v, vs[j]? = some v ∧ RepX K F G H σ ρ v y
  | _, _, _, _, .nil, e => by simp at e
  | _, _, 0, _, .cons h _ _, e => by simp at e; subst e; exact ⟨_, rfl, h⟩
  | _, _, j + 1, _, .cons _ _ r, e => by
    obtain ⟨v, h1, h2⟩ := r.get (j := j) (by simpa using e)
    exact ⟨v, by simpa using h1, h2⟩
abbrev LN (K : Fg) (E : XK) (t : TA) (T : En → Res (List X)) : Prop := LG K E (RepXn K) t T
def nCons (A : En → Res X) (T : En → Res (List X)) : En → Res (List X) := fun ρ => (A ρ).bind fun a ρ1 => match a with
  | .own j => match toVal ρ1 (.own j) with
    | some (d, ρ2) => (T ρ2).bind fun as ρ3 => .ok (.val d :: as) ρ3
    | none => .stuck
  | a => (T ρ1).bind fun as ρ2 => .ok (a :: as) ρ2
theorem N_nil : LN K E tNil aNil := fun F G H σ ρ Q R w => w [] G H R (Same.refl G) .nil
theorem RepXn.unhold {a : Addr} {o : HO} (h0 : F.H0 a = none) : ∀ {vs : List V} {xs : List X}, RepXn K (F.hold a o) G H σ ρ vs xs → RepXn K F G H σ ρ vs xs
  | _, _, .nil => .nil
  | _, _, .cons h n r => .cons (h.unhold h0) n (r.unhold h0)
theorem N_cons (ha : LE K E ta A) (ht : LN K E t T) : LN K E (tCons ta t) (nCons A T) := by
  refine LG.bind (k := fun x σ H (Q : List V → Hp → Prop) => t σ H fun xs H2 => Q (x :: xs) H2) ha fun F G H σ ρ x a Q R hx w => ?_
  cases a with
  | val d =>
    exact ht F G H σ ρ _ R (w.bind fun ys b G2 H2 ρ2 R2 s2 hy w2 => w2 _ G2 H2 R2 (Same.refl G2) (.cons (Rep.mono s2 hx) (fun z => by cases z) hy))
  | own i =>
    have w' : Wants K E (RepXn K) F G σ Q (match toVal ρ (.own i) with
      | some (d, ρ2) => (T ρ2).bind fun as ρ3 => .ok (.val d :: as) ρ3
      | none => .stuck) := w
    cases e : toVal ρ (.own i) with
    | none => rw [e] at w'; exact w'.elim
    | some p =>
      obtain ⟨d, ρ2⟩ := p
      rw [e] at w'
      dsimp only at w'
      obtain ⟨G1, R1, s1, r1⟩ := R.toVal hx e
      exact ht F G1 H σ ρ2 _ R1 ((w'.mono s1).bind fun ys b G2 H2 ρ2 R2 s2 hy w2 => w2 _ G2 H2 R2 (Same.refl G2) (.cons (Rep.mono s2 r1) (fun z => by cases z) hy))
  | new o =>
    obtain ⟨p, rfl, h0, hg, ho, n⟩ := hx
    obtain ⟨u, hu⟩ := ho.ex
    have R1 := R.hold hu h0 hg n
    have hg0 : F.G0 p = none := none_of R.g0 hg
    have hl := R.noL h0
    have hm := R.noM h0
    have back : ∀ {G2 H2 : Hp} {ρ2 : En}, Rl K (F.hold p u) G2 H2 σ ρ2 → Rl K F G2 H2 σ ρ2 := fun R2 => R2.unhold h0 hl hm
    refine ht (F.hold p u) G H σ ρ _ R1 ?_
    -- what is wanted in the frame in which p is held
    have w' : Wants K E (RepXn K) F G σ Q ((T ρ).bind fun as ρ2 => .ok (.new o :: as) ρ2) := w
    cases e : T ρ with
    | ok b ρ2 =>
      rw [e] at w'
      intro ys G2 H2 R2 s2 hy
      have hH := R2.heldH hm
      refine w' _ G2 H2 (back R2) s2 (.cons ⟨p, rfl, h0, R2.heldG hg0, ho.mono s2 (fun x ex => by rw [hu] at ex; cases ex; exact hH), R2.heldN⟩ (fun _ j y hj hn => ?_) (hy.unhold h0))
      obtain ⟨v, h1, h2⟩ := hy.get hj
      cases y with
      | new o' =>
        obtain ⟨q, rfl, g0, _⟩ := h2
        rw [h1]
        intro z
        cases z
        rw [show (F.hold p u).H0 p = some u from upd_same] at g0
        cases g0
      | val d => cases hn
      | own i => cases hn
    | err x ρ2 =>
      rw [e] at w'
      exact fun c od G2 H2 R2 s2 hx => w' c od G2 H2 (back R2) s2 hx
    | stuck =>
      rw [e] at w'
      exact w'
@[simp] def puts : List Nat → List X → En → SR
  | [], [], ρ => .nx ρ
  | i :: is, .val d :: xs, ρ => if freeAt ρ i then puts is xs (ρ.set i (.val d)) else .stuck
  | i :: is, .new o :: xs, ρ => if freeAt ρ i then puts is xs (ρ.set i (.own o)) else .stuck
  | _, _, _ => .stuck
def setsV : L2.St → List Nat → List V → L2.St
  | σ, i :: is, v :: vs => setsV (σ.set i (some v)) is vs
  | σ, _, _ => σ
theorem RepXn.put {i : Nat} {v : V} {s : Slot} (hs : ∀ o, s = .own o → ∃ a, v = .ref a) (hv : ∀ o, s = .own o → True) (hl : i < ρ.length) (hl' : i < σ.length) : ∀ {vs : List V} {xs : List X}, RepXn K F G H σ ρ vs xs → (∀ o, s = .own o → ∀ (j : Nat) (y : X), xs[j]? = some y → newAt y = true → vs[j]? ≠ some v) → (∀ (j : Nat) (y : X), xs[j]? = some y → ∀ k, y ≠ .own k) → RepXn K F G H (σ.set i (some v)) (ρ.set i s) vs xs
  | _, _, .nil, _, _ => .nil
  | w :: vs, x :: xs, .cons h n r, q, no => by
    refine .cons ?_ n (r.put hs hv hl hl' (fun o e j y hj hn => q o e (j + 1) y (by simpa using hj) hn) (fun j y hj => no (j + 1) y (by simpa using hj)))
    cases x with
    | val d => exact h
    | own k => exact absurd rfl (no 0 _ rfl k)
    | new o =>
      obtain ⟨a, rfl, h0, hg, ho, nn⟩ := h
      refine ⟨a, rfl, h0, hg, ho, fun j u hj z => ?_⟩
      rcases getset hj with ⟨rfl, e, _⟩ | ⟨ne, hj⟩
      · rw [List.getElem?_set_self hl'] at z
        cases z
        exact q u e 0 _ rfl rfl rfl
      · rw [List.getElem?_set_ne ne] at z
        exact nn j u hj z
theorem puts_no {D : Ends} : ∀ {is : List Nat} {xs : List X} {ρ : En}, WS K E F D (puts is xs ρ) → ∀ (j : Nat) (y : X), xs[j]? = some y → ∀ k, y ≠ .own k
  | _, [], _, _ => fun j y hj => by simp at hj
  | [], _ :: _, _, w => by unfold puts at w; exact w.elim
  | _ :: _, .own _ :: _, _, w => by unfold puts at w; exact w.elim
  | i :: is, .val d :: xs, ρ, w => by
    unfold puts at w
    split at w
    · intro j y hj k e
      cases j with
      | zero => simp at hj; rw [← hj] at e; cases e
      | succ j => exact puts_no w j y (by simpa using hj) k e
    · exact w.elim
  | i :: is, .new o :: xs, ρ, w => by
    unfold puts at w
    split at w
    · intro j y hj k e
      cases j with
      | zero => simp at hj; rw [← hj] at e; cases e
      | succ j => exact puts_no w j y (by simpa using hj) k e
    · exact w.elim
theorem puts_run {D : Ends} : ∀ {is : List Nat} {vs : List V} {xs : List X} {σ : L2.St} {ρ : En}, Rl K F G H σ ρ → RepXn K F G H σ ρ vs xs → WS K E F D (puts is xs ρ) → D.nx (setsV σ is vs) H
  | [], [], [], σ, ρ, R, .nil, w => w σ G H R
  | [], _ :: _, _ :: _, σ, ρ, R, .cons .., w => by unfold puts at w; exact w.elim
  | _ :: _, [], [], σ, ρ, R, .nil, w => by unfold puts at w; exact w.elim
  | i :: is, v :: vs, .own k :: xs, σ, ρ, R, .cons .., w => by unfold puts at w; exact w.elim
  | i :: is, v :: vs, .val d :: xs, σ, ρ, R, .cons h n r, w => by
    unfold puts at w
    split at w
    · rename_i hf
      have hl := freeAt_lt hf
      show D.nx (setsV (σ.set i (some v)) is vs) H
      exact puts_run (R.put (s := .val d) hf ⟨v, rfl, h⟩ rfl fun o e => nomatch e) (r.put (s := .val d) (fun o e => nomatch e) (fun o e => trivial) hl (R.lt hl) (fun o e => nomatch e) (puts_no w)) w
    · exact w.elim
  | i :: is, v :: vs, .new o :: xs, σ, ρ, R, .cons h n r, w => by
    unfold puts at w
    split at w
    · rename_i hf
      have hl := freeAt_lt hf
      obtain ⟨a, rfl, h0, hg, ho, nn⟩ := h
      show D.nx (setsV (σ.set i (some (V.ref a))) is vs) H
      exact puts_run (R.put (s := .own o) hf ⟨a, rfl, h0, hg, ho⟩ rfl fun o e j o' hj hr => nn j o' hr) (r.put (s := .own o) (fun o e => ⟨a, rfl⟩) (fun o e => trivial) hl (R.lt hl) (fun _ _ j y hj hn => n rfl j y hj hn) (puts_no w)) w
    · exact w.elim
def sMulti (is : List Nat) (T : En → Res (List X)) : En → SR := fun ρ => (T ρ).sb fun xs ρ1 => puts is xs ρ1
theorem puts_len {D : Ends} : ∀ {is : List Nat} {xs : List X} {ρ : En}, WS K E F D (puts is xs ρ) → xs.length = is.length
  | [], [], _, _ => rfl
  | [], _ :: _, _, w => by unfold puts at w; exact w.elim
  | _ :: _, [], _, w => by unfold puts at w; exact w.elim
  | _ :: _, .own _ :: _, _, w => by unfold puts at w; exact w.elim
  | i :: is, .val d :: xs, ρ, w => by
    unfold puts at w
    split at w
    · rw [List.length_cons, List.length_cons, puts_len w]
    · exact w.elim
  | i :: is, .new d :: xs, ρ, w => by
    unfold puts at w
    split at w
    · rw [List.length_cons, List.length_cons, puts_len w]
    · exact w.elim
theorem RepXn.len : ∀ {vs : List V} {xs : List X}, RepXn K F G H σ ρ vs xs → vs.length = xs.length
  | _, _, .nil => rfl
  | _, _, .cons _ _ r => by rw [List.length_cons, List.length_cons, r.len]
theorem len3 {α : Type} {l : List α} (h : l.length = 3) : ∃ a b c, l = [a, b, c] := by
  match l, h with
  | [a, b, c], _ => exact ⟨a, b, c, rfl⟩
theorem L_par3 {i j k : Nat} (ht : LN K E t T) : LS K E (tPar3 i j k t) (sMulti [i, j, k] T) := by
  intro F G H σ ρ D R w
  refine ht F G H σ ρ _ R (w.sb fun vs xs G1 H1 ρ1 R1 s1 hx w1 => ?_)
  obtain ⟨v, u, z, rfl⟩ := len3 (hx.len.trans (puts_len w1))
  exact ⟨v, u, z, rfl, puts_run R1 hx w1⟩
end
end DL
set_option Elab.async false
set_option linter.all false
set_option maxRecDepth 100000
set_option maxHeartbeats 2000000
namespace DL
open PySem PySem.Spec PyProof.Rows L2 DD
section
variable {K : Fg} {E : XK} {F : Fm} {G G' H H' : Hp} {σ σ' : L2.St} {ρ ρ' : En} {ta tb : TE} {A B : En → Res X} {t : TA} {T : En → Res (List X)}
/-- what an iterator hands on, turn by turn, while P holds of the heap -/
structure Its (K : Fg) (P : Hp → Prop) (G1 : Hp) (J : It) (ds : List D) : Prop where
  go : ∀ G H, Same G1 G → Same G H → P H → ∀ i, i < ds.length → J.go i H
  stop : ∀ G H, Same G1 G → Same G H → P H → ∀ i, ds.length ≤ i → J.stop i H
  yld : ∀ F G H σ ρ, Rl K F G H σ ρ → Same G1 G → P H → ∀ i x H', i < ds.length → J.yld i H x H' → ∃ G', Rl K F G' H' σ ρ ∧ Same G G' ∧ (∀ u, Same H u → Same H H' ∨ True) ∧ Same H H' ∧ ∃ d, ds[i]? = some d ∧ Rep K G' x d
abbrev LI (K : Fg) (E : XK) (wi : TI) (S : En → Res (List D)) : Prop := LG K E (fun _ G _ _ _ J ds => Its K (fun _ => True) G J ds) wi S
theorem its_list {G1 : Hp} {a : Addr} {vs : List V} {ds : List D} {P : Hp → Prop} (h : ∀ G H, Same G1 G → Same G H → P H → SqL K H a vs) (r : RepA K G1 vs ds) : Its K P G1 (Itl K a) ds where
  go := fun G H e k p i hi => by
    have hi' : i < vs.length := by rw [r.len]; exact hi
    exact ⟨vs, _, h G H e k p, List.getElem?_eq_getElem hi'⟩
  stop := fun G H e k p i hi => ⟨vs, h G H e k p, by rw [r.len]; exact hi⟩
  yld := fun F G H σ ρ R e p i x H' hi hy => by
    obtain ⟨rfl, hy⟩ := hy
    have hv := hy vs (h G H' e R.gh p)
    obtain ⟨d, h1, h2⟩ := r.get' hv
    exact ⟨G, R, Same.refl G, fun _ _ => .inr trivial, Same.refl _, d, h1, h2.mono e⟩
theorem its_tup {a : Addr} {vs : List V} {ds : List D} {G1 : Hp} (h : SqT K G1 a vs) (r : RepA K G1 vs ds) : Its K (fun _ => True) G1 (Itt K a) ds where
  go := fun G H e k p i hi => by
    have hi' : i < vs.length := by rw [r.len]; exact hi
    exact ⟨vs, _, smTup (e.trans k) h, List.getElem?_eq_getElem hi'⟩
  stop := fun G H e k p i hi => ⟨vs, smTup (e.trans k) h, by rw [r.len]; exact hi⟩
  yld := fun F G H σ ρ R e p i x H' hi hy => by
    obtain ⟨rfl, hy⟩ := hy
    have hv := hy vs (smTup (e.trans R.gh) h)
    obtain ⟨d, h1, h2⟩ := r.get' hv
    exact ⟨G, R, Same.refl G, fun _ _ => .inr trivial, Same.refl _, d, h1, h2.mono e⟩
theorem its_rng {lo : Int} {n : Nat} {G1 : Hp} : Its K (fun _ => True) G1 (Itr lo n) ((List.range n).map fun i => D.int (lo + (i : Nat))) where
  go := fun G H e k p i hi => by
    rw [List.length_map, List.length_range] at hi
    exact hi
  stop := fun G H e k p i hi => by
    rw [List.length_map, List.length_range] at hi
    exact hi
  yld := fun F G H σ ρ R e p i x H' hi hy => by
    obtain ⟨rfl, rfl⟩ := hy
    rw [List.length_map, List.length_range] at hi
    refine ⟨G, R, Same.refl G, fun _ _ => .inr trivial, Same.refl _, D.int (lo + i), ?_, .int _⟩
    rw [List.getElem?_map, List.getElem?_range hi]
    rfl
/-- a list or a tuple, frozen -/
def iSeq (K : Fg) (tl : TE) : TI := fun σ H R => tl σ H fun x H1 => ∃ a, x = .ref a ∧ (((∃ xs, SqL K H1 a xs) ∧ R (Itl K a) H1) ∨ ((∃ xs, SqT K H1 a xs) ∧ R (Itt K a) H1))
theorem pi_seq {X : Cx} {K : Fg} {tg l : Expr} {tl : TE} (hl : PE X l tl) (h : X.K = K := by rfl) : PI X tg l (iSeq K tl) := by
  subst h
  refine ⟨fun pins s σ H R I h => ?_⟩
  refine thn (hl.run pins s σ H _ I h) fun v s1 ⟨x, H1, I1, r1, q1⟩ => ?_
  obtain ⟨a, e, q⟩ := q1
  subst e
  rcases q with ⟨⟨xs, hq⟩, q⟩ | ⟨⟨xs, hq⟩, q⟩
  · cases r1
    obtain ⟨its, rv, p, hz⟩ := I1.list hq
    refine wpAny_pyIter_list p.isList ?_
    refine ⟨s1.heap.objs.size, [s1.heap.objs.size], _, _, H1, rfl, I1.kept (t' := s1.toks) fun b o e => Heap.get?_push_of_some _ e, turn_list a _, ⟨_, Heap.get?_push_size _ rfl, rfl, rfl⟩, fun b hb => ?_, q⟩
    have e : b = s1.heap.objs.size := by simpa using hb
    subst e
    exact I1.fpOk (Nat.le_refl _) (I1.hok.fresh (Nat.le_refl _))
  · cases r1
    obtain ⟨its, rv, p, hz⟩ := I1.tuple hq
    refine wpAny_pyIter_tuple (show s1.heap.IsTuple a its.toArray from p) ?_
    refine ⟨s1.heap.objs.size, [s1.heap.objs.size], _, _, H1, rfl, I1.kept (t' := s1.toks) fun b o e => Heap.get?_push_of_some _ e, turn_tuple a _, ⟨_, Heap.get?_push_size _ rfl, rfl, rfl⟩, fun b hb => ?_, q⟩
    have e : b = s1.heap.objs.size := by simpa using hb
    subst e
    exact I1.fpOk (Nat.le_refl _) (I1.hok.fresh (Nat.le_refl _))
def dRng1 (A : En → Res X) : En → Res (List D) := fun ρ => (A ρ).bind fun a ρ1 => match asI ρ1 a with
  | some j => if -(2 ^ 62) ≤ j ∧ j < 2 ^ 62 then .ok ((List.range j.toNat).map fun i => D.int (0 + (i : Nat))) ρ1 else .stuck
  | none => .stuck
def dRng2 (A B : En → Res X) : En → Res (List D) := fun ρ => (A ρ).bind fun a ρ1 => (B ρ1).bind fun b ρ2 => match asI ρ2 a.settle, asI ρ2 b with
  | some i, some j => if -(2 ^ 62) ≤ i ∧ i < 2 ^ 62 ∧ -(2 ^ 62) ≤ j ∧ j < 2 ^ 62 then .ok ((List.range (j - i).toNat).map fun n => D.int (i + (n : Nat))) ρ2 else .stuck
  | _, _ => .stuck
theorem I_rng1 (ha : LE K E ta A) : LI K E (iRng1 (tCons ta tNil)) (dRng1 A) := by
  intro F G H σ ρ Q R w
  refine ha F G H σ ρ _ R (Wants.bind w fun x a G1 H1 ρ1 R1 s1 hx w1 => ?_)
  cases e : asI ρ1 a with
  | none => rw [e] at w1; exact w1.elim
  | some j =>
    rw [e] at w1
    dsimp only at w1
    split at w1
    · rename_i hc
      exact ⟨j, by rw [R1.asI hx e], hc.1, hc.2, w1 _ G1 H1 R1 (Same.refl G1) its_rng⟩
    · exact w1.elim
def forL (U : Tg) (B : En → SR) : List D → En → SR
  | [], ρ => .nx ρ
  | d :: ds, ρ => match U d ρ with
    | none => .stuck
    | some ρ1 => match B ρ1 with
      | .nx ρ2 => forL U B ds ρ2
      | .ct ρ2 => forL U B ds ρ2
      | .bk ρ2 => .nx ρ2
      | r => r
theorem WS.back {D : Ends} (R : Rl K F G H σ ρ) : ∀ {r : SR}, WS K E F D r → WS K E (F.at G) D r
  | .nx ρ', w => fun σ' G' H' R' => w σ' G' H' (R.back R')
  | .bk ρ', w => fun σ' G' H' R' => w σ' G' H' (R.back R')
  | .ct ρ', w => fun σ' G' H' R' => w σ' G' H' (R.back R')
  | .rt x ρ', w => fun v σ' G' H' R' hx => w v σ' G' H' (R.back R') hx.at
  | .err x ρ', w => fun c od σ' G' H' R' hx => w c od σ' G' H' (R.back R') hx
  | .stuck, w => w
theorem for_core {u : TS} {U : Tg} {B : En → SR} {g : TG} {vs : List Nat} {D : Ends} {J : It} {ds : List DL.D} {P : Hp → Prop} (hb : LS K E u B) (hg : LTg K vs g U) (R : Rl K F G H σ ρ) (hI : Its K P G J ds)
    (hP : ∀ G' H' σ' ρ', Rl K (F.at G) G' H' σ' ρ' → P H') (w : WS K E F D (forL U B ds ρ)) :
    ∃ W : Nat → Nat → L2.St → Hp → Prop, (∃ m, W 0 m σ H) ∧ ∀ i m σ H, W i m σ H →
      (J.stop i H ∧ D.nx σ H) ∨ (J.go i H ∧ ∃ N : L2.St → Hp → Prop, (∀ σ' H', N σ' H' → ∃ m', m' < m ∧ W (i + 1) m' σ' H') ∧ ∀ x H', J.yld i H x H' → g x σ H' fun σ2 H2 => u { D with nx := N, ct := N, bk := D.nx } σ2 H2) := by
  refine ⟨fun i m σ' H' => ∃ G' ρ', Rl K (F.at G) G' H' σ' ρ' ∧ i + m = ds.length ∧ WS K E (F.at G) D (forL U B (ds.drop i) ρ'), ⟨ds.length, G, ρ, R.at, by omega, w.back R⟩, ?_⟩
  rintro i m σ' H' ⟨G', ρ', R', hm, w'⟩
  cases m with
  | zero =>
    rw [List.drop_eq_nil_of_le (by omega)] at w'
    exact .inl ⟨hI.stop G' H' R'.g0 R'.gh (hP _ _ _ _ R') i (by omega), w' σ' G' H' R'⟩
  | succ m =>
    have hi : i < ds.length := by omega
    rw [List.drop_eq_getElem_cons hi] at w'
    refine .inr ⟨hI.go G' H' R'.g0 R'.gh (hP _ _ _ _ R') i hi, fun σ2 H2 => ∃ G2 ρ2, Rl K (F.at G) G2 H2 σ2 ρ2 ∧ WS K E (F.at G) D (forL U B (ds.drop (i + 1)) ρ2), fun σ2 H2 ⟨G2, ρ2, R2, w2⟩ => ⟨m, by omega, G2, ρ2, R2, by omega, w2⟩, fun x H3 hy => ?_⟩
    obtain ⟨G3, R3, s3, _, k3, d, hd, hr⟩ := hI.yld _ _ _ _ _ R' R'.g0 (hP _ _ _ _ R') i x H3 hi hy
    rw [List.getElem?_eq_getElem hi] at hd
    cases hd
    unfold forL at w'
    cases e : U ds[i] ρ' with
    | none => rw [e] at w'; exact w'.elim
    | some ρ1 =>
      rw [e] at w'
      dsimp only at w'
      refine hg _ _ _ _ _ ρ1 x _ _ R3 hr e fun σ4 R4 _ => hb _ _ _ _ ρ1 _ R4 ?_
      cases e2 : B ρ1 with
      | nx ρ2 => rw [e2] at w'; exact fun σ5 G5 H5 R5 => ⟨G5, ρ2, R5, w'⟩
      | ct ρ2 => rw [e2] at w'; exact fun σ5 G5 H5 R5 => ⟨G5, ρ2, R5, w'⟩
      | bk ρ2 => rw [e2] at w'; exact w'
      | rt y ρ2 => rw [e2] at w'; exact w'
      | err y ρ2 => rw [e2] at w'; exact w'
      | stuck => rw [e2] at w'; exact w'
def sFor (S : En → Res (List D)) (U : Tg) (B : En → SR) : En → SR := fun ρ => (S ρ).sb fun ds ρ1 => forL U B ds ρ1
theorem L_for {wi : TI} {S : En → Res (List D)} {u : TS} {U : Tg} {B : En → SR} {g : TG} {vs : List Nat} (hi : LI K E wi S) (hg : LTg K vs g U) (hb : LS K E u B) : LS K E (tFor wi g u) (sFor S U B) := by
  intro F G H σ ρ D R w
  exact hi F G H σ ρ _ R (w.sb fun J ds G1 H1 ρ1 R1 s1 hI w1 => for_core hb hg R1 hI (fun _ _ _ _ _ => trivial) w1)
@[simp] def unlockE (ρ : En) (i : Nat) : En := match ρ[i]? with
  | some (.lck o) => ρ.set i (.own o)
  | _ => ρ
@[simp] def SR.unlock (i : Nat) : SR → SR
  | .nx ρ => .nx (unlockE ρ i)
  | .bk ρ => .bk (unlockE ρ i)
  | .ct ρ => .ct (unlockE ρ i)
  | .rt x ρ => .rt x (unlockE ρ i)
  | .err x ρ => .err x (unlockE ρ i)
  | .stuck => .stuck
def Fm.lock (F : Fm) (i : Nat) (a : Addr) (o : HO) : Fm := { F with H0 := upd F.H0 a o, L := fun j => if j = i then some a else F.L j }
theorem Rl.lock {i : Nat} {o : O} {u : HO} {a : Addr} (R : Rl K F G H σ ρ) (h : ρ[i]? = some (.own o)) (ha : σ[i]? = some (some (.ref a))) (hu : H a = some u) : Rl K (F.lock i a u) G H σ (ρ.set i (.lck o)) := by
  obtain ⟨b, h1, h0, hg, ho⟩ := R.own h
  rw [ha] at h1
  cases h1
  have hil : i < ρ.length := (List.getElem?_eq_some_iff.mp h).1
  have n : ∀ (j : Nat) (w : O), (ρ.set i (.lck o))[j]? = some (.own w) → σ[j]? ≠ some (some (.ref a)) := fun j w hj z => by
    rcases getset hj with ⟨_, e, _⟩ | ⟨ne, hj⟩
    · cases e
    · exact ne (R.di i j _ _ a h hj ha z)
  have hf : freeAt ρ i = true := by unfold freeAt; rw [h]; rfl
  have eσ : σ.set i (some (.ref a)) = σ := by
    apply List.ext_getElem?
    intro j
    by_cases e : i = j
    · subst e
      rw [List.getElem?_set_self (R.lt hil), ha]
    · rw [List.getElem?_set_ne e]
  have R1 : Rl K F G H σ (ρ.set i .none) := by
    have := R.forget (i := i) (x := some (.ref a)) hf
    rw [eσ] at this
    exact this
  have n1 : ∀ (j : Nat) (w : O), (ρ.set i Slot.none)[j]? = some (.own w) → σ[j]? ≠ some (some (.ref a)) := fun j w hj z => by
    rcases getset hj with ⟨_, e, _⟩ | ⟨ne, hj⟩
    · cases e
    · exact ne (R.di i j _ _ a h hj ha z)
  have R2 := R1.hold hu h0 hg n1
  refine ⟨R2.gh, R2.g0, R2.gn, R2.hk, fun j b hb => ?_, fun j b hb => ?_, fun j s hs => ?_, fun j k w w' b h1 h2 h3 h4 => ?_, R2.mi, R2.tb⟩
  · obtain ⟨g1, g2, w, g3⟩ := R2.hm j b hb
    refine ⟨g1, g2, w, ?_⟩
    by_cases q : i = j
    · subst q
      rw [List.getElem?_set_self hil] at g3
      cases g3
    · rw [List.getElem?_set_ne q] at g3 ⊢
      exact g3
  · by_cases q : j = i
    · subst q
      exact ⟨o, List.getElem?_set_self hil⟩
    · have hb' : F.L j = some b := by
        rw [show (F.lock i a u).L j = if j = i then some a else F.L j from rfl, if_neg q] at hb
        exact hb
      obtain ⟨w, g3⟩ := R.hl j b hb'
      exact ⟨w, by rw [List.getElem?_set_ne (Ne.symm q)]; exact g3⟩
  · rcases getset hs with ⟨rfl, rfl, _⟩ | ⟨ne, hs⟩
    · refine ⟨_, ha, a, u, rfl, ?_, hg, upd_same, R.noM h0, ho⟩
      show (if i = i then some a else F.L i) = some a
      rw [if_pos rfl]
    · obtain ⟨x, g1, g2⟩ := R2.sl j s (by rw [List.getElem?_set_ne ne]; exact hs)
      refine ⟨x, g1, ?_⟩
      cases s with
      | none => trivial
      | val d => exact g2
      | own w => exact g2
      | bor w => exact g2
      | lck w =>
        obtain ⟨b, u', rfl, e2, e3, e5, e6, e4⟩ := g2
        refine ⟨b, u', rfl, ?_, e3, e5, e6, e4⟩
        show (if j = i then some a else F.L j) = some b
        rw [if_neg (Ne.symm ne)]
        exact e2
  · rcases getset h1 with ⟨_, e, _⟩ | ⟨n1, h1'⟩
    · cases e
    · rcases getset h2 with ⟨_, e, _⟩ | ⟨n2, h2'⟩
      · cases e
      · exact R.di j k w w' b h1' h2' h3 h4
theorem Rl.unlock {i : Nat} {u : HO} {a : Addr} (R : Rl K (F.lock i a u) G H σ ρ) (h0 : F.H0 a = none) (hL : F.L i = none) (hl : ∀ j, F.L j ≠ some a) (hm : ∀ j, F.M j ≠ some a) : Rl K F G H σ (unlockE ρ i) ∧ ∃ o, ρ[i]? = some (.lck o) := by
  obtain ⟨o, ho⟩ := R.hl i a (by show (if i = i then some a else F.L i) = some a; rw [if_pos rfl])
  refine ⟨?_, o, ho⟩
  have hil : i < ρ.length := (List.getElem?_eq_some_iff.mp ho).1
  have e : unlockE ρ i = ρ.set i (.own o) := by unfold unlockE; rw [ho]
  rw [e]
  obtain ⟨x, hx, b, u', rfl, hb, hg, hu', hM, hO⟩ := R.sl i _ ho
  have hba : b = a := by
    have : (if i = i then some a else F.L i) = some b := hb
    rw [if_pos rfl] at this
    exact (Option.some.inj this).symm
  subst hba
  have up : ∀ c, c ≠ b → (F.lock i b u).H0 c = F.H0 c := fun c q => upd_ne q
  have nown : ∀ (j : Nat) (w : O), ρ[j]? = some (.own w) → σ[j]? ≠ some (some (.ref b)) := fun j w hj z => by
    obtain ⟨c, g1, g2, _⟩ := R.own hj
    rw [g1] at z
    cases z
    rw [show (F.lock i b u).H0 b = some u from upd_same] at g2
    cases g2
  refine ⟨R.gh, R.g0, fun c w hc hc' => ?_, fun c w hc hc' => R.hk c w (by rw [up c (ne_of_none hc h0)]; exact hc) hc', fun j c hc => ?_, fun j c hc => ?_, fun j s hs => ?_, fun j k w w' c h1 h2 h3 h4 => ?_, R.mi, R.tb⟩
  · by_cases q : c = b
    · rw [q]; exact h0
    · have := R.gn c w hc hc'
      rw [up c q] at this
      exact this
  · obtain ⟨g1, g2, w, g3⟩ := R.hm j c hc
    refine ⟨g1, ?_, w, ?_⟩
    · rw [up c (fun q => hm j (by rw [← q]; exact hc))] at g2
      exact g2
    · rw [List.getElem?_set_ne (fun q => by rw [← q, ho] at g3; cases g3)]
      exact g3
  · have ne : j ≠ i := fun q => by rw [q, hL] at hc; cases hc
    obtain ⟨w, g⟩ := R.hl j c (by show (if j = i then some b else F.L j) = some c; rw [if_neg ne]; exact hc)
    exact ⟨w, by rw [List.getElem?_set_ne (Ne.symm ne)]; exact g⟩
  · rcases getset hs with ⟨rfl, rfl, _⟩ | ⟨ne, hs⟩
    · exact ⟨_, hx, b, rfl, h0, hg, hO⟩
    · obtain ⟨x, g1, g2⟩ := R.sl j s hs
      refine ⟨x, g1, ?_⟩
      cases s with
      | none => trivial
      | val d => exact g2
      | own w =>
        obtain ⟨c, rfl, e2, e3, e4⟩ := g2
        refine ⟨c, rfl, ?_, e3, e4⟩
        rw [up c (fun q => nown j w hs (by rw [g1, q]))] at e2
        exact e2
      | bor w => exact g2
      | lck w =>
        obtain ⟨c, y, rfl, e2, e3, e5, e6, e4⟩ := g2
        have e2' : F.L j = some c := by
          have : (if j = i then some b else F.L j) = some c := e2
          rw [if_neg (Ne.symm ne)] at this
          exact this
        refine ⟨c, y, rfl, e2', e3, ?_, e6, e4⟩
        rw [up c (fun q => hl j (by rw [← q]; exact e2'))] at e5
        exact e5
  · rcases getset h1 with ⟨rfl, _, _⟩ | ⟨n1, h1'⟩
    · rcases getset h2 with ⟨rfl, _, _⟩ | ⟨n2, h2'⟩
      · rfl
      · rw [hx] at h3
        cases h3
        exact absurd h4 (nown k w' h2')
    · rcases getset h2 with ⟨rfl, _, _⟩ | ⟨n2, h2'⟩
      · rw [hx] at h4
        cases h4
        exact absurd h3 (nown j w h1')
      · exact R.di j k w w' c h1' h2' h3 h4
theorem RepX.unlock {i : Nat} {u : HO} {a : Addr} {v : V} {x : X} (h : RepX K (F.lock i a u) G H σ ρ v x) (h0 : F.H0 a = none) (hx : ∀ o, ρ[i]? = some (.lck o) → ∃ b, σ[i]? = some (some (.ref b)) ∧ b = a) (ho : ∃ o, ρ[i]? = some (.lck o)) : RepX K F G H σ (unlockE ρ i) v x := by
  cases x with
  | val d => exact h
  | own j => exact h
  | new o =>
    obtain ⟨b, rfl, e2, e3, e4, e5⟩ := h
    have q : b ≠ a := fun q => by
      rw [q, show (F.lock i a u).H0 a = some u from upd_same] at e2
      cases e2
    refine ⟨b, rfl, ?_, e3, e4, fun j w hj z => ?_⟩
    · rw [show (F.lock i a u).H0 b = F.H0 b from upd_ne q] at e2
      exact e2
    · obtain ⟨o', ho'⟩ := ho
      have : unlockE ρ i = ρ.set i (.own o') := by unfold unlockE; rw [ho']
      rw [this] at hj
      rcases getset hj with ⟨rfl, _, _⟩ | ⟨ne, hj⟩
      · obtain ⟨c, g1, g2⟩ := hx o' ho'
        rw [g1] at z
        cases z
        exact q g2
      · exact e5 j w hj z
@[simp] def seqOf (A : En → Res X) : En → Res (Option Nat × List D) := fun ρ => (A ρ).bind fun a ρ1 => match a with
  | .val d => lift (d.items.map fun ds => (none, ds)) ρ1
  | .new o => lift (o.d.items.map fun ds => (none, ds)) ρ1
  | .own i => match ρ1[i]? with
    | some (.val d) => lift (d.items.map fun ds => (none, ds)) ρ1
    | some (.own (.lst ds)) => .ok (some i, ds) (ρ1.set i (.lck (.lst ds)))
    | _ => .stuck
def sForS (A : En → Res X) (U : Tg) (B : En → SR) : En → SR := fun ρ => (seqOf A ρ).sb fun p ρ1 => match p.1 with
  | none => forL U B p.2 ρ1
  | some i => (forL U B p.2 ρ1).unlock i
theorem its_rep {v : V} {d : D} {ds : List D} (R : Rl K F G H σ ρ) (h : Rep K G v d) (e : d.items = some ds) : ∃ a, v = .ref a ∧ (((∃ xs, SqL K H a xs) ∧ Its K (fun _ => True) G (Itl K a) ds) ∨ ((∃ xs, SqT K H a xs) ∧ Its K (fun _ => True) G (Itt K a) ds)) := by
  cases h with
  | tup g r => cases e; exact ⟨_, rfl, .inr ⟨⟨_, smTup R.gh g⟩, its_tup g r⟩⟩
  | lst g r =>
    cases e
    exact ⟨_, rfl, .inl ⟨⟨_, .inl (.inl (R.gh _ _ g))⟩, its_list (fun G' H' e k _ => .inl (.inl (k _ _ (e _ _ g)))) r⟩⟩
  | scr g r =>
    cases e
    exact ⟨_, rfl, .inl ⟨⟨_, smLst R.gh g⟩, its_list (fun G' H' e k _ => smLst (e.trans k) g) r⟩⟩
  | _ => cases e
theorem WS.unlock {i : Nat} {u : HO} {a : Addr} {D : Ends} (h0 : F.H0 a = none) (hL : F.L i = none) (hl : ∀ j, F.L j ≠ some a) (hm : ∀ j, F.M j ≠ some a) : ∀ {r : SR}, WS K E F D (r.unlock i) → WS K E (F.lock i a u) D r
  | .nx ρ', w => fun σ' G' H' R' => w σ' G' H' (R'.unlock h0 hL hl hm).1
  | .bk ρ', w => fun σ' G' H' R' => w σ' G' H' (R'.unlock h0 hL hl hm).1
  | .ct ρ', w => fun σ' G' H' R' => w σ' G' H' (R'.unlock h0 hL hl hm).1
  | .rt x ρ', w => fun v σ' G' H' R' hx => w v σ' G' H' (R'.unlock h0 hL hl hm).1 (hx.unlock h0 (fun o ho => by
      obtain ⟨x, g, b, u', rfl, hb, _⟩ := R'.sl i _ ho
      refine ⟨b, g, ?_⟩
      have : (if i = i then some a else F.L i) = some b := hb
      rw [if_pos rfl] at this
      exact (Option.some.inj this).symm) (R'.unlock h0 hL hl hm).2)
  | .err x ρ', w => fun c od σ' G' H' R' hx => w c od σ' G' H' (R'.unlock h0 hL hl hm).1 hx
  | .stuck, w => w
theorem L_forS {u : TS} {U : Tg} {B : En → SR} {g : TG} {vs : List Nat} (ha : LE K E ta A) (hg : LTg K vs g U) (hb : LS K E u B) : LS K E (tFor (iSeq K ta) g u) (sForS A U B) := by
  intro F G H σ ρ D R w
  unfold sForS seqOf at w
  refine ha F G H σ ρ _ R ?_
  -- one source
  have frozen : ∀ {v : V} {d : DL.D} {G1 H1 : Hp} {ρ1 : En}, Rl K F G1 H1 σ ρ1 → Rep K G1 v d → WS K E F D (((lift (d.items.map fun ds => ((none : Option Nat), ds)) ρ1)).sb fun p ρ1 => match p.1 with
      | none => forL U B p.2 ρ1
      | some i => (forL U B p.2 ρ1).unlock i) → ∃ a, v = .ref a ∧ (((∃ xs, SqL K H1 a xs) ∧ ∃ W : Nat → Nat → L2.St → Hp → Prop, (∃ m, W 0 m σ H1) ∧ ∀ i m σ H, W i m σ H → ((Itl K a).stop i H ∧ D.nx σ H) ∨ ((Itl K a).go i H ∧ ∃ N : L2.St → Hp → Prop, (∀ σ' H', N σ' H' → ∃ m', m' < m ∧ W (i + 1) m' σ' H') ∧ ∀ x H', (Itl K a).yld i H x H' → g x σ H' fun σ2 H2 => u { D with nx := N, ct := N, bk := D.nx } σ2 H2)) ∨
        ((∃ xs, SqT K H1 a xs) ∧ ∃ W : Nat → Nat → L2.St → Hp → Prop, (∃ m, W 0 m σ H1) ∧ ∀ i m σ H, W i m σ H → ((Itt K a).stop i H ∧ D.nx σ H) ∨ ((Itt K a).go i H ∧ ∃ N : L2.St → Hp → Prop, (∀ σ' H', N σ' H' → ∃ m', m' < m ∧ W (i + 1) m' σ' H') ∧ ∀ x H', (Itt K a).yld i H x H' → g x σ H' fun σ2 H2 => u { D with nx := N, ct := N, bk := D.nx } σ2 H2))) := by
    intro v d G1 H1 ρ1 R1 hr w1
    cases e : d.items with
    | none => rw [e] at w1; exact w1.elim
    | some ds =>
      rw [e] at w1
      obtain ⟨a, rfl, q⟩ := its_rep R1 hr e
      rcases q with ⟨q1, q2⟩ | ⟨q1, q2⟩
      · exact ⟨a, rfl, .inl ⟨q1, for_core hb hg R1 q2 (fun _ _ _ _ _ => trivial) w1⟩⟩
      · exact ⟨a, rfl, .inr ⟨q1, for_core hb hg R1 q2 (fun _ _ _ _ _ => trivial) w1⟩⟩
  cases e : A ρ with
  | stuck => rw [e] at w; exact w
  | err x ρ1 => rw [e] at w; exact fun c od G2 H2 R2 _ hx => w c od σ G2 H2 R2 hx
  | ok x ρ1 =>
    rw [e] at w
    intro v G1 H1 R1 s1 hx
    have w1 := w
    dsimp only [Res.bind] at w1
    cases x with
    | val d => exact frozen R1 hx w1
    | new o =>
      obtain ⟨G2, R2, s2, r2⟩ := R1.settle hx
      exact frozen R2 r2 w1
    | own i =>
      dsimp only at w1
      cases e2 : ρ1[i]? with
      | none => rw [e2] at w1; exact w1.elim
      | some s =>
        rw [e2] at w1
        cases s with
        | none => exact w1.elim
        | bor o => exact w1.elim
        | lck o => exact w1.elim
        | val d =>
          obtain ⟨v', h1, h2⟩ := R1.val e2
          rw [show σ[i]? = some (some v) from hx] at h1
          cases h1
          exact frozen R1 h2 w1
        | own o =>
          cases o with
          | ins C ks ds => exact w1.elim
          | lst ds =>
            dsimp only at w1
            obtain ⟨a, h1, h0, hg1, ws, h3, h4⟩ := R1.own e2
            rw [show σ[i]? = some (some v) from hx] at h1
            cases h1
            have hL : F.L i = none := by
              cases q : F.L i with
              | none => rfl
              | some b =>
                obtain ⟨o, ho⟩ := R1.hl i b q
                rw [e2] at ho
                cases ho
            have hl := R1.noL h0
            have hm := R1.noM h0
            have R2 := R1.lock e2 hx h3
            have P0 : ∀ G' H' σ' ρ', Rl K ((F.lock i a (.lst ws)).at G1) G' H' σ' ρ' → H' a = some (.lst ws) := fun G' H' σ' ρ' R' => R'.hk a _ upd_same hm
            exact ⟨a, rfl, .inl ⟨⟨ws, .inl (.inl h3)⟩, for_core (P := fun H => H a = some (.lst ws)) hb hg R2 (its_list (fun G' H' _ _ p => .inl (.inl p)) h4) P0 (WS.unlock h0 hL hl hm w1)⟩⟩
end
end DL
set_option Elab.async false
set_option linter.all false
set_option maxRecDepth 100000
set_option maxHeartbeats 2000000
namespace DL
open PySem PySem.Spec PyProof.Rows L2 DD
@[simp] def wipeN (ρ : En) : List Nat → En
  | [] => ρ
  | v :: vs => (wipeN ρ vs).set v .none
section
variable {K : Fg} {E Et Ea : XK} {F : Fm} {G G' G1 H H' : Hp} {σ σ' : L2.St} {ρ ρ' : En}
theorem wipeN_length (ρ : En) : ∀ vs : List Nat, (wipeN ρ vs).length = ρ.length
  | [] => rfl
  | v :: vs => by unfold wipeN; rw [List.length_set, wipeN_length ρ vs]
theorem wipe_get {i : Nat} : ∀ {vs : List Nat}, i ∉ vs → (wipe σ vs)[i]? = σ[i]?
  | [], _ => rfl
  | v :: vs, h => by
    unfold wipe
    rw [List.getElem?_set_ne (fun e => h (by rw [e]; exact List.mem_cons_self ..))]
    exact wipe_get fun z => h (List.mem_cons_of_mem _ z)
theorem wipeN_get {i : Nat} : ∀ {vs : List Nat}, i ∉ vs → (wipeN ρ vs)[i]? = ρ[i]?
  | [], _ => rfl
  | v :: vs, h => by
    unfold wipeN
    rw [List.getElem?_set_ne (fun e => h (by rw [e]; exact List.mem_cons_self ..))]
    exact wipeN_get fun z => h (List.mem_cons_of_mem _ z)
def Wiped (ρ : En) (vs : List Nat) : Prop := ∀ v ∈ vs, ∀ s, ρ[v]? = some s → s = .none
theorem wiped_N : ∀ {vs : List Nat}, Wiped (wipeN ρ vs) vs
  | [] => fun v h => by cases h
  | w :: vs => fun v h s e => by
    unfold wipeN at e
    rcases getset e with ⟨_, e2, _⟩ | ⟨ne, e⟩
    · exact e2.symm
    · rcases List.mem_cons.mp h with rfl | h
      · exact absurd rfl ne
      · exact wiped_N v h s e
theorem wipe_wipe {vs : List Nat} : wipe (wipe σ vs) vs = wipe σ vs := by
  apply List.ext_getElem?
  intro i
  by_cases h : i ∈ vs
  · have z : ∀ (τ : L2.St) (ws : List Nat), i ∈ ws → (wipe τ ws)[i]? = if i < τ.length then some none else none := by
      intro τ ws
      induction ws with
      | nil => intro h; cases h
      | cons w ws ih =>
        intro h
        unfold wipe
        by_cases q : w = i
        · subst q
          by_cases hl : w < τ.length
          · rw [List.getElem?_set_self (by rw [wipe_length]; exact hl), if_pos hl]
          · rw [List.getElem?_eq_none (by rw [List.length_set, wipe_length]; omega), if_neg hl]
        · rw [List.getElem?_set_ne q]
          refine ih ?_
          rcases List.mem_cons.mp h with rfl | h
          · exact absurd rfl q
          · exact h
    rw [z _ _ h, z _ _ h, wipe_length]
  · rw [wipe_get h]
/-- slots that nobody asks of may hold anything -/
theorem Rl.any {vs : List Nat} (R : Rl K F G H σ ρ) (hw : Wiped ρ vs) (e : wipe σ' vs = wipe σ vs) : Rl K F G H σ' ρ := by
  have hl : σ'.length = σ.length := by
    have := congrArg List.length e
    rwa [wipe_length, wipe_length] at this
  have eq : ∀ i, i ∉ vs → σ'[i]? = σ[i]? := fun i h => by
    rw [← wipe_get (σ := σ') h, ← wipe_get (σ := σ) h, e]
  have own : ∀ (i : Nat) (o : O), ρ[i]? = some (.own o) → i ∉ vs := fun i o h z => by
    have := hw i z _ h
    cases this
  refine ⟨R.gh, R.g0, R.gn, R.hk, R.hm, R.hl, fun i s hs => ?_, fun i j o o' a h1 h2 h3 h4 => R.di i j o o' a h1 h2 (by rw [← eq i (own i o h1)]; exact h3) (by rw [← eq j (own j o' h2)]; exact h4), R.mi, R.tb⟩
  obtain ⟨x, h1, h2⟩ := R.sl i s hs
  by_cases h : i ∈ vs
  · have := hw i h s hs
    subst this
    have hi : i < σ'.length := by rw [hl]; exact (List.getElem?_eq_some_iff.mp h1).1
    exact ⟨_, List.getElem?_eq_getElem hi, trivial⟩
  · exact ⟨x, by rw [eq i h]; exact h1, h2⟩
theorem Rl.wipeN {vs : List Nat} (R : Rl K F G H σ ρ) (hf : vs.all (freeAt ρ) = true) : Rl K F G H σ (wipeN ρ vs) := by
  have free : ∀ v ∈ vs, freeAt ρ v = true := List.all_eq_true.mp hf
  refine ⟨R.gh, R.g0, R.gn, R.hk, fun j a h => ?_, fun j a h => ?_, fun i s hs => ?_, fun i j o o' a h1 h2 h3 h4 => ?_, R.mi, R.tb⟩
  · obtain ⟨h1, h2, o, h3⟩ := R.hm j a h
    refine ⟨h1, h2, o, ?_⟩
    rw [wipeN_get fun z => ?_]
    · exact h3
    · have := free j z
      unfold freeAt at this
      rw [h3] at this
      cases this
  · obtain ⟨o, h3⟩ := R.hl j a h
    refine ⟨o, ?_⟩
    rw [wipeN_get fun z => ?_]
    · exact h3
    · have := free j z
      unfold freeAt at this
      rw [h3] at this
      cases this
  · by_cases h : i ∈ vs
    · have := wiped_N i h s hs
      subst this
      have hi : i < ρ.length := by rw [← wipeN_length ρ vs]; exact (List.getElem?_eq_some_iff.mp hs).1
      exact ⟨_, List.getElem?_eq_getElem (R.lt hi), trivial⟩
    · rw [wipeN_get h] at hs
      exact R.sl i s hs
  · have n1 : i ∉ vs := fun z => by cases wiped_N i z _ h1
    have n2 : j ∉ vs := fun z => by cases wiped_N j z _ h2
    rw [wipeN_get n1] at h1
    rw [wipeN_get n2] at h2
    exact R.di i j o o' a h1 h2 h3 h4
def lcL (vs : List Nat) (U : Tg) (T : En → Res Bool) (A : En → Res X) : List D → En → List D → Res (List D)
  | [], ρ, acc => .ok acc ρ
  | d :: ds, ρ, acc => match U d ρ with
    | none => .stuck
    | some ρ1 => match T ρ1 with
      | .ok true ρ2 => match A ρ2 with
        | .ok x ρ3 => match toVal ρ3 x with
          | some (e, ρ4) => if acc.length < sizeLine ∧ vs.all (freeAt ρ4) = true then lcL vs U T A ds (wipeN ρ4 vs) (acc ++ [e]) else .stuck
          | none => .stuck
        | _ => .stuck
      | .ok false ρ2 => if vs.all (freeAt ρ2) = true then lcL vs U T A ds (wipeN ρ2 vs) acc else .stuck
      | _ => .stuck
theorem lc_core_D {vs : List Nat} {U : Tg} {T : En → Res Bool} {A : En → Res X} {g : TG} {tt : TT} {te : TE} {J : It} {ds es : List DL.D} {P : Hp → Prop} {a : Addr} {ρe : En} {Nf : Hp → Prop}
    (hg : LTg K vs g U) (ht : LT K Et tt T) (ha : LE K Ea te A) (h0 : F.H0 a = none) (hg0 : F.G0 a = none) (hl : ∀ i, F.L i ≠ some a) (hm : ∀ i, F.M i ≠ some a)
    (hI : Its K P G1 J ds) (hP : ∀ G' H' acc ρ', Rl K (F.hold a (.lst acc)) G' H' σ ρ' → Same G1 G' → P H')
    (fin : ∀ G H acc, Rl K (F.hold a (.lst acc)) G H σ ρe → Same G1 G → RepA K G acc es → Nf H)
    {G H : Hp} {ρ : En} {acc : List V} {accd : List DL.D} (R : Rl K (F.hold a (.lst acc)) G H σ ρ) (sG : Same G1 G) (hw : Wiped ρ vs) (hr : RepA K G acc accd) (w : lcL vs U T A ds ρ accd = .ok es ρe) :
    ∃ W : Nat → Nat → Hp → Prop, (∃ m, W 0 m H) ∧ ∀ i m H, W i m H → (J.stop i H ∧ Nf H) ∨ (J.go i H ∧ ∃ Nx : Hp → Prop, (∀ H', Nx H' → ∃ m', m' < m ∧ W (i + 1) m' H') ∧ ∀ x H', J.yld i H x H' → g x (wipe σ vs) H' fun σ2 H2 => wipe σ2 vs = wipe σ vs ∧ tt σ2 H2 fun b H3 =>
      if b = true then te σ2 H3 fun y H4 => ∃ acc, H4 a = some (.lst acc) ∧ acc.length < sizeLine ∧ Nx (upd H4 a (.lst (acc ++ [y]))) else Nx H3) := by
  refine ⟨fun i m H' => ∃ G' ρ' acc' accd', Rl K (F.hold a (.lst acc')) G' H' σ ρ' ∧ Same G1 G' ∧ Wiped ρ' vs ∧ RepA K G' acc' accd' ∧ i + m = ds.length ∧ lcL vs U T A (ds.drop i) ρ' accd' = .ok es ρe, ⟨ds.length, G, ρ, acc, accd, R, sG, hw, hr, by omega, w⟩, ?_⟩
  rintro i m H' ⟨G', ρ', acc', accd', R', s', hw', hr', hmm, w'⟩
  cases m with
  | zero =>
    rw [List.drop_eq_nil_of_le (by omega)] at w'
    cases w'
    exact .inl ⟨hI.stop G' H' s' R'.gh (hP _ _ _ _ R' s') i (by omega), fin G' H' acc' R' s' hr'⟩
  | succ m =>
    have hi : i < ds.length := by omega
    rw [List.drop_eq_getElem_cons hi] at w'
    refine .inr ⟨hI.go G' H' s' R'.gh (hP _ _ _ _ R' s') i hi, fun H2 => ∃ G2 ρ2 acc2 accd2, Rl K (F.hold a (.lst acc2)) G2 H2 σ ρ2 ∧ Same G1 G2 ∧ Wiped ρ2 vs ∧ RepA K G2 acc2 accd2 ∧ lcL vs U T A (ds.drop (i + 1)) ρ2 accd2 = .ok es ρe,
      fun H2 ⟨G2, ρ2, acc2, accd2, R2, s2, q1, q2, q3⟩ => ⟨m, by omega, G2, ρ2, acc2, accd2, R2, s2, q1, q2, by omega, q3⟩, fun x H3 hy => ?_⟩
    have Rw : Rl K (F.hold a (.lst acc')) G' H' (wipe σ vs) ρ' := R'.any hw' wipe_wipe
    obtain ⟨G3, R3, s3, _, k3, d, hd, hrd⟩ := hI.yld _ _ _ _ _ Rw s' (hP _ _ _ _ R' s') i x H3 hi hy
    rw [List.getElem?_eq_getElem hi] at hd
    cases hd
    unfold lcL at w'
    cases e : U ds[i] ρ' with
    | none => rw [e] at w'; cases w'
    | some ρ1 =>
      rw [e] at w'
      dsimp only at w'
      refine hg _ _ _ _ _ ρ1 x _ _ R3 hrd e fun σ4 R4 w4 => ⟨w4.trans wipe_wipe, ?_⟩
      have w4' : wipe σ vs = wipe σ4 vs := (w4.trans wipe_wipe).symm
      refine ht _ G3 H3 σ4 ρ1 _ R4 ?_
      cases e2 : T ρ1 with
      | stuck => rw [e2] at w'; cases w'
      | err y ρ2 => rw [e2] at w'; cases w'
      | ok b ρ2 =>
        rw [e2] at w'
        intro b' G5 H5 R5 s5 eb
        subst eb
        cases b' with
        | false =>
          refine iteF ?_
          dsimp only at w'
          split at w'
          · rename_i hf
            exact ⟨G5, _, acc', accd', (R5.wipeN hf).any wiped_N w4', s'.trans (s3.trans s5), wiped_N, hr'.mono (s3.trans s5), w'⟩
          · cases w'
        | true =>
          refine iteT ?_
          dsimp only at w'
          refine ha _ G5 H5 σ4 ρ2 _ R5 ?_
          cases e3 : A ρ2 with
          | stuck => rw [e3] at w'; cases w'
          | err y ρ3 => rw [e3] at w'; cases w'
          | ok z ρ3 =>
            rw [e3] at w'
            intro y G6 H6 R6 s6 hz
            dsimp only at w'
            cases e4 : toVal ρ3 z with
            | none => rw [e4] at w'; cases w'
            | some p =>
              obtain ⟨ed, ρ4⟩ := p
              rw [e4] at w'
              dsimp only at w'
              split at w'
              · rename_i hc
                obtain ⟨G7, R7, s7, r7⟩ := R6.toVal hz e4
                have sAll := s3.trans (s5.trans (s6.trans s7))
                refine ⟨acc', R7.heldH hm, by rw [hr'.len]; exact hc.1, G7, _, acc' ++ [y], accd' ++ [ed], ((R7.wipeN hc.2).any wiped_N w4').rehold h0 hg0 hl hm, s'.trans sAll, wiped_N, (hr'.mono sAll).app (.one r7), w'⟩
              · cases w'
def lcAll (vs : List Nat) (U : Tg) (T : En → Res Bool) (A : En → Res X) (ds : List D) (ρ : En) : Res X := if vs.all (freeAt ρ) = true then
    match lcL vs U T A ds (wipeN ρ vs) [] with
    | .ok es ρ2 => .ok (.new (.lst es)) ρ2
    | _ => .stuck
  else .stuck
def dLc (S : En → Res (List D)) (vs : List Nat) (U : Tg) (T : En → Res Bool) (A : En → Res X) : En → Res X := fun ρ => (S ρ).bind fun ds ρ1 => lcAll vs U T A ds ρ1
def tdYes : En → Res Bool := fun ρ => .ok true ρ
theorem L_yes : LT K E tYes tdYes := fun F G H σ ρ Q R w => w true G H R (Same.refl G) rfl
theorem lcAll_run {vs : List Nat} {U : Tg} {T : En → Res Bool} {A : En → Res X} {g : TG} {tt : TT} {te : TE} {J : It} {ds : List DL.D} {P : Hp → Prop} {Q : VK} (hg : LTg K vs g U) (ht : LT K Et tt T) (ha : LE K Ea te A)
    (R : Rl K F G H σ ρ) (hI : Its K P G J ds) (hP : ∀ (F' : Fm) G' H' ρ', Rl K F' G' H' σ ρ' → (∀ b o, F.H0 b = some o → F'.H0 b = some o) → F'.M = F.M → P H') (w : Wants K E (RepX K) F G σ Q (lcAll vs U T A ds ρ)) :
    ∀ a, H a = none → ∃ W : Nat → Nat → Hp → Prop, (∃ m, W 0 m (upd H a (.lst []))) ∧ ∀ i m H, W i m H → (J.stop i H ∧ Q (.ref a) H) ∨ (J.go i H ∧ ∃ Nx : Hp → Prop, (∀ H', Nx H' → ∃ m', m' < m ∧ W (i + 1) m' H') ∧ ∀ x H', J.yld i H x H' → g x (wipe σ vs) H' fun σ2 H2 => wipe σ2 vs = wipe σ vs ∧ tt σ2 H2 fun b H3 =>
      if b = true then te σ2 H3 fun y H4 => ∃ acc, H4 a = some (.lst acc) ∧ acc.length < sizeLine ∧ Nx (upd H4 a (.lst (acc ++ [y]))) else Nx H3) := by
  intro a na
  unfold lcAll at w
  split at w
  · rename_i hf
    have h0 := R.fresh na
    have hgG := R.freshG na
    have hg0 : F.G0 a = none := none_of R.g0 hgG
    have hl := R.noL h0
    have hm := R.noM h0
    have n : ∀ (j : Nat) (u : O), (DL.wipeN ρ vs)[j]? = some (.own u) → σ[j]? ≠ some (some (.ref a)) := fun j u hj z => by
      obtain ⟨b, h1, _, _, h4⟩ := (R.wipeN hf).own hj
      rw [h1] at z
      cases z
      obtain ⟨u, e⟩ := h4.ex
      rw [na] at e
      cases e
    have R1 : Rl K (F.hold a (.lst [])) G (upd H a (.lst [])) σ (DL.wipeN ρ vs) := ((R.wipeN hf).laid na).hold upd_same h0 hgG n
    cases e : lcL vs U T A ds (DL.wipeN ρ vs) [] with
    | stuck => rw [e] at w; exact w.elim
    | err x ρ2 => rw [e] at w; exact w.elim
    | ok es ρe =>
      rw [e] at w
      refine lc_core_D hg ht ha h0 hg0 hl hm hI (fun G' H' acc ρ' R' _ => hP _ G' H' ρ' R' (fun b o hb => ?_) rfl) (fun G' H' acc R' s' r' => ?_) R1 (Same.refl G) wiped_N .nil e
      · show upd F.H0 a _ b = some o
        rw [upd_ne (ne_of_none hb h0)]
        exact hb
      · exact w _ G' H' (R'.unhold h0 hl hm) s' ⟨a, rfl, h0, R'.heldG hg0, ⟨acc, R'.heldH hm, r'⟩, R'.heldN⟩
  · exact w.elim
@[simp] def Res.unlock {α : Type} (i : Nat) : Res α → Res α
  | .ok a ρ => .ok a (unlockE ρ i)
  | .err x ρ => .err x (unlockE ρ i)
  | .stuck => .stuck
def dLcS (A0 : En → Res X) (vs : List Nat) (U : Tg) (T : En → Res Bool) (A : En → Res X) : En → Res X := fun ρ => (seqOf A0 ρ).bind fun p ρ1 => match p.1 with
  | none => lcAll vs U T A p.2 ρ1
  | some i => (lcAll vs U T A p.2 ρ1).unlock i
theorem Wants.unlock {i : Nat} {u : HO} {a : Addr} {Q : VK} (h0 : F.H0 a = none) (hL : F.L i = none) (hl : ∀ j, F.L j ≠ some a) (hm : ∀ j, F.M j ≠ some a) : ∀ {r : Res X}, Wants K E (RepX K) F G σ Q (r.unlock i) → Wants K E (RepX K) (F.lock i a u) G σ Q r
  | .ok x ρ', w => fun v G' H' R' s' hx => w v G' H' (R'.unlock h0 hL hl hm).1 s' (hx.unlock h0 (fun o ho => by
      obtain ⟨x, g, b, u', rfl, hb, _⟩ := R'.sl i _ ho
      refine ⟨b, g, ?_⟩
      have : (if i = i then some a else F.L i) = some b := hb
      rw [if_pos rfl] at this
      exact (Option.some.inj this).symm) (R'.unlock h0 hL hl hm).2)
  | .err x ρ', w => fun c od G' H' R' s' hx => w c od G' H' (R'.unlock h0 hL hl hm).1 s' hx
  | .stuck, w => w
theorem L_lcS {ta : TE} {A0 : En → Res X} {vs : List Nat} {U : Tg} {T : En → Res Bool} {A : En → Res X} {g : TG} {tt : TT} {te : TE} (h : LE K E ta A0) (hg : LTg K vs g U) (ht : LT K Et tt T) (ha : LE K Ea te A) : LE K E (tLc (iSeq K ta) g tt te vs) (dLcS A0 vs U T A) := by
  intro F G H σ ρ Q R w
  unfold dLcS seqOf at w
  refine h F G H σ ρ _ R ?_
  have frozen : ∀ {v : V} {d : DL.D} {G1 H1 : Hp} {ρ1 : En}, Rl K F G1 H1 σ ρ1 → Rep K G1 v d → Wants K E (RepX K) F G1 σ Q (((lift (d.items.map fun ds => ((none : Option Nat), ds)) ρ1)).bind fun p ρ1 => match p.1 with
      | none => lcAll vs U T A p.2 ρ1
      | some i => (lcAll vs U T A p.2 ρ1).unlock i) → ∃ a, v = .ref a ∧ (((∃ xs, SqL K H1 a xs) ∧ ∀ D, H1 D = none → ∃ W : Nat → Nat → Hp → Prop, (∃ m, W 0 m (upd H1 D (.lst []))) ∧ ∀ i m H, W i m H → ((Itl K a).stop i H ∧ Q (.ref D) H) ∨ ((Itl K a).go i H ∧ ∃ Nx : Hp → Prop, (∀ H', Nx H' → ∃ m', m' < m ∧ W (i + 1) m' H') ∧ ∀ x H', (Itl K a).yld i H x H' → g x (wipe σ vs) H' fun σ2 H2 => wipe σ2 vs = wipe σ vs ∧ tt σ2 H2 fun b H3 =>
        if b = true then te σ2 H3 fun y H4 => ∃ acc, H4 D = some (.lst acc) ∧ acc.length < sizeLine ∧ Nx (upd H4 D (.lst (acc ++ [y]))) else Nx H3)) ∨
        ((∃ xs, SqT K H1 a xs) ∧ ∀ D, H1 D = none → ∃ W : Nat → Nat → Hp → Prop, (∃ m, W 0 m (upd H1 D (.lst []))) ∧ ∀ i m H, W i m H → ((Itt K a).stop i H ∧ Q (.ref D) H) ∨ ((Itt K a).go i H ∧ ∃ Nx : Hp → Prop, (∀ H', Nx H' → ∃ m', m' < m ∧ W (i + 1) m' H') ∧ ∀ x H', (Itt K a).yld i H x H' → g x (wipe σ vs) H' fun σ2 H2 => wipe σ2 vs = wipe σ vs ∧ tt σ2 H2 fun b H3 =>
        if b = true then te σ2 H3 fun y H4 => ∃ acc, H4 D = some (.lst acc) ∧ acc.length < sizeLine ∧ Nx (upd H4 D (.lst (acc ++ [y]))) else Nx H3))) := by
    intro v d G1 H1 ρ1 R1 hr w1
    cases e : d.items with
    | none => rw [e] at w1; exact w1.elim
    | some ds =>
      rw [e] at w1
      obtain ⟨a, rfl, q⟩ := its_rep R1 hr e
      rcases q with ⟨q1, q2⟩ | ⟨q1, q2⟩
      · exact ⟨a, rfl, .inl ⟨q1, lcAll_run hg ht ha R1 q2 (fun _ _ _ _ _ _ _ => trivial) w1⟩⟩
      · exact ⟨a, rfl, .inr ⟨q1, lcAll_run hg ht ha R1 q2 (fun _ _ _ _ _ _ _ => trivial) w1⟩⟩
  cases e : A0 ρ with
  | stuck => rw [e] at w; exact w
  | err x ρ1 => rw [e] at w; exact w
  | ok x ρ1 =>
    rw [e] at w
    intro v G1 H1 R1 s1 hx
    have w1 := w
    dsimp only [Res.bind] at w1
    have w1 := w1.mono s1
    cases x with
    | val d => exact frozen R1 hx w1
    | new o =>
      obtain ⟨G2, R2, s2, r2⟩ := R1.settle hx
      exact frozen R2 r2 (Wants.mono s2 w1)
    | own i =>
      dsimp only at w1
      cases e2 : ρ1[i]? with
      | none => rw [e2] at w1; exact w1.elim
      | some s =>
        rw [e2] at w1
        cases s with
        | none => exact w1.elim
        | bor o => exact w1.elim
        | lck o => exact w1.elim
        | val d =>
          obtain ⟨v', h1, h2⟩ := R1.val e2
          rw [show σ[i]? = some (some v) from hx] at h1
          cases h1
          exact frozen R1 h2 w1
        | own o =>
          cases o with
          | ins C ks ds => exact w1.elim
          | lst ds =>
            dsimp only at w1
            obtain ⟨a, h1, h0, hg1, ws, h3, h4⟩ := R1.own e2
            rw [show σ[i]? = some (some v) from hx] at h1
            cases h1
            have hL : F.L i = none := by
              cases q : F.L i with
              | none => rfl
              | some b =>
                obtain ⟨o, ho⟩ := R1.hl i b q
                rw [e2] at ho
                cases ho
            have hl := R1.noL h0
            have hm := R1.noM h0
            have R2 := R1.lock e2 hx h3
            refine ⟨a, rfl, .inl ⟨⟨ws, .inl (.inl h3)⟩, lcAll_run (P := fun H => H a = some (.lst ws)) hg ht ha R2 (its_list (fun G' H' _ _ p => .inl (.inl p)) h4) (fun F' G' H' ρ' R' k hM => R'.hk a _ (k a _ upd_same) (by rw [hM]; exact hm)) (Wants.unlock h0 hL hl hm w1)⟩⟩
end
end DL
set_option Elab.async false
set_option linter.all false
set_option maxRecDepth 100000
set_option maxHeartbeats 2000000
namespace DL
open PySem PySem.Spec PyProof.Rows L2 DD
/-- what a body hands back -/
inductive Rt where
  | ok (x : X) (ρ : En) | err (x : Xc) (ρ : En) | stuck
def fin : SR → Rt
  | .nx ρ => .ok (.val .non) ρ
  | .rt (.val d) ρ => .ok (.val d) ρ
  | .rt (.new o) ρ => .ok (.new o) ρ
  | .rt (.own i) ρ => match ρ[i]? with
    | some (.val d) => .ok (.val d) ρ
    | some (.own o) => .ok (.new o) ρ
    | _ => .stuck
  | .err x ρ => .err x ρ
  | _ => .stuck
@[simp] def env0 (m : Nat) (ss : List Slot) : En := ss ++ List.replicate (m - ss.length) .none
/-- behind a def: ob is where what it borrowed stands -/
structure Post (K : Fg) (G H : Hp) (ob : Option Addr) (ρ' : En) (G' H' : Hp) : Prop where
  s : Same G G'
  k : Same G' H'
  g : ∀ a o, G' a = some o → G a = none → H a = none
  t : ∀ a o, G' a = some o → G a = none → ∀ ps, o ≠ .tbl ps
  h : ∀ a o, H a = some o → ob ≠ some a → H' a = some o
  b : ∀ a, ob = some a → ∃ o, ρ'[0]? = some (.bor o) ∧ G' a = none ∧ ObjO K G' H' a o
def RetX (K : Fg) (H G' H' : Hp) (v : V) : X → Prop
  | .val d => Rep K G' v d
  | .new o => ∃ a, v = .ref a ∧ H a = none ∧ G' a = none ∧ ObjO K G' H' a o
  | .own _ => False
def Out (K : Fg) (E : XK) (G H : Hp) (ob : Option Addr) (Q : VK) : Rt → Prop
  | .ok x ρ' => ∀ v G' H', Post K G H ob ρ' G' H' → RetX K H G' H' v x → Q v H'
  | .err x ρ' => ∀ c od G' H', Post K G H ob ρ' G' H' → XRep K G' H' c od x → E c od H'
  | .stuck => False
def spD (K : Fg) (n m : Nat) (T : En → SR) : Sp := fun vs H Q E => ∃ G, Same G H ∧
  ((∃ ds, RepA K G vs ds ∧ vs.length = n ∧ Out K E G H none Q (fin (T (env0 m (ds.map .val))))) ∨
   ∃ a o ws ds, vs = .ref a :: ws ∧ RepA K G ws ds ∧ ws.length + 1 = n ∧ G a = none ∧ ObjO K G H a o ∧ Out K E G H (some a) Q (fin (T (env0 m (.bor o :: ds.map .val)))))
section
variable {P : Program} {w : World} {K : Fg} {mg : Str → Option Value} {base : Heap} {E : XK} {G G' H H' : Hp}
theorem start_get {N : List Str} {vs : List V} {i : Nat} (h : i < N.length) (hn : vs.length ≤ N.length) : ∃ x, (start N vs)[i]? = some x ∧ ∀ v, vs[i]? = some v → x = some v := by
  unfold L2.start
  by_cases hi : i < vs.length
  · refine ⟨some vs[i], ?_, fun v e => ?_⟩
    · rw [List.getElem?_append_left (by simpa using hi), List.getElem?_map, List.getElem?_eq_getElem hi]
      rfl
    · rw [List.getElem?_eq_getElem hi] at e
      cases e
      rfl
  · refine ⟨none, ?_, fun v e => ?_⟩
    · rw [List.getElem?_append_right (by simpa using hi), List.getElem?_replicate, List.length_map, if_pos (by omega)]
    · rw [List.getElem?_eq_none (by omega)] at e
      cases e
theorem env0_get {m i : Nat} {ss : List Slot} {s : Slot} (h : (env0 m ss)[i]? = some s) : ss[i]? = some s ∨ (s = .none ∧ ss.length ≤ i ∧ i < ss.length + (m - ss.length)) := by
  unfold env0 at h
  by_cases hi : i < ss.length
  · rw [List.getElem?_append_left hi] at h
    exact .inl h
  · rw [List.getElem?_append_right (by omega), List.getElem?_replicate] at h
    split at h
    · cases h
      exact .inr ⟨rfl, by omega, by omega⟩
    · cases h
theorem map_val_get {ds : List D} {i : Nat} {s : Slot} (h : (ds.map Slot.val)[i]? = some s) : ∃ d, ds[i]? = some d ∧ s = .val d := by
  rw [List.getElem?_map, Option.map_eq_some_iff] at h
  obtain ⟨d, h1, h2⟩ := h
  exact ⟨d, h1, h2.symm⟩
/-- at the entry, nothing borrowed -/
theorem ent0 {N : List Str} {vs : List V} {ds : List D} (s : Same G H) (r : RepA K G vs ds) (hn : vs.length ≤ N.length) : Rl K ⟨H, G, fun _ => none, fun _ => none, []⟩ G H (start N vs) (env0 N.length (ds.map .val)) := by
  have hl := r.len
  refine ⟨s, Same.refl G, fun a o h h' => (by rw [show G a = none from h'] at h; cases h), fun a o h _ => h, fun i a h => (nomatch h), fun i a h => (nomatch h), fun i t h => ?_, fun i j o o' a h => ?_, fun i j a h => (nomatch h), TabR.nil⟩
  · rcases env0_get h with h | ⟨rfl, h1, h2⟩
    · obtain ⟨d, h1, rfl⟩ := map_val_get h
      obtain ⟨v, h2, h3⟩ := r.get h1
      have hi : i < vs.length := (List.getElem?_eq_some_iff.mp h2).1
      obtain ⟨x, e1, e2⟩ := start_get (N := N) (vs := vs) (i := i) (by omega) hn
      exact ⟨x, e1, v, e2 v h2, h3⟩
    · rw [List.length_map] at h1 h2
      obtain ⟨x, e1, e2⟩ := start_get (N := N) (vs := vs) (i := i) (by omega) hn
      exact ⟨x, e1, trivial⟩
  · rcases env0_get h with h | ⟨e, _⟩
    · obtain ⟨d, _, e⟩ := map_val_get h
      cases e
    · cases e
theorem ent1 {N : List Str} {a : Addr} {o : O} {vs : List V} {ds : List D} (s : Same G H) (r : RepA K G vs ds) (hn : vs.length + 1 ≤ N.length) (hg : G a = none) (ho : ObjO K G H a o) :
    Rl K ⟨H, G, fun i => if i = 0 then some a else none, fun _ => none, []⟩ G H (start N (.ref a :: vs)) (env0 N.length (.bor o :: ds.map .val)) := by
  have hl := r.len
  have M0 : ∀ i b, (if i = 0 then some a else none) = some b → i = 0 ∧ b = a := fun i b h => by
    split at h
    · rename_i e
      exact ⟨e, (Option.some.inj h).symm⟩
    · cases h
  refine ⟨s, Same.refl G, fun a o h h' => (by rw [show G a = none from h'] at h; cases h), fun a o h _ => h, fun i b h => ?_, fun i a h => (nomatch h), fun i t h => ?_, fun i j u u' b h => ?_, fun i j b h h' => (M0 i b h).1.trans (M0 j b h').1.symm, TabR.nil⟩
  · obtain ⟨rfl, rfl⟩ := M0 i b h
    obtain ⟨u, e⟩ := ho.ex
    have hn : H b ≠ none := by rw [e]; exact fun z => (nomatch z)
    exact ⟨hn, hn, o, rfl⟩
  · rcases env0_get h with h | ⟨rfl, h1, h2⟩
    · cases i with
      | zero =>
        simp at h
        subst h
        obtain ⟨x, e1, e2⟩ := start_get (N := N) (vs := .ref a :: vs) (i := 0) (by omega) (by simpa using hn)
        exact ⟨x, e1, a, e2 _ rfl, rfl, hg, ho⟩
      | succ i =>
        obtain ⟨d, h1, rfl⟩ := map_val_get (i := i) (by simpa using h)
        obtain ⟨v, h2, h3⟩ := r.get h1
        have hi : i < vs.length := (List.getElem?_eq_some_iff.mp h2).1
        obtain ⟨x, e1, e2⟩ := start_get (N := N) (vs := .ref a :: vs) (i := i + 1) (by omega) (by simpa using hn)
        exact ⟨x, e1, v, e2 v (by simpa using h2), h3⟩
    · rw [List.length_cons, List.length_map] at h1 h2
      obtain ⟨x, e1, e2⟩ := start_get (N := N) (vs := .ref a :: vs) (i := i) (by omega) (by simpa using hn)
      exact ⟨x, e1, trivial⟩
  · rcases env0_get h with h | ⟨e, _⟩
    · cases i with
      | zero => simp at h
      | succ i =>
        have h' : (ds.map Slot.val)[i]? = some (.own u) := h
        obtain ⟨d, _, e⟩ := map_val_get h'
        cases e
    · cases e
theorem post0 {σ : L2.St} {ρ' : En} (R : Rl K ⟨H, G, fun _ => none, fun _ => none, []⟩ G' H' σ ρ') : Post K G H none ρ' G' H' :=
  ⟨R.g0, R.gh, R.gn, R.tb.2.2, fun a o h _ => R.hk a o h (fun _ z => (nomatch z)), fun a h => (nomatch h)⟩
theorem post1 {a : Addr} {σ : L2.St} {ρ' : En} (R : Rl K ⟨H, G, fun i => if i = 0 then some a else none, fun _ => none, []⟩ G' H' σ ρ') : Post K G H (some a) ρ' G' H' := by
  refine ⟨R.g0, R.gh, R.gn, R.tb.2.2, fun b o h n => R.hk b o h fun i z => n ?_, fun b h => ?_⟩
  · have z' : (if i = 0 then some a else none) = some b := z
    split at z'
    · exact z'
    · cases z'
  · cases h
    obtain ⟨_, _, o, ho⟩ := R.hm 0 a rfl
    obtain ⟨c, h1, h2, h3, h4⟩ := R.bor ho
    have : c = a := (Option.some.inj (show some a = some c from h2)).symm
    subst this
    exact ⟨o, ho, h3, h4⟩
theorem out_ws {F : Fm} {ob : Option Addr} {Q : VK} {D : Ends} (hF : F.H0 = H) (hp : ∀ {σ : L2.St} {ρ' : En} {G' H' : Hp}, Rl K F G' H' σ ρ' → Post K G H ob ρ' G' H') (hD : ∀ σ H', Q .non H' → D.nx σ H') (hr : ∀ v H', Q v H' → D.rt v H') : ∀ {r : SR}, Out K E G H ob Q (fin r) → WS K E F D r
  | .nx ρ', o => fun σ G' H' R => hD _ _ (o .non G' H' (hp R) .non)
  | .rt (.val d) ρ', o => fun v σ G' H' R hx => hr _ _ (o v G' H' (hp R) hx)
  | .rt (.new u) ρ', o => fun v σ G' H' R hx => hr _ _ (o v G' H' (hp R) (by
      obtain ⟨a, e, h0, hg, ho, _⟩ := hx
      rw [hF] at h0
      exact ⟨a, e, h0, hg, ho⟩))
  | .rt (.own i) ρ', o => fun v σ G' H' R hx => by
    simp only [fin] at o
    split at o
    · rename_i d e
      obtain ⟨v', h1, h2⟩ := R.val e
      rw [show σ[i]? = some (some v) from hx] at h1
      cases h1
      exact hr _ _ (o v G' H' (hp R) h2)
    · rename_i u e
      obtain ⟨a, h1, h0, hg, ho⟩ := R.own e
      rw [show σ[i]? = some (some v) from hx] at h1
      cases h1
      rw [hF] at h0
      exact hr _ _ (o _ G' H' (hp R) ⟨a, rfl, h0, hg, ho⟩)
    · exact o.elim
  | .err x ρ', o => fun c od σ G' H' R hx => o c od G' H' (hp R) hx
  | .bk ρ', o => o.elim
  | .ct ρ', o => o.elim
  | .stuck, o => o.elim
theorem spD_run {n : Nat} {N : List Str} {T : En → SR} {t : TS} {vs : List V} {Q : VK} (hN : n ≤ N.length) (h : LS K E t T) (hs : spD K n N.length T vs H Q E) : t { nx := fun _ H' => Q .non H', rt := Q } (start N vs) H := by
  obtain ⟨G, s, hs⟩ := hs
  rcases hs with ⟨ds, r, hn, o⟩ | ⟨a, u, ws, ds, rfl, r, hn, hg, ho, o⟩
  · exact h _ G H _ _ _ (ent0 s r (by omega)) (out_ws rfl post0 (fun _ _ q => q) (fun _ _ q => q) o)
  · exact h _ G H _ _ _ (ent1 s r (by omega) hg ho) (out_ws rfl post1 (fun _ _ q => q) (fun _ _ q => q) o)
theorem spD_len {n m : Nat} {T : En → SR} {vs : List V} {Q : VK} (hs : spD K n m T vs H Q E) : vs.length = n := by
  obtain ⟨G, s, hs⟩ := hs
  rcases hs with ⟨ds, r, hn, o⟩ | ⟨a, u, ws, ds, rfl, r, hn, hg, ho, o⟩
  · exact hn
  · rw [List.length_cons]; exact hn
end
section
variable {K : Fg} {E : XK} {F : Fm} {G G' H H' : Hp} {σ : L2.St} {ρ ρ' : En}
theorem Rl.after {ch : Addr → Prop} (R : Rl K F G H σ ρ) (s : Same G G') (k : Same G' H') (g : ∀ b o, G' b = some o → G b = none → H b = none) (hk : ∀ b o, H b = some o → ¬ ch b → H' b = some o)
    (far : ∀ b, ch b → F.H0 b = none ∧ ∀ (j : Nat) (u : O), ρ[j]? = some (.own u) → σ[j]? ≠ some (some (.ref b))) (nu : ∀ b u, ch b → H b = some u → Usual b u) (gt : ∀ b o, G' b = some o → G b = none → ∀ ps, o ≠ .tbl ps) : Rl K F G' H' σ ρ where
  gh := k
  g0 := R.g0.trans s
  gn := fun b o hb hb' => by
    cases e : G b with
    | some u => exact R.gn b u e hb'
    | none => exact R.fresh (g b o hb e)
  hk := fun b o hb n => hk b o (R.hk b o hb n) fun c => by rw [(far b c).1] at hb; cases hb
  hm := fun i b hb => by
    obtain ⟨h1, h2, h3⟩ := R.hm i b hb
    refine ⟨fun z => ?_, h2, h3⟩
    cases e : H b with
    | none => exact h1 e
    | some u =>
      rw [hk b u e fun c => h2 (far b c).1] at z
      cases z
  hl := R.hl
  sl := fun i t hs => by
    obtain ⟨x, h1, h2⟩ := R.sl i t hs
    refine ⟨x, h1, ?_⟩
    have gone : ∀ b, G b = none → (∃ u, H b = some u) → G' b = none := fun b hb hu => by
      cases e : G' b with
      | none => rfl
      | some o =>
        obtain ⟨u, hu⟩ := hu
        rw [g b o e hb] at hu
        cases hu
    cases t with
    | none => trivial
    | val d =>
      obtain ⟨v, e1, e2⟩ := h2
      exact ⟨v, e1, e2.mono s⟩
    | own u =>
      obtain ⟨b, rfl, e2, e3, e4⟩ := h2
      exact ⟨b, rfl, e2, gone b e3 e4.ex, e4.mono s fun y hy => hk b y hy fun c => (far b c).2 i u hs h1⟩
    | bor u =>
      obtain ⟨b, rfl, e2, e3, e4⟩ := h2
      exact ⟨b, rfl, e2, gone b e3 e4.ex, e4.mono s fun y hy => hk b y hy fun c => (R.hm i b e2).2.1 (far b c).1⟩
    | lck u =>
      obtain ⟨b, y, rfl, e2, e3, e5, e6, e4⟩ := h2
      exact ⟨b, y, rfl, e2, gone b e3 e4.ex, e5, e6, e4.mono s fun z hz => hk b z hz fun c => by rw [(far b c).1] at e5; cases e5⟩
  di := R.di
  mi := R.mi
  tb := R.tb.after s gt g hk nu
/-- what slot i holds was lent and has come back -/
theorem Rl.lent {i : Nat} {t t' : Slot} {o : O} {a : Addr} (R : Rl K F G H σ ρ) (h : ρ[i]? = some t) (ht : t.re o = some t') (ha : σ[i]? = some (some (.ref a))) (s : Same G G') (k : Same G' H') (g : ∀ b u, G' b = some u → G b = none → H b = none) (hk : ∀ b u, H b = some u → b ≠ a → H' b = some u)
    (hg : G' a = none) (ho : ObjO K G' H' a o) (gt : ∀ b o, G' b = some o → G b = none → ∀ ps, o ≠ .tbl ps) : Rl K F G' H' σ (ρ.set i t') := by
  have hil : i < ρ.length := (List.getElem?_eq_some_iff.mp h).1
  have ha' : H' a ≠ none := by obtain ⟨u, e⟩ := ho.ex; rw [e]; exact fun z => nomatch z
  have hc : ∀ x, F.H0 a = some x → ∃ j, F.M j = some a := fun x e => by
    rcases re_cases ht with ⟨u0, rfl, rfl⟩ | ⟨u0, rfl, rfl⟩
    · obtain ⟨b, h1, h2, _⟩ := R.own h
      rw [ha] at h1; cases h1; rw [h2] at e; cases e
    · obtain ⟨b, h1, h2, _⟩ := R.bor h
      rw [ha] at h1; cases h1; exact ⟨i, h2⟩
  have gone : ∀ b, G b = none → (∃ u, H b = some u) → G' b = none := fun b hb hu => by
    cases e : G' b with
    | none => rfl
    | some o =>
      obtain ⟨u, hu⟩ := hu
      rw [g b o e hb] at hu
      cases hu
  have exo : ∃ w, ObjO K G H a w := by
    rcases re_cases ht with ⟨u0, rfl, rfl⟩ | ⟨u0, rfl, rfl⟩
    · obtain ⟨b, h1, _, _, h2⟩ := R.own h
      rw [ha] at h1; cases h1; exact ⟨_, h2⟩
    · obtain ⟨b, h1, _, _, h2⟩ := R.bor h
      rw [ha] at h1; cases h1; exact ⟨_, h2⟩
  obtain ⟨wo, exo⟩ := exo
  refine ⟨k, R.g0.trans s, fun b x hb hb' => ?_, fun b x e n => ?_, fun j b e => ?_, fun j b e => ?_, fun j y e => ?_, fun j l w w' b h1 h2 h3 h4 => ?_, R.mi, R.tb.after (ch := fun b => b = a) s gt g (fun b u h n => hk b u h n) (fun b u e h => by subst e; exact exo.usual h)⟩
  · cases e : G b with
    | some u => exact R.gn b u e hb'
    | none => exact R.fresh (g b x hb e)
  · by_cases q : b = a
    · subst q
      obtain ⟨j, z⟩ := hc x e
      exact absurd z (n j)
    · exact hk b x (R.hk b x e n) q
  · obtain ⟨h1, h2, w, h3⟩ := R.hm j b e
    refine ⟨fun z => ?_, h2, ?_⟩
    · by_cases q : b = a
      · rw [q] at z; exact ha' z
      · cases e2 : H b with
        | none => exact h1 e2
        | some u => rw [hk b u e2 q] at z; cases z
    · by_cases q : i = j
      · subst q
        rw [h] at h3
        rcases re_cases ht with ⟨u0, rfl, rfl⟩ | ⟨u0, rfl, rfl⟩
        · cases h3
        · exact ⟨o, List.getElem?_set_self hil⟩
      · rw [List.getElem?_set_ne q]
        exact ⟨w, h3⟩
  · obtain ⟨w, h3⟩ := R.hl j b e
    by_cases q : i = j
    · subst q
      rw [h] at h3
      rcases re_cases ht with ⟨u0, rfl, rfl⟩ | ⟨u0, rfl, rfl⟩ <;> cases h3
    · rw [List.getElem?_set_ne q]
      exact ⟨w, h3⟩
  · rcases getset e with ⟨rfl, rfl, _⟩ | ⟨ne, e'⟩
    · refine ⟨_, ha, ?_⟩
      rcases re_cases ht with ⟨u0, rfl, rfl⟩ | ⟨u0, rfl, rfl⟩
      · obtain ⟨b, h1, h2, h3, _⟩ := R.own h
        rw [ha] at h1; cases h1
        exact ⟨_, rfl, h2, hg, ho⟩
      · obtain ⟨b, h1, h2, h3, _⟩ := R.bor h
        rw [ha] at h1; cases h1
        exact ⟨_, rfl, h2, hg, ho⟩
    · obtain ⟨x, h1, h2⟩ := R.sl j y e'
      refine ⟨x, h1, ?_⟩
      cases y with
      | none => trivial
      | val d =>
        obtain ⟨v, e1, e2⟩ := h2
        exact ⟨v, e1, e2.mono s⟩
      | own w =>
        obtain ⟨b, rfl, e2, e3, e4⟩ := h2
        refine ⟨b, rfl, e2, gone b e3 e4.ex, e4.mono s fun y hy => hk b y hy fun q => ?_⟩
        subst q
        rcases re_cases ht with ⟨u0, rfl, rfl⟩ | ⟨u0, rfl, rfl⟩
        · exact ne (R.di i j _ _ b h e' ha h1)
        · obtain ⟨c, g1, g2, _⟩ := R.bor h
          rw [ha] at g1; cases g1
          exact (R.hm i _ g2).2.1 e2
      | bor w =>
        obtain ⟨b, rfl, e2, e3, e4⟩ := h2
        refine ⟨b, rfl, e2, gone b e3 e4.ex, e4.mono s fun y hy => hk b y hy fun q => ?_⟩
        subst q
        rcases re_cases ht with ⟨u0, rfl, rfl⟩ | ⟨u0, rfl, rfl⟩
        · obtain ⟨c, g1, g2, _⟩ := R.own h
          rw [ha] at g1; cases g1
          exact (R.hm j _ e2).2.1 g2
        · obtain ⟨c, g1, g2, _⟩ := R.bor h
          rw [ha] at g1; cases g1
          exact ne (R.mi i j b g2 e2)
      | lck w =>
        obtain ⟨b, y, rfl, e2, e3, e5, e6, e4⟩ := h2
        refine ⟨b, y, rfl, e2, gone b e3 e4.ex, e5, e6, e4.mono s fun z hz => hk b z hz fun q => ?_⟩
        subst q
        obtain ⟨j, z⟩ := hc y e5
        exact e6 j z
  · rcases getset h1 with ⟨rfl, e1, _⟩ | ⟨n1, h1'⟩
    · rcases getset h2 with ⟨rfl, _, _⟩ | ⟨n2, h2'⟩
      · rfl
      · rcases re_cases ht with ⟨u0, rfl, rfl⟩ | ⟨u0, rfl, rfl⟩
        · exact R.di _ _ _ _ b h h2' h3 h4
        · cases e1
    · rcases getset h2 with ⟨rfl, e2, _⟩ | ⟨n2, h2'⟩
      · rcases re_cases ht with ⟨u0, rfl, rfl⟩ | ⟨u0, rfl, rfl⟩
        · exact R.di _ _ _ _ b h1' h h3 h4
        · cases e2
      · exact R.di j l w w' b h1' h2' h3 h4
def callV (r : Rt) (ρ : En) : Res X := match r with
  | .ok x _ => .ok x ρ
  | .err x _ => .err x ρ
  | .stuck => .stuck
theorem retX {v : V} {x : X} (R : Rl K F G H σ ρ) (h : RetX K H G' H' v x) : RepX K F G' H' σ ρ v x := by
  cases x with
  | val d => exact h
  | own i => exact h.elim
  | new o =>
    obtain ⟨a, rfl, h0, hg, ho⟩ := h
    refine ⟨a, rfl, R.fresh h0, hg, ho, fun j u hj z => ?_⟩
    obtain ⟨b, h1, _, _, h4⟩ := R.own hj
    rw [h1] at z
    cases z
    obtain ⟨u, e⟩ := h4.ex
    rw [h0] at e
    cases e
theorem callV_out {Q : VK} {r : Rt} (R : Rl K F G H σ ρ) (w : Wants K E (RepX K) F G σ Q (callV r ρ)) : Out K E G H none Q r := by
  cases r with
  | ok x ρ' =>
    intro v G' H' p hx
    have R' := R.after (ch := fun _ => False) p.s p.k p.g (fun b o h _ => p.h b o h fun z => nomatch z) (fun b z => z.elim) (fun b u z => z.elim) p.t
    exact w v G' H' R' p.s (retX R hx)
  | err x ρ' =>
    intro c od G' H' p hx
    have R' := R.after (ch := fun _ => False) p.s p.k p.g (fun b o h _ => p.h b o h fun z => nomatch z) (fun b z => z.elim) (fun b u z => z.elim) p.t
    exact w c od G' H' R' p.s hx
  | stuck => exact w
/-- f(..): all by value -/
def dCall (n m : Nat) (T : En → SR) (A : En → Res (List X)) : En → Res X := fun ρ => (A ρ).bind fun xs ρ1 => match toVals ρ1 xs with
  | some (ds, ρ2) => if ds.length = n then callV (fin (T (env0 m (ds.map .val)))) ρ2 else .stuck
  | none => .stuck
theorem call_sp {n m : Nat} {T : En → SR} {Q : VK} {vs : List V} {ds : List D} (R : Rl K F G H σ ρ) (r : RepA K G vs ds) (hn : ds.length = n) (w : Wants K E (RepX K) F G σ Q (callV (fin (T (env0 m (ds.map .val)))) ρ)) : spD K n m T vs H Q E :=
  ⟨G, R.gh, .inl ⟨ds, r, by rw [r.len, hn], callV_out R w⟩⟩
theorem L_call {n m : Nat} {T : En → SR} {t : TA} {A : En → Res (List X)} (ha : LA K E t A) : LE K E (tCallR (spD K n m T) E t) (dCall n m T A) := by
  refine LG.bind (k := fun vs σ H (Q : VK) => spD K n m T vs H Q E) ha fun F G H σ ρ vs xs Q R hx w => ?_
  cases e : toVals ρ xs with
  | none => rw [e] at w; exact w.elim
  | some p =>
    obtain ⟨ds, ρ2⟩ := p
    rw [e] at w
    dsimp only at w
    obtain ⟨G1, R1, s1, r1⟩ := R.toVals hx e
    split at w
    · rename_i hn
      exact call_sp R1 r1 hn (w.mono s1)
    · exact w.elim
/-- f(x, ..): x in slot i is lent -/
@[simp] def coAt (ρ : En) (i : Nat) : Option O := ρ[i]?.bind Slot.co
@[simp] def reAt (ρ : En) (i : Nat) (o : O) : En := match ρ[i]? with
  | some (.own _) => ρ.set i (.own o)
  | some (.bor _) => ρ.set i (.bor o)
  | _ => ρ
def callB (r : Rt) (i : Nat) (ρ : En) : Res X := match r with
  | .ok x ρ' => match (ρ'[0]? : Option Slot) with
    | some (.bor o) => .ok x (reAt ρ i o)
    | _ => .stuck
  | .err x ρ' => match (ρ'[0]? : Option Slot) with
    | some (.bor o) => .err x (reAt ρ i o)
    | _ => .stuck
  | .stuck => .stuck
def dCallB (n m : Nat) (T : En → SR) (i : Nat) (A : En → Res (List X)) : En → Res X := fun ρ => (A ρ).bind fun xs ρ1 => match toVals ρ1 xs with
  | some (ds, ρ2) => match coAt ρ2 i with
    | some o => if ds.length + 1 = n then callB (fin (T (env0 m (.bor o :: ds.map .val)))) i ρ2 else .stuck
    | none => .stuck
  | none => .stuck
theorem Rl.co {i : Nat} {o : O} (R : Rl K F G H σ ρ) (h : coAt ρ i = some o) : ∃ s a, ρ[i]? = some s ∧ s.co = some o ∧ σ[i]? = some (some (.ref a)) ∧ G a = none ∧ ObjO K G H a o := by
  unfold coAt at h
  cases e : ρ[i]? with
  | none => rw [e] at h; cases h
  | some s =>
    rw [e] at h
    obtain ⟨a, h1, h2, h3⟩ := R.holder e h
    exact ⟨s, a, rfl, h, h1, h2, h3⟩
theorem Rl.lentAt {i : Nat} {o o' : O} {a : Addr} {ρ'' : En} (R : Rl K F G H σ ρ) (h : coAt ρ i = some o) (ha : σ[i]? = some (some (.ref a))) (p : Post K G H (some a) ρ'' G' H') (ho : ρ''[0]? = some (.bor o')) : Rl K F G' H' σ (reAt ρ i o') := by
  obtain ⟨s, b, h1, h2, h3, h4, h5⟩ := R.co h
  rw [ha] at h3
  cases h3
  obtain ⟨u, e1, e2, e3⟩ := p.b a rfl
  rw [ho] at e1
  cases e1
  rcases co_cases h2 with rfl | rfl
  · have e : reAt ρ i o' = ρ.set i (.own o') := by unfold reAt; rw [h1]
    rw [e]
    exact R.lent h1 rfl ha p.s p.k p.g (fun b u hb n => p.h b u hb fun z => n (Option.some.inj z).symm) e2 e3 p.t
  · have e : reAt ρ i o' = ρ.set i (.bor o') := by unfold reAt; rw [h1]
    rw [e]
    exact R.lent h1 rfl ha p.s p.k p.g (fun b u hb n => p.h b u hb fun z => n (Option.some.inj z).symm) e2 e3 p.t
theorem retX' {v : V} {x : X} {i : Nat} {o o' : O} (R : Rl K F G H σ ρ) (hc : coAt ρ i = some o) (h : RetX K H G' H' v x) : RepX K F G' H' σ (reAt ρ i o') v x := by
  cases x with
  | val d => exact h
  | own i => exact h.elim
  | new u =>
    obtain ⟨a, rfl, h0, hg, ho⟩ := h
    refine ⟨a, rfl, R.fresh h0, hg, ho, fun j w hj z => ?_⟩
    have : ∃ w', ρ[j]? = some (.own w') := by
      obtain ⟨s, b, h1, h2, _⟩ := R.co hc
      unfold reAt at hj
      rw [h1] at hj
      rcases co_cases h2 with rfl | rfl
      · rcases getset hj with ⟨rfl, _, _⟩ | ⟨_, hj⟩
        · exact ⟨_, h1⟩
        · exact ⟨_, hj⟩
      · rcases getset hj with ⟨rfl, e, _⟩ | ⟨_, hj⟩
        · cases e
        · exact ⟨_, hj⟩
    obtain ⟨w', hw⟩ := this
    obtain ⟨b, h1, _, _, h4⟩ := R.own hw
    rw [h1] at z
    cases z
    obtain ⟨u, e⟩ := h4.ex
    rw [h0] at e
    cases e
theorem L_callB {n m i : Nat} {T : En → SR} {t : TA} {A : En → Res (List X)} (ha : LA K E t A) : LE K E (tCallR (spD K n m T) E (tCons (tVar i) t)) (fun ρ => if (coAt ρ i).isSome then dCallB n m T i A ρ else .stuck) := by
  intro F G H σ ρ Q R w
  dsimp only at w
  split at w
  · rename_i hi
    obtain ⟨o0, e0⟩ := Option.isSome_iff_exists.mp hi
    obtain ⟨s, a, h1, h2, h3, h4, h5⟩ := R.co e0
    refine ⟨_, h3, ha F G H σ ρ _ R (w.bind fun vs xs G1 H1 ρ1 R1 s1 hx w1 => ?_)⟩
    cases e : toVals ρ1 xs with
    | none => rw [e] at w1; exact w1.elim
    | some p =>
      obtain ⟨ds, ρ2⟩ := p
      rw [e] at w1
      dsimp only at w1
      obtain ⟨G2, R2, s2, r2⟩ := R1.toVals hx e
      have w2 := w1.mono s2
      cases ec : coAt ρ2 i with
      | none => rw [ec] at w2; exact w2.elim
      | some o =>
        rw [ec] at w2
        dsimp only at w2
        obtain ⟨t', b, g1, g2, g3, g4, g5⟩ := R2.co ec
        rw [h3] at g3
        cases g3
        split at w2
        · rename_i hn
          refine ⟨G2, R2.gh, .inr ⟨a, o, vs, ds, rfl, r2, by rw [r2.len, hn], g4, g5, ?_⟩⟩
          cases er : fin (T (env0 m (.bor o :: ds.map .val))) with
          | ok x ρ' =>
            rw [er] at w2
            intro v G' H' p hx
            obtain ⟨o', e1, _, _⟩ := p.b a rfl
            simp only [callB, e1] at w2
            exact w2 v G' H' (R2.lentAt ec h3 p e1) p.s (retX' R2 ec hx)
          | err x ρ' =>
            rw [er] at w2
            intro c od G' H' p hx
            obtain ⟨o', e1, _, _⟩ := p.b a rfl
            simp only [callB, e1] at w2
            exact w2 c od G' H' (R2.lentAt ec h3 p e1) p.s hx
          | stuck => rw [er] at w2; exact w2
        · exact w2.elim
  · exact w.elim
@[simp] def noF (f : Str) (ks : List Str) : Bool := !ks.contains f
theorem noF_lookup {f : Str} : ∀ {fs : List (Str × V)}, noF f (fs.map (·.1)) = true → fs.lookup f = none
  | [], _ => rfl
  | (k, v) :: fs, h => by
    simp only [noF, List.map_cons, List.contains_cons, Bool.not_or, Bool.and_eq_true, Bool.not_eq_true'] at h
    simp only [List.lookup, h.1]
    exact noF_lookup (by simp only [noF, Bool.not_eq_true']; exact h.2)
def dMeth (C : Addr) (f : Str) (n m : Nat) (T : En → SR) (A : En → Res X) (B : En → Res (List X)) : En → Res X := fun ρ => (A ρ).bind fun a ρ1 => match toVal ρ1 a with
  | some (.ins C' ks es, ρ2) => if C' = C ∧ noF f ks = true then (B ρ2).bind fun xs ρ3 => match toVals ρ3 xs with
      | some (ds, ρ4) => if ds.length + 1 = n then callV (fin (T (env0 m ((D.ins C' ks es :: ds).map .val)))) ρ4 else .stuck
      | none => .stuck
    else .stuck
  | _ => .stuck
theorem L_meth {C : Addr} {f : Str} {n m : Nat} {T : En → SR} {ta : TE} {t : TA} {A : En → Res X} {B : En → Res (List X)} (ha : LE K E ta A) (hb : LA K E t B) : LE K E (DD.tMethR C f (spD K n m T) E ta t) (dMeth C f n m T A B) := by
  refine LG.bind (k := fun x σ H (Q : VK) => ∃ a dx fs, x = .ref a ∧ H a = some (.ins C dx fs) ∧ fs.lookup f = none ∧ t σ H fun vs H2 => spD K n m T (x :: vs) H2 Q E) ha fun F G H σ ρ x a Q R hx w => ?_
  cases e : toVal ρ a with
  | none => rw [e] at w; exact w.elim
  | some p =>
    obtain ⟨d, ρ2⟩ := p
    rw [e] at w
    obtain ⟨G1, R1, s1, r1⟩ := R.toVal hx e
    cases d <;> try exact w.elim
    rename_i C' ks es
    dsimp only at w
    split at w
    · rename_i hc
      obtain ⟨rfl, hf⟩ := hc
      have r1' := r1
      cases r1 with
      | ins h1 h2 h3 =>
        subst h2
        refine ⟨_, _, _, rfl, R1.gh _ _ h1, noF_lookup hf, hb F G1 H σ ρ2 _ R1 ((w.mono s1).bind fun vs xs G2 H2 ρ3 R2 s2 hx2 w2 => ?_)⟩
        cases e2 : toVals ρ3 xs with
        | none => rw [e2] at w2; exact w2.elim
        | some p =>
          obtain ⟨ds, ρ4⟩ := p
          rw [e2] at w2
          dsimp only at w2
          obtain ⟨G3, R3, s3, r3⟩ := R2.toVals hx2 e2
          split at w2
          · rename_i hn
            exact call_sp R3 (.cons (r1'.mono (s2.trans s3)) r3) (by rw [List.length_cons]; exact hn) (w2.mono s3)
          · exact w2.elim
    · exact w.elim
def dProp (C : Addr) (m : Nat) (T : En → SR) (A : En → Res X) : En → Res X := fun ρ => (A ρ).bind fun a ρ1 => match toVal ρ1 a with
  | some (.ins C' ks es, ρ2) => if C' = C then callV (fin (T (env0 m [.val (D.ins C' ks es)]))) ρ2 else .stuck
  | _ => .stuck
def makeV (r : Rt) (ρ : En) : Res X := match r with
  | .ok (.val .non) ρ' => match (ρ'[0]? : Option Slot) with
    | some (.bor o) => .ok (.new o) ρ
    | _ => .stuck
  | .err x _ => .err x ρ
  | _ => .stuck
def dMake (C : Addr) (n m : Nat) (T : En → SR) (A : En → Res (List X)) : En → Res X := fun ρ => (A ρ).bind fun xs ρ1 => match toVals ρ1 xs with
  | some (ds, ρ2) => if ds.length + 1 = n then makeV (fin (T (env0 m (.bor (.ins C [] []) :: ds.map .val)))) ρ2 else .stuck
  | none => .stuck
theorem make_sp {C : Addr} {n m : Nat} {T : En → SR} {Q : VK} {vs : List V} {ds : List D} {x dx : Addr} (R : Rl K F G H σ ρ) (r : RepA K G vs ds) (hn : ds.length + 1 = n) (nx : H x = none) (ndx : H dx = none) (ne : dx ≠ x)
    (w : Wants K E (RepX K) F G σ Q (makeV (fin (T (env0 m (.bor (.ins C [] []) :: ds.map .val)))) ρ)) : spD K n m T (.ref x :: vs) (upd (upd H dx (.own x)) x (.ins C dx [])) (fun v H2 => v = .non ∧ Q (.ref x) H2) E := by
  have R1 := R.laid (o := .own x) ndx
  have nx1 : upd H dx (.own x) x = none := by rw [upd_ne (Ne.symm ne)]; exact nx
  have R2 := R1.laid (o := .ins C dx []) nx1
  have x0 := R.fresh nx
  have far : ∀ b, b = x → F.H0 b = none ∧ ∀ (j : Nat) (u : O), ρ[j]? = some (.own u) → σ[j]? ≠ some (some (.ref b)) := fun b e => by
    subst e
    refine ⟨x0, fun j u hj z => ?_⟩
    obtain ⟨c, h1, _, _, h4⟩ := R.own hj
    rw [h1] at z
    cases z
    obtain ⟨u, e⟩ := h4.ex
    rw [nx] at e
    cases e
  refine ⟨G, R2.gh, .inr ⟨x, .ins C [] [], vs, ds, rfl, r, by rw [r.len, hn], R.freshG nx, ⟨dx, [], upd_same, rfl, .nil⟩, ?_⟩⟩
  cases er : fin (T (env0 m (.bor (.ins C [] []) :: ds.map .val))) with
  | stuck => rw [er] at w; exact w
  | err y ρ' =>
    rw [er] at w
    intro c od G' H' p hx
    have R3 := R2.after (ch := fun b => b = x) p.s p.k p.g (fun b o h n => p.h b o h fun z => n (Option.some.inj z).symm) far (fun b u e h => by subst e; rw [upd_same] at h; cases h; exact usual_ins) p.t
    exact w c od G' H' R3 p.s hx
  | ok y ρ' =>
    rw [er] at w
    intro v G' H' p hx
    have R3 := R2.after (ch := fun b => b = x) p.s p.k p.g (fun b o h n => p.h b o h fun z => n (Option.some.inj z).symm) far (fun b u e h => by subst e; rw [upd_same] at h; cases h; exact usual_ins) p.t
    cases y with
    | own i => exact w.elim
    | new o => exact w.elim
    | val d =>
      cases d <;> try exact w.elim
      cases hx
      obtain ⟨o, e1, e2, e3⟩ := p.b x rfl
      simp only [makeV, e1] at w
      exact ⟨rfl, w _ G' H' R3 p.s ⟨x, rfl, x0, e2, e3, (far x rfl).2⟩⟩
theorem L_make {C : Addr} {n m : Nat} {T : En → SR} {t : TA} {A : En → Res (List X)} (ha : LA K E t A) : LE K E (StX.tMakeR C (spD K n m T) E t) (dMake C n m T A) := by
  refine LG.bind (k := fun vs σ H (Q : VK) => ∀ x dx, H x = none → H dx = none → dx ≠ x → spD K n m T (.ref x :: vs) (upd (upd H dx (.own x)) x (.ins C dx [])) (fun v H2 => v = .non ∧ Q (.ref x) H2) E) ha fun F G H σ ρ vs xs Q R hx w => ?_
  cases e : toVals ρ xs with
  | none => rw [e] at w; exact w.elim
  | some p =>
    obtain ⟨ds, ρ2⟩ := p
    rw [e] at w
    dsimp only at w
    obtain ⟨G1, R1, s1, r1⟩ := R.toVals hx e
    split at w
    · rename_i hn
      exact fun x dx nx ndx ne => make_sp R1 r1 hn nx ndx ne (w.mono s1)
    · exact w.elim
end
end DL
set_option Elab.async false
set_option linter.all false
set_option maxRecDepth 100000
set_option maxHeartbeats 2000000
namespace DL
open PySem PySem.Spec PyProof.Rows L2 DD
@[simp] def D.ty : D → Value
  | .non => .type "NoneType"
  | .bl _ => .type "bool"
  | .int _ => .type "int"
  | .str _ => .type "str"
  | .tup _ => .type "tuple"
  | .lst _ | .scr _ => .type "list"
  | .ins C _ _ => .ref C
  | .cls _ => .none
@[simp] def D.tyOk (Cs : List Addr) : D → Bool
  | .ins C _ _ => Cs.contains C
  | .cls _ => false
  | _ => true
structure TyC (K : Fg) (C : Addr) : Prop where
  cl : Cls K C
  ha : PySem.W.findIn K (.ref C) "__class__" = some (some (.builtin "object.__class__"))
  hn : PySem.W.specialIn K (.builtin "object.__class__") "__get__" = some (some (.builtin "getset_descriptor.__get__"))
  ht : PySem.W.takesIn K (.builtin "object.__class__") = some true
  hm : PySem.W.mroIn K C (.type "object") = some true
abbrev Kit := Value → Value → Option Bool
def KitOk (K : Fg) (kt : Kit) : Prop := ∀ t u b, kt t u = some b → PySem.W.kitOne K t u = some b
def anyK (kt : Kit) (t : Value) : List Value → Option Bool
  | [] => some false
  | u :: us => match kt t u with
    | some true => some true
    | some false => anyK kt t us
    | none => none
section
variable {K : Fg} {E : XK} {F : Fm} {G G' H H' : Hp} {σ : L2.St} {ρ ρ' : En}
theorem anyK_ok {kt : Kit} (hk : KitOk K kt) {t : Value} {b : Bool} : ∀ {us : List Value}, anyK kt t us = some b → PySem.W.kitAny K t us = some b
  | [], e => by cases e; rfl
  | u :: us, e => by
    unfold anyK at e
    cases e1 : kt t u with
    | none => rw [e1] at e; cases e
    | some c =>
      rw [e1] at e
      cases c with
      | true => exact kitAny_cons (hk _ _ _ e1) (fun z => nomatch z) fun _ => by cases e; rfl
      | false => exact kitAny_cons (hk _ _ _ e1) (fun _ => anyK_ok hk e) fun z => nomatch z
theorem ty_rep {Cs : List Addr} (hc : ∀ C ∈ Cs, TyC K C) {v : V} {d : D} (h : Rep K H v d) (ok : d.tyOk Cs = true) : TyX K H v d.ty := by
  cases h with
  | non => exact .base .non
  | bl b => exact .base (.bl b)
  | int i => exact .base (.int i)
  | str x => exact .base (.str x)
  | tup g r =>
    rcases g with (g | ⟨o, g⟩) | ⟨o, its, n, g, c, _⟩
    · exact .base (.tup g)
    · exact .fTuple g
    · exact .kTuple g c
  | lst g r => exact .base (.lst g)
  | scr g r =>
    rcases g with (g | ⟨o, g⟩) | ⟨o, its, n, g, c, _⟩
    · exact .base (.lst g)
    · exact .base (.frz g)
    · exact .kList g c
  | @ins a C dx fs ks ds g k r =>
    have t := hc C (by simpa [D.tyOk] using ok)
    exact .base (.ins g t.cl t.ha t.hn t.ht t.hm)
  | cls C => cases ok
def dIsi (kt : Kit) (Cs : List Addr) (us : List Value) (A : En → Res X) : En → Res X := fun ρ => (A ρ).bind fun a ρ1 => match deref ρ1 a with
  | some d => if d.tyOk Cs = true then lift ((anyK kt d.ty us).map fun b => X.val (.bl b)) ρ1 else .stuck
  | none => .stuck
theorem L_isi {kt : Kit} {Cs : List Addr} {c : V} {u : Value} {ta : TE} {A : En → Res X} (hk : KitOk K kt) (hc : ∀ C ∈ Cs, TyC K C) (hu : ClsV c u) (ha : LE K E ta A) : LE K E (tCB (rIsi K) (tCons ta (tCons (tC c) tNil))) (dIsi kt Cs [u] A) := by
  refine LG.bind (k := fun x σ H (Q : VK) => rIsi K [x, c] H Q) ha fun F G H σ ρ x a Q R hx w => ?_
  cases e : deref ρ a with
  | none => rw [e] at w; exact w.elim
  | some d =>
    rw [e] at w
    dsimp only at w
    split at w
    · rename_i ok
      obtain ⟨z, ez, q⟩ := w.lift
      rw [Option.map_eq_some_iff] at ez
      obtain ⟨b, eb, rfl⟩ := ez
      have e1 : kt d.ty u = some b := by
        unfold anyK at eb
        cases e1 : kt d.ty u with
        | none => rw [e1] at eb; cases eb
        | some c =>
          rw [e1] at eb
          cases c with
          | true => exact eb
          | false => cases eb; rfl
      exact ⟨x, c, d.ty, u, b, rfl, hu, ty_rep hc ((R.deref hx e).rep R.gh) ok, hk _ _ _ e1, q _ G H R (Same.refl G) (.bl _)⟩
    · exact w.elim
def tCs : List V → TA
  | [] => tNil
  | c :: cs => tCons (tC c) (tCs cs)
theorem tCs_run {Q : List V → Hp → Prop} : ∀ {cs : List V}, Q cs H → tCs cs σ H Q
  | [], q => q
  | c :: cs, q => tCs_run (cs := cs) (Q := fun xs H2 => Q (c :: xs) H2) q
theorem L_isiT {kt : Kit} {Cs : List Addr} {cs : List V} {us : List Value} {ta : TE} {A : En → Res X} (hk : KitOk K kt) (hc : ∀ C ∈ Cs, TyC K C) (hu : Paired ClsV cs us) (hz : cs.length ≤ sizeLine) (ha : LE K E ta A) :
    LE K E (tCB (rIsiT K) (tCons ta (tCons (tTup (tCs cs)) tNil))) (dIsi kt Cs us A) := by
  refine LG.bind (k := fun x σ H (Q : VK) => tTup (tCs cs) σ H fun y H2 => rIsiT K [x, y] H2 Q) ha fun F G H σ ρ x a Q R hx w => ?_
  obtain ⟨G1, R1, s1, hx1⟩ := R.settle hx
  have e0 : deref ρ a.settle = deref ρ a := by cases a <;> rfl
  cases e : deref ρ a with
  | none => rw [e] at w; exact w.elim
  | some d =>
    rw [e] at w
    dsimp only at w
    split at w
    · rename_i ok
      obtain ⟨z, ez, q⟩ := w.lift
      rw [Option.map_eq_some_iff] at ez
      obtain ⟨b, eb, rfl⟩ := ez
      refine tCs_run ⟨hz, fun p np => ?_⟩
      have R2 := R1.laid (o := .tup cs) np
      have hx2 : RepX K F G1 (upd H p (.tup cs)) σ ρ x a.settle := hx1.keep settle_no (Same.refl G1)
      exact ⟨x, p, cs, d.ty, us, b, rfl, upd_same, hu, ty_rep hc ((R2.deref hx2 (e0.trans e)).rep R2.gh) ok, anyK_ok hk eb, q _ G1 _ R2 s1 (.bl _)⟩
    · exact w.elim
def callP (p : X → Option X) (r : Rt) (ρ : En) : Res X := match r with
  | .ok x _ => lift (p x) ρ
  | .err x _ => .err x ρ
  | .stuck => .stuck
@[simp] def xStr : X → Option X
  | .val (.str y) => some (.val (.str y))
  | _ => none
@[simp] def xBl : X → Option X
  | .val (.bl y) => some (.val (.bl y))
  | _ => none
@[simp] def xNb : X → Option X
  | .val (.bl y) => some (.val (.bl !y))
  | _ => none
@[simp] def xLen : X → Option X
  | .val (.int i) => if 0 ≤ i ∧ i < 2 ^ 63 then some (.val (.int i)) else none
  | _ => none
theorem callP_sp {p : X → Option X} {n m : Nat} {T : En → SR} {Q Q' : VK} {vs : List V} {ds : List D} (R : Rl K F G H σ ρ) (r : RepA K G vs ds) (hn : ds.length = n) (w : Wants K E (RepX K) F G σ Q (callP p (fin (T (env0 m (ds.map .val)))) ρ))
    (hp : ∀ x y v G' H', p x = some y → RetX K H G' H' v x → (∀ v' , RetX K H G' H' v' y → Q v' H') → Q' v H') : spD K n m T vs H Q' E := by
  refine ⟨G, R.gh, .inl ⟨ds, r, by rw [r.len, hn], ?_⟩⟩
  cases er : fin (T (env0 m (ds.map .val))) with
  | stuck => rw [er] at w; exact w
  | err x ρ' =>
    rw [er] at w
    intro c od G' H' p hx
    have R' := R.after (ch := fun _ => False) p.s p.k p.g (fun b o h _ => p.h b o h (fun z => (nomatch z))) (fun b z => z.elim) (fun b u z => z.elim) p.t
    exact w c od G' H' R' p.s hx
  | ok x ρ' =>
    rw [er] at w
    intro v G' H' ps hx
    have R' := R.after (ch := fun _ => False) ps.s ps.k ps.g (fun b o h _ => ps.h b o h (fun z => (nomatch z))) (fun b z => z.elim) (fun b u z => z.elim) ps.t
    obtain ⟨y, ey, q⟩ := Wants.lift w
    exact hp x y v G' H' ey hx fun v' hv => q v' G' H' R' ps.s (retX R hv)
def dStrO (C : Addr) (m : Nat) (T : En → SR) (A : En → Res X) : En → Res X := fun ρ => (A ρ).bind fun a ρ1 => match toVal ρ1 a with
  | some (.ins C' ks es, ρ2) => if C' = C then callP xStr (fin (T (env0 m [.val (D.ins C' ks es)]))) ρ2 else .stuck
  | _ => .stuck
theorem L_strO {C : Addr} {m : Nat} {T : En → SR} {ta : TE} {A : En → Res X} (ha : LE K E ta A) : LE K E (tCB (rStrO C (spD K 1 m T) E) (tCons ta tNil)) (dStrO C m T A) := by
  refine LG.bind (k := fun x σ H (Q : VK) => rStrO C (spD K 1 m T) E [x] H Q) ha fun F G H σ ρ x a Q R hx w => ?_
  cases e : toVal ρ a with
  | none => rw [e] at w; exact w.elim
  | some p =>
    obtain ⟨d, ρ2⟩ := p
    rw [e] at w
    obtain ⟨G1, R1, s1, r1⟩ := R.toVal hx e
    cases d <;> try exact w.elim
    rename_i C' ks es
    dsimp only at w
    split at w
    · rename_i hc
      subst hc
      have r1' := r1
      cases r1 with
      | ins h1 h2 h3 =>
        refine ⟨_, _, _, rfl, R1.gh _ _ h1, callP_sp (ds := [D.ins C' ks es]) R1 (.one r1') rfl (w.mono s1) fun x y v G' H' ep hx q => ?_⟩
        cases x with
        | val d =>
          cases d <;> cases ep
          cases hx
          exact ⟨_, rfl, q _ (.str _)⟩
        | own i => cases ep
        | new o => cases ep
    · exact w.elim
def dLenO (C : Addr) (m : Nat) (T : En → SR) (A : En → Res X) : En → Res X := fun ρ => (A ρ).bind fun a ρ1 => match toVal ρ1 a with
  | some (.ins C' ks es, ρ2) => if C' = C then callP xLen (fin (T (env0 m [.val (D.ins C' ks es)]))) ρ2 else .stuck
  | _ => .stuck
def dEqO (p : X → Option X) (C : Addr) (m : Nat) (T : En → SR) (A B : En → Res X) : En → Res X := fun ρ => (A ρ).bind fun a ρ1 => (B ρ1).bind fun b ρ2 => match toVal ρ2 a.settle with
  | some (.ins C' ks es, ρ3) => match toVal ρ3 b.settle with
    | some (.ins C'' ks' es', ρ4) => if C' = C ∧ C'' = C then callP p (fin (T (env0 m [.val (D.ins C' ks es), .val (D.ins C'' ks' es')]))) ρ4 else .stuck
    | _ => .stuck
  | _ => .stuck
theorem xNb_ok {G : Hp} : ∀ z w, xNb z = some w → ∃ c, z = .val (.bl c) ∧ ∃ d, w = .val d ∧ ∀ G, Rep K G (.bl (!c)) d := by
  intro z w e
  cases z with
  | val d => cases d <;> cases e; exact ⟨_, rfl, _, rfl, fun _ => .bl _⟩
  | own i => cases e
  | new o => cases e
theorem eqO_run {p : X → Option X} {C : Addr} {m : Nat} {T : En → SR} {a b : X} {x y : V} {Q : VK} {P : Bool → V} (hp : ∀ z w, p z = some w → ∃ c, z = .val (.bl c) ∧ ∃ d, w = .val d ∧ ∀ G, Rep K G (P c) d) (R : Rl K F G H σ ρ) (hx : RepX K F G H σ ρ x a) (hs : ∀ o, a ≠ .new o) (hy : RepX K F G H σ ρ y b)
    (w : Wants K E (RepX K) F G σ Q (match toVal ρ a with
      | some (.ins C' ks es, ρ3) => match toVal ρ3 b with
        | some (.ins C'' ks' es', ρ4) => if C' = C ∧ C'' = C then callP p (fin (T (env0 m [.val (D.ins C' ks es), .val (D.ins C'' ks' es')]))) ρ4 else .stuck
        | _ => .stuck
      | _ => .stuck)) (hb : ∀ o, b ≠ .new o) :
    ∃ a dx fs b dy gs, x = .ref a ∧ y = .ref b ∧ H a = some (.ins C dx fs) ∧ H b = some (.ins C dy gs) ∧ spD K 2 m T [.ref a, .ref b] H (fun v H' => ∃ c, v = .bl c ∧ Q (P c) H') E := by
  cases e : toVal ρ a with
  | none => rw [e] at w; exact w.elim
  | some q =>
    obtain ⟨d, ρ3⟩ := q
    rw [e] at w
    obtain ⟨G1, R1, s1, r1⟩ := R.toVal hx e
    cases d <;> try exact w.elim
    rename_i C' ks es
    dsimp only at w
    cases e2 : toVal ρ3 b with
    | none => rw [e2] at w; exact w.elim
    | some q2 =>
      obtain ⟨d2, ρ4⟩ := q2
      rw [e2] at w
      obtain ⟨G2, R2, s2, r2⟩ := R1.toVal (hy.keep hb s1) e2
      cases d2 <;> try exact w.elim
      rename_i C'' ks' es'
      dsimp only at w
      split at w
      · rename_i hc
        obtain ⟨rfl, rfl⟩ := hc
        have r1' := r1
        have r2' := r2
        cases r1 with
        | ins h1 h2 h3 =>
          cases r2 with
          | ins g1 g2 g3 =>
            refine ⟨_, _, _, _, _, _, rfl, rfl, R1.gh _ _ h1, R2.gh _ _ g1, callP_sp (ds := [D.ins _ ks es, D.ins _ ks' es']) R2 (.cons (r1'.mono s2) (.one r2')) rfl (w.mono (s1.trans s2)) fun x y v G' H' ep hx q => ?_⟩
            obtain ⟨c, rfl, d, rfl, hd⟩ := hp x y ep
            cases hx
            exact ⟨c, rfl, q _ (hd _)⟩
      · exact w.elim
theorem Out.mono {ob : Option Addr} {Q Q' : VK} (h : ∀ v H', Q v H' → Q' v H') : ∀ {r : Rt}, Out K E G H ob Q r → Out K E G H ob Q' r
  | .ok x ρ', o => fun v G' H' p hx => h _ _ (o v G' H' p hx)
  | .err x ρ', o => o
  | .stuck, o => o
theorem L_neO {C : Addr} {m : Nat} {T : En → SR} {ta tb : TE} {A B : En → Res X} (ha : LE K E ta A) (hb : LE K E tb B) : LE K E (tOp (rNeO C (spD K 2 m T) E) ta tb) (dEqO xNb C m T A B) := by
  refine LG.bind (k := fun x σ H (Q : VK) => tb σ H fun y H2 => rNeO C (spD K 2 m T) E x y H2 Q) ha fun F G H σ ρ x a Q R hx w => ?_
  obtain ⟨G1, R1, s1, hx1⟩ := R.settle hx
  have w1 := w.mono s1
  refine hb F G1 H σ ρ _ R1 (w1.bind fun y b G2 H2 ρ2 R2 s2 hy w2 => ?_)
  obtain ⟨G3, R3, s3, hy3⟩ := R2.settle hy
  exact eqO_run (P := fun c => .bl (!c)) (xNb_ok (G := G)) R3 (hx1.keep settle_no (s2.trans s3)) settle_no hy3 (w2.mono s3) settle_no
def lc2L (vs vs1 : List Nat) (U : Tg) (T : En → Res Bool) (S1 : En → Res (List D)) (U1 : Tg) (T1 : En → Res Bool) (A : En → Res X) : List D → En → List D → Res (List D)
  | [], ρ, acc => .ok acc ρ
  | d :: ds, ρ, acc => match U d ρ with
    | none => .stuck
    | some ρ1 => match T ρ1 with
      | .ok true ρ2 => match S1 ρ2 with
        | .ok es ρ3 => if vs1.all (freeAt ρ3) = true then match lcL vs1 U1 T1 A es (wipeN ρ3 vs1) acc with
            | .ok acc' ρ4 => if vs.all (freeAt ρ4) = true then lc2L vs vs1 U T S1 U1 T1 A ds (wipeN ρ4 vs) acc' else .stuck
            | _ => .stuck
          else .stuck
        | _ => .stuck
      | .ok false ρ2 => if vs.all (freeAt ρ2) = true then lc2L vs vs1 U T S1 U1 T1 A ds (wipeN ρ2 vs) acc else .stuck
      | _ => .stuck
def dLc2 (S : En → Res (List D)) (vs vs1 : List Nat) (U : Tg) (T : En → Res Bool) (S1 : En → Res (List D)) (U1 : Tg) (T1 : En → Res Bool) (A : En → Res X) : En → Res X := fun ρ => (S ρ).bind fun ds ρ1 => if vs.all (freeAt ρ1) = true then
    match lc2L vs vs1 U T S1 U1 T1 A ds (wipeN ρ1 vs) [] with
    | .ok es ρ2 => .ok (.new (.lst es)) ρ2
    | _ => .stuck
  else .stuck
end
end DL
set_option Elab.async false
set_option linter.all false
set_option maxRecDepth 100000
set_option maxHeartbeats 2000000
namespace DL
open PySem PySem.Spec PyProof.Rows L2 DD
abbrev opSub : D2 := opI fun i j => .int (i - j)
noncomputable abbrev opMul : D2 := opIC CMul fun i j => .int (i * j)
noncomputable abbrev opFdiv : D2 := opIC CDiv fun i j => .int (i / j)
noncomputable abbrev opMod : D2 := opIC (fun _ j => 0 < j) fun i j => .int (i % j)
noncomputable abbrev opPow : D2 := opIC CPow fun i j => .int (i ^ j.toNat)
abbrev opLe : D2 := opI fun i j => .bl (decide (i ≤ j))
abbrev opGt : D2 := opI fun i j => .bl (decide (j < i))
abbrev opGe : D2 := opI fun i j => .bl (decide (j ≤ i))
@[simp] def opNeg : D → Option X
  | .int i => some (.val (.int (-i)))
  | _ => none
def dUn (f : D → Option X) (A : En → Res X) : En → Res X := fun ρ => (A ρ).bind fun a ρ1 => match deref ρ1 a with
  | some d => lift (f d) ρ1
  | none => .stuck
def dLend (n m : Nat) (T : En → SR) (i : Nat) (A : En → Res (List X)) : En → Res X := fun ρ => if (coAt ρ i).isSome then dCallB n m T i A ρ else .stuck
/-- a def that raises nothing -/
def spD0 (K : Fg) (n m : Nat) (T : En → SR) : Sp := fun vs H Q _ => spD K n m T vs H Q E0
/-- the last arguments are the defaults dd -/
@[simp] def fillD (n : Nat) (dd : List D) (ρ : En) : En := env0 ρ.length (ρ.take n ++ dd.map Slot.val)
section
variable {P : Program} {w : World} {K : Fg} {mg : Str → Option Value} {base : Heap} {E : XK} {G H : Hp}
theorem L_lend {n m i : Nat} {T : En → SR} {t : TA} {A : En → Res (List X)} (ha : LA K E t A) : LE K E (tCallR (spD K n m T) E (tCons (tVar i) t)) (dLend n m T i A) := L_callB ha
theorem fill_env {m n : Nat} {ss : List Slot} {dd : List D} (hn : ss.length = n) (hm : n + dd.length ≤ m) : fillD n dd (env0 m ss) = env0 m (ss ++ dd.map Slot.val) := by
  have hl : (env0 m ss).length = m := by
    unfold env0
    rw [List.length_append, List.length_replicate]
    omega
  unfold fillD
  rw [hl]
  congr 1
  unfold env0
  rw [List.take_left' hn]
theorem spD_fill {n m : Nat} {T : En → SR} {dd : List D} {dvs vs : List V} {Q : VK} (hr : ∀ G, RepA K G dvs dd) (hm : n + dd.length ≤ m) (h : spD K n m (fun ρ => T (fillD n dd ρ)) vs H Q E) : spD K (n + dd.length) m T (vs ++ dvs) H Q E := by
  obtain ⟨G, s, h⟩ := h
  refine ⟨G, s, ?_⟩
  rcases h with ⟨ds, r, hn, o⟩ | ⟨a, u, ws, ds, rfl, r, hn, hg, ho, o⟩
  · refine .inl ⟨ds ++ dd, r.app (hr G), by rw [List.length_append, hn, (hr G).len], ?_⟩
    have e : fillD n dd (env0 m (ds.map Slot.val)) = env0 m (ds.map Slot.val ++ dd.map Slot.val) := fill_env (by rw [List.length_map, ← r.len, hn]) hm
    dsimp only at o
    rw [e] at o
    rw [List.map_append]
    exact o
  · refine .inr ⟨a, u, ws ++ dvs, ds ++ dd, rfl, r.app (hr G), by rw [List.length_append, (hr G).len]; omega, hg, ho, ?_⟩
    have e : fillD n dd (env0 m (Slot.bor u :: ds.map Slot.val)) = env0 m (Slot.bor u :: ds.map Slot.val ++ dd.map Slot.val) := fill_env (by rw [List.length_cons, List.length_map, ← r.len, hn]) hm
    dsimp only at o
    rw [e] at o
    rw [List.map_append]
    exact o
/-- a def with defaults, those from the j-th on left out -/
theorem mkDD {x qual : Str} {st : Stmt} {f : Addr} {N ps : List Str} {k : Nat} {T : En → SR} {dvs : List V} {dd : List D} (n j : Nat) (F : ∃ fd, FunD K x qual (defArgs st) (defBody st) (defScope st) dvs [] f fd) (hd : dvs ≠ []) (hn : n + (dvs.length - j) = ps.length) (S : FnScope N ps (defScope st)) (hN : ps.length ≤ N.length)
    (hr : ∀ G, RepA K G (dvs.drop j) dd)
    (hb : ∀ (T : Addr) (kV doc pm : Value) (an : Option Addr) (cdv ct : Value) (us its : List Value), us.length = n → its.length = dvs.length →
      ∃ k, bindArgs (PySem.W.fnOf x qual (defArgs st) (defBody st) (defScope st) (.ref T) kV doc pm an cdv ct) ⟨us, []⟩ = seqItems? (.ref T) >>= k ∧ k (some its.toArray) = pure (ps.zip (us ++ its.drop j)))
    (hbody : ∀ (cdv : Value) (A : Around) (outer : List Env) (s : Shared) (H : Hp) (E : XK), Room k (A.deeper (envOfC qual (defScope st) s.heap.objs.size f cdv)) →
      ∃ t, PSs (cxOf CX0 P w K mg base N qual (defScope st) f cdv A outer s H E) (defBody st) t ∧ LS K E0 t T) : FnR P w K mg base CX0 (k + 1) f (spD0 K n N.length (fun ρ => T (fillD n dd ρ))) := by
  obtain ⟨fd, F⟩ := F
  have hdd : dd.length = dvs.length - j := by rw [← (hr fun _ => none).len, List.length_drop]
  have G : FnOk P w K mg base CX0 (k + 1) f fd ps (spD0 K ps.length N.length T) := F.ok S (fun vs H Q E h => spD_len h) fun cdv A outer s H vs Q E hr hs => by
    obtain ⟨t, h1, h2⟩ := hbody cdv A outer s H E hr
    exact ⟨t, h1, spD_run hN h2 hs⟩
  obtain ⟨ds, hv, b⟩ := F.binds1 n j hd hn hb
  refine (G.raw b hv).imp fun vs H Q E h => ?_
  have := spD_fill (E := E0) (T := T) hr (by omega) h
  rw [hdd, hn] at this
  exact this
def dCMeth (C : Addr) (n m : Nat) (T : En → SR) (B : En → Res (List X)) : En → Res X := fun ρ => (B ρ).bind fun xs ρ1 => match toVals ρ1 xs with
  | some (ds, ρ2) => if ds.length + 1 = n then callV (fin (T (env0 m ((D.cls C :: ds).map .val)))) ρ2 else .stuck
  | none => .stuck
def dMakeL (C : Addr) (i n m : Nat) (T : En → SR) (A : En → Res (List X)) : En → Res X := fun ρ => match ρ[i]? with
  | some (.val (.cls C')) => if C' = C then dMake C n m T A ρ else .stuck
  | _ => .stuck
theorem pe_fldK {X : Cx} {K : Fg} {e : Expr} {f : Str} {pos : Pos} {ta : TE} (he : PE X e ta) (hb : attributeBase e f X.env (eval e X.env) = eval e X.env) (h : X.K = K := by rfl) : PE X (.Attribute e f pos) (tFld K ta f) := h ▸ pe_fld he hb
theorem pg_tupK {X : Cx} {K : Fg} {es : List Expr} {k : Nat} {t : TGs} {n : Nat} {pos : Pos} (hc : X.calm = true) (h : PGs X es t)
    (hn : (assignEach es X.env).length = n := by rfl) (hst : (assignEach es X.env).findIdx? (·.1) = none := by rfl) (hK : X.K = K := by rfl) : PG X (.Tuple es k pos) (gTup K n t) := hK ▸ pg_tup hc h hn hst
theorem room5 {k : Nat} {A : Around} (hr : Room k A) : A.units + 65 < cLine := by
  have := hr.un
  omega
structure Cl where
  Day : Addr
  Rule : Addr
  Frame : Addr
  DimError : Addr
  InvalidDay : Addr
  InvalidRule : Addr
  InvalidFrame : Addr
  InvalidText : Addr
  InvalidLooks : Addr
  InvalidSlot : Addr
  InvalidCommand : Addr
  Refused : Addr
  NoMeeting : Addr
  Maker : Addr
  Machine : Addr
  Viewer : Addr
  Live : Addr
  Desk : Addr
def blts : List String := ["int", "bool", "str", "tuple", "list"]
theorem kit_blt {C : Addr} {b : String} (hb : b ∈ blts) (h : PySem.W.subIn K (.ref C) (.type b) = some false) : PySem.W.kitOne K (.ref C) (.type b) = some false := by
  have m : PySem.W.kitMeta b = true := by
    simp only [blts, List.mem_cons, List.not_mem_nil, or_false] at hb
    rcases hb with rfl | rfl | rfl | rfl | rfl <;> decide +kernel
  have e : ((Value.ref C) == (Value.type b)) = false := rfl
  unfold PySem.W.kitOne
  rw [e]
  show (if PySem.W.kitMeta b = true then PySem.W.subIn K (.ref C) (.type b) else none) = _
  rw [if_pos m, h]
def kitD (Cs : List Addr) : Kit
  | .type a, .type b => kitB a b
  | .ref a, .type b => if a ∈ Cs ∧ b ∈ blts then some false else none
  | .ref a, .ref b => if a = b then some true else none
  | .type a, .ref b => if a = "str" ∧ b ∈ Cs then some false else none
  | _, _ => none
theorem kitD_ok {Cs : List Addr} (h : ∀ C ∈ Cs, PySem.W.kitOne K (.type "str") (.ref C) = some false) (h2 : ∀ C ∈ Cs, ∀ b ∈ blts, PySem.W.subIn K (.ref C) (.type b) = some false) : KitOk K (kitD Cs) := by
  intro t u b e
  unfold kitD at e
  split at e
  · exact kit_ty e
  · split at e
    · rename_i hc
      cases e
      exact kit_blt hc.2 (h2 _ hc.1 _ hc.2)
    · cases e
  · split at e
    · rename_i h
      cases e
      rw [h]
      simp [PySem.W.kitOne]
    · cases e
  · split at e
    · rename_i hc
      cases e
      rw [hc.1]
      exact h _ hc.2
    · cases e
  · cases e
def sDead : En → SR := fun _ => .stuck
theorem L_dead : LS K E (fun _ _ _ => False) sDead := fun F G H σ ρ D R w => w.elim
def dSeqI (A : En → Res X) : En → Res (List D) := fun ρ => (A ρ).bind fun a ρ1 => match a with
  | .val d => lift d.items ρ1
  | .new o => lift o.d.items ρ1
  | .own i => match ρ1[i]? with
    | some (.val d) => lift d.items ρ1
    | _ => .stuck
section
variable {E' : XK} {C : Addr} {g : Str} {n m i : Nat} {T : En → SR} {ta tb : TE} {t : TA} {A B : En → Res X} {As : En → Res (List X)} {x qual : Str} {st : Stmt} {f : Addr} {N ps : List Str} {k : Nat}
theorem Lz_call (ha : LA K E0 t As) : LE K E0 (tCallR (spD0 K n m T) E' t) (dCall n m T As) := L_call ha
theorem Lz_lend (ha : LA K E0 t As) : LE K E0 (tCallR (spD0 K n m T) E' (tCons (tVar i) t)) (dLend n m T i As) := L_lend ha
theorem Lz_meth (ha : LE K E0 ta A) (hb : LA K E0 t As) : LE K E0 (DD.tMethR C g (spD0 K n m T) E' ta t) (dMeth C g n m T A As) := L_meth ha hb
theorem Lz_make (ha : LA K E0 t As) : LE K E0 (StX.tMakeR C (spD0 K n m T) E' t) (dMake C n m T As) := L_make ha
theorem Lz_strO (ha : LE K E0 ta A) : LE K E0 (tCB (rStrO C (spD0 K 1 m T) E') (tCons ta tNil)) (dStrO C m T A) := L_strO ha
theorem Lz_neO (ha : LE K E0 ta A) (hb : LE K E0 tb B) : LE K E0 (tOp (rNeO C (spD0 K 2 m T) E') ta tb) (dEqO xNb C m T A B) := L_neO ha hb
/-- a def without defaults -/
theorem mkDz (F : ∃ fd, Fun K x qual st f fd) (S : FnScope N ps (defScope st)) (hN : ps.length ≤ N.length)
    (hb : ∀ (kV doc pm : Value) (an : Option Addr) (cdv ct : Value) (us : List Value), us.length = ps.length → bindArgs (PySem.W.fnOf x qual (defArgs st) (defBody st) (defScope st) .none kV doc pm an cdv ct) ⟨us, []⟩ = pure (ps.zip us))
    (hbody : ∀ (cdv : Value) (A : Around) (outer : List Env) (s : Shared) (H : Hp) (E : XK), Room k (A.deeper (envOfC qual (defScope st) s.heap.objs.size f cdv)) →
      ∃ t, PSs (cxOf CX0 P w K mg base N qual (defScope st) f cdv A outer s H E).nox (defBody st) t ∧ LS K E0 t T) : FnR P w K mg base CX0 (k + 1) f (spD0 K ps.length N.length T) := by
  obtain ⟨fd, F⟩ := F
  have G : FnOk P w K mg base CX0 (k + 1) f fd ps (spD0 K ps.length N.length T) := F.ok S (fun vs H Q E h => spD_len h) fun cdv A outer s H vs Q E hr hs => by
    obtain ⟨t, h1, h2⟩ := hbody cdv A outer s H E hr
    exact ⟨t, h1, spD_run hN h2 hs⟩
  refine (G.raw (F.binds hb) .nil).imp fun vs H Q E h => ?_
  rw [List.append_nil]
  exact h
end
end
end DL
set_option Elab.async false
set_option linter.all false
set_option maxRecDepth 100000
set_option maxHeartbeats 2000000
namespace DD
open PySem PySem.Spec PyProof.Rows L2
end DD
set_option Elab.async false
set_option linter.all false
set_option maxRecDepth 100000
set_option maxHeartbeats 2000000
namespace DL
open PySem PySem.Spec PyProof.Rows L2 DD
section
variable {K : Fg} {E : XK} {F : Fm} {G G' H H' : Hp} {σ σ' : L2.St} {ρ ρ' : En} {ta tb : TE} {A B : En → Res X} {t : TA} {T : En → Res (List X)}
open Classical in
noncomputable def rng3D : List D → Option (List D)
  | [.int i, .int j, .int c] => if RgC i j c (Builtin.Range.rangeSize i j c).toNat then some ((List.range (Builtin.Range.rangeSize i j c).toNat).map fun n => D.int (i + (n : Nat) * c)) else none
  | _ => none
noncomputable def dRng3 (T : En → Res (List X)) : En → Res (List D) := fun ρ => (T ρ).bind fun xs ρ1 => lift ((derefs ρ1 xs).bind rng3D) ρ1
end
section
variable {K : Fg} {E : XK} {F : Fm} {G G' H H' : Hp} {σ σ' : L2.St} {ρ ρ' : En} {ta tb : TE} {A B : En → Res X} {t : TA} {T : En → Res (List X)}
theorem RepXs.app : ∀ {vs ws : List V} {xs ys : List X}, RepXs K F G H σ ρ vs xs → RepXs K F G H σ ρ ws ys → RepXs K F G H σ ρ (vs ++ ws) (xs ++ ys)
  | _, _, _, _, .nil, h => h
  | _, _, _, _, .cons h n r, h' => .cons h n (RepXs.app r h')
end
end DL
set_option Elab.async false
set_option linter.all false
set_option maxRecDepth 100000
set_option maxHeartbeats 2000000
namespace DD
open PySem PySem.Spec PyProof.Rows L2
end DD
set_option Elab.async false
set_option linter.all false
set_option maxRecDepth 100000
set_option maxHeartbeats 2000000
namespace DD
open PySem PySem.Spec PyProof.Rows L2
end DD
set_option Elab.async false
set_option linter.all false
set_option maxRecDepth 100000
set_option maxHeartbeats 2000000
namespace DD
open PySem PySem.Spec PyProof.Rows L2
/-- a promise by n positional values and the values of the keywords ks -/
structure FnK (P : Program) (w : World) (K : PySem.W.Frag) (mg : Str → Option Value) (base : Heap) (CX : CXT) (k : Nat) (f : Addr) (n : Nat) (ks : List Str) (sp : Sp) : Prop where
  len : ∀ vs H Q E, sp vs H Q E → vs.length = n + ks.length
  run : ∀ (A : Around) (outer : List Env) (s : Shared) (H : Hp) (us ws : List Value) (vs zs : List V) (Q : VK) (E : XK), Room k A → Env0 P w K mg base A outer s H → Vals vs us → Vals zs ws → vs.length = n → zs.length = ks.length → sp (vs ++ zs) H Q E →
    codeAny (model P w) A (.call (.ref f) ⟨us, ks.zip ws⟩) (CR CX outer P w H s Q E) s
section
variable {P : Program} {w : World} {K : PySem.W.Frag} {mg : Str → Option Value} {base : Heap} {CX : CXT} {j k n : Nat} {f : Addr} {sp sp' : Sp} {ks : List Str}
theorem FnK.mono (F : FnK P w K mg base CX j f n ks sp) (h : j ≤ k) : FnK P w K mg base CX k f n ks sp := ⟨F.len, fun A outer s H us ws vs zs Q E hr => F.run A outer s H us ws vs zs Q E (hr.mono h)⟩
end
end DD
set_option Elab.async false
set_option linter.all false
set_option maxRecDepth 100000
set_option maxHeartbeats 2000000
namespace DD
open PySem PySem.Spec PyProof.Rows L2
end DD
set_option Elab.async false
set_option linter.all false
set_option maxRecDepth 100000
set_option maxHeartbeats 2000000
namespace DL
open PySem PySem.Spec PyProof.Rows L2 DD
def pick {α : Type} (d : α) (l : List α) (π : List Nat) : List α := π.map fun i => l.getD i d
@[simp] theorem pick_nil {α : Type} (d : α) (l : List α) : pick d l [] = [] := rfl
@[simp] theorem pick_cons {α : Type} (d : α) (l : List α) (i : Nat) (π : List Nat) : pick d l (i :: π) = l.getD i d :: pick d l π := rfl
/-- the arguments in the parameters' order, the defaults dd among them -/
@[simp] def permD (n : Nat) (dd : List D) (π : List Nat) (ρ : En) : En := env0 ρ.length (pick Slot.none (ρ.take n ++ dd.map Slot.val) π)
end DL
set_option Elab.async false
set_option linter.all false
set_option maxRecDepth 100000
set_option maxHeartbeats 2000000
namespace DL
open PySem PySem.Spec PyProof.Rows L2 DD
@[simp] def slD : En → List D
  | [] => []
  | .val d :: r => d :: slD r
  | _ :: _ => []
/-- p.but(k = v, ..): Rule(..) of the five, those with a place beyond 4 told by name -/
@[simp] def dBut (C : Addr) (m : Nat) (Ti : En → SR) (π : List Nat) : En → SR := fun ρ => match ρ with
  | .val (.ins C' ks es) :: zs => if C' = C then match getF "step" ks es, getF "gap" ks es, getF "least" ks es, getF "private" ks es, getF "hours" ks es with
    | some d1, some d2, some d3, some d4, some d5 => match makeV (fin (Ti (env0 m (.bor (.ins C [] []) :: (pick .non ([d1, d2, d3, d4, d5] ++ slD zs) π).map .val)))) ρ with
      | .ok x ρ' => .rt x ρ'
      | .err x ρ' => .err x ρ'
      | .stuck => .stuck
    | _, _, _, _, _ => .stuck
  else .stuck
  | _ => .stuck
end DL
set_option Elab.async false
set_option linter.all false
set_option maxRecDepth 100000
set_option maxHeartbeats 2000000
namespace DL
open PySem PySem.Spec PyProof.Rows L2 DD
def pickS (xs : List D) (lo hi : Option Int) (st : Int) : List D :=
  (sliceRange (sliceBounds lo hi (some st) xs.length).1 (sliceBounds lo hi (some st) xs.length).2.1 (sliceBounds lo hi (some st) xs.length).2.2).filterMap (xs[·]?)
def opSl3 (st : Int) : D → Option Int → Option Int → Option X
  | .lst ds, lo, hi => if (pickS ds lo hi st).length ≤ sizeLine then some (.new (.lst (pickS ds lo hi st))) else none
  | _, _, _ => none
def dSl3 (st : Int) (A : En → Res X) (L U : En → Res (Option Int)) : En → Res X := fun ρ => (A ρ).bind fun a ρ1 => (L ρ1).bind fun lo ρ2 => (U ρ2).bind fun hi ρ3 => match deref ρ3 a.settle with
  | some d => lift (opSl3 st d lo hi) ρ3
  | none => .stuck
@[simp] def uLst (n : Nat) (Us : Tgs) : Tg := fun d ρ => match d with
  | .lst ds => if ds.length = n then Us ds ρ else none
  | _ => none
def dEqOS (C : Addr) (m : Nat) (T : En → SR) (A B : En → Res X) : En → Res X := fun ρ => (A ρ).bind fun a ρ1 => (B ρ1).bind fun b ρ2 => match toVal ρ2 a.settle with
  | some (.ins C' ks es, ρ3) => match toVal ρ3 b.settle with
    | some (.str z, ρ4) => if C' = C then callP xBl (fin (T (env0 m [.val (D.ins C' ks es), .val (D.str z)]))) ρ4 else .stuck
    | _ => .stuck
  | _ => .stuck
end DL
set_option Elab.async false
set_option linter.all false
set_option maxRecDepth 100000
set_option maxHeartbeats 2000000
namespace DL
open PySem PySem.Spec PyProof.Rows L2 DD
def dIxO (C : Addr) (m : Nat) (T : En → SR) (A B : En → Res X) : En → Res X := fun ρ => (A ρ).bind fun a ρ1 => (B ρ1).bind fun b ρ2 => match toVal ρ2 a.settle with
  | some (.ins C' ks es, ρ3) => match toVal ρ3 b.settle with
    | some (z, ρ4) => if C' = C then callV (fin (T (env0 m [.val (D.ins C' ks es), .val z]))) ρ4 else .stuck
    | none => .stuck
  | _ => .stuck
section
variable {K : Fg} {E' : XK} {ta tb : TE} {A B : En → Res X} {C : Addr} {m : Nat} {T : En → SR}
theorem Lz_ixO (ha : LE K E0 ta A) (hb : LE K E0 tb B) : LE K E0 (tOp (rIxO C (spD0 K 2 m T) E') ta tb) (dIxO C m T A B) := by
  refine LG.bind (k := fun x σ H (Q : VK) => tb σ H fun y H2 => rIxO C (spD0 K 2 m T) E' x y H2 Q) ha fun F G H σ ρ x a Q R hx w => ?_
  obtain ⟨G1, R1, s1, hx1⟩ := R.settle hx
  have w1 := w.mono s1
  refine hb F G1 H σ ρ _ R1 (w1.bind fun y b G2 H2 ρ2 R2 s2 hy w2 => ?_)
  obtain ⟨G3, R3, s3, hy3⟩ := R2.settle hy
  have hx3 := hx1.keep (H' := H2) (ρ' := ρ2) settle_no (s2.trans s3)
  have w3 := w2.mono s3
  cases e : toVal ρ2 a.settle with
  | none => rw [e] at w3; exact w3.elim
  | some q =>
    obtain ⟨d, ρ3⟩ := q
    rw [e] at w3
    obtain ⟨G4, R4, s4, r4⟩ := R3.toVal hx3 e
    cases d <;> try exact w3.elim
    rename_i C' ks es
    dsimp only at w3
    cases e2 : toVal ρ3 b.settle with
    | none => rw [e2] at w3; exact w3.elim
    | some q2 =>
      obtain ⟨d2, ρ4⟩ := q2
      rw [e2] at w3
      obtain ⟨G5, R5, s5, r5⟩ := R4.toVal (hy3.keep settle_no s4) e2
      dsimp only at w3
      split at w3
      · rename_i hc
        subst hc
        have r4' := r4
        cases r4 with
        | ins h1 h2 h3 =>
          exact ⟨_, _, _, rfl, R4.gh _ _ h1, call_sp (ds := [D.ins _ ks es, d2]) R5 (.cons (r4'.mono s5) (.one r5)) rfl (w3.mono (s4.trans s5))⟩
      · exact w3.elim
end
end DL
set_option Elab.async false
set_option linter.all false
set_option maxRecDepth 100000
set_option maxHeartbeats 2000000
namespace DD
open PySem PySem.Spec PyProof.Rows L2 HT
end DD
set_option Elab.async false
set_option linter.all false
set_option maxRecDepth 100000
set_option maxHeartbeats 2000000
namespace DL
open PySem PySem.Spec PyProof.Rows L2 DD
end DL
set_option Elab.async false
set_option linter.all false
set_option maxRecDepth 100000
set_option maxHeartbeats 2000000
namespace DD
open PySem PySem.Spec PyProof.Rows L2
section
variable {X : Cx} {CX : CXT} {k : Nat} {f C : Addr} {sp : Sp} {x m : Str} {pp pos apos : Pos} {e o : Expr} {es : List Expr} {ta : TE} {t : TA} {E : L2.St → XK}
theorem run_makeRS {pins : List (Addr × Obj)} {σ : L2.St} {H : Hp} {s : Shared} {Q : VK} {us : List Value} {vs : List V} {E : XK} (M : Mk X.K C f) (F : FnR X.prog X.w X.K X.mg X.base CX k f sp) (hr : Room (k + 1) X.A) (hx : PassesAt CX X σ E) (I : Inv X pins σ H s) (r : Vals vs us)
    (h : ∀ x dx, H x = Option.none → H dx = Option.none → dx ≠ x → sp (V.ref x :: vs) (upd (upd H dx (.own x)) x (.ins C dx [])) (fun v H2 => v = .non ∧ Q (.ref x) H2) E) :
    wpAny (model X.prog X.w) X.A (call (.ref C) us) (EP X pins σ Q) X.xe s := by
  have hq := h (s.heap.objs.size + 1) s.heap.objs.size (I.hok.fresh (Nat.le_succ _)) (I.hok.fresh (Nat.le_refl _)) (Nat.ne_of_lt (Nat.lt_succ_self _))
  have I2 := Inv.made (C := C) I
  have r2 : Vals (V.ref (s.heap.objs.size + 1) :: vs) (Value.ref (s.heap.objs.size + 1) :: us) := .cons rfl r
  refine wpAny_call (make_map (f := f) I.kIn M.makes M.init (beq_iff_eq.mp M.fn) (codeAny_mono (F _ X.stack _ _ (Value.ref (s.heap.objs.size + 1) :: us) _ _ E (hr.make C us []) (I2.env0.make C us []) r2 hq) fun r s' hq' => ?_))
  rcases r with er | fl
  · exact hx pins _ _ er s' I2 hq'
  · cases fl with
    | ret u =>
      obtain ⟨v, H', I3, rv, ev, q3⟩ := I2.after hq'
      subst ev
      exact ⟨rv, ⟨V.ref (s.heap.objs.size + 1), H', I3, rfl, q3⟩⟩
    | next => exact False.elim hq'
    | brk => exact False.elim hq'
    | cont => exact False.elim hq'
theorem pe_makeRS (M : Mk X.K C f) (F : FnR X.prog X.w X.K X.mg X.base CX k f sp) (hr : Room (k + 1) X.A) (hg : Gl X x) (hm : X.mg x = some (.ref C)) (hx : ∀ σ, PassesAt CX X σ (E σ)) (ha : PA X (e :: es) t) (hdb : (x == ("__debug__" : Str)) = false := by decide)
    (he : starEach (e :: es) X.env = (false, eval e X.env) :: starEach es X.env := by rfl) (hpl : (backTo pos (starEach es X.env)).any (·.1) = false := by rfl) :
    PE X (.Call (.Name x pp) (e :: es) [] pos) (fun σ H Q => StX.tMakeR C sp (E σ) t σ H Q) := by
  refine ⟨fun pins s σ H Q I h => wpAny_Call_Name_kw (ld_glob I hg hm ?_ hdb)⟩
  refine PySem.W.callWith_K (h₀ := X.base) I.ok.mod.kin M.kp (thn (ha.run pos pins s σ H _ I h) fun us s1 ⟨vs, H1, I1, r, q⟩ => ⟨I1.kIn, ?_⟩) he hpl
  exact run_makeRS M F hr (hx σ) I1 r q
end
/-- self.f = v of a new error -/
def spI (K : PySem.W.Frag) (f : Str) : Sp := fun vs H Q _ => ∃ (a C : Addr) (y : V), vs = [.ref a, y] ∧ OexC K C ∧ PySem.W.findIn K (.ref C) f = some none ∧ H a = some (exo a C none) ∧
  ∀ dx, H dx = none → dx ≠ a → Q .non (upd (upd H dx (exd dx [(f, y)])) a (exo a C (some dx)))
section
variable {P : Program} {w : World} {K : PySem.W.Frag} {mg : Str → Option Value} {base : Heap}
theorem ok_exI {qual : Str} {st : Stmt} {fI : Addr} {fd : FuncData} {f : Str} {N : List Str} (F : Fun K "__init__" qual st fI fd) (S : FnScope N N (defScope st)) (hN : N.length = 2)
    (hb : ∀ (cdv : Value) (A : Around) (outer : List Env) (s : Shared) (H : Hp) (E : XK), PSs (cxOf CX0 P w K mg base N qual (defScope st) fI cdv A outer s H E).nox (defBody st) (tOst K f (tVar 0) (tVar 1))) :
    FnOk P w K mg base CX0 1 fI fd N (spI K f) := by
  refine F.ok S (fun vs H Q E h => ?_) fun cdv A outer s H vs Q E hr h => ⟨_, hb cdv A outer s H E, ?_⟩
  · obtain ⟨a, C, y, rfl, _⟩ := h
    rw [hN]
    rfl
  · obtain ⟨a, C, y, rfl, T, no, ea, q⟩ := h
    match N, hN with
    | [_, _], _ => exact ⟨y, rfl, V.ref a, rfl, a, C, rfl, T, no, .inl ⟨ea, fun dx h1 h2 => q dx h1 h2⟩⟩
end
/-- a reading, and what follows -/
def tMo (te : TE) : TE := fun σ H Q => ∃ Q0, te σ H Q0 ∧ ∀ v H1, Q0 v H1 → Q v H1
theorem peM {X : Cx} {e : Expr} {te : TE} (h : PE X e te) : PE X e (tMo te) :=
  ⟨fun pins s σ H _ I ⟨Q0, h0, m⟩ => wpAny_mono (h.run pins s σ H Q0 I h0) (fun _ _ ⟨x, H', I', r, q⟩ => ⟨x, H', I', r, m _ _ q⟩) fun _ _ z => z⟩
/-- raise C(e) -/
def tRaise1 (C : Addr) (f : Str) (W : WX) (te : TE) : TS := fun _ σ H => te σ H fun y H1 => ∀ d, H1 d = none → W (.ref C) (some d) σ (upd H1 d (.xd [(f, y)]))
section
variable {X : Cx} {W : WX} {x f : Str} {C fI : Addr} {fd : FuncData} {ps : List Str} {p pos pos' : Pos} {e : Expr} {te : TE}
theorem ps_raise1 (T : OexC X.K C) (no : PySem.W.findIn X.K (.ref C) f = some none) (iC : PySem.W.findIn X.K (.ref C) "__init__" = some (some (.ref fI))) (tI : PySem.W.typeIn X.K (.ref fI) = some (.type "function"))
    (F : FnOk X.prog X.w X.K X.mg X.base CX0 1 fI fd ps (spI X.K f)) (hb : Binds X.K fd ps []) (hr : Room 2 X.A) (hc : X.calm = true) (tk : Takes X W) (hg : Gl X x) (hm : X.mg x = some (.ref C)) (ha : PE X e te)
    (hdb : (x == ("__debug__" : Str)) = false := by decide) (he : starEach (e :: []) X.env = (false, eval e X.env) :: starEach [] X.env := by rfl) (hpl : (backTo pos (starEach [] X.env)).any (·.1) = false := by rfl) :
    PS X (.Raise (some (.Call (.Name x p) [e] [] pos)) none pos') (tRaise1 C f W te) := by
  have M := pmk_oex (p := p) (dvs := []) T iC tI F hr hb .nil (fun _ _ _ _ _ _ _ h => h.elim) hg hm (pa_cons (hs := he) (peM ha) pa_nil) hdb he hpl
  refine ⟨fun pins s σ H D I h => (ps_raise hc tk M).run pins s σ H D I ?_⟩
  refine ⟨_, h, fun y H1 q => ?_⟩
  refine ⟨by simp, fun a na => ?_⟩
  refine ⟨a, C, y, by simp, T, no, upd_same, fun dx h1 h2 => ⟨rfl, dx, [(f, y)], upd_same, ?_, ?_, ?_⟩⟩
  · rw [upd_ne h2, upd_same]
  · rw [upd_ne h2] at h1
    exact h1
  · rw [upd_ne h2] at h1
    have e : upd (del (upd (upd (upd H1 a (exo a C none)) dx (exd dx [(f, y)])) a (exo a C (some dx))) a) dx (.xd [(f, y)]) = upd H1 dx (.xd [(f, y)]) := by
      funext b
      by_cases hb : b = dx
      · rw [hb, upd_same, upd_same]
      · rw [upd_ne hb, upd_ne hb]
        by_cases hba : b = a
        · rw [hba, del_same, na]
        · rw [del_ne hba, upd_ne hba, upd_ne hb, upd_ne hba]
    rw [e]
    exact q dx h1
end
def rIsX (K : PySem.W.Frag) (D a : Addr) (cls : Value) (d : Option Addr) : List V → Hp → VK → Prop := fun xs H Q => ∃ (c : V) (cv : Value) (b : Bool) (dd : Addr) (fs : List (Str × V)), cls = .ref D ∧ d = some dd ∧ H dd = some (.xd fs) ∧
  xs = [.ref a, c] ∧ (∀ u, RelV c u → u = cv) ∧ PySem.W.kitOne K (.ref D) cv = some b ∧ Q (.bl b) H
theorem call_isX {X : Cx} {a D : Addr} {oe : Obj} {cls : Value} {d : Option Addr} {pn : List (Addr × Obj)} (C : ExcC X.K D) (hz : Zc cls d oe) (hf : ∃ vs, oe.data = .fields vs) : CallR (X.suite a ((a, oe) :: pn)) (.builtin "isinstance") (rIsX X.K D a cls d) := by
  intro pins s σ H xs us Q I r h
  obtain ⟨c, cv, b, dd, fs, ec, ed, eh, rfl, hcv, e, q⟩ := h
  subst ec ed
  cases r with
  | cons rx rr =>
    cases rr with
    | cons rt rr =>
      cases rr
      cases rx
      have ec := hcv _ rt
      subst ec
      obtain ⟨hget, _⟩ := I.pin (a, oe) (List.mem_append.mpr (.inl List.mem_cons_self))
      obtain ⟨vs, hv⟩ := hf
      have hx : ObjOk X.prog X.w H s.heap dd (.xd fs) := I.hok dd _ eh
      obtain ⟨mA, hns, hr⟩ := hx
      obtain ⟨od, ho, hl⟩ := lookIn_ns hns
      have J : PySem.W.InstAt s.heap a oe D (some od) := ⟨hget, hz.1, by unfold PySem.W.notCls; rw [hv] <;> rfl, by rw [hz.2]; exact ho⟩
      have hcl : (PySem.W.clsIn X.K D).isSome = true := by
        obtain ⟨cd, hc, _⟩ := PySem.W.any_some C.hd
        rw [hc]
        rfl
      exact PySem.W.kia_one (PySem.W.kitx_exc hcl C.hg C.hk C.hs C.ha C.hn C.ht C.hm) I.kIn J e (fun z => nomatch z) fun tk => ⟨.bl b, H, I.kept (t' := tk) fun _ _ z => z, rfl, q⟩
end DD
set_option Elab.async false
set_option linter.all false
set_option maxRecDepth 100000
set_option maxHeartbeats 2000000
namespace DL
open PySem PySem.Spec PyProof.Rows L2 DD
def nE {α : Type} (A : En → Res α) : En → Res α := fun ρ => match A ρ with
  | .err _ _ => .stuck
  | r => r
def nS (S : En → SR) : En → SR := fun ρ => match S ρ with
  | .err _ _ => .stuck
  | r => r
section
variable {α β : Type} {K : Fg} {E : XK}
theorem L_no {rel : Rel β α} {t : L2.St → Hp → (β → Hp → Prop) → Prop} {T : En → Res α} (h : LG K E0 rel t T) : LG K E rel t (nE T) := by
  intro F G H σ ρ Q R w
  refine h F G H σ ρ Q R ?_
  unfold nE at w
  cases e : T ρ with
  | ok a ρ' => rw [e] at w; exact w
  | err x ρ' => rw [e] at w; exact w.elim
  | stuck => rw [e] at w; exact w.elim
end
def WSW (K : Fg) (W : WX) (F : Fm) (D : Ends) : SR → Prop
  | .nx ρ => ∀ σ G H, Rl K F G H σ ρ → D.nx σ H
  | .rt x ρ => ∀ v σ G H, Rl K F G H σ ρ → RepX K F G H σ ρ v x → D.rt v H
  | .bk ρ => ∀ σ G H, Rl K F G H σ ρ → D.bk σ H
  | .ct ρ => ∀ σ G H, Rl K F G H σ ρ → D.ct σ H
  | .err x ρ => ∀ c od σ G H, Rl K F G H σ ρ → XRep K G H c od x → W c od σ H
  | .stuck => False
def LSW (K : Fg) (W : WX) (t : TS) (T : En → SR) : Prop := ∀ (F : Fm) (G H : Hp) (σ : L2.St) (ρ : En) (D : Ends), Rl K F G H σ ρ → WSW K W F D (T ρ) → t D σ H
/-- an expression's -/
def LEW (K : Fg) (W : WX) (t : TE) (T : En → Res X) : Prop := ∀ (F : Fm) (G H : Hp) (σ : L2.St) (ρ : En) (Q : VK), Rl K F G H σ ρ → Wants K (WE W σ) (RepX K) F G σ Q (T ρ) → t σ H Q
section
variable {α β : Type} {K : Fg} {W : WX} {F : Fm} {G G' H H' : Hp} {σ : L2.St} {ρ ρ' : En} {t u s : TS} {T S U : En → SR} {ta : TE} {A : En → Res X} {tt : TT} {B : En → Res Bool}
theorem LEW.of {te : XK → TE} (h : ∀ E, LE K E (te E) A) : LEW K W (fun σ H Q => te (WE W σ) σ H Q) A := fun F G H σ ρ Q R w => h _ F G H σ ρ Q R w
theorem LEW.no (h : LE K E0 ta A) : LEW K W ta (nE A) := fun F G H σ ρ Q R w => L_no (E := WE W σ) h F G H σ ρ Q R w
theorem LSW.no (h : LS K E0 t T) : LSW K W t (nS T) := by
  intro F G H σ ρ D R w
  refine h F G H σ ρ D R ?_
  unfold nS at w
  cases e : T ρ <;> rw [e] at w <;> first | exact w | exact w.elim
theorem WSW.sb {rel : Rel β α} {D : Ends} {Q1 : β → Hp → Prop} {r : Res α} {U : α → En → SR} (h : WSW K W F D (r.sb U))
    (k : ∀ b a G' H' ρ', Rl K F G' H' σ ρ' → Same G G' → rel F G' H' σ ρ' b a → WSW K W F D (U a ρ') → Q1 b H') : Wants K (WE W σ) rel F G σ Q1 r := by
  cases r with
  | ok a ρ' => exact fun b G2 H2 R s q => k b a G2 H2 ρ' R s q h
  | err x ρ' => exact fun c od G2 H2 R _ x => h c od σ G2 H2 R x
  | stuck => exact h
theorem LSW.nx : LSW K W tNext sNext := fun F G H σ ρ D R w => w σ G H R
theorem LSW.seq (h1 : LSW K W s S) (h2 : LSW K W u U) : LSW K W (tSeq s u) (sSeq S U) := by
  intro F G H σ ρ D R w
  refine h1 F G H σ ρ _ R ?_
  unfold sSeq at w
  cases e : S ρ with
  | nx ρ1 =>
    rw [e] at w
    exact fun σ' G' H' R' => h2 F G' H' σ' ρ1 D R' w
  | rt x ρ1 => rw [e] at w; exact w
  | bk ρ1 => rw [e] at w; exact w
  | ct ρ1 => rw [e] at w; exact w
  | err x ρ1 => rw [e] at w; exact w
  | stuck => rw [e] at w; exact w
theorem LSW.drop (ha : LEW K W ta A) : LSW K W (tDrop ta) (sDrop A) := by
  intro F G H σ ρ D R w
  exact ha F G H σ ρ _ R (w.sb fun b a G' H' ρ' R' _ _ w' => w' σ G' H' R')
theorem LSW.ret (ha : LEW K W ta A) : LSW K W (tRet ta) (sRet A) := by
  intro F G H σ ρ D R w
  exact ha F G H σ ρ _ R (w.sb fun b a G' H' ρ' R' _ hx w' => w' b σ G' H' R' hx)
theorem WSW.ws {D : Ends} {r : SR} (h : ∀ x ρ, r ≠ .err x ρ) (w : WSW K W F D r) : WS K E0 F D r := by
  cases r <;> first | exact w | exact (h _ _ rfl).elim
theorem LSW.set {i : Nat} (ha : LEW K W ta A) : LSW K W (tAsg ta (gName i)) (sSet i A) := by
  intro F G H σ ρ D R w
  refine ha F G H σ ρ _ R (w.sb fun b a G' H' ρ' R' _ hx w' => put_run R' hx (WSW.ws (fun x ρ1 => ?_) w'))
  unfold putX
  cases a with
  | val d => dsimp only; split <;> (intro z; cases z)
  | new o => dsimp only; split <;> (intro z; cases z)
  | own j =>
    dsimp only
    split
    · split <;> (intro z; cases z)
    · intro z; cases z
theorem LSW.ite (ht : LT K E0 tt B) (h1 : LSW K W s S) (h2 : LSW K W u U) : LSW K W (tIfS tt s u) (sIf (nE B) S U) := by
  intro F G H σ ρ D R w
  refine L_no (E := WE W σ) ht F G H σ ρ _ R (WSW.sb w fun b a G' H' ρ' R' _ e w' => ?_)
  subst e
  cases b with
  | true => exact iteT (h1 F G' H' σ ρ' D R' w')
  | false => exact iteF (h2 F G' H' σ ρ' D R' w')
def sRaise1 (C : Addr) (f : Str) (A : En → Res X) : En → SR := fun ρ => (A ρ).sb fun a ρ1 => match toVal ρ1 a with
  | some (d, ρ2) => .err ⟨.ref C, [f], [d]⟩ ρ2
  | none => .stuck
theorem L_raise1 {C : Addr} {f : Str} (ha : LEW K W ta A) : LSW K W (tRaise1 C f W ta) (sRaise1 C f A) := by
  intro F G H σ ρ D R w
  refine ha F G H σ ρ _ R (WSW.sb w fun b a G' H' ρ' R' _ hx w' => ?_)
  intro d nd
  cases e : toVal ρ' a with
  | none => rw [e] at w'; exact w'.elim
  | some p =>
    obtain ⟨z, ρ2⟩ := p
    rw [e] at w'
    obtain ⟨G2, R2, s2, r2⟩ := R'.toVal hx e
    exact w' (.ref C) (some d) σ _ _ (R2.add nd) ⟨rfl, .inr ⟨d, [(f, b)], rfl, upd_same, rfl, .cons (r2.mono (smNew (R2.freshG nd))) .nil⟩⟩
end
/-- the error that is caught: at a, in slot i, its fields in d -/
def HX (K : Fg) (a : Addr) (i : Nat) (x : Xc) (d : Option Addr) (G : Hp) (σ : L2.St) : Prop := σ[i]? = some (some (.ref a)) ∧ ((d = none ∧ x.ks = []) ∨ ∃ e fs, d = some e ∧ G e = some (.xd fs) ∧ fs.map (·.1) = x.ks ∧ RepA K G (fs.map (·.2)) x.ds)
theorem HX.mono {K : Fg} {a : Addr} {i : Nat} {x : Xc} {d : Option Addr} {G G' : Hp} {σ : L2.St} (s : Same G G') (h : HX K a i x d G σ) : HX K a i x d G' σ := by
  obtain ⟨h1, h2⟩ := h
  refine ⟨h1, ?_⟩
  rcases h2 with h2 | ⟨e, fs, e1, e2, e3, e4⟩
  · exact .inl h2
  · exact .inr ⟨e, fs, e1, s _ _ e2, e3, e4.mono s⟩
def LGx {α β : Type} (K : Fg) (a : Addr) (i : Nat) (x : Xc) (d : Option Addr) (rel : Rel β α) (t : L2.St → Hp → (β → Hp → Prop) → Prop) (T : En → Res α) : Prop :=
  ∀ (F : Fm) (G H : Hp) (σ : L2.St) (ρ : En) (Q : β → Hp → Prop), Rl K F G H σ ρ → HX K a i x d G σ → Wants K E0 rel F G σ Q (T ρ) → t σ H Q
abbrev LEx (K : Fg) (a : Addr) (i : Nat) (x : Xc) (d : Option Addr) (t : TE) (T : En → Res X) : Prop := LGx K a i x d (RepX K) t T
abbrev LTx (K : Fg) (a : Addr) (i : Nat) (x : Xc) (d : Option Addr) (t : TT) (T : En → Res Bool) : Prop := LGx K a i x d (fun _ _ _ _ _ b a => b = a) t T
def LSx (K : Fg) (a : Addr) (i : Nat) (x : Xc) (d : Option Addr) (t : TS) (T : En → SR) : Prop := ∀ (F : Fm) (G H : Hp) (σ : L2.St) (ρ : En) (D : Ends), Rl K F G H σ ρ → HX K a i x d G σ → WS K E0 F D (T ρ) → t D σ H
section
variable {α β γ δ : Type} {K : Fg} {a : Addr} {i : Nat} {x : Xc} {d : Option Addr} {ta tb : TE} {A B : En → Res X} {t u : TT} {T U : En → Res Bool}
theorem LGx.of {rel : Rel β α} {t : L2.St → Hp → (β → Hp → Prop) → Prop} {T : En → Res α} (h : LG K E0 rel t T) : LGx K a i x d rel t T := fun F G H σ ρ Q R _ w => h F G H σ ρ Q R w
theorem LGx.bind {rel : Rel β α} {rel2 : Rel δ γ} {t : L2.St → Hp → (β → Hp → Prop) → Prop} {T : En → Res α} {k : β → L2.St → Hp → (δ → Hp → Prop) → Prop} {U : α → En → Res γ} (h : LGx K a i x d rel t T)
    (h2 : ∀ F G H σ ρ b z Q, Rl K F G H σ ρ → HX K a i x d G σ → rel F G H σ ρ b z → Wants K E0 rel2 F G σ Q (U z ρ) → k b σ H Q) : LGx K a i x d rel2 (fun σ H Q => t σ H fun b H1 => k b σ H1 Q) (fun ρ => (T ρ).bind U) := by
  intro F G H σ ρ Q R hx w
  exact h F G H σ ρ _ R hx (w.bind fun b z G' H' ρ' R' s q w' => h2 F G' H' σ ρ' b z Q R' (hx.mono s) q w')
theorem Lx_test (ha : LEx K a i x d ta A) : LTx K a i x d (fun σ H Q => ta σ H fun y H' => ∃ k, y = .bl k ∧ Q k H') (dTest A) := by
  refine LGx.bind (k := fun y σ H Q => ∃ k, y = .bl k ∧ Q k H) ha fun F G H σ ρ y z Q R _ hx w => ?_
  obtain ⟨b, e, q⟩ := w.lift
  exact ⟨b, R.asB hx e, q _ G H R (Same.refl G) rfl⟩
theorem Lx_tand (ha : LTx K a i x d t T) (hb : LTx K a i x d u U) : LTx K a i x d (tAnd t u) (tnd T U) := by
  refine LGx.bind (k := fun c σ H Q => if c = true then u σ H Q else Q false H) ha fun F G H σ ρ y z Q R hX hx w => ?_
  subst hx
  cases y with
  | true => exact iteT (hb F G H σ ρ Q R hX w)
  | false => exact iteF (w _ G H R (Same.refl G) rfl)
theorem Lx_tnot (ha : LTx K a i x d t T) : LTx K a i x d (tNot t) (tnot T) := by
  refine LGx.bind (k := fun c σ H Q => Q (!c) H) ha fun F G H σ ρ y z Q R _ hx w => ?_
  subst hx
  exact w _ G H R (Same.refl G) rfl
theorem Lx_ifE (ht : LTx K a i x d t T) (ha : LEx K a i x d ta A) (hb : LEx K a i x d tb B) : LEx K a i x d (tIf t ta tb) (dIfE T A B) := by
  refine LGx.bind (k := fun c σ H Q => if c = true then ta σ H Q else tb σ H Q) ht fun F G H σ ρ y z Q R hX hx w => ?_
  subst hx
  cases y with
  | true => exact iteT (ha F G H σ ρ Q R hX w)
  | false => exact iteF (hb F G H σ ρ Q R hX w)
theorem Lx_set {j : Nat} (ha : LEx K a i x d ta A) : LSx K a i x d (tAsg ta (gName j)) (sSet j A) := by
  intro F G H σ ρ D R hX w
  exact ha F G H σ ρ _ R hX (w.sb fun b z G' H' ρ' R' _ hx w' => put_run R' hx w')
/-- e.f -/
def dXf (C : Addr) (f : Str) (x : Xc) : En → Res X := fun ρ => if x.cls = .ref C then lift ((getF f x.ks x.ds).map X.val) ρ else .stuck
theorem Lx_fld {C : Addr} {f : Str} : LEx K a i x d (tXf a x.cls d C f (tVar i)) (dXf C f x) := by
  intro F G H σ ρ Q R hX w
  obtain ⟨h1, h2⟩ := hX
  unfold dXf at w
  split at w
  · rename_i hc
    obtain ⟨z, ez, q⟩ := w.lift
    rw [Option.map_eq_some_iff] at ez
    obtain ⟨z, ez, rfl⟩ := ez
    rcases h2 with ⟨_, h2⟩ | ⟨e, fs, e1, e2, e3, e4⟩
    · rw [h2] at ez
      cases ez
    · obtain ⟨v, h4, h5⟩ := getF_rep e3 e4 ez
      exact ⟨.ref a, h1, rfl, hc, e, fs, v, e1, R.gh _ _ e2, h4, q _ G H R (Same.refl G) h5⟩
  · exact w.elim
/-- isinstance(e, B) -/
def dXi (D : Addr) (b : Bool) (x : Xc) : En → Res X := fun ρ => if x.cls = .ref D ∧ x.ks ≠ [] then .ok (.val (.bl b)) ρ else .stuck
theorem Lx_is {D B : Addr} {b : Bool} (h : PySem.W.kitOne K (.ref D) (.ref B) = some b) : LEx K a i x d (tCB (rIsX K D a x.cls d) (tCons (tVar i) (tCons (tC (.ref B)) tNil))) (dXi D b x) := by
  intro F G H σ ρ Q R hX w
  obtain ⟨h1, h2⟩ := hX
  unfold dXi at w
  split at w
  · rename_i hc
    rcases h2 with ⟨_, h2⟩ | ⟨e, fs, e1, e2, e3, e4⟩
    · exact (hc.2 h2).elim
    · exact ⟨.ref a, h1, .ref B, .ref B, b, e, fs, hc.1, e1, R.gh _ _ e2, rfl, fun u z => z, h, w _ G H R (Same.refl G) (.bl _)⟩
  · exact w.elim
end
def sTryAs (cm : Value → Option Bool) (i : Nat) (B : En → SR) (S : Xc → En → SR) : En → SR := fun ρ => match B ρ with
  | .err x ρ1 => match cm x.cls with
    | some true => if freeAt ρ1 i = true then match S x (ρ1.set i .none) with
        | .nx ρ2 => if freeAt ρ2 i = true then .nx (ρ2.set i .none) else .stuck
        | .rt v ρ2 => .rt v ρ2
        | _ => .stuck
      else .stuck
    | some false => .err x ρ1
    | none => .stuck
  | r => r
section
variable {P : Program} {w : World} {K : Fg} {mg : Str → Option Value} {base : Heap} {E : XK} {H : Hp}
abbrev WEc (E : XK) : WX := fun c od _ H => E c od H
theorem ws_w {F : Fm} {D : Ends} {r : SR} (h : WS K E F D r) : WSW K (WEc E) F D r := by cases r <;> exact h
theorem spD_runW {n : Nat} {N : List Str} {T : En → SR} {t : TS} {vs : List V} {Q : VK} (hN : n ≤ N.length) (h : LSW K (WEc E) t T) (hs : spD K n N.length T vs H Q E) : t { nx := fun _ H' => Q .non H', rt := Q } (start N vs) H := by
  obtain ⟨G, s, hs⟩ := hs
  rcases hs with ⟨ds, r, hn, o⟩ | ⟨a, u, ws, ds, rfl, r, hn, hg, ho, o⟩
  · exact h _ G H _ _ _ (ent0 s r (by omega)) (ws_w (out_ws rfl post0 (fun _ _ q => q) (fun _ _ q => q) o))
  · exact h _ G H _ _ _ (ent1 s r (by omega) hg ho) (ws_w (out_ws rfl post1 (fun _ _ q => q) (fun _ _ q => q) o))
/-- a def with defaults, those from the j-th on left out -/
theorem mkDDE {x qual : Str} {st : Stmt} {f : Addr} {N ps : List Str} {k : Nat} {T : En → SR} {dvs : List V} {dd : List D} (n j : Nat) (F : ∃ fd, FunD K x qual (defArgs st) (defBody st) (defScope st) dvs [] f fd) (hd : dvs ≠ []) (hn : n + (dvs.length - j) = ps.length) (S : FnScope N ps (defScope st)) (hN : ps.length ≤ N.length)
    (hr : ∀ G, RepA K G (dvs.drop j) dd)
    (hb : ∀ (T : Addr) (kV doc pm : Value) (an : Option Addr) (cdv ct : Value) (us its : List Value), us.length = n → its.length = dvs.length →
      ∃ k, bindArgs (PySem.W.fnOf x qual (defArgs st) (defBody st) (defScope st) (.ref T) kV doc pm an cdv ct) ⟨us, []⟩ = seqItems? (.ref T) >>= k ∧ k (some its.toArray) = pure (ps.zip (us ++ its.drop j)))
    (hbody : ∀ (cdv : Value) (A : Around) (outer : List Env) (s : Shared) (H : Hp) (E : XK), Room k (A.deeper (envOfC qual (defScope st) s.heap.objs.size f cdv)) →
      ∃ t, PSs (cxOf (L2.CX P w) P w K mg base N qual (defScope st) f cdv A outer s H E) (defBody st) t ∧ LSW K (WEc E) t T) : FnR P w K mg base (L2.CX P w) (k + 1) f (spD K n N.length (fun ρ => T (fillD n dd ρ))) := by
  obtain ⟨fd, F⟩ := F
  have hdd : dd.length = dvs.length - j := by rw [← (hr fun _ => none).len, List.length_drop]
  have G : FnOk P w K mg base (L2.CX P w) (k + 1) f fd ps (spD K ps.length N.length T) := F.ok S (fun vs H Q E h => spD_len h) fun cdv A outer s H vs Q E hr hs => by
    obtain ⟨t, h1, h2⟩ := hbody cdv A outer s H E hr
    exact ⟨t, h1, spD_runW hN h2 hs⟩
  obtain ⟨ds, hv, b⟩ := F.binds1 n j hd hn hb
  refine (G.raw b hv).imp fun vs H Q E h => ?_
  have := spD_fill (E := E) (T := T) hr (by omega) h
  rw [hdd, hn] at this
  exact this
/-- a def without defaults -/
theorem mkDE {x qual : Str} {st : Stmt} {f : Addr} {N ps : List Str} {k : Nat} {T : En → SR} (F : ∃ fd, Fun K x qual st f fd) (S : FnScope N ps (defScope st)) (hN : ps.length ≤ N.length)
    (hb : ∀ (kV doc pm : Value) (an : Option Addr) (cdv ct : Value) (us : List Value), us.length = ps.length → bindArgs (PySem.W.fnOf x qual (defArgs st) (defBody st) (defScope st) .none kV doc pm an cdv ct) ⟨us, []⟩ = pure (ps.zip us))
    (hbody : ∀ (cdv : Value) (A : Around) (outer : List Env) (s : Shared) (H : Hp) (E : XK), Room k (A.deeper (envOfC qual (defScope st) s.heap.objs.size f cdv)) →
      ∃ t, PSs (cxOf (L2.CX P w) P w K mg base N qual (defScope st) f cdv A outer s H E) (defBody st) t ∧ LSW K (WEc E) t T) : FnR P w K mg base (L2.CX P w) (k + 1) f (spD K ps.length N.length T) := by
  obtain ⟨fd, F⟩ := F
  have G : FnOk P w K mg base (L2.CX P w) (k + 1) f fd ps (spD K ps.length N.length T) := F.okX S (fun vs H Q E h => spD_len h) fun cdv A outer s H vs Q E hr hs => by
    obtain ⟨t, h1, h2⟩ := hbody cdv A outer s H E hr
    exact ⟨t, h1, spD_runW hN h2 hs⟩
  refine (G.raw (F.binds hb) .nil).imp fun vs H Q E h => ?_
  rw [List.append_nil]
  exact h
/-- from what k_is finds -/
theorem exm_selfX {S : Addr} (h1 : PySem.W.subIn K (.ref S) (.type "BaseException") = some true) (h2 : PySem.W.isClsIn K S = true) (h3 : PySem.W.typeIn K (.ref S) = some (.type "type")) (h4 : PySem.W.subIn K (.ref S) (.ref S) = some true) : PySem.W.exmOne K (.ref S) (.ref S) = some true := by
  have e1 : (PySem.W.subIn K (.ref S) (.type "BaseException") == some true) = true := by rw [h1] <;> rfl
  have h2' : (PySem.W.clsIn K S).isSome = true := h2
  unfold PySem.W.exmOne PySem.W.kitCls
  rw [if_pos e1]
  dsimp only
  rw [if_pos (by rw [h2', h3] <;> rfl)]
  exact h4
theorem kit_ref {A B : Addr} {b : Bool} (h2 : PySem.W.isClsIn K B = true) (h3 : PySem.W.typeIn K (.ref B) = some (.type "type")) (h4 : PySem.W.subIn K (.ref A) (.ref B) = some b) (h5 : PySem.W.subIn K (.ref A) (.ref A) = some true) : PySem.W.kitOne K (.ref A) (.ref B) = some b := by
  unfold PySem.W.kitOne
  have h2' : (PySem.W.clsIn K B).isSome = true := h2
  by_cases q : A = B
  · have e : ((Value.ref A) == (Value.ref B)) = true := by rw [q]; exact beq_self_eq_true _
    rw [if_pos e]
    rw [← q, h5] at h4
    exact h4
  · have e : ((Value.ref A) == (Value.ref B)) = false := by
      rw [beq_eq_false_iff_ne]
      intro z
      exact q (Value.ref.inj z)
    rw [e]
    unfold PySem.W.kitCls
    dsimp only
    rw [if_neg Bool.false_ne_true, if_pos (by rw [h2', h3] <;> rfl)]
    exact h4
/-- an error's class, as raise wants it -/
def ExR (P : Program) (w : World) (K : Fg) (mg : Str → Option Value) (base : Heap) (C : Addr) (f : Str) : Prop := ∃ (fI : Addr) (fd : FuncData) (ps : List Str), OexC K C ∧ PySem.W.findIn K (.ref C) f = some none ∧ PySem.W.findIn K (.ref C) "__init__" = some (some (.ref fI)) ∧
  PySem.W.typeIn K (.ref fI) = some (.type "function") ∧ FnOk P w K mg base CX0 1 fI fd ps (spI K f) ∧ Binds K fd ps []
theorem ps_raiseR {X : Cx} {W : WX} {x f : Str} {C : Addr} {p pos pos' : Pos} {e : Expr} {te : TE} (R : ExR X.prog X.w X.K X.mg X.base C f) (hr : Room 2 X.A) (hc : X.calm = true) (tk : Takes X W) (hg : Gl X x) (hm : X.mg x = some (.ref C)) (ha : PE X e te)
    (hdb : (x == ("__debug__" : Str)) = false := by decide) (he : starEach (e :: []) X.env = (false, eval e X.env) :: starEach [] X.env := by rfl) (hpl : (backTo pos (starEach [] X.env)).any (·.1) = false := by rfl) :
    PS X (.Raise (some (.Call (.Name x p) [e] [] pos)) none pos') (tRaise1 C f W te) := by
  obtain ⟨fI, fd, ps, h1, h2, h3, h4, h5, h6⟩ := R
  exact ps_raise1 h1 h2 h3 h4 h5 h6 hr hc tk hg hm ha hdb he hpl
end
section
variable {K : Fg} {E : XK} {ta tb tc td : TE} {A B C Z : En → Res X}
def dChain3 (op op' op'' : D2) (A B C Z : En → Res X) : En → Res X := fun ρ => (A ρ).bind fun a ρ1 => (B ρ1).bind fun b ρ2 => (ap2 op a.settle b.settle ρ2).bind fun z ρ3 => match asB ρ3 z with
  | some true => (C ρ3).bind fun c ρ4 => (ap2 op' b.settle c.settle ρ4).bind fun z' ρ5 => match asB ρ5 z' with
    | some true => (Z ρ5).bind fun d ρ6 => ap2 op'' c.settle d ρ6
    | some false => .ok (.val (.bl false)) ρ5
    | none => .stuck
  | some false => .ok (.val (.bl false)) ρ3
  | none => .stuck
end
end DL
set_option Elab.async false
set_option linter.all false
set_option maxRecDepth 100000
set_option maxHeartbeats 2000000
namespace DD
open PySem PySem.Spec PyProof.Rows L2
end DD
set_option Elab.async false
set_option linter.all false
set_option maxRecDepth 100000
set_option maxHeartbeats 2000000
namespace DL
open PySem PySem.Spec PyProof.Rows L2 DD
end DL
set_option Elab.async false
set_option linter.all false
set_option maxRecDepth 100000
set_option maxHeartbeats 2000000
namespace DD
open PySem PySem.Spec PyProof.Rows L2
end DD
set_option Elab.async false
set_option linter.all false
set_option maxRecDepth 100000
set_option maxHeartbeats 2000000
namespace DL
open PySem PySem.Spec PyProof.Rows L2 DD
end DL
set_option Elab.async false
set_option linter.all false
set_option maxRecDepth 100000
set_option maxHeartbeats 2000000
namespace DD
open PySem PySem.Spec PyProof.Rows L2
end DD
set_option Elab.async false
set_option linter.all false
set_option maxRecDepth 100000
set_option maxHeartbeats 2000000
namespace DL
open PySem PySem.Spec PyProof.Rows L2 DD
end DL
set_option Elab.async false
set_option linter.all false
set_option maxRecDepth 100000
set_option maxHeartbeats 2000000
namespace DD
open PySem PySem.Spec PyProof.Rows L2
end DD
set_option Elab.async false
set_option linter.all false
set_option maxRecDepth 100000
set_option maxHeartbeats 2000000
namespace DL
open PySem PySem.Spec PyProof.Rows L2 DD
@[simp] def opNotInT : D2
  | .str i, .str j => some (.val (.bl (!(!(Builtin.Str.occurrences j i 0 j.length 1).isEmpty))))
  | _, _ => none
end DL
set_option Elab.async false
set_option linter.all false
set_option maxRecDepth 100000
set_option maxHeartbeats 2000000
namespace DD
open PySem PySem.Spec PyProof.Rows L2
abbrev Cl1 := Value × (Addr → Value → Option Addr → TS)
/-- what the clauses want of the body's error -/
def wAll (K : PySem.W.Frag) (i : Nat) (D : Ends) : List Cl1 → WX
  | [] => fun _ _ _ _ => False
  | q :: r => wAs K q.1 i q.2 (wAll K i D r) D
inductive HsAs (X : Cx) (n : Str) : List ExceptHandler → List Cl1 → Prop
  | nil : HsAs X n [] []
  | cons {x : Str} {c : Value} {ts : Addr → Value → Option Addr → TS} {st : Stmt} {sts : List Stmt} {p1 p2 : Pos} {hds : List ExceptHandler} {l : List Cl1} (hc : Names X x c)
      (hu : ∀ (a : Addr) (oe : Obj) (cls : Value) (dd : Option Addr) (pn : List (Addr × Obj)), Zc cls dd oe →
        (∃ vs, oe.data = .fields vs) → PSs (X.suite a ((a, oe) :: pn)) (st :: sts) (ts a cls dd)) (r : HsAs X n hds l) :
      HsAs X n (.ExceptHandler (some (.Name x p1)) (some n) (st :: sts) p2 :: hds) ((c, ts) :: l)
section
variable {X : Cx} {n : Str} {i : Nat} {hds : List ExceptHandler} {l : List Cl1} {pins : List (Addr × Obj)} {σ : L2.St} {H : Hp} {D : Ends}
/-- what stands when an error has been looked at -/
structure Caught (X : Cx) (pins : List (Addr × Obj)) (σ : L2.St) (H : Hp) (a : Addr) (cls : Value) (d : Option Addr) (B : Heap) (sI s : Shared) : Prop where
  inv : Inv X pins σ H sI
  nb : ∀ b o, sI.heap.get? b = some o → b ∉ frs X.stack → B.get? b = some o
  up : sI.heap.UpToSlots s.heap
  na : H a = none
  os : s.os = sI.os
  ag : AllBare s.gens
  fl : HandSPX.FlyingZ B (X.env :: X.outer) a (Zc cls d) s.heap
theorem Caught.at {a : Addr} {cls : Value} {d : Option Addr} {B : Heap} {sI s : Shared} (C : Caught X pins σ H a cls d B sI s) (hf : X.env.frame = some X.env.locals) :
    ∃ oe, s.heap.get? a = some oe ∧ Zc cls d oe ∧ (∃ vs, oe.data = .fields vs) ∧ Inv (X.suite a ((a, oe) :: (X.pn ++ pins))) [] σ H s := by
  have J := C.inv.landed C.nb C.fl.1 C.up C.os C.ag
  obtain ⟨oe, vs, e1, e2, e3⟩ := C.fl.there
  have far : a ∉ frs (X.env :: X.outer) := fun q => by
    obtain ⟨_, o2, g, nf⟩ := C.fl.2.2.1.mem q
    rw [e1] at g
    cases g
    exact nf _ e3
  refine ⟨oe, e1, e2, ⟨vs, e3⟩, J.suite e1 e3 C.na (fun z => ?_) fun q => ?_⟩
  · exact far (List.mem_filterMap.mpr ⟨X.env, .head _, by rw [hf, z]⟩)
  · obtain ⟨e, m, q2⟩ := List.mem_filterMap.mp q
    exact far (List.mem_filterMap.mpr ⟨e, .tail _ m, q2⟩)
theorem clauses_ok (hf : X.env.frame = some X.env.locals) (hN : X.N.Nodup) (hi : X.N[i]? = some n) (hln : X.env.kindOf n = some .local) (ok : X.Ok) (hk : HsAs X n hds l) {a : Addr} {cls : Value} {d : Option Addr} {B : Heap} {sI s : Shared}
    (C : Caught X pins σ H a cls d B sI s) (w : wAll X.K i D l cls d σ H) : wpAny (model X.prog X.w) X.A (handleBy (.ref a) X.env hds) (SP X pins D) X.xe s := by
  induction hk with
  | nil => exact w.elim
  | @cons x c ts st sts p1 p2 hds2 l2 hc hu r ih =>
    obtain ⟨b, eb, yes, no⟩ := w
    obtain ⟨oe, e1, e2, e3, S⟩ := C.at hf
    refine wpAny_handleBy_cons (codeAny_handlers_test ?_) (fun z => nomatch z)
    have look := PySem.W.exm_one (M := model X.prog X.w) S.kIn (fun A Q E s2 k q => wpAny_typeOf_ref (k _ _ e1) (by rw [e2.1]; exact q)) eb
    have named : ∀ {Q E : Value → Shared → Prop}, Q c s → wpAny (model X.prog X.w) (X.A.mark (some (.ref a))) (eval (.Name x p1) X.env) Q E s := fun {Q E} q => by
      rcases hc with ⟨g1, g2, g3 | ⟨g3, g4, g5⟩⟩
      · exact ld_glob (X := X.suite a ((a, oe) :: (X.pn ++ pins))) S g1 g3 q g2
      · exact ld_blt (X := X.suite a ((a, oe) :: (X.pn ++ pins))) S g1 g3 g4 q g5 g2
    refine named (look.here ?_)
    cases b with
    | false => exact ih (no rfl)
    | true =>
      refine codeAny_handlers_suite_as (HandSPX.lands_againZ C.fl fun h4 fl4 up4 => ?_)
      have C4 : Caught X pins σ H a cls d B sI { s with heap := h4 } := ⟨C.inv, C.nb, C.up.trans up4, C.na, C.os, C.ag, fl4⟩
      obtain ⟨o4, q1, q2, q3, S4⟩ := C4.at hf
      refine store_ok (X := X.suite a ((a, o4) :: (X.pn ++ pins))) (v := .ref a) S4 hN hi (.inl hln) rfl (fun s5 S5 => ?_) (.inr hln)
      have bye : ∀ {σ6 : L2.St} {H6 : Hp} {s6 : Shared} {Q : Shared → Prop}, Inv (X.suite a ((a, o4) :: (X.pn ++ pins))) [] σ6 H6 s6 → (∀ s7, Inv X pins (σ6.set i none) H6 s7 → Q s7) →
          wpAny (model X.prog X.w) X.A (do bindName X.env n .none; unbindBehindTheSuite X.env n p2) (fun _ s7 => Q s7) X.xe s6 := fun S6 g => gone_ok (S6.unsuite ok) hN hi hln g
      refine wpAny_mono ((hu a o4 cls d (X.pn ++ pins) q2 q3).run [] s5 _ H _ S5 (yes rfl a C.na)) (fun f s6 g => ?_) (fun _ _ z => z.elim)
      cases f with
      | ret u =>
        obtain ⟨v6, τ, H6, T6, rv, g6⟩ := g
        exact bye T6 fun s7 J7 => ⟨v6, _, H6, J7, rv, g6⟩
      | next =>
        obtain ⟨τ, H6, T6, g6⟩ := g
        exact bye T6 fun s7 J7 => ⟨_, H6, J7, g6⟩
      | brk =>
        obtain ⟨τ, H6, T6, g6⟩ := g
        exact bye T6 fun s7 J7 => ⟨_, H6, J7, g6⟩
      | cont =>
        obtain ⟨τ, H6, T6, g6⟩ := g
        exact bye T6 fun s7 J7 => ⟨_, H6, J7, g6⟩
end
section
variable {X : Cx} {n : Str} {i : Nat} {body : List Stmt} {h0 : ExceptHandler} {hds : List ExceptHandler} {l : List Cl1} {pos : Pos} {tb : WX → TS}
theorem ps_try_all (hs : X.stack = X.env :: X.outer) (hf : X.env.frame = some X.env.locals) (hN : X.N.Nodup) (hi : X.N[i]? = some n) (hln : X.env.kindOf n = some .local)
    (hb : ∀ (W : WX) (pn : List (Addr × Obj)) (xe : Value → Shared → Prop), Takes (X.tr pn xe) W → PassesOwn (model X.prog X.w) X.A X.env xe → PSs (X.tr pn xe) body (tb W)) (hh : HsAs X n (h0 :: hds) l) :
    PS X (.Try body (h0 :: hds) [] [] pos) (fun D σ H => tb (wAll X.K i D l) D σ H) := by
  refine ⟨fun pins s σ H D I h => wpAny_Try_except ?_⟩
  have ok := I.ok
  have fr : X.A.frames = some (X.env :: X.outer) := by rw [ok.frames, hs]
  have tk : Takes (X.tr (X.pn ++ pins) (fun e s1 => wpAny (model X.prog X.w) X.A (noteFrame e X.env) (fun _ s2 => wpAny (model X.prog X.w) X.A (setFlight e none)
      (fun _ s3 => wpAny (model X.prog X.w) X.A (handleBy e X.env (h0 :: hds)) (SP X pins D) X.xe s3) X.xe s2) X.xe s1)) (wAll X.K i D l) := fun u s' xx => by
    obtain ⟨a, B, sI, pins', τ, H1, cls, d, rfl, J1, nb, up, sky, na, os, ag, w⟩ := xx
    have sky2 : Sky B (X.env :: X.outer) a (Zc cls d) X.env.locals s'.heap := hs ▸ sky
    exact Sky.land Zc.steady fr hf sky2 fun h3 fl3 up3 => clauses_ok hf hN hi hln ok hh (s := { s' with heap := h3 }) ⟨J1.ofTry ok, nb, up.trans up3, na, os, ag, fl3⟩ w
  refine wpAny_mono ((hb _ (X.pn ++ pins) _ tk PassesOwn.looking).run [] s σ H D (I.toTry _) h) (fun f s1 g => ?_) (fun _ _ z => z)
  cases f with
  | ret u =>
    obtain ⟨v, τ, H1, J1, rv, q⟩ := g
    exact ⟨v, τ, H1, J1.ofTry ok, rv, q⟩
  | next =>
    obtain ⟨τ, H1, J1, q⟩ := g
    exact wpAny_execs_nil ⟨τ, H1, J1.ofTry ok, q⟩
  | brk =>
    obtain ⟨τ, H1, J1, q⟩ := g
    exact ⟨τ, H1, J1.ofTry ok, q⟩
  | cont =>
    obtain ⟨τ, H1, J1, q⟩ := g
    exact ⟨τ, H1, J1.ofTry ok, q⟩
end
end DD
set_option Elab.async false
set_option linter.all false
set_option maxRecDepth 100000
set_option maxHeartbeats 2000000
namespace DL
open PySem PySem.Spec PyProof.Rows L2 DD
def pickC (i : Nat) (x : Xc) (ρ : En) : List ((Value → Option Bool) × (Xc → En → SR)) → SR
  | [] => .stuck
  | q :: r => match q.1 x.cls with
    | some true => if freeAt ρ i = true then match q.2 x (ρ.set i .none) with
        | .nx ρ2 => if freeAt ρ2 i = true then .nx (ρ2.set i .none) else .stuck
        | .rt v ρ2 => .rt v ρ2
        | _ => .stuck
      else .stuck
    | some false => pickC i x ρ r
    | none => .stuck
/-- a clause's class, and those that are told not to be it -/
def cmCs (C : Addr) (no : List Addr) : Value → Option Bool := fun v => if v = .ref C then some true else if ∃ B ∈ no, v = .ref B then some false else none
section
variable {K : Fg} {W : WX} {i : Nat} {tb : WX → TS} {B : En → SR} {E : XK}
theorem cmCs_ok {C : Addr} {no : List Addr} (h : PySem.W.exmOne K (.ref C) (.ref C) = some true) (h2 : ∀ B ∈ no, PySem.W.exmOne K (.ref B) (.ref C) = some false) : ∀ cls b, cmCs C no cls = some b → PySem.W.exmOne K cls (.ref C) = some b := by
  intro cls b e
  unfold cmCs at e
  split at e
  · rename_i q
    cases e
    rw [q]
    exact h
  · split at e
    · rename_i q
      obtain ⟨B, hB, rfl⟩ := q
      cases e
      exact h2 B hB
    · cases e
theorem exm_notX {S A : Addr} (h1 : PySem.W.subIn K (.ref S) (.type "BaseException") = some true) (h2 : PySem.W.isClsIn K S = true) (h3 : PySem.W.typeIn K (.ref S) = some (.type "type")) (h4 : PySem.W.subIn K (.ref A) (.ref S) = some false) : PySem.W.exmOne K (.ref A) (.ref S) = some false := by
  have e1 : (PySem.W.subIn K (.ref S) (.type "BaseException") == some true) = true := by rw [h1] <;> rfl
  have h2' : (PySem.W.clsIn K S).isSome = true := h2
  unfold PySem.W.exmOne PySem.W.kitCls
  rw [if_pos e1]
  dsimp only
  rw [if_pos (by rw [h2', h3] <;> rfl)]
  exact h4
theorem ne_exm {A S : Addr} (h : PySem.W.exmOne K (.ref A) (.ref S) = some false) (k : PySem.W.exmOne K (.ref S) (.ref S) = some true) : A ≠ S := fun e => by
  rw [e, k] at h
  cases h
inductive HL (K : Fg) (i : Nat) : List Cl1 → List ((Value → Option Bool) × (Xc → En → SR)) → Prop
  | nil : HL K i [] []
  | cons {c : Value} {ts : Addr → Value → Option Addr → TS} {cm : Value → Option Bool} {S : Xc → En → SR} {l : List Cl1} {L : List ((Value → Option Bool) × (Xc → En → SR))} (hcm : ∀ cls b, cm cls = some b → PySem.W.exmOne K cls c = some b)
      (hs : ∀ a d x, LSx K a i x d (ts a x.cls d) (S x)) (r : HL K i l L) : HL K i ((c, ts) :: l) ((cm, S) :: L)
theorem pick_ok {l : List Cl1} {L : List ((Value → Option Bool) × (Xc → En → SR))} (h : HL K i l L) {F : Fm} {G H : Hp} {σ : L2.St} {ρ : En} {D : Ends} {x : Xc} {cls : Value} {od : Option Addr} (R : Rl K F G H σ ρ) (xr : XRep K G H cls od x) (w : WS K E0 F D (pickC i x ρ L)) : wAll K i D l cls od σ H := by
  induction h with
  | nil => exact w.elim
  | @cons c ts cm S l L hcm hs r ih =>
    have xr0 := xr
    obtain ⟨ec, xr⟩ := xr
    subst ec
    unfold pickC at w
    dsimp only at w
    cases em : cm x.cls with
    | none => rw [em] at w; exact w.elim
    | some b =>
      rw [em] at w
      refine ⟨b, hcm _ _ em, fun hbt a na => ?_, fun hbf => ?_⟩
      · subst hbt
        dsimp only at w
        split at w
        · rename_i hf
          have hi : i < σ.length := R.lt (freeAt_lt hf)
          refine hs a od x F G H _ _ _ (R.forget (x := some (.ref a)) hf) ⟨List.getElem?_set_self hi, xr⟩ ?_
          cases es : S x (ρ.set i .none) with
          | nx ρ2 =>
            rw [es] at w
            dsimp only at w
            split at w
            · rename_i hf2
              exact fun σ2 G2 H2 R2 => w _ G2 H2 (R2.forget hf2)
            · exact w.elim
          | rt v ρ2 => rw [es] at w; exact w
          | bk ρ2 => rw [es] at w; exact w.elim
          | ct ρ2 => rw [es] at w; exact w.elim
          | err y ρ2 => rw [es] at w; exact w.elim
          | stuck => rw [es] at w; exact w.elim
        · exact w.elim
      · subst hbf
        exact ih w
theorem fin_nS {T : En → SR} {ρ : En} : fin (nS T ρ) = (match fin (T ρ) with | .err _ _ => .stuck | r => r) := by
  unfold nS fin
  cases T ρ with
  | rt x ρ1 => cases x <;> first | rfl | (rename_i i; dsimp only; cases ρ1[i]? with | none => rfl | some s => cases s <;> rfl)
  | _ => rfl
theorem out_nS {G H : Hp} {ob : Option Addr} {Q : VK} {T : En → SR} {ρ : En} (h : Out K E G H ob Q (fin (nS T ρ))) : Out K E0 G H ob Q (fin (T ρ)) := by
  rw [fin_nS] at h
  generalize fin (T ρ) = z at h ⊢
  cases z <;> first | exact h | exact h.elim
theorem spD_nS {n m : Nat} {T : En → SR} {vs : List V} {H : Hp} {Q : VK} {E' : XK} (h : spD K n m (nS T) vs H Q E) : spD0 K n m T vs H Q E' := by
  obtain ⟨G, s, h⟩ := h
  refine ⟨G, s, ?_⟩
  rcases h with ⟨ds, r, hn, o⟩ | ⟨a, u, ws, ds, e1, r, hn, hg, ho, o⟩
  · exact .inl ⟨ds, r, hn, out_nS o⟩
  · exact .inr ⟨a, u, ws, ds, e1, r, hn, hg, ho, out_nS o⟩
theorem L_strOS {C : Addr} {m : Nat} {T : En → SR} {ta : TE} {A : En → Res X} {sp : Sp} {E2 : XK} (hsp : ∀ vs H Q, spD K 1 m T vs H Q E → sp vs H Q E2) (ha : LE K E ta A) : LE K E (tCB (rStrO C sp E2) (tCons ta tNil)) (dStrO C m T A) := by
  refine LG.bind (k := fun x σ H (Q : VK) => rStrO C sp E2 [x] H Q) ha fun F G H σ ρ x a Q R hx w => ?_
  cases e : toVal ρ a with
  | none => rw [e] at w; exact w.elim
  | some p =>
    obtain ⟨d, ρ2⟩ := p
    rw [e] at w
    obtain ⟨G1, R1, s1, r1⟩ := R.toVal hx e
    cases d <;> try exact w.elim
    rename_i C' ks es
    dsimp only at w
    split at w
    · rename_i hc
      subst hc
      have r1' := r1
      cases r1 with
      | ins h1 h2 h3 =>
        refine ⟨_, _, _, rfl, R1.gh _ _ h1, hsp _ _ _ (callP_sp (ds := [D.ins C' ks es]) R1 (.one r1') rfl (w.mono s1) fun x y v G' H' ep hx q => ?_)⟩
        cases x with
        | val d =>
          cases d <;> cases ep
          cases hx
          exact ⟨_, rfl, q _ (.str _)⟩
        | own i => cases ep
        | new o => cases ep
    · exact w.elim
theorem Ln_strO {C : Addr} {m : Nat} {T : En → SR} {ta : TE} {A : En → Res X} {E2 : XK} (ha : LE K E ta A) : LE K E (tCB (rStrO C (spD0 K 1 m T) E2) (tCons ta tNil)) (dStrO C m (nS T) A) := L_strOS (fun _ _ _ h => spD_nS h) ha
end
section
variable {K : Fg} {a : Addr} {i : Nat} {x : Xc} {d : Option Addr} {ta tb : TE} {A B : En → Res X} {r : R2} {op : D2}
theorem Lx_bin (hr : OpS K r op) (ha : LEx K a i x d ta A) (hb : LEx K a i x d tb B) : LEx K a i x d (tOp r ta tb) (dBin op A B) := by
  refine LGx.bind (k := fun y σ H Q => tb σ H fun z H2 => r y z H2 Q) ha fun F G H σ ρ y b Q R hX hx w => ?_
  obtain ⟨G1, R1, s1, hx1⟩ := R.settle hx
  refine hb F G1 H σ ρ _ R1 (hX.mono s1) ((w.mono s1).bind fun z b2 G2 H2 ρ2 R2 s2 hy w2 => ?_)
  exact ap2_run hr R2 (hx1.keep settle_no s2) hy w2
end
end DL
set_option Elab.async false
set_option linter.all false
set_option maxRecDepth 100000
set_option maxHeartbeats 2000000
namespace DD
open PySem PySem.Spec PyProof.Rows L2
end DD
set_option Elab.async false
set_option linter.all false
set_option maxRecDepth 100000
set_option maxHeartbeats 2000000
namespace DD
open PySem PySem.Spec PyProof.Rows L2
end DD
set_option Elab.async false
set_option linter.all false
set_option maxRecDepth 100000
set_option maxHeartbeats 2000000
namespace DL
open PySem PySem.Spec PyProof.Rows L2 DD
end DL
set_option Elab.async false
set_option linter.all false
set_option maxRecDepth 100000
set_option maxHeartbeats 2000000
namespace DL
open PySem PySem.Spec PyProof.Rows L2 DD
section
variable {K : Fg} {E : XK} {F : Fm} {G G' H H' : Hp} {σ : L2.St} {ρ : En}
def Plain (ρ : En) : Prop := ∀ (i : Nat) (s : Slot), ρ[i]? = some s → (∃ d, s = .val d) ∨ s = .none
theorem Rl.noMp (R : Rl K F G H σ ρ) (hp : Plain ρ) (i : Nat) (a : Addr) : F.M i ≠ some a := fun h => by
  obtain ⟨_, _, o, h3⟩ := R.hm i a h
  rcases hp i _ h3 with ⟨d, e⟩ | e <;> cases e
theorem Rl.replain (R : Rl K F G H σ ρ) (hp : Plain ρ) (g : Same G G') (gh : Same G' H') (gn : ∀ a o, G' a = some o → F.G0 a = none → F.H0 a = none) (hk : ∀ a o, F.H0 a = some o → H' a = some o) (tb : TabR F.T F.G0 G' H') : Rl K F G' H' σ ρ where
  gh := gh
  g0 := R.g0.trans g
  gn := gn
  hk := fun a o h _ => hk a o h
  hm := fun i a h => absurd h (R.noMp hp i a)
  hl := R.hl
  sl := fun i s h => by
    obtain ⟨x, h1, h2⟩ := R.sl i s h
    refine ⟨x, h1, ?_⟩
    rcases hp i s h with ⟨d, rfl⟩ | rfl
    · obtain ⟨v, e1, e2⟩ := h2
      exact ⟨v, e1, e2.mono g⟩
    · trivial
  di := fun i j o o' a h1 => by
    rcases hp i _ h1 with ⟨d, e⟩ | e <;> cases e
  mi := fun i j a h => absurd h (R.noMp hp i a)
  tb := tb
theorem Rl.hkp (R : Rl K F G H σ ρ) (hp : Plain ρ) : ∀ a o, F.H0 a = some o → H a = some o := fun a o h => R.hk a o h fun i => R.noMp hp i a
def ρ0 (n : Int) (s : Bool) : En := [.val (.int n), .val (.bl s), .none, .none, .none, .none, .none, .none]
theorem plain0 {n : Int} {s : Bool} : Plain (ρ0 n s) := fun i t h => by
  match i, h with
  | 0, h => cases h; exact .inl ⟨_, rfl⟩
  | 1, h => cases h; exact .inl ⟨_, rfl⟩
  | 2, h => cases h; exact .inr rfl
  | 3, h => cases h; exact .inr rfl
  | 4, h => cases h; exact .inr rfl
  | 5, h => cases h; exact .inr rfl
  | 6, h => cases h; exact .inr rfl
  | 7, h => cases h; exact .inr rfl
/-- the state while one inner list grows: a the outer list, p the inner one at k, us its content so far -/
structure Mid (K : Fg) (F : Fm) (n : Int) (s : Bool) (k : Nat) (DS : List D) (a p : Addr) (G H : Hp) (σ : L2.St) (es : List D) : Prop where
  R : Rl K F G H σ (ρ0 n s)
  s2 : σ[2]? = some (some (.ref a))
  s3 : σ[3]? = some (some (.int k))
  a0 : F.H0 a = none
  ag : G a = none
  p0 : F.H0 p = none
  pg : G p = none
  ne : p ≠ a
  hk : k < DS.length
  vs : ∃ vs, H a = some (.lst (vs.set k (.ref p))) ∧ RepA K G vs DS
  ws : ∃ ws, H p = some (.lst ws) ∧ RepA K G ws es
variable {n : Int} {s : Bool} {k : Nat} {DS es : List D} {a p : Addr}
theorem Mid.size (M : Mid K F n s k DS a p G H σ es) : σ[0]? = some (some (.int n)) := by
  obtain ⟨x, h1, v, rfl, h2⟩ := M.R.sl 0 (.val (.int n)) rfl
  cases h2
  exact h1
/-- the heap grows -/
theorem Mid.grow (M : Mid K F n s k DS a p G H σ es) (e : Same H H') : Mid K F n s k DS a p G H' σ es where
  R := M.R.replain plain0 (Same.refl G) (M.R.gh.trans e) M.R.gn (fun b o h => e b o (M.R.hkp plain0 b o h)) (M.R.tb.grow e)
  s2 := M.s2
  s3 := M.s3
  a0 := M.a0
  ag := M.ag
  p0 := M.p0
  pg := M.pg
  ne := M.ne
  hk := M.hk
  vs := by
    obtain ⟨vs, h1, h2⟩ := M.vs
    exact ⟨vs, e _ _ h1, h2⟩
  ws := by
    obtain ⟨ws, h1, h2⟩ := M.ws
    exact ⟨ws, e _ _ h1, h2⟩
/-- a name is stored to -/
theorem Mid.put {i : Nat} {x : Option V} (M : Mid K F n s k DS a p G H σ es) (h : i = 4 ∨ i = 5) : Mid K F n s k DS a p G H (σ.set i x) es where
  R := by
    have := M.R.forget (i := i) (x := x) (by rcases h with rfl | rfl <;> rfl)
    rcases h with rfl | rfl <;> exact this
  s2 := by rw [List.getElem?_set_ne (by omega)]; exact M.s2
  s3 := by rw [List.getElem?_set_ne (by omega)]; exact M.s3
  a0 := M.a0
  ag := M.ag
  p0 := M.p0
  pg := M.pg
  ne := M.ne
  hk := M.hk
  vs := M.vs
  ws := M.ws
end
end DL
set_option Elab.async false
set_option linter.all false
set_option maxRecDepth 100000
set_option maxHeartbeats 2000000
namespace PySem
namespace IeX
open PySem.W PySem.Calls PyProof.Rows PySem.HandSPX
open Builtin Builtin.ObjectAttr
abbrev ieTail : List Value := [.type "IndexError", .type "LookupError", .type "Exception", .type "BaseException", .type "object"]
theorem ie_pass (self : Value) (C : Addr) : refuseLoop self "__setattr__" (.ref C :: ieTail) = pure () := by
  rw [refuseLoop_ref]
  exact F.store_IndexError.passes self
theorem ie_has (C : Addr) : (Value.ref C :: ieTail).contains (.type "object") = true := by
  rw [List.contains_cons, Bool.or_eq_true]
  exact .inr (by decide +kernel)
section
variable {prog : Program} {w : World} {A : Around} {R : Result → Shared → Prop} {hp : Heap} {g : Array GenState} {d : Drawn} {t : Nat} {os : OsState}
/-- object.__setattr__ of a new error -/
theorem ie_osa {K : W.Frag} {fld : Str} {tk : Tok} {u : Value} {e C : Addr} {fs : Array Value} {cd : ClassData}
    (kin : K.In hp) (he : hp.get? e = some { cls := .ref C, data := .fields fs })
    (hcd : W.clsIn K C = some cd) (hm : cd.mro = .ref C :: ieTail) (hd : cd.hasDict = true) (no : W.findIn K (.ref C) fld = some none)
    (next : ∀ hp2 tk2 dx, (∀ b o, b ≠ e → hp.get? b = some o → hp2.get? b = some o) → hp.objs.size ≤ dx → dx ≠ e →
      hp2.get? e = some { cls := .ref C, dict := some dx, data := .fields fs } → hp2.Ns1 dx (fun y => if y = fld then some u else none) →
      R (.ok (.ret .none)) ⟨hp2, g, d, tk2, os⟩) :
    codeAny (model prog w) A (.call (.builtin "object.__setattr__") ⟨[.ref e, .str fld tk, u], []⟩) R ⟨hp, g, d, t, os⟩ := by
  have at_ : W.InstAt hp e { cls := .ref C, data := .fields fs } C none := ⟨he, rfl, rfl, trivial⟩
  have far : e ≠ hp.objs.size := Nat.ne_of_lt (Heap.lt_size he)
  have inst : W.Looks (model prog w) hp (isInstance (.ref e) (.type "object")) true := at_.type.andThen (W.looks_mroIn kin (by
    unfold W.mroIn
    rw [hcd, Option.bind_some, if_neg (by rw [hm]; simp), hm, ie_has]))
  refine codeAny_call_builtin F.store_object.slot.plain F.store_object.entry
    (@W.check_slot (model prog w) _ _ ⟨hp, g, d, t, os⟩ "object.__setattr__" "object" "__setattr__" (.ref e) [.str fld tk, u] [] _
      F.store_object.kind F.store_object.split inst (F.store_object.args (.ref e) (.str fld tk) u) ?_)
  have look : W.Looks (model prog w) hp (classData C) cd := W.looks_clsIn kin hcd
  have mro : W.Looks (model prog w) hp (mroOf (.ref C)) cd.mro := look.andThen .now
  have taker : W.Looks (model prog w) hp (storeTaker? none) none := .now
  rw [W.osa_eq, refuse_eq]
  refine wpAny_bind (wpAny_bind (at_.type.at (wpAny_bind (mro.at ?_))))
  rw [hm, ie_pass]
  refine wpAny_pure (wpAny_bind (at_.type.at (wpAny_bind ((W.looks_findIn kin no).at (wpAny_bind (taker.at ?_))))))
  show wpAny _ _ (storeInOwnDict (.ref e) (.ref C) (.str fld tk) fld u false) _ _ _
  cases cd with
  | mk nm bs mr ns qn hdd sn sb ab col del =>
    dsimp only at hd
    subst hd
    unfold storeInOwnDict ownDictForStores
    repeat (first | with_reducible refine store_in_new ?_ ?_ | with_reducible refine wpAny_loadPart_at he ?_ | with_reducible refine look.at ?_ | wp_step)
    · exact ⟨_, #[], _, (Heap.get?_update_ne _ _ _ _ far.symm).trans (Heap.get?_push_at rfl rfl), rfl, fun y hy => absurd hy (by simp), fun _ => rfl⟩
    · intro hp2 tk2 hns same
      have he2 : (hp.push { cls := .type "dict", data := .dict #[] }).get? e = some { cls := .ref C, data := .fields fs } := Heap.get?_push_of_some _ he
      refine next hp2 tk2 hp.objs.size (fun b o hb ho => ?_) (Nat.le_refl _) far.symm ((same.2 e far).trans (Heap.get?_update_self _ he2 rfl)) hns
      have hlt : b ≠ hp.objs.size := Nat.ne_of_lt (Heap.lt_size ho)
      exact (same.2 b hlt).trans ((Heap.get?_update_ne _ _ _ _ hb).trans (Heap.get?_push_of_some _ ho))
end
end IeX
end PySem
namespace L2
open PySem PySem.Spec PyProof.Rows
/-- what the written part says of an own class over IndexError -/
structure OexI (K : PySem.W.Frag) (C : Addr) : Prop where
  cls : ∃ nm q N bs sn sub ab col dd k0 k1 k2 k3 k5,
    K.lookup C = some (excClassObj nm q C N bs PySem.IeX.ieTail true sn sub ab col dd k0 k1 k2 k3 k5 "IndexError.__new__")
  sa : PySem.W.findIn K (.ref C) "__setattr__" = some (some (.builtin "object.__setattr__"))
  exC : PySem.W.subIn K (.ref C) (.type "BaseException") = some true
  tyC : PySem.W.typeIn K (.ref C) = some (.type "type")
  kC : PySem.W.keepIn K (.ref C) = true
section
variable {X : Cx} {pins : List (Addr × Obj)} {σ : St} {H : Hp} {s : Shared} {a C : Addr} {f : Str} {y : V} {u : Value}
/-- self.f = y of a new error -/
theorem ie_first {Q : Unit → Shared → Prop} {E : Value → Shared → Prop} {A : Around} (T : OexI X.K C) (I : Inv X pins σ H s)
    (e : H a = some (exo a C none)) (no : PySem.W.findIn X.K (.ref C) f = some none) (ry : RelV y u)
    (next : ∀ dx s2, H dx = none → dx ≠ a → Inv X pins σ (upd (upd H dx (exd dx [(f, y)])) a (exo a C (some dx))) s2 → Q () s2) :
    wpAny (model X.prog X.w) A (setAttr (.ref a) f u) Q E s := by
  obtain ⟨nm, q, N, bs, sn, sub, ab, col, dd, k0, k1, k2, k3, k5, hC⟩ := T.cls
  have cd : PySem.W.clsIn X.K C = some ⟨nm, bs, .ref C :: PySem.IeX.ieTail, N, q, true, sn, sub, ab, col, false⟩ := by
    unfold PySem.W.clsIn
    rw [hC] <;> rfl
  obtain ⟨t1, ho⟩ := exo_at I.hok e
  obtain ⟨hp, g, d, t, os⟩ := s
  refine PySem.W.set_plain (od := none) I.kIn ⟨ho, rfl, rfl, trivial⟩ T.sa ?_
  refine PySem.IeX.ie_osa I.kIn ho cd rfl rfl no fun hp2 tk2 dx keep dn dne hx hns => ?_
  have fresh : H dx = none := I.hok.fresh dn
  have ndx : ∀ {b : Addr} {o : Obj}, hp.get? b = some o → b ≠ dx := fun z => Nat.ne_of_lt (Nat.lt_of_lt_of_le (Heap.lt_size z) dn)
  have nea : ∀ {b : Addr}, H b = none → b ≠ a := fun z1 z2 => by
    subst z2
    rw [e] at z1
    cases z1
  have old : ∀ {b : Addr} {v : HO}, H b = some v → exo a C none ≠ v → upd (upd H dx (exd dx [(f, y)])) a (exo a C (some dx)) b = some v := fun z1 z2 => by
    rw [upd_ne (at_ne e z1 z2), upd_ne (ne_of_none z1 fresh)]
    exact z1
  refine next dx _ fresh dne (I.un (t' := tk2) ⟨fun b o z n _ _ => keep b o (nea n) z, fun b o z n _ _ => ⟨o.slots, keep b o (nea n) z⟩,
    fun b o z n _ => by rw [upd_ne (nea n), upd_ne (ndx z)]; exact n, fun b o z _ => ?_, fun b xs z => old z exo_tup, fun b o v z => old z exo_frz,
    fun b ps z => ⟨#[], by rw [old z exo_tbl]; simp⟩⟩ fun b o z => ?_)
  · by_cases hb : b = a
    · subst hb
      exact ⟨_, hx⟩
    · exact ⟨o, keep b o hb z⟩
  · by_cases hb : b = a
    · subst hb
      rw [upd_same] at z
      cases z
      exact exo_ok hx
    · rw [upd_ne hb] at z
      by_cases hd : b = dx
      · subst hd
        rw [upd_same] at z
        cases z
        exact exd_ok hns (relO_put (fs := []) ry fun _ => True.intro)
      · rw [upd_ne hd] at z
        refine (I.hok b o z).stay (fun c v hc k => keep c v ?_ k) (fun c hc => old hc exo_own) fun c xs hc => old hc exo_tup
        rcases hc with rfl | hc
        · exact hb
        · exact at_ne e hc exo_own
/-- self.f = e in such a class's __init__ -/
def tOstI (K : PySem.W.Frag) (f : Str) (to te : TE) : TS := fun D σ H => te σ H fun y H1 => to σ H1 fun x H2 =>
  ∃ a C : Addr, x = .ref a ∧ OexI K C ∧ PySem.W.findIn K (.ref C) f = some none ∧ H2 a = some (exo a C none) ∧
    ∀ dx, H2 dx = none → dx ≠ a → D.nx σ (upd (upd H2 dx (exd dx [(f, y)])) a (exo a C (some dx)))
theorem ps_ostI {o e : Expr} {to te : TE} {f : Str} {p1 pos : Pos} (ho : PE X o to) (he : PE X e te)
    (hs : swapsWith e (some (.Attribute o f p1)) pos.line X.env = pure false := by rfl) : PS X (.Assign [.Attribute o f p1] e pos) (tOstI X.K f to te) := ⟨fun pins s σ H D I h => by
  refine plainObj_wpAny_Assign_Attribute (thn (he.run pins s σ H _ I h) fun v s1 ⟨y, H1, I1, ry, hy⟩ => ?_) hs
  refine thn (ho.run pins s1 σ H1 _ I1 hy) fun w s2 ⟨x, H2, I2, rx, a, C, ex, T, no, ea, go⟩ => ?_
  subst ex
  obtain rfl : w = Value.ref a := rx
  exact ie_first T I2 ea no ry fun dx s3 n1 n2 J => ⟨σ, _, J, go dx n1 n2⟩⟩
theorem pmk_ie {e : Expr} {ta : TA} {x : Str} {fI : Addr} {fd : FuncData} {ps : List Str} {sp : Sp} {p pos : Pos} {k : Nat} (T : OexI X.K C)
    (iC : PySem.W.findIn X.K (.ref C) "__init__" = some (some (.ref fI))) (tI : PySem.W.typeIn X.K (.ref fI) = some (.type "function"))
    (F1 : FnOk X.prog X.w X.K X.mg X.base (fun _ _ _ _ _ _ => False) k fI fd ps sp) (hr : Room (k + 1) X.A) (hb : Binds X.K fd ps []) (hg : Gl X x) (hm : X.mg x = some (.ref C)) (ha : PA X [e] ta)
    (hdb : (x == ("__debug__" : Str)) = false := by decide) (he : starEach [e] X.env = (false, eval e X.env) :: starEach [] X.env := by rfl)
    (hpl : (backTo pos (starEach [] X.env)).any (·.1) = false := by rfl) : PMk X (.Call (.Name x p) [e] [] pos) (tMkO C sp [] ta) := by
  intro pins s σ H Q I h
  obtain ⟨nm, q, N, bs, sn, sub, ab, col, dd, k0, k1, k2, k3, k5, hC⟩ := T.cls
  refine wpAny_Call_Name_kw (ld_glob I hg hm (PySem.W.callWith_K (h₀ := X.base) I.ok.mod.kin T.kC ?_ he hpl) hdb)
  refine thn (ha.run pos pins s σ H _ I h) fun us s1 ⟨vs, H1, I1, rv, hz, go⟩ => ⟨I1.kIn, ?_⟩
  show wpAny _ _ (call (.ref C) us) _ _ _
  obtain ⟨hp, g, dr, tk, os⟩ := s1
  have nx := go (hp.objs.size + 1) (I1.hok.fresh (Nat.le_succ _))
  let hp2 : Heap := (hp.push (PySem.W.kdv_tup us)).push (PySem.HandSPX.excO C hp.objs.size)
  have keep : ∀ b o, hp.get? b = some o → hp2.get? b = some o := fun b o z => Heap.get?_push_of_some _ (Heap.get?_push_of_some _ z)
  have obj : hp2.get? (hp.objs.size + 1) = some (PySem.HandSPX.excO C hp.objs.size) := by
    show ((hp.push (PySem.W.kdv_tup us)).push (PySem.HandSPX.excO C hp.objs.size)).get? (hp.objs.size + 1) = _
    heap_get
  have I2 : Inv X pins σ (upd H1 (hp.objs.size + 1) (exo (hp.objs.size + 1) C none)) ⟨hp2, g, dr, tk, os⟩ :=
    I1.laid (t' := tk) (h' := hp2) keep (Nat.le_succ _) (exo_ok obj)
  have rv2 : Vals (V.ref (hp.objs.size + 1) :: (vs ++ [])) (Value.ref (hp.objs.size + 1) :: (us ++ [])) := .cons rfl (rv.append .nil)
  have cnt : (Value.ref (hp.objs.size + 1) :: us ++ []).length = ps.length := rv2.length.symm.trans (F1.len _ _ _ _ nx)
  have bind := hb ⟨hp2, g, dr, tk, os⟩ (Value.ref (hp.objs.size + 1) :: us) I2.kIn cnt
  rw [List.cons_append] at bind
  have few : us.length ≤ sizeLine := by
    have := Paired.length rv
    rw [sizeLine_eq]
    omega
  have body := F1.run _ X.stack _ _ ⟨Value.ref (hp.objs.size + 1) :: us, []⟩ (Value.ref (hp.objs.size + 1) :: (us ++ [])) _ _ (fun _ _ _ => False)
    (hr.make C us []) (I2.env0.make C us []) bind rv2 nx
  refine wpAny_call (PySem.HandSPX.call_own F.excBase_IndexError (fun _ => rfl) (I1.kIn _ _ hC) (PySem.W.looks_findIn I1.kIn iC)
    (fun z => PySem.W.bind_fn I1.kIn z tI) few (codeAny_mono body fun r s2 hq => ?_))
  rcases r with er | fl
  · exact hq.elim
  · cases fl with
    | ret u =>
      obtain ⟨v, H2, eo, bare, un, hok, ru, ev, d, fs, ea, ed, hd1, fin⟩ := hq
      subst ev
      exact ⟨ru, mk_end (raises_own T.exC T.tyC) I1 (Nat.le_succ _) keep un hok eo bare ea ed hd1 fin⟩
    | next => exact hq.elim
    | brk => exact hq.elim
    | cont => exact hq.elim
end
end L2
namespace DD
open PySem PySem.Spec PyProof.Rows L2
def spIE (K : PySem.W.Frag) (f : Str) : Sp := fun vs H Q _ => ∃ (a C : Addr) (y : V), vs = [.ref a, y] ∧ OexI K C ∧ PySem.W.findIn K (.ref C) f = some none ∧ H a = some (exo a C none) ∧
  ∀ dx, H dx = none → dx ≠ a → Q .non (upd (upd H dx (exd dx [(f, y)])) a (exo a C (some dx)))
section
variable {P : Program} {w : World} {K : PySem.W.Frag} {mg : Str → Option Value} {base : Heap}
theorem ok_exIE {qual : Str} {st : Stmt} {fI : Addr} {fd : FuncData} {f : Str} {N : List Str} (F : Fun K "__init__" qual st fI fd) (S : FnScope N N (defScope st)) (hN : N.length = 2)
    (hb : ∀ (cdv : Value) (A : Around) (outer : List Env) (s : Shared) (H : Hp) (E : XK), PSs (cxOf CX0 P w K mg base N qual (defScope st) fI cdv A outer s H E).nox (defBody st) (tOstI K f (tVar 0) (tVar 1))) :
    FnOk P w K mg base CX0 1 fI fd N (spIE K f) := by
  refine F.ok S (fun vs H Q E h => ?_) fun cdv A outer s H vs Q E hr h => ⟨_, hb cdv A outer s H E, ?_⟩
  · obtain ⟨a, C, y, rfl, _⟩ := h
    rw [hN]
    rfl
  · obtain ⟨a, C, y, rfl, T, no, ea, q⟩ := h
    match N, hN with
    | [_, _], _ => exact ⟨y, rfl, V.ref a, rfl, a, C, rfl, T, no, ea, fun dx h1 h2 => q dx h1 h2⟩
end
/-- an error's class over IndexError, as raise wants it -/
def ExRI (P : Program) (w : World) (K : PySem.W.Frag) (mg : Str → Option Value) (base : Heap) (C : Addr) (f : Str) : Prop :=
  ∃ (fI : Addr) (fd : FuncData) (ps : List Str), OexI K C ∧ PySem.W.findIn K (.ref C) f = some none ∧ PySem.W.findIn K (.ref C) "__init__" = some (some (.ref fI)) ∧
    PySem.W.typeIn K (.ref fI) = some (.type "function") ∧ FnOk P w K mg base CX0 1 fI fd ps (spIE K f) ∧ Binds K fd ps []
theorem ps_raiseI {X : Cx} {W : WX} {x f : Str} {C : Addr} {p pos pos' : Pos} {e : Expr} {te : TE} (R : ExRI X.prog X.w X.K X.mg X.base C f) (hr : Room 2 X.A) (hc : X.calm = true) (tk : Takes X W) (hg : Gl X x) (hm : X.mg x = some (.ref C)) (ha : PE X e te)
    (hdb : (x == ("__debug__" : Str)) = false := by decide) (he : starEach (e :: []) X.env = (false, eval e X.env) :: starEach [] X.env := by rfl) (hpl : (backTo pos (starEach [] X.env)).any (·.1) = false := by rfl) :
    PS X (.Raise (some (.Call (.Name x p) [e] [] pos)) none pos') (tRaise1 C f W te) := by
  obtain ⟨fI, fd, ps, T, no, iC, tI, F, hb⟩ := R
  have M := pmk_ie (p := p) T iC tI F hr hb hg hm (pa_cons (hs := he) (peM ha) pa_nil) hdb he hpl
  refine ⟨fun pins s σ H D I h => (ps_raise hc tk M).run pins s σ H D I ⟨_, h, fun y H1 q => ⟨by simp, fun a na => ?_⟩⟩⟩
  refine ⟨a, C, y, by simp, T, no, upd_same, fun dx h1 h2 => ?_⟩
  rw [upd_ne h2] at h1
  refine ⟨rfl, dx, [(f, y)], upd_same, by rw [upd_ne h2, upd_same], h1, ?_⟩
  have e : upd (del (upd (upd (upd H1 a (exo a C none)) dx (exd dx [(f, y)])) a (exo a C (some dx))) a) dx (.xd [(f, y)]) = upd H1 dx (.xd [(f, y)]) := by
    funext b
    by_cases hb : b = dx
    · rw [hb, upd_same, upd_same]
    · rw [upd_ne hb, upd_ne hb]
      by_cases hba : b = a
      · rw [hba, del_same, na]
      · rw [del_ne hba, upd_ne hba, upd_ne hb, upd_ne hba]
  rw [e]
  exact q dx h1
end DD
set_option Elab.async false
set_option linter.all false
set_option maxRecDepth 100000
set_option maxHeartbeats 2000000
namespace DL
open PySem PySem.Spec PyProof.Rows L2 DD
section
variable {K : Fg} {a : Addr} {i : Nat} {x : Xc} {d : Option Addr} {ta : TE} {t : TA} {A : En → Res X} {T : En → Res (List X)}
theorem kit_ty {A : Addr} {B : String} {b : Bool} (h4 : PySem.W.subIn K (.ref A) (.type B) = some b) (h5 : PySem.W.subIn K (.ref A) (.ref A) = some true) (hm : PySem.W.kitMeta B = true := by decide +kernel) : PySem.W.kitOne K (.ref A) (.type B) = some b := by
  unfold PySem.W.kitOne
  have e : ((Value.ref A) == (Value.type B)) = false := by
    cases q : ((Value.ref A) == (Value.type B)) with
    | false => rfl
    | true => exact absurd (beq_iff_eq.mp q) (by intro z; cases z)
  simp [e, PySem.W.kitCls, hm, h4]
theorem Lx_isB {D : Addr} {B : String} {b : Bool} (h : PySem.W.kitOne K (.ref D) (.type B) = some b) : LEx K a i x d (tCB (rIsX K D a x.cls d) (tCons (tVar i) (tCons (tC (.ty B)) tNil))) (dXi D b x) := by
  intro F G H σ ρ Q R hX w
  obtain ⟨h1, h2⟩ := hX
  unfold dXi at w
  split at w
  · rename_i hc
    rcases h2 with ⟨_, h2⟩ | ⟨e, fs, e1, e2, e3, e4⟩
    · exact (hc.2 h2).elim
    · exact ⟨.ref a, h1, .ty B, .type B, b, e, fs, hc.1, e1, R.gh _ _ e2, rfl, fun u z => z, h, w _ G H R (Same.refl G) (.bl _)⟩
  · exact w.elim
abbrev LAx (K : Fg) (a : Addr) (i : Nat) (x : Xc) (d : Option Addr) (t : TA) (T : En → Res (List X)) : Prop := LGx K a i x d (RepXs K) t T
theorem Ax_nil : LAx K a i x d tNil aNil := fun F G H σ ρ Q R _ w => w [] G H R (Same.refl G) .nil
theorem Ax_cons (ha : LEx K a i x d ta A) (ht : LAx K a i x d t T) : LAx K a i x d (tCons ta t) (aCons A T) := by
  refine LGx.bind (k := fun y σ H (Q : List V → Hp → Prop) => t σ H fun xs H2 => Q (y :: xs) H2) ha fun F G H σ ρ y z Q R hX hx w => ?_
  obtain ⟨G1, R1, s1, hx1⟩ := R.settle hx
  refine ht F G1 H σ ρ _ R1 (hX.mono s1) ((w.mono s1).bind fun ys b G2 H2 ρ2 R2 s2 hy w2 => ?_)
  exact w2 _ G2 H2 R2 (Same.refl G2) (.cons (hx1.keep settle_no s2) settle_no hy)
theorem Lx_tup (ht : LAx K a i x d t T) : LEx K a i x d (tTup t) (dTup T) := by
  refine LGx.bind (k := fun xs σ H (Q : VK) => xs.length ≤ sizeLine ∧ ∀ p, H p = none → Q (.ref p) (upd H p (.tup xs))) ht fun F G H σ ρ vs xs Q R _ hx w => ?_
  cases e : toVals ρ xs with
  | none => rw [e] at w; exact w.elim
  | some p =>
    obtain ⟨ds, ρ2⟩ := p
    rw [e] at w
    dsimp only at w
    obtain ⟨G1, R1, s1, r1⟩ := R.toVals hx e
    split at w
    · rename_i hz
      refine ⟨by rw [r1.len]; exact hz, fun p np => ?_⟩
      obtain ⟨R2, s2, r2⟩ := newT R1 np r1
      exact w _ _ _ R2 (s1.trans s2) r2
    · exact w.elim
end
def NoTbl (H : Hp) : Prop := ∀ b ps, H b ≠ some (.tbl ps)
/-- the frame's tables are T, its heap at the entry is told without any -/
def Fm.has (F : Fm) (T : Tbs) : Prop := F.T = T ∧ NoTbl F.H0 ∧ NoTbl F.G0
section
variable {α β γ δ : Type} {K : Fg} {E : XK} {F : Fm} {G G' H H' : Hp} {σ σ' : L2.St} {ρ ρ' : En} {Tt : Tbs}
theorem Rl.noG (R : Rl K F G H σ ρ) (h : NoTbl F.G0) : NoTbl G := fun b ps e => by
  cases q : F.G0 b with
  | none => exact R.tb.2.2 b _ e q ps rfl
  | some o =>
    have := R.g0 _ _ q
    rw [e] at this
    cases this
    exact h b ps q
theorem Fm.has.at (h : F.has Tt) (R : Rl K F G H σ ρ) : (F.at G).has Tt := ⟨h.1, h.2.1, R.noG h.2.2⟩
def LGt (K : Fg) (Tt : Tbs) (E : XK) (rel : Rel β α) (t : L2.St → Hp → (β → Hp → Prop) → Prop) (T : En → Res α) : Prop :=
  ∀ (F : Fm) (G H : Hp) (σ : L2.St) (ρ : En) (Q : β → Hp → Prop), F.has Tt → Rl K F G H σ ρ → Wants K E rel F G σ Q (T ρ) → t σ H Q
abbrev LEt (K : Fg) (Tt : Tbs) (E : XK) (t : TE) (T : En → Res X) : Prop := LGt K Tt E (RepX K) t T
abbrev LTt (K : Fg) (Tt : Tbs) (E : XK) (t : TT) (T : En → Res Bool) : Prop := LGt K Tt E (fun _ _ _ _ _ b a => b = a) t T
def LSt (K : Fg) (Tt : Tbs) (E : XK) (t : TS) (T : En → SR) : Prop := ∀ (F : Fm) (G H : Hp) (σ : L2.St) (ρ : En) (D : Ends), F.has Tt → Rl K F G H σ ρ → WS K E F D (T ρ) → t D σ H
theorem LGt.of {rel : Rel β α} {t : L2.St → Hp → (β → Hp → Prop) → Prop} {T : En → Res α} (h : LG K E rel t T) : LGt K Tt E rel t T := fun F G H σ ρ Q _ R w => h F G H σ ρ Q R w
theorem LSt.of {t : TS} {T : En → SR} (h : LS K E t T) : LSt K Tt E t T := fun F G H σ ρ D _ R w => h F G H σ ρ D R w
theorem LGt.bind {rel : Rel β α} {rel2 : Rel δ γ} {t : L2.St → Hp → (β → Hp → Prop) → Prop} {T : En → Res α} {k : β → L2.St → Hp → (δ → Hp → Prop) → Prop} {U : α → En → Res γ} (h : LGt K Tt E rel t T)
    (h2 : ∀ F G H σ ρ b a Q, F.has Tt → Rl K F G H σ ρ → rel F G H σ ρ b a → Wants K E rel2 F G σ Q (U a ρ) → k b σ H Q) : LGt K Tt E rel2 (fun σ H Q => t σ H fun b H1 => k b σ H1 Q) (fun ρ => (T ρ).bind U) := by
  intro F G H σ ρ Q hF R w
  exact h F G H σ ρ _ hF R (w.bind fun b a G' H' ρ' R' s q w' => h2 F G' H' σ ρ' b a Q hF R' q w')
variable {r : R2} {op : D2} {ta tb : TE} {A B : En → Res X} {tt uu : TT} {T U : En → Res Bool} {s u : TS} {S V : En → SR}
theorem Lt_bin (hr : OpS K r op) (ha : LEt K Tt E ta A) (hb : LEt K Tt E tb B) : LEt K Tt E (tOp r ta tb) (dBin op A B) := by
  refine LGt.bind (k := fun x σ H Q => tb σ H fun y H2 => r x y H2 Q) ha fun F G H σ ρ x a Q hF R hx w => ?_
  obtain ⟨G1, R1, s1, hx1⟩ := R.settle hx
  refine hb F G1 H σ ρ _ hF R1 ((w.mono s1).bind fun y b G2 H2 ρ2 R2 s2 hy w2 => ?_)
  exact ap2_run hr R2 (hx1.keep settle_no s2) hy w2
theorem Lt_test (ha : LEt K Tt E ta A) : LTt K Tt E (fun σ H Q => ta σ H fun x H' => ∃ k, x = .bl k ∧ Q k H') (dTest A) := by
  refine LGt.bind (k := fun x σ H Q => ∃ k, x = .bl k ∧ Q k H) ha fun F G H σ ρ x a Q _ R hx w => ?_
  obtain ⟨b, e, q⟩ := w.lift
  exact ⟨b, R.asB hx e, q _ G H R (Same.refl G) rfl⟩
theorem Lt_tor (ha : LTt K Tt E tt T) (hb : LTt K Tt E uu U) : LTt K Tt E (tOr tt uu) (tor T U) := by
  refine LGt.bind (k := fun c σ H Q => if c = true then Q true H else uu σ H Q) ha fun F G H σ ρ x a Q hF R hx w => ?_
  subst hx
  cases x with
  | true => exact iteT (w _ G H R (Same.refl G) rfl)
  | false => exact iteF (hb F G H σ ρ Q hF R w)
theorem Lt_if (ht : LTt K Tt E tt T) (h1 : LSt K Tt E s S) (h2 : LSt K Tt E u V) : LSt K Tt E (tIfS tt s u) (sIf T S V) := by
  intro F G H σ ρ D hF R w
  refine ht F G H σ ρ _ hF R (w.sb fun b a G' H' ρ' R' _ e w' => ?_)
  subst e
  cases b with
  | true => exact iteT (h1 F G' H' σ ρ' D hF R' w')
  | false => exact iteF (h2 F G' H' σ ρ' D hF R' w')
theorem Lt_seq (h1 : LSt K Tt E s S) (h2 : LSt K Tt E u V) : LSt K Tt E (tSeq s u) (sSeq S V) := by
  intro F G H σ ρ D hF R w
  refine h1 F G H σ ρ _ hF R ?_
  unfold sSeq at w
  cases e : S ρ with
  | nx ρ1 =>
    rw [e] at w
    exact fun σ' G' H' R' => h2 F G' H' σ' ρ1 D hF R' w
  | rt x ρ1 => rw [e] at w; exact w
  | bk ρ1 => rw [e] at w; exact w
  | ct ρ1 => rw [e] at w; exact w
  | err x ρ1 => rw [e] at w; exact w
  | stuck => rw [e] at w; exact w
theorem for_core_t {U : Tg} {W : En → SR} {g : TG} {vs : List Nat} {D : Ends} {J : It} {ds : List DL.D} (hF : F.has Tt) (hb : LSt K Tt E u W) (hg : LTg K vs g U) (R : Rl K F G H σ ρ) (hI : Its K (fun _ => True) G J ds) (w : WS K E F D (forL U W ds ρ)) :
    ∃ Z : Nat → Nat → L2.St → Hp → Prop, (∃ m, Z 0 m σ H) ∧ ∀ i m σ H, Z i m σ H →
      (J.stop i H ∧ D.nx σ H) ∨ (J.go i H ∧ ∃ N : L2.St → Hp → Prop, (∀ σ' H', N σ' H' → ∃ m', m' < m ∧ Z (i + 1) m' σ' H') ∧ ∀ x H', J.yld i H x H' → g x σ H' fun σ2 H2 => u { D with nx := N, ct := N, bk := D.nx } σ2 H2) := by
  have hA := hF.at R
  refine ⟨fun i m σ' H' => ∃ G' ρ', Rl K (F.at G) G' H' σ' ρ' ∧ i + m = ds.length ∧ WS K E (F.at G) D (forL U W (ds.drop i) ρ'), ⟨ds.length, G, ρ, R.at, by omega, w.back R⟩, ?_⟩
  rintro i m σ' H' ⟨G', ρ', R', hm, w'⟩
  cases m with
  | zero =>
    rw [List.drop_eq_nil_of_le (by omega)] at w'
    exact .inl ⟨hI.stop G' H' R'.g0 R'.gh trivial i (by omega), w' σ' G' H' R'⟩
  | succ m =>
    have hi : i < ds.length := by omega
    rw [List.drop_eq_getElem_cons hi] at w'
    refine .inr ⟨hI.go G' H' R'.g0 R'.gh trivial i hi, fun σ2 H2 => ∃ G2 ρ2, Rl K (F.at G) G2 H2 σ2 ρ2 ∧ WS K E (F.at G) D (forL U W (ds.drop (i + 1)) ρ2), fun σ2 H2 ⟨G2, ρ2, R2, w2⟩ => ⟨m, by omega, G2, ρ2, R2, by omega, w2⟩, fun x H3 hy => ?_⟩
    obtain ⟨G3, R3, s3, _, k3, d, hd, hr⟩ := hI.yld _ _ _ _ _ R' R'.g0 trivial i x H3 hi hy
    rw [List.getElem?_eq_getElem hi] at hd
    cases hd
    unfold forL at w'
    cases e : U ds[i] ρ' with
    | none => rw [e] at w'; exact w'.elim
    | some ρ1 =>
      rw [e] at w'
      dsimp only at w'
      refine hg _ _ _ _ _ ρ1 x _ _ R3 hr e fun σ4 R4 _ => hb _ _ _ _ ρ1 _ hA R4 ?_
      cases e2 : W ρ1 with
      | nx ρ2 => rw [e2] at w'; exact fun σ5 G5 H5 R5 => ⟨G5, ρ2, R5, w'⟩
      | ct ρ2 => rw [e2] at w'; exact fun σ5 G5 H5 R5 => ⟨G5, ρ2, R5, w'⟩
      | bk ρ2 => rw [e2] at w'; exact w'
      | rt y ρ2 => rw [e2] at w'; exact w'
      | err y ρ2 => rw [e2] at w'; exact w'
      | stuck => rw [e2] at w'; exact w'
theorem Lt_for {wi : TI} {I : En → Res (List D)} {U : Tg} {W : En → SR} {g : TG} {vs : List Nat} (hi : LI K E wi I) (hg : LTg K vs g U) (hb : LSt K Tt E u W) : LSt K Tt E (tFor wi g u) (sFor I U W) := by
  intro F G H σ ρ D hF R w
  exact hi F G H σ ρ _ R (w.sb fun J ds G1 H1 ρ1 R1 s1 hI w1 => for_core_t hF hb hg R1 hI w1)
/-- over what stands frozen -/
def sForV (A : En → Res X) (U : Tg) (W : En → SR) : En → SR := fun ρ => (A ρ).sb fun x ρ1 => match x with
  | .val d => match d.items with
    | some ds => forL U W ds ρ1
    | none => .stuck
  | _ => .stuck
theorem Lt_forV {U : Tg} {W : En → SR} {g : TG} {vs : List Nat} (ha : LE K E ta A) (hg : LTg K vs g U) (hb : LSt K Tt E u W) : LSt K Tt E (tFor (iSeq K ta) g u) (sForV A U W) := by
  intro F G H σ ρ D hF R w
  refine ha F G H σ ρ _ R (w.sb fun v x G1 H1 ρ1 R1 s1 hx w1 => ?_)
  cases x with
  | own i => exact w1.elim
  | new o => exact w1.elim
  | val d =>
    dsimp only at w1
    cases e : d.items with
    | none => rw [e] at w1; exact w1.elim
    | some ds =>
      rw [e] at w1
      dsimp only at w1
      obtain ⟨a, rfl, q⟩ := its_rep R1 hx e
      rcases q with ⟨q1, q2⟩ | ⟨q1, q2⟩
      · exact ⟨a, rfl, .inl ⟨q1, for_core_t hF hb hg R1 q2 w1⟩⟩
      · exact ⟨a, rfl, .inr ⟨q1, for_core_t hF hb hg R1 q2 w1⟩⟩
def frzE : List Nat → En → En
  | [], ρ => ρ
  | i :: is, ρ => frzE is (match ρ[i]? with
    | some (.own o) => ρ.set i (.val o.d)
    | _ => ρ)
theorem Rl.frzE : ∀ (is : List Nat) {G : Hp} {ρ : En}, Rl K F G H σ ρ → ∃ G', Rl K F G' H σ (frzE is ρ) ∧ Same G G'
  | [], G, ρ, R => ⟨G, R, Same.refl G⟩
  | i :: is, G, ρ, R => by
    unfold DL.frzE
    split
    · rename_i o e
      obtain ⟨G1, a, _, R1, s1, _⟩ := R.give e
      obtain ⟨G2, R2, s2⟩ := R1.frzE is
      exact ⟨G2, R2, s1.trans s2⟩
    · exact R.frzE is
def vals (ρ : En) : En := ρ.map fun s => match s with
  | .val d => .val d
  | _ => .none
theorem vals_get {i : Nat} {s : Slot} (h : (vals ρ)[i]? = some s) : (∃ d, s = .val d ∧ ρ[i]? = some (.val d)) ∨ (s = .none ∧ ∃ u, ρ[i]? = some u) := by
  unfold vals at h
  rw [List.getElem?_map] at h
  cases e : ρ[i]? with
  | none => rw [e] at h; cases h
  | some u =>
    rw [e] at h
    cases u with
    | val d => cases h; exact .inl ⟨d, rfl, rfl⟩
    | none => cases h; exact .inr ⟨rfl, _, rfl⟩
    | own o => cases h; exact .inr ⟨rfl, _, rfl⟩
    | bor o => cases h; exact .inr ⟨rfl, _, rfl⟩
    | lck o => cases h; exact .inr ⟨rfl, _, rfl⟩
theorem Rl.vals (R : Rl K F G H σ ρ) (s : Same G H') : Rl K ⟨H', G, fun _ => none, fun _ => none, []⟩ G H' σ (vals ρ) := by
  refine ⟨s, Same.refl G, fun b o h1 h2 => ?_, fun b o h _ => h, fun i b h => (nomatch h), fun i b h => (nomatch h), fun i t h => ?_, fun i j o o' b h1 => ?_, fun i j b h => (nomatch h), TabR.nil⟩
  · rw [show G b = none from h2] at h1
    cases h1
  · rcases vals_get h with ⟨d, rfl, e⟩ | ⟨rfl, u, e⟩
    · obtain ⟨v, h1, h2⟩ := R.val e
      exact ⟨_, h1, v, rfl, h2⟩
    · obtain ⟨x, h1, _⟩ := R.sl i u e
      exact ⟨x, h1, trivial⟩
  · rcases vals_get h1 with ⟨d, e, _⟩ | ⟨e, _⟩ <;> cases e
/-- tables have changed, nothing else -/
theorem Rl.tabs (hF : F.has Tt) (R : Rl K F G H σ ρ) (ex : LamX.ExtN H H') (t : LamX.Tabs Tt H') : Rl K F G H' σ ρ where
  gh := fun b o e => ex b o (R.gh b o e) fun ps z => (R.noG hF.2.2) b ps (by rw [e, z])
  g0 := R.g0
  gn := R.gn
  hk := fun b o e n => ex b o (R.hk b o e n) fun ps z => hF.2.1 b ps (by rw [e, z])
  hm := fun i b e => by
    obtain ⟨h1, h2, o, h3⟩ := R.hm i b e
    obtain ⟨c, g1, g2, g3, g4⟩ := R.bor h3
    rw [e] at g2
    cases g2
    obtain ⟨u, g5⟩ := g4.ex
    refine ⟨fun z => ?_, h2, o, h3⟩
    rw [ex b u g5 (g4.usual g5).1] at z
    cases z
  hl := R.hl
  sl := fun i s e => by
    obtain ⟨x, h1, h2⟩ := R.sl i s e
    refine ⟨x, h1, ?_⟩
    have k : ∀ {a : Addr} {o : O}, ObjO K G H a o → ObjO K G H' a o := fun {a o} z => z.mono (Same.refl G) fun u g => ex a u g (z.usual g).1
    cases s with
    | none => trivial
    | val d => exact h2
    | own o =>
      obtain ⟨a, e1, e2, e3, e4⟩ := h2
      exact ⟨a, e1, e2, e3, k e4⟩
    | bor o =>
      obtain ⟨a, e1, e2, e3, e4⟩ := h2
      exact ⟨a, e1, e2, e3, k e4⟩
    | lck o =>
      obtain ⟨a, u, e1, e2, e3, e5, e6, e4⟩ := h2
      exact ⟨a, u, e1, e2, e3, e5, e6, k e4⟩
  di := R.di
  mi := R.mi
  tb := ⟨by rw [hF.1]; exact t, R.tb.2.1, R.tb.2.2⟩
/-- what went on elsewhere -/
theorem Rl.beside {F' : Fm} {σ2 : L2.St} {ρ2 : En} (R : Rl K F G H σ ρ) (R2 : Rl K F' G' H' σ2 ρ2) (h0 : F'.H0 = H) (hg : F'.G0 = G) (hm : ∀ i, F'.M i = none) : Rl K F G' H' σ ρ := by
  subst h0
  subst hg
  exact R.after (ch := fun _ => False) R2.g0 R2.gh (fun b o e1 e2 => R2.gn b o e1 e2) (fun b o e _ => R2.hk b o e fun i z => by rw [hm i] at z; cases z) (fun b z => z.elim) (fun b u z => z.elim) fun b o e1 e2 => R2.tb.2.2 b o e1 e2
end
end DL
set_option Elab.async false
set_option linter.all false
set_option maxRecDepth 100000
set_option maxHeartbeats 2000000
namespace DL
open PySem PySem.Spec PyProof.Rows L2 DD
open Classical in
noncomputable def hear (cN cI : Addr) (x : Xc) : Option D := if x.cls = .ref cN then
    (match x.ks, x.ds with
      | [k], [d] => if k = "at" then some (.tup [.str "none", d]) else none
      | _, _ => none)
  else if x.cls = .ref cI then
    (match x.ks, x.ds with
      | [k], [.str z] => if k = "word" ∧ 1 + z.length ≤ sizeLine then some (.str ("!" ++ z)) else none
      | _, _ => none)
  else none
/-- what is made of the lambda's reading -/
def TTh (K : Fg) (cD cN cI : Addr) (spS : Sp) : (XK → Hp → VK → Prop) → Hp → VK → Prop := fun tl H Q => ∃ Ech : XK, (∀ Q' : VK, (∀ v H', Q v H' → Q' v H') → tl Ech H fun v H1 => rStrO cD spS E0 [v] H1 Q') ∧
  ∀ cls od H', Ech cls od H' → ∃ G' x dd, Same G' H' ∧ XRep K G' H' cls od x ∧ hear cN cI x = some dd ∧
    ∀ v G'' H'', Same G' G'' → Same G'' H'' → (∀ b o, G'' b = some o → G' b = none → H' b = none) → (∀ b o, G'' b = some o → G' b = none → ∀ ps, o ≠ .tbl ps) → Same H' H'' → Rep K G'' v dd → Q v H''
noncomputable def dHeard (is : List Nat) (cD cN cI : Addr) (m : Nat) (T : En → SR) (Ed : En → Res X) : En → Res X := fun ρ => match dStrO cD m (nS T) Ed (vals (frzE is ρ)) with
  | .ok (.val (.str z)) _ => .ok (.val (.str z)) (frzE is ρ)
  | .err x _ => lift ((hear cN cI x).map X.val) (frzE is ρ)
  | _ => .stuck
theorem Lt_heard {K : Fg} {Tt : Tbs} {E : XK} {cD cN cI : Addr} {m : Nat} {T : En → SR} {t : XK → TE} {Ed : En → Res X} {is : List Nat} (ht : ∀ E, LE K E (t E) Ed) : LEt K Tt E (LamX.tLam Tt (TTh K cD cN cI (spD0 K 1 m T)) t) (dHeard is cD cN cI m T Ed) := by
  intro F G H σ ρ Q hF R w
  obtain ⟨G1, R1, s1⟩ := R.frzE is
  refine ⟨by have := R1.tb.1; rw [hF.1] at this; exact this, fun H1 ex t1 => ?_⟩
  have R2 := R1.tabs hF ex t1
  have Rv := R2.vals R2.gh
  unfold dHeard at w
  have hE : ∀ E, LE K E (tCB (rStrO cD (spD0 K 1 m T) E0) (tCons (t E) tNil)) (dStrO cD m (nS T) Ed) := fun E => Ln_strO (ht E)
  let Ech : XK := fun cls od H' => ∃ G' x ρ2, dStrO cD m (nS T) Ed (vals (frzE is ρ)) = .err x ρ2 ∧ Rl K ⟨H1, G1, fun _ => none, fun _ => none, []⟩ G' H' σ ρ2 ∧ XRep K G' H' cls od x ∧ Same G1 G'
  refine ⟨Ech, fun Q' hQ' => hE Ech _ G1 H1 σ _ Q' Rv ?_, fun cls od H' hx => ?_⟩
  · cases e : dStrO cD m (nS T) Ed (vals (frzE is ρ)) with
    | stuck => rw [e] at w; exact w.elim
    | err x ρ2 => exact fun c od G' H' R' s' xr => ⟨G', x, ρ2, e, R', xr, s'⟩
    | ok y ρ2 =>
      rw [e] at w
      cases y with
      | own i => exact w.elim
      | new o => exact w.elim
      | val d =>
        cases d with
        | str z => exact fun v G' H' R' s' hy => hQ' _ _ (w v G' H' (R2.beside R' rfl rfl fun _ => rfl) (s1.trans s') hy)
        | _ => exact w.elim
  · obtain ⟨G', x, ρ2, e, R', xr, s'⟩ := hx
    rw [e] at w
    dsimp only at w
    have RR := R2.beside R' rfl rfl fun _ => rfl
    obtain ⟨y, hy, w'⟩ := w.lift
    obtain ⟨dd, hd, rfl⟩ := Option.map_eq_some_iff.mp hy
    exact ⟨G', x, dd, R'.gh, xr, hd, fun v G'' H'' a1 a2 a3 a4 a5 a6 => w' v G'' H''
      (RR.after (ch := fun _ => False) a1 a2 a3 (fun b o z _ => a5 b o z) (fun b z => z.elim) (fun b u z => z.elim) a4) ((s1.trans s').trans a1) a6⟩
def tbH (cD : Addr) (spS : Sp) (f c' : Addr) (q : Str) (tl : XK → Hp → VK → Prop) (W : WX) : TS := fun D σ H => ∃ Ech : XK, (∀ cls d σ' H', Ech cls d H' → σ'.length = 3 → W cls d σ' H') ∧
  tAsg (tCB (rStrO cD spS E0) (tCons (fun σZ HZ Q => σZ[0]? = some (some (.ref f)) ∧ HZ c' = some (LamX.CodeO c' q) ∧ tl Ech HZ Q) tNil)) (gName 1) D σ H
theorem takes_len {X : Cx} {W : WX} {n : Nat} (hn : X.N.length = n) (t : Takes X W) : Takes X (fun c d σ H => σ.length = n → W c d σ H) := fun u s' ⟨a, B, sI, pins, σ, H, cls, d, e, I, nb, up, sky, na, os, ag, w⟩ =>
  t u s' ⟨a, B, sI, pins, σ, H, cls, d, e, I, nb, up, sky, na, os, ag, w (I.len.trans hn)⟩
theorem heard_body {K : Fg} {cD cN cI : Addr} {spS : Sp} {l : List Cl1} {L : List ((Value → Option Bool) × (Xc → En → SR))} {Ng : List Str} {f' c' : Addr} {q : Str} {tl : XK → Hp → VK → Prop} {H : Hp} {Q : VK}
    (hN : Ng.length = 3) (hL : HL K 2 l L) (hp : ∀ x dd, hear cN cI x = some dd → ∃ ρ, pickC 2 x [.none, .none, .none] L = .nx ρ ∧ ρ[1]? = some (.val dd)) (h : TTh K cD cN cI spS tl H Q) (hc : H c' = some (LamX.CodeO c' q)) :
    tSeq (tAsg (tC (.str "other")) (gName 1)) (tSeq (fun D σ H => tbH cD spS f' c' q tl (wAll K 2 D l) D σ H) (tRet (tVar 1))) { nx := fun _ H' => Q .non H', rt := Q } (start Ng [.ref f']) H := by
  obtain ⟨Ech, h1, h2⟩ := h
  have g0 := start_get (N := Ng) (vs := [.ref f']) (i := 0) (by omega) (by simp; omega)
  have g1 := start_get (N := Ng) (vs := [.ref f']) (i := 1) (by omega) (by simp; omega)
  obtain ⟨x0, e0, k0⟩ := g0
  obtain ⟨x1, e1, _⟩ := g1
  have l1 : 1 < (start Ng [V.ref f']).length := (List.getElem?_eq_some_iff.mp e1).1
  refine ⟨Ech, fun cls d σ' H' hx hl => ?_, ?_, hc, h1 _ fun v H3 hq => ?_⟩
  · obtain ⟨G', x, dd, a1, xr, hd, nx⟩ := h2 cls d H' hx
    obtain ⟨ρ2, hp1, hp2⟩ := hp x dd hd
    have R : Rl K ⟨H', G', fun _ => none, fun _ => none, []⟩ G' H' σ' [.none, .none, .none] := by
      refine ⟨a1, Same.refl _, fun b o z1 z2 => ?_, fun b o z _ => z, fun i b z => (nomatch z), fun i b z => (nomatch z), fun i s z => ?_, fun i j o o' b z => ?_, fun i j b z => (nomatch z), TabR.nil⟩
      · rw [show G' b = none from z2] at z1
        cases z1
      · have hi : i < 3 := (List.getElem?_eq_some_iff.mp z).1
        have hs : s = .none := by
          match i, z with
          | 0, z => cases z; rfl
          | 1, z => cases z; rfl
          | 2, z => cases z; rfl
        subst hs
        exact ⟨_, List.getElem?_eq_getElem (by omega), trivial⟩
      · match i, z with
        | 0, z => cases z
        | 1, z => cases z
        | 2, z => cases z
    refine pick_ok hL R xr ?_
    rw [hp1]
    intro σ2 G2 H2 R2
    obtain ⟨v, b1, b2⟩ := R2.val hp2
    exact ⟨v, b1, nx v G2 H2 R2.g0 R2.gh (fun b o z1 z2 => R2.gn b o z1 z2) (fun b o z1 z2 => R2.tb.2.2 b o z1 z2) (fun b o z => R2.hk b o z fun i y => (nomatch y)) b2⟩
  · show ((start Ng [V.ref f']).set 1 (some (V.str "other")))[0]? = _
    rw [List.getElem?_set_ne (by omega), e0, k0 _ rfl]
  · refine ⟨v, ?_, hq⟩
    rw [List.getElem?_set_self (by rw [List.length_set]; exact l1)]
section
variable {K : Fg} {E : XK} {ta tb : TE} {A B : En → Res X} {C : Addr} {m : Nat} {T : En → SR}
/-- o[i] by an own __getitem__ that may raise -/
theorem L_ixO (ha : LE K E ta A) (hb : LE K E tb B) : LE K E (tOp (rIxO C (spD K 2 m T) E) ta tb) (dIxO C m T A B) := by
  refine LG.bind (k := fun x σ H (Q : VK) => tb σ H fun y H2 => rIxO C (spD K 2 m T) E x y H2 Q) ha fun F G H σ ρ x a Q R hx w => ?_
  obtain ⟨G1, R1, s1, hx1⟩ := R.settle hx
  refine hb F G1 H σ ρ _ R1 ((w.mono s1).bind fun y b G2 H2 ρ2 R2 s2 hy w2 => ?_)
  obtain ⟨G3, R3, s3, hy3⟩ := R2.settle hy
  have hx3 := hx1.keep (H' := H2) (ρ' := ρ2) settle_no (s2.trans s3)
  have w3 := w2.mono s3
  cases e : toVal ρ2 a.settle with
  | none => rw [e] at w3; exact w3.elim
  | some q =>
    obtain ⟨d, ρ3⟩ := q
    rw [e] at w3
    obtain ⟨G4, R4, s4, r4⟩ := R3.toVal hx3 e
    cases d <;> try exact w3.elim
    rename_i C' ks es
    dsimp only at w3
    cases e2 : toVal ρ3 b.settle with
    | none => rw [e2] at w3; exact w3.elim
    | some q2 =>
      obtain ⟨d2, ρ4⟩ := q2
      rw [e2] at w3
      obtain ⟨G5, R5, s5, r5⟩ := R4.toVal (hy3.keep settle_no s4) e2
      dsimp only at w3
      split at w3
      · rename_i hc
        subst hc
        have r4' := r4
        cases r4 with
        | ins h1 h2 h3 =>
          exact ⟨_, _, _, rfl, R4.gh _ _ h1, call_sp (ds := [D.ins _ ks es, d2]) R5 (.cons (r4'.mono s5) (.one r5)) rfl (w3.mono (s4.trans s5))⟩
      · exact w3.elim
end
def spLawT (K : Fg) (P : Addr) : Sp := fun vs H Q _ => ∃ (a : Addr) (ns : List Int), vs = [.ref a] ∧ SqL K H a (ns.map V.int) ∧ ns.length ≤ 63 ∧ H P = some (.tbl #[]) ∧ ∀ H', Q (.bl true) H'
def LawOkT (m : Nat) (T : En → SR) : Prop := ∀ ns : List Int, ns.length ≤ 63 → ∃ ρ, T (env0 m [.val (.scr (ns.map D.int))]) = .rt (.val (.bl true)) ρ
open Classical in
/-- a heap told without its tables -/
noncomputable def noT (H : Hp) : Hp := fun b => if ∃ ps, H b = some (.tbl ps) then none else H b
theorem noT_no {H : Hp} : NoTbl (noT H) := fun b ps e => by
  unfold noT at e
  split at e
  · cases e
  · rename_i n
    exact n ⟨ps, e⟩
theorem noT_sub {H : Hp} : Same (noT H) H := fun b o e => by
  unfold noT at e
  split at e
  · cases e
  · exact e
theorem noT_at {H : Hp} {b : Addr} {o : HO} (e : H b = some o) (n : ∀ ps, o ≠ .tbl ps) : noT H b = some o := by
  unfold noT
  rw [if_neg (fun ⟨ps, z⟩ => n ps (by rw [e] at z; exact Option.some.inj z))]
  exact e
theorem law_runT {K : Fg} {E : XK} {N : List Str} {P : Addr} {q : Str} {T : En → SR} {t : TS} {vs : List V} {Q : VK} (hN : 1 ≤ N.length) (h : LSt K [(P, q)] E0 t T) (hl : LawOkT N.length T) (hs : spLawT K P vs H Q E) : t { nx := fun _ H' => Q .non H', rt := Q } (start N vs) H := by
  obtain ⟨a, ns, rfl, hS, hn, hP, hq⟩ := hs
  obtain ⟨ρ, e⟩ := hl ns hn
  have hS' : SqL K (noT H) a (ns.map V.int) := by
    rcases hS with (hS | ⟨o, hS⟩) | hS
    · exact .inl (.inl (noT_at hS fun _ z => by cases z))
    · exact .inl (.inr ⟨o, noT_at hS fun _ z => by cases z⟩)
    · exact .inr hS
  have R0 := ent0 (K := K) (N := N) (noT_sub (H := H)) (RepA.one (Rep.scr hS' .ofInts)) (by simpa using hN)
  have nP : noT H P = none := by
    unfold noT
    rw [if_pos ⟨_, hP⟩]
  have R : Rl K ⟨noT H, noT H, fun _ => none, fun _ => none, [(P, q)]⟩ (noT H) H (start N [.ref a]) (env0 N.length ([D.scr (ns.map D.int)].map .val)) := by
    refine ⟨R0.gh, Same.refl _, fun b o h1 h2 => ?_, fun b o h1 _ => noT_sub _ _ h1, fun i b z => (nomatch z), fun i b z => (nomatch z), fun i s hs => ?_, fun i j o o' b h1 h2 h3 h4 => R0.di i j o o' b h1 h2 h3 h4, fun i j b z => (nomatch z), ⟨fun p hp => ?_, fun p hp => ?_, fun b o h1 h2 => ?_⟩⟩
    · rw [show noT H b = none from h2] at h1
      cases h1
    · obtain ⟨x, h1, h2⟩ := R0.sl i s hs
      refine ⟨x, h1, ?_⟩
      rcases env0_get hs with hs | ⟨rfl, _⟩
      · obtain ⟨d, _, rfl⟩ := map_val_get hs
        exact h2
      · trivial
    · simp only [List.mem_singleton] at hp
      subst hp
      exact LamX.TabS.nil hP
    · simp only [List.mem_singleton] at hp
      subst hp
      exact nP
    · rw [show noT H b = none from h2] at h1
      cases h1
  refine h _ _ H _ _ _ ⟨rfl, noT_no, noT_no⟩ R ?_
  rw [show T (env0 N.length ([D.scr (ns.map D.int)].map .val)) = .rt (.val (.bl true)) ρ from e]
  intro v σ G' H' _ hx
  cases hx
  exact hq H'
end DL
namespace DD
open PySem PySem.Spec PyProof.Rows L2
section
variable {X : Cx}
theorem pe_heard {T : List (Addr × Str)} {TT : (XK → Hp → VK → Prop) → Hp → VK → Prop} {x a : Str} {g c P : Addr} {k : Nat} {st : Stmt} {Ng : List Str} {params : Arguments} {body : Expr} {scope : Scope} {t : XK → TE} {p lpos pos : Pos}
    (F : ∃ fd, Fun X.K x x st g fd) (Sg : FnScope Ng [a] (defScope st)) (hNg : Ng[0]? = some a) (hva : Vis (defScope st) a)
    (hb : ∀ (kV doc pm : Value) (an : Option Addr) (cdv ct : Value) (us : List Value), us.length = [a].length → bindArgs (PySem.W.fnOf x x (defArgs st) (defBody st) (defScope st) .none kV doc pm an cdv ct) ⟨us, []⟩ = pure ([a].zip us))
    (hg : Gl X x) (hm : X.mg x = some (.ref g)) (hG : ∀ cdv, LamX.GivesTo X Ng x (defScope st) g cdv (defBody st) a (X.env.qual ++ "<lambda>") TT)
    (TB : LamX.TabB X.base X.mg c P) (hcode : X.env.code = .ref c) (hmT : (P, X.env.qual ++ "<lambda>") ∈ T) (hu : ∀ p ∈ T, p.1 = P → p.2 = X.env.qual ++ "<lambda>") (hr : Room (k + 2) X.A)
    (L : LamX.LamS X.env.scope scope) (hdef : defaultsOf params X.env = ([], []))
    (hbind : ∀ (q : Str) (cl : List (Str × Addr)) (pm cv ctv : Value), bindArgs (PySem.W.kla_fn "<lambda>" q params body scope cl pm cv ctv) ⟨[], []⟩ = pure [])
    (hbody : ∀ (A : Around) (outer : List Env) (s : Shared) (H : Hp) (E : XK) (f c' : Addr), Room k (A.deeper (LamX.lamEnv X scope s.heap.objs.size f c')) → PE (LamX.lamCx X A outer s H E scope f c') body (t E))
    (hdb : (x == ("__debug__" : Str)) = false := by decide) (hd : (a == ("__debug__" : Str)) = false := by decide) (hcd : (a == ("__classdict__" : Str)) = false := by decide) :
    PE X (.Call (.Name x p) [.Lambda params body scope lpos] [] pos) (LamX.tLam T TT t) := by
  obtain ⟨fd, F⟩ := F
  have B := F.binds hb
  have kp := F.kp
  obtain ⟨oc, od, kV, doc, pm, an, cdv, ct, osl, rfl, lk, hcd'⟩ := F.ex
  exact LamX.pe_lamcall hg hm kp lk hcd' B Sg hNg hva (hG cdv) TB hcode hmT hu hr L hdef hbind hbody hdb hd hcd
end
end DD
set_option Elab.async false
set_option linter.all false
set_option maxRecDepth 100000
set_option maxHeartbeats 2000000
namespace DL
open PySem PySem.Spec PyProof.Rows L2 DD
def heardL (cN cI : Addr) : List ((Value → Option Bool) × (Xc → En → SR)) :=
  [(cmCs cN [cI], fun x => (sSet 1 (dIfE (tnd (dTest (dXi cN true x)) (tnot (dTest (dXi cN false x)))) (dTup (aCons (dC (.str "none")) (aCons (dXf cN "at" x) aNil))) (dC .non)))),
   (cmCs cI [], fun x => (sSet 1 (dBin opAdd (dC (.str "!")) (dXf cI "word" x))))]
theorem heard_pick {cN cI : Addr} (hne : cN ≠ cI) (x : Xc) (dd : D) (h : hear cN cI x = some dd) : ∃ ρ, pickC 2 x [.none, .none, .none] (heardL cN cI) = .nx ρ ∧ ρ[1]? = some (.val dd) := by
  have hz : sizeLine = 16777216 := sizeLine_eq
  obtain ⟨cls, ks, ds⟩ := x
  unfold hear at h
  by_cases c1 : cls = .ref cN
  · subst c1
    rw [if_pos rfl] at h
    dsimp only at h
    split at h
    · rename_i k d
      split at h
      · rename_i hk
        cases h
        subst hk
        refine ⟨[.none, .val (.tup [.str "none", d]), .none], ?_, rfl⟩
        have z2 : (2 : Nat) ≤ sizeLine := by rw [hz]; omega
        have e : sSet 1 (dIfE (tnd (dTest (dXi cN true ⟨.ref cN, ["at"], [d]⟩)) (tnot (dTest (dXi cN false ⟨.ref cN, ["at"], [d]⟩)))) (dTup (aCons (dC (.str "none")) (aCons (dXf cN "at" ⟨.ref cN, ["at"], [d]⟩) aNil))) (dC .non)) [.none, .none, .none] = .nx [.none, .val (.tup [.str "none", d]), .none] := by
          simp [sSet, dIfE, tnd, tnot, dTest, dXi, dXf, dTup, aCons, aNil, dC, Res.bind, Res.sb, lift, asB, deref, toVals, toVal, X.settle, getF, z2, putX, Slot.free]
        simp [pickC, heardL, cmCs, Slot.free, e]
      · cases h
    · cases h
  · rw [if_neg c1] at h
    by_cases c2 : cls = .ref cI
    · subst c2
      rw [if_pos rfl] at h
      dsimp only at h
      split at h
      · rename_i k z
        split at h
        · rename_i hk
          cases h
          obtain ⟨hk, hl⟩ := hk
          subst hk
          refine ⟨[.none, .val (.str ("!" ++ z)), .none], ?_, rfl⟩
          have l1 : (Str.ofString "!").length = 1 := by decide +kernel
          have e : sSet 1 (dBin opAdd (dC (.str "!")) (dXf cI "word" ⟨.ref cI, ["word"], [.str z]⟩)) [.none, .none, .none] = .nx [.none, .val (.str ("!" ++ z)), .none] := by
            simp [sSet, dBin, dXf, dC, Res.bind, Res.sb, lift, ap2, deref, X.settle, getF, putX, l1, hl, Slot.free]
          have n1 : ¬ (Value.ref cI = Value.ref cN) := c1
          simp [pickC, heardL, cmCs, n1, Slot.free, e]
        · cases h
      · cases h
    · rw [if_neg c2] at h
      cases h
end DL
set_option Elab.async false
set_option linter.all false
set_option maxRecDepth 100000
set_option maxHeartbeats 4000000
namespace DD
open PySem PySem.Spec PyProof.Rows L2 ClX
def top (i : Nat) : Stmt := PySem.Challenge.pw_dimdays_k05_days_with_one_meeting_more_o.main.body.getD i (.Pass ⟨0, 0, 0, 0⟩)
abbrev s_Day___eq__ : Stmt := inClass (top 21) 8
theorem sc_Day___eq__ : FnScope ["self", "other"] ["self", "other"] (defScope s_Day___eq__) := ⟨rfl, rfl, rfl, by decide +kernel, rfl, by decide +kernel, by decide +kernel⟩
abbrev s_Day___getitem__ : Stmt := inClass (top 21) 6
theorem sc_Day___getitem__ : FnScope ["self", "at"] ["self", "at"] (defScope s_Day___getitem__) := ⟨rfl, rfl, rfl, by decide +kernel, rfl, by decide +kernel, by decide +kernel⟩
abbrev s_is_integer : Stmt := top 7
theorem sc_is_integer : FnScope ["value"] ["value"] (defScope s_is_integer) := ⟨rfl, rfl, rfl, by decide +kernel, rfl, by decide +kernel, by decide +kernel⟩
abbrev s_is_number : Stmt := top 8
theorem sc_is_number : FnScope ["value"] ["value"] (defScope s_is_number) := ⟨rfl, rfl, rfl, by decide +kernel, rfl, by decide +kernel, by decide +kernel⟩
abbrev s__is_meeting : Stmt := top 15
theorem sc__is_meeting : FnScope ["value", "begin", "end", "is_private"] ["value"] (defScope s__is_meeting) := ⟨rfl, rfl, rfl, by decide +kernel, rfl, by decide +kernel, by decide +kernel⟩
abbrev s_is_sequence : Stmt := top 10
theorem sc_is_sequence : FnScope ["value"] ["value"] (defScope s_is_sequence) := ⟨rfl, rfl, rfl, by decide +kernel, rfl, by decide +kernel, by decide +kernel⟩
abbrev s__are_meetings : Stmt := top 16
theorem sc__are_meetings : FnScope ["value", "length", "ahead", "meeting"] ["value", "length"] (defScope s__are_meetings) := ⟨rfl, rfl, rfl, by decide +kernel, rfl, by decide +kernel, by decide +kernel⟩
abbrev s_is_positive : Stmt := top 9
theorem sc_is_positive : FnScope ["value"] ["value"] (defScope s_is_positive) := ⟨rfl, rfl, rfl, by decide +kernel, rfl, by decide +kernel, by decide +kernel⟩
abbrev s_Day___init__ : Stmt := inClass (top 21) 0
theorem sc_Day___init__ : FnScope ["self", "length", "meetings"] ["self", "length", "meetings"] (defScope s_Day___init__) := ⟨rfl, rfl, rfl, by decide +kernel, rfl, by decide +kernel, by decide +kernel⟩
abbrev s__meeting_text : Stmt := top 17
theorem sc__meeting_text : FnScope ["meeting", "begin", "end", "is_private"] ["meeting"] (defScope s__meeting_text) := ⟨rfl, rfl, rfl, by decide +kernel, rfl, by decide +kernel, by decide +kernel⟩
abbrev s__meetings_text : Stmt := top 18
theorem sc__meetings_text : FnScope ["meetings", "meeting"] ["meetings"] (defScope s__meetings_text) := ⟨rfl, rfl, rfl, by decide +kernel, rfl, by decide +kernel, by decide +kernel⟩
abbrev s_Day___str__ : Stmt := inClass (top 21) 9
theorem sc_Day___str__ : FnScope ["self"] ["self"] (defScope s_Day___str__) := ⟨rfl, rfl, rfl, by decide +kernel, rfl, by decide +kernel, by decide +kernel⟩
abbrev s_Day_having : Stmt := inClass (top 21) 4
theorem sc_Day_having : FnScope ["self", "meeting", "place", "one"] ["self", "meeting"] (defScope s_Day_having) := ⟨rfl, rfl, rfl, by decide +kernel, rfl, by decide +kernel, by decide +kernel⟩
abbrev s_Day_without : Stmt := inClass (top 21) 3
theorem sc_Day_without : FnScope ["self", "at"] ["self", "at"] (defScope s_Day_without) := ⟨rfl, rfl, rfl, by decide +kernel, rfl, by decide +kernel, by decide +kernel⟩
abbrev s__law_choose : Stmt := top 24
theorem sc__law_choose : FnScope ["_law_box", "_law_many", "_law_raw", "_law_digit"] ["_law_box", "_law_many"] (defScope s__law_choose) := ⟨rfl, rfl, rfl, by decide +kernel, rfl, by decide +kernel, by decide +kernel⟩
abbrev s__law_one_of : Stmt := top 25
theorem sc__law_one_of : FnScope ["_law_box", "_law_some"] ["_law_box", "_law_some"] (defScope s__law_one_of) := ⟨rfl, rfl, rfl, by decide +kernel, rfl, by decide +kernel, by decide +kernel⟩
abbrev s__law_day : Stmt := top 26
theorem sc__law_day : FnScope ["_law_box", "_law_top", "_law_is_secret", "_law_turn", "_law_size", "_law_found", "_law_last", "_law_begin", "_law_end"] ["_law_box", "_law_top", "_law_is_secret"] (defScope s__law_day) := ⟨rfl, rfl, rfl, by decide +kernel, rfl, by decide +kernel, by decide +kernel⟩
abbrev s__law_day_text : Stmt := top 27
theorem sc__law_day_text : FnScope ["_law_day_here", "_law_texts", "_law_begin", "_law_end", "_law_secret"] ["_law_day_here"] (defScope s__law_day_text) := ⟨rfl, rfl, rfl, by decide +kernel, rfl, by decide +kernel, by decide +kernel⟩
abbrev s__law_heard : Stmt := top 28
theorem sc__law_heard : FnScope ["_law_look", "_law_heard_here", "e"] ["_law_look"] (defScope s__law_heard) := ⟨rfl, rfl, rfl, by decide +kernel, rfl, by decide +kernel, by decide +kernel⟩
abbrev s__law_seed : Stmt := top 23
theorem sc__law_seed : FnScope ["_law_script", "_law_k", "_law_cell"] ["_law_script", "_law_k"] (defScope s__law_seed) := ⟨rfl, rfl, rfl, by decide +kernel, rfl, by decide +kernel, by decide +kernel⟩
abbrev s_law : Stmt := top 29
theorem sc_law : FnScope ["_law_script", "_law_k", "_law_box", "_law_turn", "_law_day_here", "_law_at", "_law_begin", "_law_fresh", "_law_over", "_law_due", "_law_value", "_law_size", "_law_meetings", "_law_less", "_law_ahead", "_law_one"] ["_law_script"] (defScope s_law) := ⟨rfl, rfl, rfl, by decide +kernel, rfl, by decide +kernel, by decide +kernel⟩
abbrev s_InvalidDay___init__ : Stmt := inClass (top 3) 0
theorem sc_InvalidDay___init__ : FnScope ["self", "word"] ["self", "word"] (defScope s_InvalidDay___init__) := ⟨rfl, rfl, rfl, by decide +kernel, rfl, by decide +kernel, by decide +kernel⟩
abbrev s_NoMeeting___init__ : Stmt := inClass (top 5) 0
theorem sc_NoMeeting___init__ : FnScope ["self", "at"] ["self", "at"] (defScope s_NoMeeting___init__) := ⟨rfl, rfl, rfl, by decide +kernel, rfl, by decide +kernel, by decide +kernel⟩
structure Ad where
  f_is_integer : Addr
  f_is_number : Addr
  f__is_meeting : Addr
  f_is_sequence : Addr
  f__are_meetings : Addr
  f_is_positive : Addr
  f__meeting_text : Addr
  f__meetings_text : Addr
  f__law_choose : Addr
  f__law_one_of : Addr
  f__law_day : Addr
  f__law_day_text : Addr
  f__law_heard : Addr
  f__law_seed : Addr
  f_law : Addr
  f_Day___eq__ : Addr
  f_Day___getitem__ : Addr
  f_Day___init__ : Addr
  f_Day___str__ : Addr
  f_Day_having : Addr
  f_Day_without : Addr
  C_Day : Addr
  C_DimError : Addr
  C_InvalidDay : Addr
  C_NoMeeting : Addr
  f_InvalidDay___init__ : Addr
  f_NoMeeting___init__ : Addr
  z_Day : Addr
def dv_Day (d : Ad) : List V := [.ref d.z_Day]
structure Txt (K : PySem.W.Frag) (mg : Str → Option Value) (d : Ad) : Prop where
  m_is_integer : mg "is_integer" = some (.ref d.f_is_integer)
  k_is_integer : PySem.W.keepIn K (.ref d.f_is_integer) = true
  F_is_integer : ∃ fd, Fun K "is_integer" "is_integer" s_is_integer d.f_is_integer fd
  m_is_number : mg "is_number" = some (.ref d.f_is_number)
  k_is_number : PySem.W.keepIn K (.ref d.f_is_number) = true
  F_is_number : ∃ fd, Fun K "is_number" "is_number" s_is_number d.f_is_number fd
  m__is_meeting : mg "_is_meeting" = some (.ref d.f__is_meeting)
  k__is_meeting : PySem.W.keepIn K (.ref d.f__is_meeting) = true
  F__is_meeting : ∃ fd, Fun K "_is_meeting" "_is_meeting" s__is_meeting d.f__is_meeting fd
  m_is_sequence : mg "is_sequence" = some (.ref d.f_is_sequence)
  k_is_sequence : PySem.W.keepIn K (.ref d.f_is_sequence) = true
  F_is_sequence : ∃ fd, Fun K "is_sequence" "is_sequence" s_is_sequence d.f_is_sequence fd
  m__are_meetings : mg "_are_meetings" = some (.ref d.f__are_meetings)
  k__are_meetings : PySem.W.keepIn K (.ref d.f__are_meetings) = true
  F__are_meetings : ∃ fd, Fun K "_are_meetings" "_are_meetings" s__are_meetings d.f__are_meetings fd
  m_is_positive : mg "is_positive" = some (.ref d.f_is_positive)
  k_is_positive : PySem.W.keepIn K (.ref d.f_is_positive) = true
  F_is_positive : ∃ fd, Fun K "is_positive" "is_positive" s_is_positive d.f_is_positive fd
  m__meeting_text : mg "_meeting_text" = some (.ref d.f__meeting_text)
  k__meeting_text : PySem.W.keepIn K (.ref d.f__meeting_text) = true
  F__meeting_text : ∃ fd, Fun K "_meeting_text" "_meeting_text" s__meeting_text d.f__meeting_text fd
  m__meetings_text : mg "_meetings_text" = some (.ref d.f__meetings_text)
  k__meetings_text : PySem.W.keepIn K (.ref d.f__meetings_text) = true
  F__meetings_text : ∃ fd, Fun K "_meetings_text" "_meetings_text" s__meetings_text d.f__meetings_text fd
  m__law_choose : mg "_law_choose" = some (.ref d.f__law_choose)
  k__law_choose : PySem.W.keepIn K (.ref d.f__law_choose) = true
  F__law_choose : ∃ fd, Fun K "_law_choose" "_law_choose" s__law_choose d.f__law_choose fd
  m__law_one_of : mg "_law_one_of" = some (.ref d.f__law_one_of)
  k__law_one_of : PySem.W.keepIn K (.ref d.f__law_one_of) = true
  F__law_one_of : ∃ fd, Fun K "_law_one_of" "_law_one_of" s__law_one_of d.f__law_one_of fd
  m__law_day : mg "_law_day" = some (.ref d.f__law_day)
  k__law_day : PySem.W.keepIn K (.ref d.f__law_day) = true
  F__law_day : ∃ fd, Fun K "_law_day" "_law_day" s__law_day d.f__law_day fd
  m__law_day_text : mg "_law_day_text" = some (.ref d.f__law_day_text)
  k__law_day_text : PySem.W.keepIn K (.ref d.f__law_day_text) = true
  F__law_day_text : ∃ fd, Fun K "_law_day_text" "_law_day_text" s__law_day_text d.f__law_day_text fd
  m__law_heard : mg "_law_heard" = some (.ref d.f__law_heard)
  k__law_heard : PySem.W.keepIn K (.ref d.f__law_heard) = true
  F__law_heard : ∃ fd, Fun K "_law_heard" "_law_heard" s__law_heard d.f__law_heard fd
  m__law_seed : mg "_law_seed" = some (.ref d.f__law_seed)
  k__law_seed : PySem.W.keepIn K (.ref d.f__law_seed) = true
  F__law_seed : ∃ fd, Fun K "_law_seed" "_law_seed" s__law_seed d.f__law_seed fd
  m_law : mg "law" = some (.ref d.f_law)
  k_law : PySem.W.keepIn K (.ref d.f_law) = true
  F_law : ∃ fd, Fun K "law" "law" s_law d.f_law fd
  F_Day___eq__ : ∃ fd, Fun K "__eq__" "Day.__eq__" s_Day___eq__ d.f_Day___eq__ fd
  e_Day : PySem.W.findIn K (.ref d.C_Day) "__eq__" = some (some (.ref d.f_Day___eq__))
  ef_Day : PySem.W.isFn K (.ref d.f_Day___eq__) = true
  F_Day___getitem__ : ∃ fd, Fun K "__getitem__" "Day.__getitem__" s_Day___getitem__ d.f_Day___getitem__ fd
  g_Day : PySem.W.findIn K (.ref d.C_Day) "__getitem__" = some (some (.ref d.f_Day___getitem__))
  gf_Day : PySem.W.isFn K (.ref d.f_Day___getitem__) = true
  gn_Day : PySem.W.fnIn K d.f_Day___getitem__ = true
  F_Day___init__ : ∃ fd, FunD K "__init__" "Day.__init__" (defArgs s_Day___init__) (defBody s_Day___init__) (defScope s_Day___init__) (dv_Day d) [] d.f_Day___init__ fd
  F_Day___str__ : ∃ fd, Fun K "__str__" "Day.__str__" s_Day___str__ d.f_Day___str__ fd
  s_Day : PySem.W.findIn K (.ref d.C_Day) "__str__" = some (some (.ref d.f_Day___str__))
  sf_Day : PySem.W.isFn K (.ref d.f_Day___str__) = true
  F_Day_having : ∃ fd, Fun K "having" "Day.having" s_Day_having d.f_Day_having fd
  me_Day_having : Meth K d.C_Day "having" d.f_Day_having
  F_Day_without : ∃ fd, Fun K "without" "Day.without" s_Day_without d.f_Day_without fd
  me_Day_without : Meth K d.C_Day "without" d.f_Day_without
  m_Day : mg "Day" = some (.ref d.C_Day)
  cl_Day : Cls K d.C_Day
  mk_Day : Mk K d.C_Day d.f_Day___init__
  na_Day_length : NoAttr K d.C_Day "length"
  na_Day_meetings : NoAttr K d.C_Day "meetings"
  na_Day_word : NoAttr K d.C_Day "word"
  n_Day : PySem.W.findIn K (.ref d.C_Day) "__ne__" = some (some (.builtin "object.__ne__"))
  ks_Day : PySem.W.kitOne K (.type "str") (.ref d.C_Day) = some false
  su_Day : PySem.W.subIn K (.type "str") (.ref d.C_Day) = some false
  sb_Day_int : PySem.W.subIn K (.ref d.C_Day) (.type "int") = some false
  sb_Day_bool : PySem.W.subIn K (.ref d.C_Day) (.type "bool") = some false
  sb_Day_str : PySem.W.subIn K (.ref d.C_Day) (.type "str") = some false
  sb_Day_tuple : PySem.W.subIn K (.ref d.C_Day) (.type "tuple") = some false
  sb_Day_list : PySem.W.subIn K (.ref d.C_Day) (.type "list") = some false
  o_Day : PySem.W.mroIn K d.C_Day (.type "object") = some true
  ic_Day : PySem.W.findIn K (.ref d.C_Day) "__class__" = some (some (.builtin "object.__class__"))
  oc1 : PySem.W.specialIn K (.builtin "object.__class__") "__get__" = some (some (.builtin "getset_descriptor.__get__"))
  oc2 : PySem.W.takesIn K (.builtin "object.__class__") = some true
  ox_InvalidDay : OexC K d.C_InvalidDay
  no_InvalidDay : PySem.W.findIn K (.ref d.C_InvalidDay) "word" = some none
  iC_InvalidDay : PySem.W.findIn K (.ref d.C_InvalidDay) "__init__" = some (some (.ref d.f_InvalidDay___init__))
  tI_InvalidDay : PySem.W.typeIn K (.ref d.f_InvalidDay___init__) = some (.type "function")
  F_InvalidDay___init__ : ∃ fd, Fun K "__init__" "InvalidDay.__init__" s_InvalidDay___init__ d.f_InvalidDay___init__ fd
  xf_InvalidDay : XfC K d.C_InvalidDay
  xc_InvalidDay : ExcC K d.C_InvalidDay
  te_InvalidDay : PySem.W.exmOne K (.ref d.C_InvalidDay) (.ref d.C_InvalidDay) = some true
  ox_NoMeeting : OexI K d.C_NoMeeting
  no_NoMeeting : PySem.W.findIn K (.ref d.C_NoMeeting) "at" = some none
  iC_NoMeeting : PySem.W.findIn K (.ref d.C_NoMeeting) "__init__" = some (some (.ref d.f_NoMeeting___init__))
  tI_NoMeeting : PySem.W.typeIn K (.ref d.f_NoMeeting___init__) = some (.type "function")
  F_NoMeeting___init__ : ∃ fd, Fun K "__init__" "NoMeeting.__init__" s_NoMeeting___init__ d.f_NoMeeting___init__ fd
  xf_NoMeeting : XfC K d.C_NoMeeting
  xc_NoMeeting : ExcC K d.C_NoMeeting
  te_NoMeeting : PySem.W.exmOne K (.ref d.C_NoMeeting) (.ref d.C_NoMeeting) = some true
  m_DimError : mg "DimError" = some (.ref d.C_DimError)
  m_InvalidDay : mg "InvalidDay" = some (.ref d.C_InvalidDay)
  m_NoMeeting : mg "NoMeeting" = some (.ref d.C_NoMeeting)
  kx_NoMeeting_DimError : PySem.W.kitOne K (.ref d.C_NoMeeting) (.ref d.C_DimError) = some false
  kx_NoMeeting_IndexError : PySem.W.kitOne K (.ref d.C_NoMeeting) (.type "IndexError") = some true
  tn_InvalidDay_NoMeeting : PySem.W.exmOne K (.ref d.C_InvalidDay) (.ref d.C_NoMeeting) = some false
  w_zDay : ∀ H, SqT K H d.z_Day []
  b_IndexError : mg "IndexError" = none
  b_abs : mg "abs" = none
  b_bool : mg "bool" = none
  b_int : mg "int" = none
  b_isinstance : mg "isinstance" = none
  b_len : mg "len" = none
  b_list : mg "list" = none
  b_max : mg "max" = none
  b_min : mg "min" = none
  b_range : mg "range" = none
  b_str : mg "str" = none
  b_tuple : mg "tuple" = none
section
variable {P : Program} {w : World} {K : PySem.W.Frag} {mg : Str → Option Value} {base : Heap}
theorem vals_abs : ∀ {us : List Value} {vs : List V}, us.mapM absV = some vs → Vals vs us
  | [], vs, h => by
    simp at h
    subst h
    exact .nil
  | u :: us, vs, h => by
    rw [List.mapM_cons] at h
    cases e : absV u with
    | none => rw [e] at h; simp at h
    | some v =>
      cases e2 : us.mapM absV with
      | none => rw [e, e2] at h; simp at h
      | some ws =>
        rw [e, e2] at h
        simp at h
        subst h
        refine .cons ?_ (vals_abs e2)
        cases u <;> simp [absV] at e <;> subst e <;> first | rfl | exact ⟨_, rfl⟩
theorem sqt_mk {H : Hp} {c : Addr} {td : Option Addr} {it : Array Value} {n : Nat} {ts : Array (Option Value)} {vs : List V} (l : K.lookup c = some ⟨.type "tuple", td, .seq it n, ts⟩) (lv : it.toList.mapM absV = some vs) (hz : vs.length ≤ sizeLine) : SqT K H c vs := by
  have r := vals_abs lv
  refine .inr ⟨_, it, n, l, rfl, rfl, ?_, r⟩
  rw [← Array.length_toList, ← r.length]
  exact hz
theorem fund_mk {x qual : Str} {st : Stmt} {f T : Addr} {oc tc : Value} {od an td : Option Addr} {osl ts : Array (Option Value)} {it : Array Value} {tn : Nat} {kV doc pm cdv ct : Value} {dvs : List V}
    (l : K.lookup f = some ⟨oc, od, .func (PySem.W.fnOf x qual (defArgs st) (defBody st) (defScope st) (.ref T) kV doc pm an cdv ct), osl⟩) (lt : K.lookup T = some ⟨tc, td, .seq it tn, ts⟩) (lv : it.toList.mapM absV = some dvs) (hn : dvs ≠ [])
    (c : PySem.W.codeIn K cdv qual = true) (k : PySem.W.keepIn K (.ref f) = true) : FunD K x qual (defArgs st) (defBody st) (defScope st) dvs [] f (PySem.W.fnOf x qual (defArgs st) (defBody st) (defScope st) (.ref T) kV doc pm an cdv ct) :=
  ⟨⟨oc, od, .ref T, kV, doc, pm, an, cdv, ct, osl, rfl, l, c, .inr ⟨hn, T, _, it.toList, tn, rfl, lt, by simp, vals_abs lv⟩, .inl rfl⟩, k⟩
end
abbrev cl (d : Ad) : DL.Cl := ⟨d.C_Day, d.C_Day, d.C_Day, d.C_DimError, d.C_InvalidDay, 0, 0, 0, 0, 0, 0, 0, d.C_NoMeeting, d.C_Day, d.C_Day, d.C_Day, d.C_Day, d.C_Day⟩
section
variable {K : PySem.W.Frag} {mg : Str → Option Value} {d : Ad}
open DL
theorem fa_length (T : Txt K mg d) : ∀ C ∈ [(cl d).Day, (cl d).Frame], Cls K C ∧ NoAttr K C "length" := by
  intro C h
  simp only [List.mem_cons, List.not_mem_nil, or_false] at h
  rcases h with rfl | rfl
  · exact ⟨T.cl_Day, T.na_Day_length⟩
  · exact ⟨T.cl_Day, T.na_Day_length⟩
theorem fa_meetings (T : Txt K mg d) : ∀ C ∈ [(cl d).Day], Cls K C ∧ NoAttr K C "meetings" := by
  intro C h
  simp only [List.mem_cons, List.not_mem_nil, or_false] at h
  rcases h with rfl
  · exact ⟨T.cl_Day, T.na_Day_meetings⟩
theorem fs_Day_length (T : Txt K mg d) : ∀ C ∈ [(cl d).Day], Cls K C ∧ NoAttr K C "length" := by
  intro C h
  simp only [List.mem_cons, List.not_mem_nil, or_false] at h
  subst h
  exact ⟨T.cl_Day, T.na_Day_length⟩
theorem fs_Day_meetings (T : Txt K mg d) : ∀ C ∈ [(cl d).Day], Cls K C ∧ NoAttr K C "meetings" := by
  intro C h
  simp only [List.mem_cons, List.not_mem_nil, or_false] at h
  subst h
  exact ⟨T.cl_Day, T.na_Day_meetings⟩
theorem tyc (T : Txt K mg d) : ∀ C ∈ [(cl d).Day, (cl d).Rule, (cl d).Frame], TyC K C := by
  intro C h
  simp only [List.mem_cons, List.not_mem_nil, or_false] at h
  rcases h with rfl | rfl | rfl
  · exact ⟨T.cl_Day, T.ic_Day, T.oc1, T.oc2, T.o_Day⟩
  · exact ⟨T.cl_Day, T.ic_Day, T.oc1, T.oc2, T.o_Day⟩
  · exact ⟨T.cl_Day, T.ic_Day, T.oc1, T.oc2, T.o_Day⟩
theorem kit_ok (T : Txt K mg d) : KitOk K (kitD [(cl d).Day, (cl d).Rule, (cl d).Frame]) := kitD_ok (fun C h => by
  simp only [List.mem_cons, List.not_mem_nil, or_false] at h
  rcases h with rfl | rfl | rfl
  · exact T.ks_Day
  · exact T.ks_Day
  · exact T.ks_Day) (fun C h b hb => by
  simp only [List.mem_cons, List.not_mem_nil, or_false] at h
  simp only [blts, List.mem_cons, List.not_mem_nil, or_false] at hb
  rcases h with rfl | rfl | rfl
  · rcases hb with rfl | rfl | rfl | rfl | rfl
    · exact T.sb_Day_int
    · exact T.sb_Day_bool
    · exact T.sb_Day_str
    · exact T.sb_Day_tuple
    · exact T.sb_Day_list
  · rcases hb with rfl | rfl | rfl | rfl | rfl
    · exact T.sb_Day_int
    · exact T.sb_Day_bool
    · exact T.sb_Day_str
    · exact T.sb_Day_tuple
    · exact T.sb_Day_list
  · rcases hb with rfl | rfl | rfl | rfl | rfl
    · exact T.sb_Day_int
    · exact T.sb_Day_bool
    · exact T.sb_Day_str
    · exact T.sb_Day_tuple
    · exact T.sb_Day_list)
end
end DD
set_option Elab.async false
set_option linter.all false
set_option maxRecDepth 100000
set_option maxHeartbeats 4000000
namespace DL
open PySem PySem.Spec PyProof.Rows L2 DD
noncomputable def D_is_integer (c : Cl) : En → SR :=
  (sRet (dAnd (dIsi (kitD [c.Day, c.Rule, c.Frame]) [c.Day, c.Rule, c.Frame] [(.type "int")] (dVar 0)) (dNot (dIsi (kitD [c.Day, c.Rule, c.Frame]) [c.Day, c.Rule, c.Frame] [(.type "bool")] (dVar 0)))))
noncomputable def D_is_number (c : Cl) : En → SR :=
  (sRet (dAnd (dCall 1 1 (D_is_integer c) (aCons (dVar 0) aNil)) (dBin opGe (dVar 0) (dC (.int 0)))))
noncomputable def D_is_positive (c : Cl) : En → SR :=
  (sRet (dAnd (dCall 1 1 (D_is_integer c) (aCons (dVar 0) aNil)) (dBin opGe (dVar 0) (dC (.int 1)))))
noncomputable def D_is_sequence (c : Cl) : En → SR :=
  (sRet (dIsi (kitD [c.Day, c.Rule, c.Frame]) [c.Day, c.Rule, c.Frame] [(.type "list"), (.type "tuple")] (dVar 0)))
noncomputable def D__is_meeting (c : Cl) : En → SR :=
  (sSeq (sIf (tor (tnot (dTest (dIsi (kitD [c.Day, c.Rule, c.Frame]) [c.Day, c.Rule, c.Frame] [(.type "tuple")] (dVar 0)))) (dTest (dBin opNe (dCB fLen (aCons (dVar 0) aNil)) (dC (.int 3))))) (sRet (dC (.bl false))) sNext) (sSeq (sTgt (uTup 3 (usCons (uName 1) (usCons (uName 2) (usCons (uName 3) usNil)))) (dVar 0)) (sRet (dAnd (dCall 1 1 (D_is_number c) (aCons (dVar 1) aNil)) (dAnd (dCall 1 1 (D_is_number c) (aCons (dVar 2) aNil)) (dAnd (dIsi (kitD [c.Day, c.Rule, c.Frame]) [c.Day, c.Rule, c.Frame] [(.type "bool")] (dVar 3)) (dBin opLt (dVar 1) (dVar 2))))))))
noncomputable def D__are_meetings_b1 (c : Cl) : En → SR :=
  (sSeq (sIf (tor (tnot (dTest (dCall 1 4 (D__is_meeting c) (aCons (dVar 3) aNil)))) (tor (dTest (dBin opLt (dBin opIx (dVar 3) (dC (.int 0))) (dVar 2))) (dTest (dBin opGt (dBin opIx (dVar 3) (dC (.int 1))) (dVar 1))))) (sRet (dC (.bl false))) sNext) (sSet 2 (dBin opIx (dVar 3) (dC (.int 1)))))
noncomputable def D__are_meetings (c : Cl) : En → SR :=
  (sSeq (sIf (tnot (dTest (dCall 1 1 (D_is_sequence c) (aCons (dVar 0) aNil)))) (sRet (dC (.bl false))) sNext) (sSeq (sSet 2 (dC (.int 0))) (sSeq (sForS (dVar 0) (uName 3) (D__are_meetings_b1 c)) (sRet (dC (.bl true))))))
noncomputable def D__meeting_text (c : Cl) : En → SR :=
  (sSeq (sTgt (uTup 3 (usCons (uName 1) (usCons (uName 2) (usCons (uName 3) usNil)))) (dVar 0)) (sSeq (sIf (dTest (dVar 3)) (sRet (dJoin (jCons (dFmt (dVar 1)) (jCons (dC (.str "-")) (jCons (dFmt (dVar 2)) (jCons (dC (.str " private")) jNil)))))) sNext) (sRet (dJoin (jCons (dFmt (dVar 1)) (jCons (dC (.str "-")) (jCons (dFmt (dVar 2)) jNil)))))))
noncomputable def D__meetings_text (c : Cl) : En → SR :=
  (sSeq (sIf (dTest (dBin opEq (dCB fLen (aCons (dVar 0) aNil)) (dC (.int 0)))) (sRet (dC (.str "-"))) sNext) (sRet (dMt fJoin (dC (.str ", ")) (aCons (dLcS (dVar 0) [1] (uName 1) tdYes (dCall 1 4 (D__meeting_text c) (aCons (dVar 1) aNil))) aNil))))
noncomputable def D_Day___init__ (c : Cl) : En → SR :=
  (sSeq (sIf (tnot (dTest (dCall 1 1 (D_is_positive c) (aCons (dVar 1) aNil)))) sDead sNext) (sSeq (sIf (tnot (dTest (dCall 2 4 (D__are_meetings c) (aCons (dVar 2) (aCons (dVar 1) aNil))))) sDead sNext) (sSeq (sFldD [c.Day] 0 "length" (dVar 1)) (sFldD [c.Day] 0 "meetings" (dCB fTuple (aCons (dVar 2) aNil))))))
noncomputable def D_Day_without (c : Cl) : En → SR :=
  (sSeq (sIf (tor (dTest (dBin opLt (dVar 1) (dC (.int 0)))) (dTest (dBin opGe (dVar 1) (dCB fLen (aCons (dFld [c.Day] "meetings" (dVar 0)) aNil))))) sDead sNext) (sRet (dMake c.Day 3 3 (fun ρ => D_Day___init__ c (fillD 3 [] ρ)) (aCons (dFld [c.Day, c.Frame] "length" (dVar 0)) (aCons (dBin opAdd (dSl (dFld [c.Day] "meetings" (dVar 0)) oNone (oSome (dVar 1))) (dSl (dFld [c.Day] "meetings" (dVar 0)) (oSome (dBin opAdd (dVar 1) (dC (.int 1)))) oNone)) aNil)))))
noncomputable def D_Day___getitem__ (c : Cl) : En → SR :=
  (sSeq (sIf (tor (dTest (dBin opLt (dVar 1) (dC (.int 0)))) (dTest (dBin opGe (dVar 1) (dCB fLen (aCons (dFld [c.Day] "meetings" (dVar 0)) aNil))))) sDead sNext) (sRet (dBin opIx (dFld [c.Day] "meetings" (dVar 0)) (dVar 1))))
noncomputable def D_Day___eq__ (c : Cl) : En → SR :=
  (sRet (dAnd (dIsi (kitD [c.Day, c.Rule, c.Frame]) [c.Day, c.Rule, c.Frame] [(.ref c.Day)] (dVar 1)) (dAnd (dBin opEq (dFld [c.Day, c.Frame] "length" (dVar 0)) (dFld [c.Day, c.Frame] "length" (dVar 1))) (dBin opEq (dFld [c.Day] "meetings" (dVar 0)) (dFld [c.Day] "meetings" (dVar 1))))))
noncomputable def D_Day___str__ (c : Cl) : En → SR :=
  (sRet (dJoin (jCons (dFmt (dFld [c.Day, c.Frame] "length" (dVar 0))) (jCons (dC (.str ": ")) (jCons (dFmt (dCall 1 2 (D__meetings_text c) (aCons (dFld [c.Day] "meetings" (dVar 0)) aNil))) jNil)))))
noncomputable def D__law_seed (c : Cl) : En → SR :=
  (sSeq (sSet 2 (dBin opAdd (dBin opMul (dC (.int 8831)) (dVar 1)) (dC (.int 101)))) (sSeq (sIf (dTest (dBin opLt (dVar 1) (dCB fLen (aCons (dVar 0) aNil)))) (sSet 2 (dCB fAbs (aCons (dBin opIx (dVar 0) (dVar 1)) aNil))) (sIf (dTest (dBin opGt (dCB fLen (aCons (dVar 0) aNil)) (dC (.int 0)))) (sSet 2 (dBin opAdd (dVar 2) (dBin opMul (dBin opMod (dCB fInt (aCons (dCB fAbs (aCons (dBin opIx (dVar 0) (dBin opMod (dCB fInt (aCons (dVar 1) aNil)) (dCB fLen (aCons (dVar 0) aNil)))) aNil)) aNil)) (dC (.int 2147483629))) (dC (.int 40093))))) sNext)) (sRet (dLst (aCons (dIfE (dTest (dBin opGe (dVar 2) (dBin opPow (dC (.int 10)) (dC (.int 18))))) (dVar 2) (dC (.int 0))) (aCons (dBin opAdd (dBin opMod (dCB fInt (aCons (dBin opAdd (dBin opMul (dBin opMod (dCB fInt (aCons (dVar 2) aNil)) (dC (.int 2147483629))) (dC (.int 48271))) (dBin opMul (dC (.int 37021)) (dVar 1))) aNil)) (dC (.int 2147483629))) (dC (.int 1))) aNil))))))
noncomputable def D__law_choose (c : Cl) : En → SR :=
  (sSeq (sIf (dTest (dBin opGt (dBin opIx (dVar 0) (dC (.int 0))) (dC (.int 0)))) (sSeq (sSet 3 (dBin opMod (dCB fInt (aCons (dBin opIx (dVar 0) (dC (.int 0))) aNil)) (dVar 1))) (sSeq (sPut 0 (dBin opFdiv (dBin opIx (dVar 0) (dC (.int 0))) (dVar 1)) (dC (.int 0))) (sRet (dVar 3)))) sNext) (sSeq (sSet 2 (dBin opMod (dCB fInt (aCons (dBin opAdd (dBin opMul (dBin opIx (dVar 0) (dC (.int 1))) (dC (.int 40014))) (dC (.int 71))) aNil)) (dC (.int 2147483563)))) (sSeq (sPut 0 (dBin opAdd (dBin opMod (dCB fInt (aCons (dBin opAdd (dBin opMul (dVar 2) (dC (.int 40692))) (dC (.int 4603))) aNil)) (dC (.int 2147483629))) (dC (.int 1))) (dC (.int 1))) (sRet (dBin opMod (dCB fInt (aCons (dBin opFdiv (dBin opAdd (dBin opMul (dVar 2) (dC (.int 2147483647))) (dBin opIx (dVar 0) (dC (.int 1)))) (dC (.int 8191))) aNil)) (dVar 1))))))
noncomputable def D__law_one_of (c : Cl) : En → SR :=
  (sRet (dBin opIx (dVar 1) (dLend 2 4 (D__law_choose c) 0 (aCons (dCB fLen (aCons (dVar 1) aNil)) aNil))))
noncomputable def D__law_day_b1 (c : Cl) : En → SR :=
  (sSeq (sSet 7 (dBin opAdd (dVar 6) (dLend 2 2 (D__law_one_of c) 0 (aCons (dLst (aCons (dC (.int 0)) (aCons (dC (.int 0)) (aCons (dC (.int 1)) (aCons (dC (.int 1)) (aCons (dC (.int 2)) (aCons (dC (.int 3)) (aCons (dC (.int 5)) aNil)))))))) aNil)))) (sSeq (sSet 8 (dBin opAdd (dVar 7) (dLend 2 2 (D__law_one_of c) 0 (aCons (dLst (aCons (dC (.int 1)) (aCons (dC (.int 1)) (aCons (dC (.int 2)) (aCons (dC (.int 3)) (aCons (dC (.int 4)) (aCons (dC (.int 9)) aNil))))))) aNil)))) (sIf (dTest (dBin opLe (dVar 8) (dVar 4))) (sSeq (sDrop (eMut 5 mAppend (aCons (dTup (aCons (dVar 7) (aCons (dVar 8) (aCons (dAnd (dVar 2) (dBin opEq (dLend 2 4 (D__law_choose c) 0 (aCons (dC (.int 3)) aNil)) (dC (.int 0)))) aNil)))) aNil))) (sSet 6 (dVar 8))) sNext)))
noncomputable def D__law_day (c : Cl) : En → SR :=
  (sSeq (sMulti [4, 5, 6] (nCons (dBin opAdd (dC (.int 1)) (dLend 2 4 (D__law_choose c) 0 (aCons (dVar 1) aNil))) (nCons (dLst aNil) (nCons (dC (.int 0)) aNil)))) (sSeq (sFor (dRng1 (dC (.int 8))) (uName 3) (D__law_day_b1 c)) (sRet (dTup (aCons (dVar 4) (aCons (dVar 5) aNil))))))
noncomputable def D__law_day_text (c : Cl) : En → SR :=
  (sSeq (sSet 1 (dLcS (dBin opIx (dVar 0) (dC (.int 1))) [2, 3, 4] (uTup 3 (usCons (uName 2) (usCons (uName 3) (usCons (uName 4) usNil)))) tdYes (dBin opAdd (dBin opAdd (dBin opAdd (dCB fStr (aCons (dVar 2) aNil)) (dC (.str "-"))) (dCB fStr (aCons (dVar 3) aNil))) (dIfE (dTest (dVar 4)) (dC (.str " private")) (dC (.str "")))))) (sRet (dBin opAdd (dBin opAdd (dCB fStr (aCons (dBin opIx (dVar 0) (dC (.int 0))) aNil)) (dC (.str ": "))) (dIfE (dTest (dBin opNe (dVar 1) (dLst aNil))) (dMt fJoin (dC (.str ", ")) (aCons (dVar 1) aNil)) (dC (.str "-"))))))
noncomputable def D_Day_having_2 (c : Cl) : En → SR :=
  (sSeq (sIf (tnot (dTest (dCall 1 4 (D__is_meeting c) (aCons (dVar 1) aNil)))) sDead sNext) (sSeq (sSet 2 (dCB fLen (aCons (dLcS (dFld [c.Day] "meetings" (dVar 0)) [3] (uName 3) (dTest (dBin opLt (dBin opIx (dVar 3) (dC (.int 0))) (dBin opIx (dVar 1) (dC (.int 0))))) (dVar 3)) aNil))) (sRet (dMake c.Day 3 3 (fun ρ => D_Day___init__ c (fillD 3 [] ρ)) (aCons (dFld [c.Day, c.Frame] "length" (dVar 0)) (aCons (dBin opAdd (dBin opAdd (dSl (dFld [c.Day] "meetings" (dVar 0)) oNone (oSome (dVar 2))) (dTup (aCons (dVar 1) aNil))) (dSl (dFld [c.Day] "meetings" (dVar 0)) (oSome (dVar 2)) oNone)) aNil))))))
end DL
set_option Elab.async false
set_option linter.all false
set_option maxRecDepth 100000
set_option maxHeartbeats 4000000
namespace DL
open PySem PySem.Spec PyProof.Rows L2 DD
noncomputable def E_Day___init__ (c : Cl) : En → SR :=
  (sSeq (sIf (nE (tnot (dTest (dCall 1 1 (D_is_positive c) (aCons (dVar 1) aNil))))) (sRaise1 c.InvalidDay "word" (nE (dC (.str "length")))) sNext) (sSeq (sIf (nE (tnot (dTest (dCall 2 4 (D__are_meetings c) (aCons (dVar 2) (aCons (dVar 1) aNil)))))) (sRaise1 c.InvalidDay "word" (nE (dC (.str "meetings")))) sNext) (sSeq (nS (sFldD [c.Day] 0 "length" (dVar 1))) (nS (sFldD [c.Day] 0 "meetings" (dCB fTuple (aCons (dVar 2) aNil)))))))
noncomputable def E_Day_without (c : Cl) : En → SR :=
  (sSeq (sIf (nE (tor (dTest (dBin opLt (dVar 1) (dC (.int 0)))) (dTest (dBin opGe (dVar 1) (dCB fLen (aCons (dFld [c.Day] "meetings" (dVar 0)) aNil)))))) (sRaise1 c.NoMeeting "at" (nE (dVar 1))) sNext) (sRet (dMake c.Day 3 3 (fun ρ => E_Day___init__ c (fillD 3 [] ρ)) (nE (aCons (dFld [c.Day, c.Frame] "length" (dVar 0)) (aCons (dBin opAdd (dSl (dFld [c.Day] "meetings" (dVar 0)) oNone (oSome (dVar 1))) (dSl (dFld [c.Day] "meetings" (dVar 0)) (oSome (dBin opAdd (dVar 1) (dC (.int 1)))) oNone)) aNil))))))
noncomputable def E_Day___getitem__ (c : Cl) : En → SR :=
  (sSeq (sIf (nE (tor (dTest (dBin opLt (dVar 1) (dC (.int 0)))) (dTest (dBin opGe (dVar 1) (dCB fLen (aCons (dFld [c.Day] "meetings" (dVar 0)) aNil)))))) (sRaise1 c.NoMeeting "at" (nE (dVar 1))) sNext) (nS (sRet (dBin opIx (dFld [c.Day] "meetings" (dVar 0)) (dVar 1)))))
end DL
set_option Elab.async false
set_option linter.all false
set_option maxRecDepth 100000
set_option maxHeartbeats 4000000
namespace DL
open PySem PySem.Spec PyProof.Rows L2 DD
noncomputable def E_Day_having (c : Cl) : En → SR :=
  (sSeq (sIf (nE (tnot (dTest (dCall 1 4 (D__is_meeting c) (aCons (dVar 1) aNil))))) (sRaise1 c.InvalidDay "word" (nE (dC (.str "meetings")))) sNext) (sSeq (nS (sSet 2 (dCB fLen (aCons (dLcS (dFld [c.Day] "meetings" (dVar 0)) [3] (uName 3) (dTest (dBin opLt (dBin opIx (dVar 3) (dC (.int 0))) (dBin opIx (dVar 1) (dC (.int 0))))) (dVar 3)) aNil)))) (sRet (dMake c.Day 3 3 (fun ρ => E_Day___init__ c (fillD 3 [] ρ)) (nE (aCons (dFld [c.Day, c.Frame] "length" (dVar 0)) (aCons (dBin opAdd (dBin opAdd (dSl (dFld [c.Day] "meetings" (dVar 0)) oNone (oSome (dVar 2))) (dTup (aCons (dVar 1) aNil))) (dSl (dFld [c.Day] "meetings" (dVar 0)) (oSome (dVar 2)) oNone)) aNil)))))))
noncomputable def D_law_b1 (c : Cl) : En → SR :=
  (sSeq (sSet 13 (dMeth c.Day "without" 2 2 (D_Day_without c) (dVar 4) (aCons (dVar 5) aNil))) (sSeq (sIf (tor (dTest (dEqO xNb c.Day 2 (D_Day___eq__ c) (dVar 13) (dMake c.Day 3 3 (fun ρ => D_Day___init__ c (fillD 3 [] ρ)) (aCons (dVar 11) (aCons (dBin opAdd (dSl (dVar 12) oNone (oSome (dVar 5))) (dSl (dVar 12) (oSome (dBin opAdd (dVar 5) (dC (.int 1)))) oNone)) aNil))))) (dTest (dBin opNe (dIxO c.Day 2 (D_Day___getitem__ c) (dVar 4) (dVar 5)) (dBin opIx (dVar 12) (dVar 5))))) (sRet (dC (.bl false))) sNext) (sIf (dTest (dEqO xNb c.Day 2 (D_Day___eq__ c) (dMeth c.Day "having" 2 4 (D_Day_having_2 c) (dVar 13) (aCons (dBin opIx (dVar 12) (dVar 5)) aNil)) (dVar 4))) (sRet (dC (.bl false))) sNext)))
noncomputable def D_law_b2 (c : Cl) : En → SR :=
  (sSeq (sIf (dTest (dBin opNe (dHeard [4, 5] c.Day c.NoMeeting c.InvalidDay 1 (D_Day___str__ c) (dMeth c.Day "without" 2 2 (E_Day_without c) (nE (dVar 4)) (nE (aCons (dVar 5) aNil)))) (dTup (aCons (dC (.str "none")) (aCons (dVar 5) aNil))))) (sRet (dC (.bl false))) sNext) (sIf (dTest (dBin opNe (dHeard [4, 5] c.Day c.NoMeeting c.InvalidDay 1 (D_Day___str__ c) (dIxO c.Day 2 (E_Day___getitem__ c) (nE (dVar 4)) (nE (dVar 5)))) (dTup (aCons (dC (.str "none")) (aCons (dVar 5) aNil))))) (sRet (dC (.bl false))) sNext))
noncomputable def D_law_b3 (c : Cl) : En → SR :=
  (sSeq (sTgt (uTup 2 (usCons (uName 11) (usCons (uName 12) usNil))) (dLend 3 9 (D__law_day c) 2 (aCons (dC (.int 30)) (aCons (dC (.bl true)) aNil)))) (sSeq (sSet 4 (dMake c.Day 3 3 (fun ρ => D_Day___init__ c (fillD 3 [] ρ)) (aCons (dVar 11) (aCons (dVar 12) aNil)))) (sSeq (sFor (dRng1 (dCB fLen (aCons (dVar 12) aNil))) (uName 5) (D_law_b1 c)) (sSeq (sForV (dTup (aCons (dBin opSub (dC (.int 0)) (dC (.int 1))) (aCons (dCB fLen (aCons (dVar 12) aNil)) (aCons (dBin opAdd (dCB fLen (aCons (dVar 12) aNil)) (dC (.int 9))) (aCons (dBin opPow (dC (.int 10)) (dC (.int 9))) aNil))))) (uName 5) (D_law_b2 c)) (sSeq (sSet 6 (dLend 2 4 (D__law_choose c) 2 (aCons (dBin opAdd (dVar 11) (dC (.int 2))) aNil))) (sSeq (sSet 7 (dTup (aCons (dVar 6) (aCons (dBin opAdd (dBin opAdd (dVar 6) (dC (.int 1))) (dLend 2 4 (D__law_choose c) 2 (aCons (dC (.int 4)) aNil))) (aCons (dBin opEq (dLend 2 4 (D__law_choose c) 2 (aCons (dC (.int 2)) aNil)) (dC (.int 0))) aNil))))) (sSeq (sSet 8 (dLcS (dVar 12) [15] (uName 15) (tnd (dTest (dBin opLt (dBin opIx (dVar 15) (dC (.int 0))) (dBin opIx (dVar 7) (dC (.int 1))))) (dTest (dBin opLt (dBin opIx (dVar 7) (dC (.int 0))) (dBin opIx (dVar 15) (dC (.int 1)))))) (dVar 15))) (sSeq (sSet 9 (dC (.str "!meetings"))) (sSeq (sIf (tnd (dTest (dBin opEq (dVar 8) (dLst aNil))) (dTest (dBin opLe (dBin opIx (dVar 7) (dC (.int 1))) (dVar 11)))) (sSeq (sSet 14 (dLcS (dVar 12) [15] (uName 15) (dTest (dBin opLt (dBin opIx (dVar 15) (dC (.int 0))) (dVar 6))) (dVar 15))) (sSet 9 (dCall 1 5 (D__law_day_text c) (aCons (dTup (aCons (dVar 11) (aCons (dBin opAdd (dBin opAdd (dVar 14) (dLst (aCons (dVar 7) aNil))) (dSl (dVar 12) (oSome (dCB fLen (aCons (dVar 14) aNil))) oNone)) aNil))) aNil)))) sNext) (sSeq (sIf (dTest (dBin opNe (dHeard [4, 7] c.Day c.NoMeeting c.InvalidDay 1 (D_Day___str__ c) (dMeth c.Day "having" 2 4 (E_Day_having c) (nE (dVar 4)) (nE (aCons (dVar 7) aNil)))) (dVar 9))) (sRet (dC (.bl false))) sNext) (sSeq (sSet 10 (dLend 2 2 (D__law_one_of c) 2 (aCons (dLst (aCons (dC .non) (aCons (dC (.str "2-5")) (aCons (dTup (aCons (dC (.int 1)) (aCons (dC (.int 2)) aNil))) (aCons (dLst (aCons (dC (.int 0)) (aCons (dC (.int 1)) (aCons (dC (.bl false)) aNil)))) (aCons (dTup (aCons (dC (.int 2)) (aCons (dC (.int 1)) (aCons (dC (.bl true)) aNil)))) (aCons (dTup (aCons (dC (.int 0)) (aCons (dC (.int 1)) (aCons (dC (.int 1)) aNil)))) (aCons (dC (.int 3)) (aCons (dTup aNil) (aCons (dVar 4) aNil)))))))))) aNil))) (sIf (tor (dTest (dBin opNe (dHeard [4, 10] c.Day c.NoMeeting c.InvalidDay 1 (D_Day___str__ c) (dMeth c.Day "having" 2 4 (E_Day_having c) (nE (dVar 4)) (nE (aCons (dVar 10) aNil)))) (dC (.str "!meetings")))) (dTest (dBin opNe (dStrO c.Day 1 (D_Day___str__ c) (dVar 4)) (dCall 1 5 (D__law_day_text c) (aCons (dTup (aCons (dVar 11) (aCons (dVar 12) aNil))) aNil))))) (sRet (dC (.bl false))) sNext))))))))))))
noncomputable def D_law_b4 (c : Cl) : En → SR :=
  (sSeq (sSet 2 (dCall 2 3 (D__law_seed c) (aCons (dVar 0) (aCons (dVar 1) aNil)))) (sFor (dRng1 (dC (.int 4))) (uName 3) (D_law_b3 c)))
noncomputable def D_law (c : Cl) : En → SR :=
  (sSeq (sFor (dRng1 (dCB fMax (aCons (dC (.int 2)) (aCons (dCB fMin (aCons (dC (.int 5)) (aCons (dCB fLen (aCons (dVar 0) aNil)) aNil))) aNil)))) (uName 1) (D_law_b4 c)) (sRet (dC (.bl true))))
end DL
set_option Elab.async false
set_option linter.all false
set_option maxRecDepth 100000
set_option maxHeartbeats 4000000
namespace DD
open PySem PySem.Spec PyProof.Rows L2 StX ClX DL
section
variable {P : Program} {w : World} {K : PySem.W.Frag} {mg : Str → Option Value} {base : Heap} {d : Ad}
theorem rs_InvalidDay (T : Txt K mg d) : ExR P w K mg base d.C_InvalidDay "word" := by
  obtain ⟨fd, F⟩ := T.F_InvalidDay___init__
  exact ⟨_, fd, _, T.ox_InvalidDay, T.no_InvalidDay, T.iC_InvalidDay, T.tI_InvalidDay, ok_exI F sc_InvalidDay___init__ rfl (fun cdv A outer s H E => pss_one (ps_ost (pv 0) (pv 1))), F.binds fun _ _ _ _ _ _ us hl => match us, hl with | [_, _], _ => rfl⟩
theorem rs_NoMeeting (T : Txt K mg d) : ExRI P w K mg base d.C_NoMeeting "at" := by
  obtain ⟨fd, F⟩ := T.F_NoMeeting___init__
  exact ⟨_, fd, _, T.ox_NoMeeting, T.no_NoMeeting, T.iC_NoMeeting, T.tI_NoMeeting, ok_exIE F sc_NoMeeting___init__ rfl (fun cdv A outer s H E => pss_one (ps_ostI (pv 0) (pv 1))), F.binds fun _ _ _ _ _ _ us hl => match us, hl with | [_, _], _ => rfl⟩
theorem ok_Day___eq__ (T : Txt K mg d) : FnR P w K mg base CX0 1 d.f_Day___eq__ (spD0 K 2 2 (D_Day___eq__ (cl d))) :=
  mkDz T.F_Day___eq__ sc_Day___eq__ (by decide) (fun _ _ _ _ _ _ us hl => match us, hl with | [_, _], _ => rfl) (fun cdv A outer s H E hr => by
    have hu := hr.units
    have hu5 := room5 hr
    exact ⟨_, (pss_one (ps_ret (pe_and (pe_callB call_isi (by rfl) T.b_isinstance (by decide +kernel) (pa_cons (pv 1) (pa_cons (pe_glob (v := .ref d.C_Day) rfl T.m_Day rfl) pa_nil))) (pe_and (pe_cmpR (op_eq2 (K := K) hu) (pe_fldK (K := K) (pv 0) rfl) (pe_fldK (K := K) (pv 1) rfl) (nomark _)) (pe_one (pe_cmpR (op_eq2 (K := K) hu) (pe_fldK (K := K) (pv 0) rfl) (pe_fldK (K := K) (pv 1) rfl) (nomark _))))))), (L_ret (L_and (L_isi (kit_ok T) (tyc T) (.own _) (L_var (i := 1))) (L_and (L_bin S_eq (L_fld (fa_length T) (L_var (i := 0))) (L_fld (fa_length T) (L_var (i := 1)))) (L_bin S_eq (L_fld (fa_meetings T) (L_var (i := 0))) (L_fld (fa_meetings T) (L_var (i := 1)))))))⟩)
theorem ok_Day___getitem__ (T : Txt K mg d) : FnR P w K mg base CX0 1 d.f_Day___getitem__ (spD0 K 2 2 (D_Day___getitem__ (cl d))) :=
  mkDz T.F_Day___getitem__ sc_Day___getitem__ (by decide) (fun _ _ _ _ _ _ us hl => match us, hl with | [_, _], _ => rfl) (fun cdv A outer s H E hr => by
    have hu := hr.units
    have hu5 := room5 hr
    exact ⟨_, (pss_cons (ps_if (PW.pt (pw_or (pt_cmpR (op_lt2 (K := K) hu) (pv 1) pe_int (nomark _)) (pw_or1 (pt_cmpR op_ge (pv 1) (pe_callB (call_len2 (K := K)) (by rfl) T.b_len PySem.boot_len (pa_cons (pe_fldK (K := K) (pv 0) rfl) pa_nil)) (nomark _))))) (pss_one ps_dead) pss_nil) (pss_one (ps_ret (pe_ix (ix_3 (K := K)) (pe_fldK (K := K) (pv 0) rfl) (pv 1) (fun _ _ => rfl))))), (L_seq (L_if (L_tor (L_test (L_bin S_lt2 (L_var (i := 1)) L_int)) (L_test (L_bin S_ge (L_var (i := 1)) (L_cb C_len (A_cons (L_fld (fa_meetings T) (L_var (i := 0))) A_nil))))) L_dead L_next) (L_ret (L_bin S_ix (L_fld (fa_meetings T) (L_var (i := 0))) (L_var (i := 1)))))⟩)
theorem okE_Day___getitem__ (T : Txt K mg d) : FnR P w K mg base (L2.CX P w) 3 d.f_Day___getitem__ (spD K 2 2 (E_Day___getitem__ (cl d))) :=
  mkDE T.F_Day___getitem__ sc_Day___getitem__ (by decide) (fun _ _ _ _ _ _ us hl => match us, hl with | [_, _], _ => rfl) (fun cdv A outer s H E hr => by
    have hu := hr.units
    have hu5 := room5 hr
    exact ⟨_, (pss_cons (ps_if (PW.pt (pw_or (pt_cmpR (op_lt2 (K := K) hu) (pv 1) pe_int (nomark _)) (pw_or1 (pt_cmpR op_ge (pv 1) (pe_callB (call_len2 (K := K)) (by rfl) T.b_len PySem.boot_len (pa_cons (pe_fldK (K := K) (pv 0) rfl) pa_nil)) (nomark _))))) (pss_one (ps_raiseI (rs_NoMeeting T) (hr.mono (by decide)) rfl (takes_of rfl rfl rfl rfl) rfl T.m_NoMeeting (pv 1))) pss_nil) (pss_one (ps_ret (pe_ix (ix_3 (K := K)) (pe_fldK (K := K) (pv 0) rfl) (pv 1) (fun _ _ => rfl))))), (LSW.seq (LSW.ite (L_tor (L_test (L_bin S_lt2 (L_var (i := 1)) L_int)) (L_test (L_bin S_ge (L_var (i := 1)) (L_cb C_len (A_cons (L_fld (fa_meetings T) (L_var (i := 0))) A_nil))))) (L_raise1 (LEW.no (L_var (i := 1)))) LSW.nx) (LSW.no (L_ret (L_bin S_ix (L_fld (fa_meetings T) (L_var (i := 0))) (L_var (i := 1))))))⟩)
theorem ok_is_integer (T : Txt K mg d) : FnR P w K mg base CX0 1 d.f_is_integer (spD0 K 1 1 (D_is_integer (cl d))) :=
  mkDz T.F_is_integer sc_is_integer (by decide) (fun _ _ _ _ _ _ us hl => match us, hl with | [_], _ => rfl) (fun cdv A outer s H E hr => by
    have hu := hr.units
    have hu5 := room5 hr
    exact ⟨_, (pss_one (ps_ret (pe_and (pe_callB call_isi (by rfl) T.b_isinstance (by decide +kernel) (pa_cons (pv 0) (pa_cons (pe_bltn (v := .ty "int") rfl T.b_int (by decide +kernel) rfl) pa_nil))) (pe_one (pe_not (pe_callB call_isi (by rfl) T.b_isinstance (by decide +kernel) (pa_cons (pv 0) (pa_cons (pe_bltn (v := .ty "bool") rfl T.b_bool (by decide +kernel) rfl) pa_nil)))))))), (L_ret (L_and (L_isi (kit_ok T) (tyc T) (.ty "int") (L_var (i := 0))) (L_not (L_isi (kit_ok T) (tyc T) (.ty "bool") (L_var (i := 0))))))⟩)
theorem ok_is_number (T : Txt K mg d) : FnR P w K mg base CX0 2 d.f_is_number (spD0 K 1 1 (D_is_number (cl d))) :=
  mkDz T.F_is_number sc_is_number (by decide) (fun _ _ _ _ _ _ us hl => match us, hl with | [_], _ => rfl) (fun cdv A outer s H E hr => by
    have hu := hr.units
    have hu5 := room5 hr
    exact ⟨_, (pss_one (ps_ret (pe_and (pe_callR (sp := spD0 K 1 1 (D_is_integer (cl d))) (ok_is_integer T) (hr.mono (by decide)) rfl T.m_is_integer T.k_is_integer pass0 (pa_cons (pv 0) pa_nil)) (pe_one (pe_cmpR op_ge (pv 0) pe_int (nomark _)))))), (L_ret (L_and (Lz_call (A_cons (L_var (i := 0)) A_nil)) (L_bin S_ge (L_var (i := 0)) L_int)))⟩)
theorem ok__is_meeting (T : Txt K mg d) : FnR P w K mg base CX0 3 d.f__is_meeting (spD0 K 1 4 (D__is_meeting (cl d))) :=
  mkDz T.F__is_meeting sc__is_meeting (by decide) (fun _ _ _ _ _ _ us hl => match us, hl with | [_], _ => rfl) (fun cdv A outer s H E hr => by
    have hu := hr.units
    have hu5 := room5 hr
    exact ⟨_, (pss_cons (ps_if (PW.pt (pw_or (pt_not (pt_val (pe_callB call_isi (by rfl) T.b_isinstance (by decide +kernel) (pa_cons (pv 0) (pa_cons (pe_bltn (v := .ty "tuple") rfl T.b_tuple (by decide +kernel) rfl) pa_nil))))) (pw_or1 (pt_cmpR (op_ne2 (K := K) hu) (pe_callB (call_len2 (K := K)) (by rfl) T.b_len PySem.boot_len (pa_cons (pv 0) pa_nil)) pe_int (nomark _))))) (pss_one (ps_ret pe_bl)) pss_nil) (pss_cons (ps_asg (pv 0) (pg_tupK (K := K) (n := 3) rfl (pgs_cons (pg_name (i := 1) sc__is_meeting.nd rfl (by first | exact Or.inl rfl | exact Or.inr rfl)) (pgs_cons (pg_name (i := 2) sc__is_meeting.nd rfl (by first | exact Or.inl rfl | exact Or.inr rfl)) (pgs_cons (pg_name (i := 3) sc__is_meeting.nd rfl (by first | exact Or.inl rfl | exact Or.inr rfl)) pgs_nil))))) (pss_one (ps_ret (pe_and (pe_callR (sp := spD0 K 1 1 (D_is_number (cl d))) (ok_is_number T) (hr.mono (by decide)) rfl T.m_is_number T.k_is_number pass0 (pa_cons (pv 1) pa_nil)) (pe_and (pe_callR (sp := spD0 K 1 1 (D_is_number (cl d))) (ok_is_number T) (hr.mono (by decide)) rfl T.m_is_number T.k_is_number pass0 (pa_cons (pv 2) pa_nil)) (pe_and (pe_callB call_isi (by rfl) T.b_isinstance (by decide +kernel) (pa_cons (pv 3) (pa_cons (pe_bltn (v := .ty "bool") rfl T.b_bool (by decide +kernel) rfl) pa_nil))) (pe_one (pe_cmpR (op_lt2 (K := K) hu) (pv 1) (pv 2) (nomark _)))))))))), (L_seq (L_if (L_tor (L_tnot (L_test (L_isi (kit_ok T) (tyc T) (.ty "tuple") (L_var (i := 0))))) (L_test (L_bin S_ne (L_cb C_len (A_cons (L_var (i := 0)) A_nil)) L_int))) (L_ret L_bl) L_next) (L_seq (L_tgt (vs := [1, 2, 3]) (L_var (i := 0)) (U_tup (Us_cons (U_name (by decide)) (Us_cons (U_name (by decide)) (Us_cons (U_name (by decide)) Us_nil))))) (L_ret (L_and (Lz_call (A_cons (L_var (i := 1)) A_nil)) (L_and (Lz_call (A_cons (L_var (i := 2)) A_nil)) (L_and (L_isi (kit_ok T) (tyc T) (.ty "bool") (L_var (i := 3))) (L_bin S_lt2 (L_var (i := 1)) (L_var (i := 2)))))))))⟩)
theorem ok_is_sequence (T : Txt K mg d) : FnR P w K mg base CX0 1 d.f_is_sequence (spD0 K 1 1 (D_is_sequence (cl d))) :=
  mkDz T.F_is_sequence sc_is_sequence (by decide) (fun _ _ _ _ _ _ us hl => match us, hl with | [_], _ => rfl) (fun cdv A outer s H E hr => by
    have hu := hr.units
    have hu5 := room5 hr
    exact ⟨_, (pss_one (ps_ret (pe_callB call_isiT (by rfl) T.b_isinstance (by decide +kernel) (pa_cons (pv 0) (pa_cons (pe_tup (pa_cons (pe_bltn (v := .ty "list") rfl T.b_list (by decide +kernel) rfl) (pa_cons (pe_bltn (v := .ty "tuple") rfl T.b_tuple (by decide +kernel) rfl) pa_nil))) pa_nil))))), (L_ret (L_isiT (cs := [(.ty "list"), (.ty "tuple")]) (kit_ok T) (tyc T) (.cons (.ty "list") (.cons (.ty "tuple") .nil)) (by decide) (L_var (i := 0))))⟩)
end
end DD
set_option Elab.async false
set_option linter.all false
set_option maxRecDepth 100000
set_option maxHeartbeats 4000000
namespace DD
open PySem PySem.Spec PyProof.Rows L2 StX ClX DL
section
variable {P : Program} {w : World} {K : PySem.W.Frag} {mg : Str → Option Value} {base : Heap} {d : Ad}
theorem ok__are_meetings (T : Txt K mg d) : FnR P w K mg base CX0 4 d.f__are_meetings (spD0 K 2 4 (D__are_meetings (cl d))) :=
  mkDz T.F__are_meetings sc__are_meetings (by decide) (fun _ _ _ _ _ _ us hl => match us, hl with | [_, _], _ => rfl) (fun cdv A outer s H E hr => by
    have hu := hr.units
    have hu5 := room5 hr
    exact ⟨_, (pss_cons (ps_if (pt_not (pt_val (pe_callR (sp := spD0 K 1 1 (D_is_sequence (cl d))) (ok_is_sequence T) (hr.mono (by decide)) rfl T.m_is_sequence T.k_is_sequence pass0 (pa_cons (pv 0) pa_nil)))) (pss_one (ps_ret pe_bl)) pss_nil) (pss_cons (ps_set (i := 2) sc__are_meetings.nd rfl (by first | exact Or.inl rfl | exact Or.inr rfl) pe_int) (pss_cons (ps_for PassesOwn.never rfl (pi_seq (K := K) (pv 0)) (pg_name (i := 3) sc__are_meetings.nd rfl (by first | exact Or.inl rfl | exact Or.inr rfl)) (pss_cons (ps_if (PW.pt (pw_or (pt_not (pt_val (pe_callR (sp := spD0 K 1 4 (D__is_meeting (cl d))) (ok__is_meeting T) (hr.mono (by decide)) rfl T.m__is_meeting T.k__is_meeting pass0 (pa_cons (pv 3) pa_nil)))) (pw_or (pt_cmpR (op_lt2 (K := K) hu) (pe_ix (ix_3 (K := K)) (pv 3) pe_int (fun _ _ => rfl)) (pv 2) (nomark _)) (pw_or1 (pt_cmpR op_gt (pe_ix (ix_3 (K := K)) (pv 3) pe_int (fun _ _ => rfl)) (pv 1) (nomark _)))))) (pss_one (ps_ret pe_bl)) pss_nil) (pss_one (ps_set (i := 2) sc__are_meetings.nd rfl (by first | exact Or.inl rfl | exact Or.inr rfl) (pe_ix (ix_3 (K := K)) (pv 3) pe_int (fun _ _ => rfl)))))) (pss_one (ps_ret pe_bl))))), (L_seq (L_if (L_tnot (L_test (Lz_call (A_cons (L_var (i := 0)) A_nil)))) (L_ret L_bl) L_next) (L_seq (L_set L_int) (L_seq (L_forS (vs := [3]) (L_var (i := 0)) (U_name (by decide)) (L_seq (L_if (L_tor (L_tnot (L_test (Lz_call (A_cons (L_var (i := 3)) A_nil)))) (L_tor (L_test (L_bin S_lt2 (L_bin S_ix (L_var (i := 3)) L_int) (L_var (i := 2)))) (L_test (L_bin S_gt (L_bin S_ix (L_var (i := 3)) L_int) (L_var (i := 1)))))) (L_ret L_bl) L_next) (L_set (L_bin S_ix (L_var (i := 3)) L_int)))) (L_ret L_bl))))⟩)
theorem ok_is_positive (T : Txt K mg d) : FnR P w K mg base CX0 2 d.f_is_positive (spD0 K 1 1 (D_is_positive (cl d))) :=
  mkDz T.F_is_positive sc_is_positive (by decide) (fun _ _ _ _ _ _ us hl => match us, hl with | [_], _ => rfl) (fun cdv A outer s H E hr => by
    have hu := hr.units
    have hu5 := room5 hr
    exact ⟨_, (pss_one (ps_ret (pe_and (pe_callR (sp := spD0 K 1 1 (D_is_integer (cl d))) (ok_is_integer T) (hr.mono (by decide)) rfl T.m_is_integer T.k_is_integer pass0 (pa_cons (pv 0) pa_nil)) (pe_one (pe_cmpR op_ge (pv 0) pe_int (nomark _)))))), (L_ret (L_and (Lz_call (A_cons (L_var (i := 0)) A_nil)) (L_bin S_ge (L_var (i := 0)) L_int)))⟩)
theorem body_Day___init__ (T : Txt K mg d) (cdv : Value) (A : Around) (outer : List Env) (s : Shared) (H : Hp) (E : XK) (hr : Room 4 (A.deeper (envOfC "Day.__init__" (defScope s_Day___init__) s.heap.objs.size d.f_Day___init__ cdv))) :
    ∃ t, PSs (cxOf CX0 P w K mg base ["self", "length", "meetings"] "Day.__init__" (defScope s_Day___init__) d.f_Day___init__ cdv A outer s H E).nox (defBody s_Day___init__) t ∧ LS K E0 t (D_Day___init__ (cl d)) := by
    have hu := hr.units
    have hu5 := room5 hr
    exact ⟨_, (pss_cons (ps_if (pt_not (pt_val (pe_callR (sp := spD0 K 1 1 (D_is_positive (cl d))) (ok_is_positive T) (hr.mono (by decide)) rfl T.m_is_positive T.k_is_positive pass0 (pa_cons (pv 1) pa_nil)))) (pss_one ps_dead) pss_nil) (pss_cons (ps_if (pt_not (pt_val (pe_callR (sp := spD0 K 2 4 (D__are_meetings (cl d))) (ok__are_meetings T) (hr.mono (by decide)) rfl T.m__are_meetings T.k__are_meetings pass0 (pa_cons (pv 2) (pa_cons (pv 1) pa_nil))))) (pss_one ps_dead) pss_nil) (pss_cons (ps_fld (pv 0) (pv 1) rfl) (pss_one (ps_fld (pv 0) (pe_callTy call_tuple_of rfl T.b_tuple (by decide +kernel) (pa_cons (pv 2) pa_nil)) rfl))))), (L_seq (L_if (L_tnot (L_test (Lz_call (A_cons (L_var (i := 1)) A_nil)))) L_dead L_next) (L_seq (L_if (L_tnot (L_test (Lz_call (A_cons (L_var (i := 2)) (A_cons (L_var (i := 1)) A_nil))))) L_dead L_next) (L_seq (L_sfld (i := 0) (fs_Day_length T) (L_var (i := 1))) (L_sfld (i := 0) (fs_Day_meetings T) (L_cb C_tuple (A_cons (L_var (i := 2)) A_nil))))))⟩
theorem ok_Day_init2 (T : Txt K mg d) : FnR P w K mg base CX0 5 d.f_Day___init__ (spD0 K 3 3 (fun ρ => D_Day___init__ (cl d) (fillD 3 [] ρ))) :=
  mkDD (T := D_Day___init__ (cl d)) (N := ["self", "length", "meetings"]) (dd := []) 3 1 T.F_Day___init__ (by simp [dv_Day]) rfl sc_Day___init__ (by decide) (fun G => RepA.nil)
    (fun _ _ _ _ _ _ _ us its h1 h2 => match us, its, h1, h2 with | [_, _, _], [_], _, _ => ⟨_, rfl, rfl⟩)
    (fun cdv A outer s H E hr => let ⟨t, h1, h2⟩ := body_Day___init__ T cdv A outer s H E hr; ⟨t, h1.nox, h2⟩)
theorem ok__meeting_text (T : Txt K mg d) : FnR P w K mg base CX0 1 d.f__meeting_text (spD0 K 1 4 (D__meeting_text (cl d))) :=
  mkDz T.F__meeting_text sc__meeting_text (by decide) (fun _ _ _ _ _ _ us hl => match us, hl with | [_], _ => rfl) (fun cdv A outer s H E hr => by
    have hu := hr.units
    have hu5 := room5 hr
    exact ⟨_, (pss_cons (ps_asg (pv 0) (pg_tupK (K := K) (n := 3) rfl (pgs_cons (pg_name (i := 1) sc__meeting_text.nd rfl (by first | exact Or.inl rfl | exact Or.inr rfl)) (pgs_cons (pg_name (i := 2) sc__meeting_text.nd rfl (by first | exact Or.inl rfl | exact Or.inr rfl)) (pgs_cons (pg_name (i := 3) sc__meeting_text.nd rfl (by first | exact Or.inl rfl | exact Or.inr rfl)) pgs_nil))))) (pss_cons (ps_if (pt_val (pv 3)) (pss_one (ps_ret (pe_joined (PJ.cons (pe_fmt (pv 1)) (PJ.cons pe_str (PJ.cons (pe_fmt (pv 2)) (PJ.cons pe_str PJ.nil))))))) pss_nil) (pss_one (ps_ret (pe_joined (PJ.cons (pe_fmt (pv 1)) (PJ.cons pe_str (PJ.cons (pe_fmt (pv 2)) PJ.nil)))))))), (L_seq (L_tgt (vs := [1, 2, 3]) (L_var (i := 0)) (U_tup (Us_cons (U_name (by decide)) (Us_cons (U_name (by decide)) (Us_cons (U_name (by decide)) Us_nil))))) (L_seq (L_if (L_test (L_var (i := 3))) (L_ret (L_join (J_cons (L_fmt (L_var (i := 1))) (J_cons L_str (J_cons (L_fmt (L_var (i := 2))) (J_cons L_str J_nil)))))) L_next) (L_ret (L_join (J_cons (L_fmt (L_var (i := 1))) (J_cons L_str (J_cons (L_fmt (L_var (i := 2))) J_nil)))))))⟩)
theorem ok__meetings_text (T : Txt K mg d) : FnR P w K mg base CX0 2 d.f__meetings_text (spD0 K 1 2 (D__meetings_text (cl d))) :=
  mkDz T.F__meetings_text sc__meetings_text (by decide) (fun _ _ _ _ _ _ us hl => match us, hl with | [_], _ => rfl) (fun cdv A outer s H E hr => by
    have hu := hr.units
    have hu5 := room5 hr
    exact ⟨_, (pss_cons (ps_if (pt_cmpR (op_eq2 (K := K) hu) (pe_callB (call_len2 (K := K)) (by rfl) T.b_len PySem.boot_len (pa_cons (pv 0) pa_nil)) pe_int (nomark _)) (pss_one (ps_ret pe_str)) pss_nil) (pss_one (ps_ret (pe_bm PySem.F.plainAttrs_str PySem.F.slot_str_join PySem.F.type_str_join mt_join pe_str (pa_cons (pe_lc (own := [("meeting", 1)]) rfl sc__meetings_text.nd (pi_seq (K := K) (pv 0)) (blkOk_by (N := ["meetings", "meeting"]) (sc := defScope s__meetings_text) (by decide +kernel)) (fun _ _ _ _ _ => (pg_name (i := 1) sc__meetings_text.nd rfl (by first | exact Or.inl rfl | exact Or.inr rfl))) (fun _ _ _ _ _ => pts_nil) (fun _ _ _ _ _ => (pe_callR (sp := spD0 K 1 4 (D__meeting_text (cl d))) (ok__meeting_text T) (hr.mono (by decide)) rfl T.m__meeting_text T.k__meeting_text pass0 (pa_cons (pv 1) pa_nil)))) pa_nil))))), (L_seq (L_if (L_test (L_bin S_eq (L_cb C_len (A_cons (L_var (i := 0)) A_nil)) L_int)) (L_ret L_str) L_next) (L_ret (L_mt M_join L_str (A_cons (L_lcS (Et := E0) (Ea := E0) (L_var (i := 0)) (U_name (by decide)) L_yes (Lz_call (A_cons (L_var (i := 1)) A_nil))) A_nil))))⟩)
theorem ok_Day___str__ (T : Txt K mg d) : FnR P w K mg base CX0 3 d.f_Day___str__ (spD0 K 1 1 (D_Day___str__ (cl d))) :=
  mkDz T.F_Day___str__ sc_Day___str__ (by decide) (fun _ _ _ _ _ _ us hl => match us, hl with | [_], _ => rfl) (fun cdv A outer s H E hr => by
    have hu := hr.units
    have hu5 := room5 hr
    exact ⟨_, (pss_one (ps_ret (pe_joined (PJ.cons (pe_fmt (pe_fldK (K := K) (pv 0) rfl)) (PJ.cons pe_str (PJ.cons (pe_fmt (pe_callR (sp := spD0 K 1 2 (D__meetings_text (cl d))) (ok__meetings_text T) (hr.mono (by decide)) rfl T.m__meetings_text T.k__meetings_text pass0 (pa_cons (pe_fldK (K := K) (pv 0) rfl) pa_nil))) PJ.nil)))))), (L_ret (L_join (J_cons (L_fmt (L_fld (fa_length T) (L_var (i := 0)))) (J_cons L_str (J_cons (L_fmt (Lz_call (A_cons (L_fld (fa_meetings T) (L_var (i := 0))) A_nil))) J_nil)))))⟩)
theorem ok_Day_having (T : Txt K mg d) : FnR P w K mg base CX0 7 d.f_Day_having (spD0 K 2 4 (D_Day_having_2 (cl d))) :=
  mkDz T.F_Day_having sc_Day_having (by decide) (fun _ _ _ _ _ _ us hl => match us, hl with | [_, _], _ => rfl) (fun cdv A outer s H E hr => by
    have hu := hr.units
    have hu5 := room5 hr
    exact ⟨_, (pss_cons (ps_if (pt_not (pt_val (pe_callR (sp := spD0 K 1 4 (D__is_meeting (cl d))) (ok__is_meeting T) (hr.mono (by decide)) rfl T.m__is_meeting T.k__is_meeting pass0 (pa_cons (pv 1) pa_nil)))) (pss_one ps_dead) pss_nil) (pss_cons (ps_set (i := 2) sc_Day_having.nd rfl (by first | exact Or.inl rfl | exact Or.inr rfl) (pe_callB (call_len2 (K := K)) (by rfl) T.b_len PySem.boot_len (pa_cons (pe_lc (own := [("one", 3)]) rfl sc_Day_having.nd (pi_seq (K := K) (pe_fldK (K := K) (pv 0) rfl)) (blkOk_by (N := ["self", "meeting", "place", "one"]) (sc := defScope s_Day_having) (by decide +kernel)) (fun _ _ _ _ _ => (pg_name (i := 3) sc_Day_having.nd rfl (by first | exact Or.inl rfl | exact Or.inr rfl))) (fun _ _ _ _ _ => (pts_one (pt_cmpR (op_lt2 (K := K) hu) (pe_ix (ix_3 (K := K)) (pv 3) pe_int (fun _ _ => rfl)) (pe_ix (ix_3 (K := K)) (pv 1) pe_int (fun _ _ => rfl)) (nomark _)))) (fun _ _ _ _ _ => (pv 3))) pa_nil))) (pss_one (ps_ret (pe_makeR (sp := spD0 K 3 3 (fun ρ => D_Day___init__ (cl d) (fillD 3 [] ρ))) T.mk_Day (ok_Day_init2 T) (hr.mono (by decide)) rfl T.m_Day pass0 (pa_cons (pe_fldK (K := K) (pv 0) rfl) (pa_cons (pe_op (op_add4 (K := K)) (pe_op (op_add4 (K := K)) (pe_slice (sl_3 (K := K)) (pe_fldK (K := K) (pv 0) rfl) po_none (po_some (pv 2))) (pe_tup (pa_cons (pv 1) pa_nil))) (pe_slice (sl_3 (K := K)) (pe_fldK (K := K) (pv 0) rfl) (po_some (pv 2)) po_none)) pa_nil))))))), (L_seq (L_if (L_tnot (L_test (Lz_call (A_cons (L_var (i := 1)) A_nil)))) L_dead L_next) (L_seq (L_set (L_cb C_len (A_cons (L_lcS (Et := E0) (Ea := E0) (L_fld (fa_meetings T) (L_var (i := 0))) (U_name (by decide)) (L_test (L_bin S_lt2 (L_bin S_ix (L_var (i := 3)) L_int) (L_bin S_ix (L_var (i := 1)) L_int))) (L_var (i := 3))) A_nil))) (L_ret (Lz_make (A_cons (L_fld (fa_length T) (L_var (i := 0))) (A_cons (L_bin S_add4 (L_bin S_add4 (L_sl (L_fld (fa_meetings T) (L_var (i := 0))) O_none (O_some (L_var (i := 2)))) (L_tup (A_cons (L_var (i := 1)) A_nil))) (L_sl (L_fld (fa_meetings T) (L_var (i := 0))) (O_some (L_var (i := 2))) O_none)) A_nil))))))⟩)
theorem bodyE_Day___init__ (T : Txt K mg d) (cdv : Value) (A : Around) (outer : List Env) (s : Shared) (H : Hp) (E : XK) (hr : Room 4 (A.deeper (envOfC "Day.__init__" (defScope s_Day___init__) s.heap.objs.size d.f_Day___init__ cdv))) :
    ∃ t, PSs (cxOf (L2.CX P w) P w K mg base ["self", "length", "meetings"] "Day.__init__" (defScope s_Day___init__) d.f_Day___init__ cdv A outer s H E) (defBody s_Day___init__) t ∧ LSW K (WEc E) t (E_Day___init__ (cl d)) := by
    have hu := hr.units
    have hu5 := room5 hr
    exact ⟨_, (pss_cons (ps_if (pt_not (pt_val (pe_callR (sp := spD0 K 1 1 (D_is_positive (cl d))) (ok_is_positive T) (hr.mono (by decide)) rfl T.m_is_positive T.k_is_positive pass0 (pa_cons (pv 1) pa_nil)))) (pss_one (ps_raiseR (rs_InvalidDay T) (hr.mono (by decide)) rfl (takes_of rfl rfl rfl rfl) rfl T.m_InvalidDay pe_str)) pss_nil) (pss_cons (ps_if (pt_not (pt_val (pe_callR (sp := spD0 K 2 4 (D__are_meetings (cl d))) (ok__are_meetings T) (hr.mono (by decide)) rfl T.m__are_meetings T.k__are_meetings pass0 (pa_cons (pv 2) (pa_cons (pv 1) pa_nil))))) (pss_one (ps_raiseR (rs_InvalidDay T) (hr.mono (by decide)) rfl (takes_of rfl rfl rfl rfl) rfl T.m_InvalidDay pe_str)) pss_nil) (pss_cons (ps_fld (pv 0) (pv 1) rfl) (pss_one (ps_fld (pv 0) (pe_callTy call_tuple_of rfl T.b_tuple (by decide +kernel) (pa_cons (pv 2) pa_nil)) rfl))))), (LSW.seq (LSW.ite (L_tnot (L_test (Lz_call (A_cons (L_var (i := 1)) A_nil)))) (L_raise1 (LEW.no L_str)) LSW.nx) (LSW.seq (LSW.ite (L_tnot (L_test (Lz_call (A_cons (L_var (i := 2)) (A_cons (L_var (i := 1)) A_nil))))) (L_raise1 (LEW.no L_str)) LSW.nx) (LSW.seq (LSW.no (L_sfld (i := 0) (fs_Day_length T) (L_var (i := 1)))) (LSW.no (L_sfld (i := 0) (fs_Day_meetings T) (L_cb C_tuple (A_cons (L_var (i := 2)) A_nil)))))))⟩
theorem okE_Day_init2 (T : Txt K mg d) : FnR P w K mg base (L2.CX P w) 5 d.f_Day___init__ (spD K 3 3 (fun ρ => E_Day___init__ (cl d) (fillD 3 [] ρ))) :=
  mkDDE (T := E_Day___init__ (cl d)) (N := ["self", "length", "meetings"]) (dd := []) 3 1 T.F_Day___init__ (by simp [dv_Day]) rfl sc_Day___init__ (by decide) (fun G => RepA.nil)
    (fun _ _ _ _ _ _ _ us its h1 h2 => match us, its, h1, h2 with | [_, _, _], [_], _, _ => ⟨_, rfl, rfl⟩)
    (fun cdv A outer s H E hr => bodyE_Day___init__ T cdv A outer s H E hr)
end
end DD
set_option Elab.async false
set_option linter.all false
set_option maxRecDepth 100000
set_option maxHeartbeats 4000000
namespace DD
open PySem PySem.Spec PyProof.Rows L2 StX ClX DL
section
variable {P : Program} {w : World} {K : PySem.W.Frag} {mg : Str → Option Value} {base : Heap} {d : Ad}
theorem okE_Day_having (T : Txt K mg d) : FnR P w K mg base (L2.CX P w) 7 d.f_Day_having (spD K 2 4 (E_Day_having (cl d))) :=
  mkDE T.F_Day_having sc_Day_having (by decide) (fun _ _ _ _ _ _ us hl => match us, hl with | [_, _], _ => rfl) (fun cdv A outer s H E hr => by
    have hu := hr.units
    have hu5 := room5 hr
    exact ⟨_, (pss_cons (ps_if (pt_not (pt_val (pe_callR (sp := spD0 K 1 4 (D__is_meeting (cl d))) (ok__is_meeting T) (hr.mono (by decide)) rfl T.m__is_meeting T.k__is_meeting pass0 (pa_cons (pv 1) pa_nil)))) (pss_one (ps_raiseR (rs_InvalidDay T) (hr.mono (by decide)) rfl (takes_of rfl rfl rfl rfl) rfl T.m_InvalidDay pe_str)) pss_nil) (pss_cons (ps_set (i := 2) sc_Day_having.nd rfl (by first | exact Or.inl rfl | exact Or.inr rfl) (pe_callB (call_len2 (K := K)) (by rfl) T.b_len PySem.boot_len (pa_cons (pe_lc (own := [("one", 3)]) rfl sc_Day_having.nd (pi_seq (K := K) (pe_fldK (K := K) (pv 0) rfl)) (blkOk_by (N := ["self", "meeting", "place", "one"]) (sc := defScope s_Day_having) (by decide +kernel)) (fun _ _ _ _ _ => (pg_name (i := 3) sc_Day_having.nd rfl (by first | exact Or.inl rfl | exact Or.inr rfl))) (fun _ _ _ _ _ => (pts_one (pt_cmpR (op_lt2 (K := K) hu) (pe_ix (ix_3 (K := K)) (pv 3) pe_int (fun _ _ => rfl)) (pe_ix (ix_3 (K := K)) (pv 1) pe_int (fun _ _ => rfl)) (nomark _)))) (fun _ _ _ _ _ => (pv 3))) pa_nil))) (pss_one (ps_ret (pe_makeRS (sp := spD K 3 3 (fun ρ => E_Day___init__ (cl d) (fillD 3 [] ρ))) (E := fun σ => WE (WEc E) σ) T.mk_Day (okE_Day_init2 T) (hr.mono (by decide)) rfl T.m_Day (fun σ => passAt (takes_of rfl rfl rfl rfl) σ) (pa_cons (pe_fldK (K := K) (pv 0) rfl) (pa_cons (pe_op (op_add4 (K := K)) (pe_op (op_add4 (K := K)) (pe_slice (sl_3 (K := K)) (pe_fldK (K := K) (pv 0) rfl) po_none (po_some (pv 2))) (pe_tup (pa_cons (pv 1) pa_nil))) (pe_slice (sl_3 (K := K)) (pe_fldK (K := K) (pv 0) rfl) (po_some (pv 2)) po_none)) pa_nil))))))), (LSW.seq (LSW.ite (L_tnot (L_test (Lz_call (A_cons (L_var (i := 1)) A_nil)))) (L_raise1 (LEW.no L_str)) LSW.nx) (LSW.seq (LSW.no (L_set (L_cb C_len (A_cons (L_lcS (Et := E0) (Ea := E0) (L_fld (fa_meetings T) (L_var (i := 0))) (U_name (by decide)) (L_test (L_bin S_lt2 (L_bin S_ix (L_var (i := 3)) L_int) (L_bin S_ix (L_var (i := 1)) L_int))) (L_var (i := 3))) A_nil)))) (LSW.ret (LEW.of (te := fun E => StX.tMakeR _ _ E _) (fun E => L_make (L_no (A_cons (L_fld (fa_length T) (L_var (i := 0))) (A_cons (L_bin S_add4 (L_bin S_add4 (L_sl (L_fld (fa_meetings T) (L_var (i := 0))) O_none (O_some (L_var (i := 2)))) (L_tup (A_cons (L_var (i := 1)) A_nil))) (L_sl (L_fld (fa_meetings T) (L_var (i := 0))) (O_some (L_var (i := 2))) O_none)) A_nil))))))))⟩)
theorem ok_Day_without (T : Txt K mg d) : FnR P w K mg base CX0 7 d.f_Day_without (spD0 K 2 2 (D_Day_without (cl d))) :=
  mkDz T.F_Day_without sc_Day_without (by decide) (fun _ _ _ _ _ _ us hl => match us, hl with | [_, _], _ => rfl) (fun cdv A outer s H E hr => by
    have hu := hr.units
    have hu5 := room5 hr
    exact ⟨_, (pss_cons (ps_if (PW.pt (pw_or (pt_cmpR (op_lt2 (K := K) hu) (pv 1) pe_int (nomark _)) (pw_or1 (pt_cmpR op_ge (pv 1) (pe_callB (call_len2 (K := K)) (by rfl) T.b_len PySem.boot_len (pa_cons (pe_fldK (K := K) (pv 0) rfl) pa_nil)) (nomark _))))) (pss_one ps_dead) pss_nil) (pss_one (ps_ret (pe_makeR (sp := spD0 K 3 3 (fun ρ => D_Day___init__ (cl d) (fillD 3 [] ρ))) T.mk_Day (ok_Day_init2 T) (hr.mono (by decide)) rfl T.m_Day pass0 (pa_cons (pe_fldK (K := K) (pv 0) rfl) (pa_cons (pe_op (op_add4 (K := K)) (pe_slice (sl_3 (K := K)) (pe_fldK (K := K) (pv 0) rfl) po_none (po_some (pv 1))) (pe_slice (sl_3 (K := K)) (pe_fldK (K := K) (pv 0) rfl) (po_some (pe_op (op_add4 (K := K)) (pv 1) pe_int)) po_none)) pa_nil)))))), (L_seq (L_if (L_tor (L_test (L_bin S_lt2 (L_var (i := 1)) L_int)) (L_test (L_bin S_ge (L_var (i := 1)) (L_cb C_len (A_cons (L_fld (fa_meetings T) (L_var (i := 0))) A_nil))))) L_dead L_next) (L_ret (Lz_make (A_cons (L_fld (fa_length T) (L_var (i := 0))) (A_cons (L_bin S_add4 (L_sl (L_fld (fa_meetings T) (L_var (i := 0))) O_none (O_some (L_var (i := 1)))) (L_sl (L_fld (fa_meetings T) (L_var (i := 0))) (O_some (L_bin S_add4 (L_var (i := 1)) L_int)) O_none)) A_nil)))))⟩)
theorem okE_Day_without (T : Txt K mg d) : FnR P w K mg base (L2.CX P w) 7 d.f_Day_without (spD K 2 2 (E_Day_without (cl d))) :=
  mkDE T.F_Day_without sc_Day_without (by decide) (fun _ _ _ _ _ _ us hl => match us, hl with | [_, _], _ => rfl) (fun cdv A outer s H E hr => by
    have hu := hr.units
    have hu5 := room5 hr
    exact ⟨_, (pss_cons (ps_if (PW.pt (pw_or (pt_cmpR (op_lt2 (K := K) hu) (pv 1) pe_int (nomark _)) (pw_or1 (pt_cmpR op_ge (pv 1) (pe_callB (call_len2 (K := K)) (by rfl) T.b_len PySem.boot_len (pa_cons (pe_fldK (K := K) (pv 0) rfl) pa_nil)) (nomark _))))) (pss_one (ps_raiseI (rs_NoMeeting T) (hr.mono (by decide)) rfl (takes_of rfl rfl rfl rfl) rfl T.m_NoMeeting (pv 1))) pss_nil) (pss_one (ps_ret (pe_makeRS (sp := spD K 3 3 (fun ρ => E_Day___init__ (cl d) (fillD 3 [] ρ))) (E := fun σ => WE (WEc E) σ) T.mk_Day (okE_Day_init2 T) (hr.mono (by decide)) rfl T.m_Day (fun σ => passAt (takes_of rfl rfl rfl rfl) σ) (pa_cons (pe_fldK (K := K) (pv 0) rfl) (pa_cons (pe_op (op_add4 (K := K)) (pe_slice (sl_3 (K := K)) (pe_fldK (K := K) (pv 0) rfl) po_none (po_some (pv 1))) (pe_slice (sl_3 (K := K)) (pe_fldK (K := K) (pv 0) rfl) (po_some (pe_op (op_add4 (K := K)) (pv 1) pe_int)) po_none)) pa_nil)))))), (LSW.seq (LSW.ite (L_tor (L_test (L_bin S_lt2 (L_var (i := 1)) L_int)) (L_test (L_bin S_ge (L_var (i := 1)) (L_cb C_len (A_cons (L_fld (fa_meetings T) (L_var (i := 0))) A_nil))))) (L_raise1 (LEW.no (L_var (i := 1)))) LSW.nx) (LSW.ret (LEW.of (te := fun E => StX.tMakeR _ _ E _) (fun E => L_make (L_no (A_cons (L_fld (fa_length T) (L_var (i := 0))) (A_cons (L_bin S_add4 (L_sl (L_fld (fa_meetings T) (L_var (i := 0))) O_none (O_some (L_var (i := 1)))) (L_sl (L_fld (fa_meetings T) (L_var (i := 0))) (O_some (L_bin S_add4 (L_var (i := 1)) L_int)) O_none)) A_nil)))))))⟩)
theorem ok__law_choose (T : Txt K mg d) : FnR P w K mg base CX0 1 d.f__law_choose (spD0 K 2 4 (D__law_choose (cl d))) :=
  mkDz T.F__law_choose sc__law_choose (by decide) (fun _ _ _ _ _ _ us hl => match us, hl with | [_, _], _ => rfl) (fun cdv A outer s H E hr => by
    have hu := hr.units
    have hu5 := room5 hr
    exact ⟨_, (pss_cons (ps_if (pt_cmpR op_gt (pe_ix (ix_3 (K := K)) (pv 0) pe_int (fun _ _ => rfl)) pe_int (nomark _)) (pss_cons (ps_set (i := 3) sc__law_choose.nd rfl (by first | exact Or.inl rfl | exact Or.inr rfl) (pe_op op_mod (pe_callTy call_int2 rfl T.b_int (by decide +kernel) (pa_cons (pe_ix (ix_3 (K := K)) (pv 0) pe_int (fun _ _ => rfl)) pa_nil)) (pv 1))) (pss_cons (ps_asg (pe_op op_fdiv (pe_ix (ix_3 (K := K)) (pv 0) pe_int (fun _ _ => rfl)) (pv 1)) (pg_sub (pv 0) pe_int set_list)) (pss_one (ps_ret (pv 3))))) pss_nil) (pss_cons (ps_set (i := 2) sc__law_choose.nd rfl (by first | exact Or.inl rfl | exact Or.inr rfl) (pe_op op_mod (pe_callTy call_int2 rfl T.b_int (by decide +kernel) (pa_cons (pe_op (op_add4 (K := K)) (pe_op op_mul (pe_ix (ix_3 (K := K)) (pv 0) pe_int (fun _ _ => rfl)) pe_int) pe_int) pa_nil)) pe_int)) (pss_cons (ps_asg (pe_op (op_add4 (K := K)) (pe_op op_mod (pe_callTy call_int2 rfl T.b_int (by decide +kernel) (pa_cons (pe_op (op_add4 (K := K)) (pe_op op_mul (pv 2) pe_int) pe_int) pa_nil)) pe_int) pe_int) (pg_sub (pv 0) pe_int set_list)) (pss_one (ps_ret (pe_op op_mod (pe_callTy call_int2 rfl T.b_int (by decide +kernel) (pa_cons (pe_op op_fdiv (pe_op (op_add4 (K := K)) (pe_op op_mul (pv 2) pe_int) (pe_ix (ix_3 (K := K)) (pv 0) pe_int (fun _ _ => rfl))) pe_int) pa_nil)) (pv 1))))))), (L_seq (L_if (L_test (L_bin S_gt (L_bin S_ix (L_var (i := 0)) L_int) L_int)) (L_seq (L_set (L_bin S_mod (L_cb C_int (A_cons (L_bin S_ix (L_var (i := 0)) L_int) A_nil)) (L_var (i := 1)))) (L_seq (L_put (i := 0) (L_bin S_fdiv (L_bin S_ix (L_var (i := 0)) L_int) (L_var (i := 1))) L_int) (L_ret (L_var (i := 3))))) L_next) (L_seq (L_set (L_bin S_mod (L_cb C_int (A_cons (L_bin S_add4 (L_bin S_mul (L_bin S_ix (L_var (i := 0)) L_int) L_int) L_int) A_nil)) L_int)) (L_seq (L_put (i := 0) (L_bin S_add4 (L_bin S_mod (L_cb C_int (A_cons (L_bin S_add4 (L_bin S_mul (L_var (i := 2)) L_int) L_int) A_nil)) L_int) L_int) L_int) (L_ret (L_bin S_mod (L_cb C_int (A_cons (L_bin S_fdiv (L_bin S_add4 (L_bin S_mul (L_var (i := 2)) L_int) (L_bin S_ix (L_var (i := 0)) L_int)) L_int) A_nil)) (L_var (i := 1)))))))⟩)
theorem ok__law_one_of (T : Txt K mg d) : FnR P w K mg base CX0 2 d.f__law_one_of (spD0 K 2 2 (D__law_one_of (cl d))) :=
  mkDz T.F__law_one_of sc__law_one_of (by decide) (fun _ _ _ _ _ _ us hl => match us, hl with | [_, _], _ => rfl) (fun cdv A outer s H E hr => by
    have hu := hr.units
    have hu5 := room5 hr
    exact ⟨_, (pss_one (ps_ret (pe_ix (ix_3 (K := K)) (pv 1) (pe_callR (sp := spD0 K 2 4 (D__law_choose (cl d))) (ok__law_choose T) (hr.mono (by decide)) rfl T.m__law_choose T.k__law_choose pass0 (pa_cons (pv 0) (pa_cons (pe_callB (call_len2 (K := K)) (by rfl) T.b_len PySem.boot_len (pa_cons (pv 1) pa_nil)) pa_nil))) (fun _ _ => rfl)))), (L_ret (L_bin S_ix (L_var (i := 1)) (Lz_lend (i := 0) (A_cons (L_cb C_len (A_cons (L_var (i := 1)) A_nil)) A_nil))))⟩)
theorem ok__law_day (T : Txt K mg d) : FnR P w K mg base CX0 3 d.f__law_day (spD0 K 3 9 (D__law_day (cl d))) :=
  mkDz T.F__law_day sc__law_day (by decide) (fun _ _ _ _ _ _ us hl => match us, hl with | [_, _, _], _ => rfl) (fun cdv A outer s H E hr => by
    have hu := hr.units
    have hu5 := room5 hr
    exact ⟨_, (pss_cons (ps_par3 (i := 4) (j := 5) (l := 6) rfl sc__law_day.nd rfl rfl rfl (by decide) (by decide) (by decide) rfl rfl rfl (pa_cons (pe_op (op_add4 (K := K)) pe_int (pe_callR (sp := spD0 K 2 4 (D__law_choose (cl d))) (ok__law_choose T) (hr.mono (by decide)) rfl T.m__law_choose T.k__law_choose pass0 (pa_cons (pv 0) (pa_cons (pv 1) pa_nil)))) (pa_cons (pe_lst pa_nil) (pa_cons pe_int pa_nil))) (by rfl)) (pss_cons (ps_for PassesOwn.never rfl (pi_range1 rfl T.b_range (pa_cons pe_int pa_nil)) (pg_name (i := 3) sc__law_day.nd rfl (by first | exact Or.inl rfl | exact Or.inr rfl)) (pss_cons (ps_set (i := 7) sc__law_day.nd rfl (by first | exact Or.inl rfl | exact Or.inr rfl) (pe_op (op_add4 (K := K)) (pv 6) (pe_callR (sp := spD0 K 2 2 (D__law_one_of (cl d))) (ok__law_one_of T) (hr.mono (by decide)) rfl T.m__law_one_of T.k__law_one_of pass0 (pa_cons (pv 0) (pa_cons (pe_lst (pa_cons pe_int (pa_cons pe_int (pa_cons pe_int (pa_cons pe_int (pa_cons pe_int (pa_cons pe_int (pa_cons pe_int pa_nil)))))))) pa_nil))))) (pss_cons (ps_set (i := 8) sc__law_day.nd rfl (by first | exact Or.inl rfl | exact Or.inr rfl) (pe_op (op_add4 (K := K)) (pv 7) (pe_callR (sp := spD0 K 2 2 (D__law_one_of (cl d))) (ok__law_one_of T) (hr.mono (by decide)) rfl T.m__law_one_of T.k__law_one_of pass0 (pa_cons (pv 0) (pa_cons (pe_lst (pa_cons pe_int (pa_cons pe_int (pa_cons pe_int (pa_cons pe_int (pa_cons pe_int (pa_cons pe_int pa_nil))))))) pa_nil))))) (pss_one (ps_if (pt_cmpR op_le (pv 8) (pv 4) (nomark _)) (pss_cons (ps_expr (pe_bm PySem.F.plainAttrs_list PySem.F.slot_list_append PySem.F.type_list_append mt_append (pv 5) (pa_cons (pe_tup (pa_cons (pv 7) (pa_cons (pv 8) (pa_cons (pe_and (pv 2) (pe_one (pe_cmpR (op_eq2 (K := K) hu) (pe_callR (sp := spD0 K 2 4 (D__law_choose (cl d))) (ok__law_choose T) (hr.mono (by decide)) rfl T.m__law_choose T.k__law_choose pass0 (pa_cons (pv 0) (pa_cons pe_int pa_nil))) pe_int (nomark _)))) pa_nil)))) pa_nil))) (pss_one (ps_set (i := 6) sc__law_day.nd rfl (by first | exact Or.inl rfl | exact Or.inr rfl) (pv 8)))) pss_nil))))) (pss_one (ps_ret (pe_tup (pa_cons (pv 4) (pa_cons (pv 5) pa_nil))))))), (L_seq (L_par3 (N_cons (L_bin S_add4 L_int (Lz_lend (i := 0) (A_cons (L_var (i := 1)) A_nil))) (N_cons (L_lst A_nil) (N_cons L_int N_nil)))) (L_seq (L_for (vs := [3]) (I_rng1 L_int) (U_name (by decide)) (L_seq (L_set (L_bin S_add4 (L_var (i := 6)) (Lz_lend (i := 0) (A_cons (L_lst (A_cons L_int (A_cons L_int (A_cons L_int (A_cons L_int (A_cons L_int (A_cons L_int (A_cons L_int A_nil)))))))) A_nil)))) (L_seq (L_set (L_bin S_add4 (L_var (i := 7)) (Lz_lend (i := 0) (A_cons (L_lst (A_cons L_int (A_cons L_int (A_cons L_int (A_cons L_int (A_cons L_int (A_cons L_int A_nil))))))) A_nil)))) (L_if (L_test (L_bin S_le (L_var (i := 8)) (L_var (i := 4)))) (L_seq (L_drop (L_mut (i := 5) M_append (A_cons (L_tup (A_cons (L_var (i := 7)) (A_cons (L_var (i := 8)) (A_cons (L_and (L_var (i := 2)) (L_bin S_eq (Lz_lend (i := 0) (A_cons L_int A_nil)) L_int)) A_nil)))) A_nil))) (L_set (L_var (i := 8)))) L_next)))) (L_ret (L_tup (A_cons (L_var (i := 4)) (A_cons (L_var (i := 5)) A_nil))))))⟩)
theorem ok__law_day_text (T : Txt K mg d) : FnR P w K mg base CX0 1 d.f__law_day_text (spD0 K 1 5 (D__law_day_text (cl d))) :=
  mkDz T.F__law_day_text sc__law_day_text (by decide) (fun _ _ _ _ _ _ us hl => match us, hl with | [_], _ => rfl) (fun cdv A outer s H E hr => by
    have hu := hr.units
    have hu5 := room5 hr
    exact ⟨_, (pss_cons (ps_setLc (i := 1) (own := [("_law_begin", 2), ("_law_end", 3), ("_law_secret", 4)]) rfl sc__law_day_text.nd rfl rfl (by rfl) (pi_seq (K := K) (pe_ix (ix_3 (K := K)) (pv 0) pe_int (fun _ _ => rfl))) (blkOk_by (N := ["_law_day_here", "_law_texts", "_law_begin", "_law_end", "_law_secret"]) (sc := defScope s__law_day_text) (by decide +kernel)) (fun _ _ _ _ _ => (pg_tupK (K := K) (n := 3) rfl (pgs_cons (pg_name (i := 2) sc__law_day_text.nd rfl (by first | exact Or.inl rfl | exact Or.inr rfl)) (pgs_cons (pg_name (i := 3) sc__law_day_text.nd rfl (by first | exact Or.inl rfl | exact Or.inr rfl)) (pgs_cons (pg_name (i := 4) sc__law_day_text.nd rfl (by first | exact Or.inl rfl | exact Or.inr rfl)) pgs_nil))))) (fun _ _ _ _ _ => pts_nil) (fun _ _ _ _ _ => (pe_op (op_add4 (K := K)) (pe_op (op_add4 (K := K)) (pe_op (op_add4 (K := K)) (pe_callTy call_str_int rfl T.b_str (by decide +kernel) (pa_cons (pv 2) pa_nil)) pe_str) (pe_callTy call_str_int rfl T.b_str (by decide +kernel) (pa_cons (pv 3) pa_nil))) (pe_ifExp (pt_val (pv 4)) pe_str pe_str)))) (pss_one (ps_ret (pe_op (op_add4 (K := K)) (pe_op (op_add4 (K := K)) (pe_callTy call_str_int rfl T.b_str (by decide +kernel) (pa_cons (pe_ix (ix_3 (K := K)) (pv 0) pe_int (fun _ _ => rfl)) pa_nil)) pe_str) (pe_ifExp (pt_cmpR (op_ne2 (K := K) hu) (pv 1) (pe_lst pa_nil) (nomark _)) (pe_bm PySem.F.plainAttrs_str PySem.F.slot_str_join PySem.F.type_str_join mt_join pe_str (pa_cons (pv 1) pa_nil)) pe_str))))), (L_seq (L_set (L_lcS (Et := E0) (Ea := E0) (L_bin S_ix (L_var (i := 0)) L_int) (U_tup (Us_cons (U_name (by decide)) (Us_cons (U_name (by decide)) (Us_cons (U_name (by decide)) Us_nil)))) L_yes (L_bin S_add4 (L_bin S_add4 (L_bin S_add4 (L_cb C_str (A_cons (L_var (i := 2)) A_nil)) L_str) (L_cb C_str (A_cons (L_var (i := 3)) A_nil))) (L_ifE (L_test (L_var (i := 4))) L_str L_str)))) (L_ret (L_bin S_add4 (L_bin S_add4 (L_cb C_str (A_cons (L_bin S_ix (L_var (i := 0)) L_int) A_nil)) L_str) (L_ifE (L_test (L_bin S_ne (L_var (i := 1)) (L_lst A_nil))) (L_mt M_join L_str (A_cons (L_var (i := 1)) A_nil)) L_str))))⟩)
theorem gt__law_heard (T : Txt K mg d) {N : List Str} {qual : Str} {sc : Scope} {f : Addr} {cdv0 : Value} {A : Around} {outer : List Env} {s : Shared} {H : Hp} {E : XK} (hr : Room 6 (cxOf CX0 P w K mg base N qual sc f cdv0 A outer s H E).nox.A) (q : Str) :
    ∀ cdv, LamX.GivesTo (cxOf CX0 P w K mg base N qual sc f cdv0 A outer s H E).nox ["_law_look", "_law_heard_here", "e"] "_law_heard" (defScope s__law_heard) d.f__law_heard cdv (defBody s__law_heard) "_law_look" q (TTh K d.C_Day d.C_NoMeeting d.C_InvalidDay (spD0 K 1 1 (D_Day___str__ (cl d)))) := by
  intro cdv f' c' s1 H1 Q tl act hc h
  have hr := hr.deeper (envOfC "_law_heard" (defScope s__law_heard) s1.heap.objs.size d.f__law_heard cdv)
  exact ⟨_, (pss_cons (ps_set (i := 1) sc__law_heard.nd rfl (by first | exact Or.inl rfl | exact Or.inr rfl) pe_str) (pss_cons (ps_try_all (i := 2) rfl rfl sc__law_heard.nd rfl rfl (fun W pn xe tk po => (show PSs _ _ (tbH d.C_Day (spD0 K 1 1 (D_Day___str__ (cl d))) f' c' q tl W) from ⟨fun pins s' σ H' D I h' => by
      obtain ⟨Ech, hW, h3⟩ := h'
      refine PSs.run (X := (cxOf C8.CX0 P w K mg base ["_law_look", "_law_heard_here", "e"] "_law_heard" (defScope s__law_heard) d.f__law_heard cdv (cxOf CX0 P w K mg base N qual sc f cdv0 A outer s H E).nox.A (cxOf CX0 P w K mg base N qual sc f cdv0 A outer s H E).nox.stack s1 H1 C8.E0).tr pn xe) ?_ pins s' σ H' D I h3
      exact pss_one (ps_set (i := 1) sc__law_heard.nd rfl (by first | exact Or.inl rfl | exact Or.inr rfl) (pe_callTy (call_strO (sp := (spD0 K 1 1 (D_Day___str__ (cl d)))) T.s_Day T.sf_Day (ok_Day___str__ T) (hr.mono (by decide)) pass0) rfl T.b_str (by decide +kernel) (pa_cons (act _ pn xe Ech _ _ (takes_len rfl tk) hW) pa_nil)))⟩)) (.cons ⟨rfl, by decide, Or.inl T.m_NoMeeting⟩ (fun a oe cls dd pn hz hf => (pss_one (ps_set (i := 1) sc__law_heard.nd rfl (by first | exact Or.inl rfl | exact Or.inr rfl) (pe_ifExp (PW.pt (pw_and (pt_val (pe_callB (call_isX T.xc_NoMeeting hz hf) (by rfl) T.b_isinstance (by decide +kernel) (pa_cons (pv 2) (pa_cons (pe_bltn (v := .ty "IndexError") rfl T.b_IndexError (by decide +kernel) rfl) pa_nil)))) (pw_and1 (pt_not (pt_val (pe_callB (call_isX T.xc_NoMeeting hz hf) (by rfl) T.b_isinstance (by decide +kernel) (pa_cons (pv 2) (pa_cons (pe_glob (v := .ref d.C_DimError) rfl T.m_DimError rfl) pa_nil)))))))) (pe_tup (pa_cons pe_str (pa_cons (pe_xf T.xf_NoMeeting T.no_NoMeeting hz hf (pv 2)) pa_nil))) pe_non)))) (.cons ⟨rfl, by decide, Or.inl T.m_InvalidDay⟩ (fun a oe cls dd pn hz hf => (pss_one (ps_set (i := 1) sc__law_heard.nd rfl (by first | exact Or.inl rfl | exact Or.inr rfl) (pe_op (op_add4 (K := K)) pe_str (pe_xf T.xf_InvalidDay T.no_InvalidDay hz hf (pv 2)))))) .nil))) (pss_one (ps_ret (pv 1))))), heard_body rfl (.cons (cmCs_ok T.te_NoMeeting (by intro B hB; simp only [List.mem_cons, List.not_mem_nil, or_false] at hB; exact hB ▸ T.tn_InvalidDay_NoMeeting)) (fun a dd x => (Lx_set (Lx_ifE (Lx_tand (Lx_test (Lx_isB T.kx_NoMeeting_IndexError)) (Lx_tnot (Lx_test (Lx_is T.kx_NoMeeting_DimError)))) (Lx_tup (Ax_cons (LGx.of L_str) (Ax_cons Lx_fld Ax_nil))) (LGx.of L_non)))) (.cons (cmCs_ok T.te_InvalidDay (by intro B hB; cases hB)) (fun a dd x => (Lx_set (Lx_bin S_add4 (LGx.of L_str) Lx_fld))) .nil)) (heard_pick (Ne.symm (DL.ne_exm T.tn_InvalidDay_NoMeeting T.te_NoMeeting))) h hc⟩
theorem ok__law_seed (T : Txt K mg d) : FnR P w K mg base CX0 1 d.f__law_seed (spD0 K 2 3 (D__law_seed (cl d))) :=
  mkDz T.F__law_seed sc__law_seed (by decide) (fun _ _ _ _ _ _ us hl => match us, hl with | [_, _], _ => rfl) (fun cdv A outer s H E hr => by
    have hu := hr.units
    have hu5 := room5 hr
    exact ⟨_, (pss_cons (ps_set (i := 2) sc__law_seed.nd rfl (by first | exact Or.inl rfl | exact Or.inr rfl) (pe_op (op_add4 (K := K)) (pe_op op_mul pe_int (pv 1)) pe_int)) (pss_cons (ps_if (pt_cmpR (op_lt2 (K := K) hu) (pv 1) (pe_callB (call_len2 (K := K)) (by rfl) T.b_len PySem.boot_len (pa_cons (pv 0) pa_nil)) (nomark _)) (pss_one (ps_set (i := 2) sc__law_seed.nd rfl (by first | exact Or.inl rfl | exact Or.inr rfl) (pe_callB call_abs (by rfl) T.b_abs (by decide +kernel) (pa_cons (pe_ix (ix_3 (K := K)) (pv 0) (pv 1) (fun _ _ => rfl)) pa_nil)))) (pss_one (ps_if (pt_cmpR op_gt (pe_callB (call_len2 (K := K)) (by rfl) T.b_len PySem.boot_len (pa_cons (pv 0) pa_nil)) pe_int (nomark _)) (pss_one (ps_set (i := 2) sc__law_seed.nd rfl (by first | exact Or.inl rfl | exact Or.inr rfl) (pe_op (op_add4 (K := K)) (pv 2) (pe_op op_mul (pe_op op_mod (pe_callTy call_int2 rfl T.b_int (by decide +kernel) (pa_cons (pe_callB call_abs (by rfl) T.b_abs (by decide +kernel) (pa_cons (pe_ix (ix_3 (K := K)) (pv 0) (pe_op op_mod (pe_callTy call_int2 rfl T.b_int (by decide +kernel) (pa_cons (pv 1) pa_nil)) (pe_callB (call_len2 (K := K)) (by rfl) T.b_len PySem.boot_len (pa_cons (pv 0) pa_nil))) (fun _ _ => rfl)) pa_nil)) pa_nil)) pe_int) pe_int)))) pss_nil))) (pss_one (ps_ret (pe_lst (pa_cons (pe_ifExp (pt_cmpR op_ge (pv 2) (pe_op op_pow pe_int pe_int) (nomark _)) (pv 2) pe_int) (pa_cons (pe_op (op_add4 (K := K)) (pe_op op_mod (pe_callTy call_int2 rfl T.b_int (by decide +kernel) (pa_cons (pe_op (op_add4 (K := K)) (pe_op op_mul (pe_op op_mod (pe_callTy call_int2 rfl T.b_int (by decide +kernel) (pa_cons (pv 2) pa_nil)) pe_int) pe_int) (pe_op op_mul pe_int (pv 1))) pa_nil)) pe_int) pe_int) pa_nil))))))), (L_seq (L_set (L_bin S_add4 (L_bin S_mul L_int (L_var (i := 1))) L_int)) (L_seq (L_if (L_test (L_bin S_lt2 (L_var (i := 1)) (L_cb C_len (A_cons (L_var (i := 0)) A_nil)))) (L_set (L_cb C_abs (A_cons (L_bin S_ix (L_var (i := 0)) (L_var (i := 1))) A_nil))) (L_if (L_test (L_bin S_gt (L_cb C_len (A_cons (L_var (i := 0)) A_nil)) L_int)) (L_set (L_bin S_add4 (L_var (i := 2)) (L_bin S_mul (L_bin S_mod (L_cb C_int (A_cons (L_cb C_abs (A_cons (L_bin S_ix (L_var (i := 0)) (L_bin S_mod (L_cb C_int (A_cons (L_var (i := 1)) A_nil)) (L_cb C_len (A_cons (L_var (i := 0)) A_nil)))) A_nil)) A_nil)) L_int) L_int))) L_next)) (L_ret (L_lst (A_cons (L_ifE (L_test (L_bin S_ge (L_var (i := 2)) (L_bin S_pow L_int L_int))) (L_var (i := 2)) L_int) (A_cons (L_bin S_add4 (L_bin S_mod (L_cb C_int (A_cons (L_bin S_add4 (L_bin S_mul (L_bin S_mod (L_cb C_int (A_cons (L_var (i := 2)) A_nil)) L_int) L_int) (L_bin S_mul L_int (L_var (i := 1)))) A_nil)) L_int) L_int) A_nil))))))⟩)
end
end DD
set_option linter.all false
set_option maxRecDepth 100000
set_option maxHeartbeats 1000000
namespace DL
open PySem PySem.Spec PyProof.Rows L2 DD
section
variable {α β : Type} {ρ : En}
@[simp] theorem r_bind_ok {a : α} {U : α → En → Res β} : (Res.ok a ρ).bind U = U a ρ := rfl
@[simp] theorem r_bind_st {U : α → En → Res β} : (Res.stuck : Res α).bind U = .stuck := rfl
@[simp] theorem r_sb_ok {a : α} {U : α → En → SR} : (Res.ok a ρ).sb U = U a ρ := rfl
@[simp] theorem r_sb_st {U : α → En → SR} : (Res.stuck : Res α).sb U = .stuck := rfl
end
@[simp] theorem q_dVar {i : Nat} {ρ : En} : dVar i ρ = (match ρ[i]? with
  | some (.val d) => .ok (.val d) ρ
  | some (.own _) | some (.bor _) | some (.lck _) => .ok (.own i) ρ
  | _ => .stuck) := rfl
@[simp] theorem q_dC {d : D} {ρ : En} : dC d ρ = (.ok (.val d) ρ) := rfl
@[simp] theorem q_dBin {op : D2} {A B : En → Res X} {ρ : En} : dBin op A B ρ = ((A ρ).bind fun a ρ1 => (B ρ1).bind fun b ρ2 => ap2 op a.settle b ρ2) := rfl
@[simp] theorem q_dIsN {A : En → Res X} {ρ : En} : dIsN A ρ = ((A ρ).bind fun a ρ1 => match deref ρ1 a with
  | some d => .ok (.val (.bl d.isNon)) ρ1
  | none => .stuck) := rfl
@[simp] theorem q_dNotN {A : En → Res X} {ρ : En} : dNotN A ρ = ((A ρ).bind fun a ρ1 => match deref ρ1 a with
  | some d => .ok (.val (.bl !d.isNon)) ρ1
  | none => .stuck) := rfl
@[simp] theorem q_dTest {A : En → Res X} {ρ : En} : dTest A ρ = ((A ρ).bind fun a ρ1 => lift (asB ρ1 a) ρ1) := rfl
@[simp] theorem q_dNot {A : En → Res X} {ρ : En} : dNot A ρ = ((A ρ).bind fun a ρ1 => lift ((asB ρ1 a).map fun b => X.val (.bl !b)) ρ1) := rfl
@[simp] theorem q_dAnd {A B : En → Res X} {ρ : En} : dAnd A B ρ = ((A ρ).bind fun a ρ1 => match asB ρ1 a with
  | some true => B ρ1
  | some false => .ok (.val (.bl false)) ρ1
  | none => .stuck) := rfl
@[simp] theorem q_dOr {A B : En → Res X} {ρ : En} : dOr A B ρ = ((A ρ).bind fun a ρ1 => match asB ρ1 a with
  | some false => B ρ1
  | some true => .ok (.val (.bl true)) ρ1
  | none => .stuck) := rfl
@[simp] theorem q_tnd {T U : En → Res Bool} {ρ : En} : tnd T U ρ = ((T ρ).bind fun a ρ1 => match a with
  | true => U ρ1
  | false => .ok false ρ1) := rfl
@[simp] theorem q_tor {T U : En → Res Bool} {ρ : En} : tor T U ρ = ((T ρ).bind fun a ρ1 => match a with
  | true => .ok true ρ1
  | false => U ρ1) := rfl
@[simp] theorem q_tnot {T : En → Res Bool} {ρ : En} : tnot T ρ = ((T ρ).bind fun a ρ1 => .ok (!a) ρ1) := rfl
@[simp] theorem q_dIfE {T : En → Res Bool} {A B : En → Res X} {ρ : En} : dIfE T A B ρ = ((T ρ).bind fun a ρ1 => match a with
  | true => A ρ1
  | false => B ρ1) := rfl
@[simp] theorem q_dChain {op op' : D2} {A B C : En → Res X} {ρ : En} : dChain op op' A B C ρ = ((A ρ).bind fun a ρ1 => (B ρ1).bind fun b ρ2 => (ap2 op a.settle b.settle ρ2).bind fun z ρ3 => match asB ρ3 z with
  | some true => (C ρ3).bind fun c ρ4 => ap2 op' b.settle c ρ4
  | some false => .ok (.val (.bl false)) ρ3
  | none => .stuck) := rfl
@[simp] theorem q_aNil  {ρ : En} : aNil  ρ = (.ok [] ρ) := rfl
@[simp] theorem q_aCons {A : En → Res X} {T : En → Res (List X)} {ρ : En} : aCons A T ρ = ((A ρ).bind fun a ρ1 => (T ρ1).bind fun as ρ2 => .ok (a.settle :: as) ρ2) := rfl
@[simp] theorem q_dTup {T : En → Res (List X)} {ρ : En} : dTup T ρ = ((T ρ).bind fun xs ρ1 => match toVals ρ1 xs with
  | some (ds, ρ2) => if ds.length ≤ sizeLine then .ok (.val (.tup ds)) ρ2 else .stuck
  | none => .stuck) := rfl
@[simp] theorem q_dLst {T : En → Res (List X)} {ρ : En} : dLst T ρ = ((T ρ).bind fun xs ρ1 => match toVals ρ1 xs with
  | some (ds, ρ2) => if ds.length ≤ sizeLine then .ok (.new (.lst ds)) ρ2 else .stuck
  | none => .stuck) := rfl
@[simp] theorem q_oNone  {ρ : En} : oNone  ρ = (.ok none ρ) := rfl
@[simp] theorem q_oSome {A : En → Res X} {ρ : En} : oSome A ρ = ((A ρ).bind fun a ρ1 => lift ((asI ρ1 a).map some) ρ1) := rfl
@[simp] theorem q_dSl {A : En → Res X} {L U : En → Res (Option Int)} {ρ : En} : dSl A L U ρ = ((A ρ).bind fun a ρ1 => (L ρ1).bind fun lo ρ2 => (U ρ2).bind fun hi ρ3 => match deref ρ3 a.settle with
  | some d => lift (opSl d lo hi) ρ3
  | none => .stuck) := rfl
@[simp] theorem q_dCB {f : List D → Option X} {T : En → Res (List X)} {ρ : En} : dCB f T ρ = ((T ρ).bind (apN f)) := rfl
@[simp] theorem q_g1 {A : En → Res X} {ρ : En} : g1 A ρ = ((A ρ).bind fun a ρ1 => lift ((asI ρ1 a).map fun n => (0, n)) ρ1) := rfl
@[simp] theorem q_g2 {A B : En → Res X} {ρ : En} : g2 A B ρ = ((A ρ).bind fun a ρ1 => (B ρ1).bind fun b ρ2 => match asI ρ2 a.settle, asI ρ2 b with
  | some i, some j => .ok (i, j) ρ2
  | _, _ => .stuck) := rfl
@[simp] theorem q_dFmt {A : En → Res X} {ρ : En} : dFmt A ρ = ((A ρ).bind fun a ρ1 => match deref ρ1 a with
  | some d => lift ((fmtD d).map fun s => X.val (.str s)) ρ1
  | none => .stuck) := rfl
@[simp] theorem q_jNil  {acc : Str} {ρ : En} : jNil  acc ρ = (.ok acc ρ) := rfl
@[simp] theorem q_jCons {A : En → Res X} {J : Str → En → Res Str} {acc : Str} {ρ : En} : jCons A J acc ρ = ((A ρ).bind fun a ρ1 => match deref ρ1 a with
  | some (.str y) => if (acc ++ y).length ≤ sizeLine then J (acc ++ y) ρ1 else .stuck
  | _ => .stuck) := rfl
@[simp] theorem q_dJoin {J : Str → En → Res Str} {ρ : En} : dJoin J ρ = ((J Str.empty ρ).bind fun s ρ1 => .ok (.val (.str s)) ρ1) := rfl
@[simp] theorem q_dMt {f : D → List D → Option X} {A : En → Res X} {T : En → Res (List X)} {ρ : En} : dMt f A T ρ = ((A ρ).bind fun a ρ1 => match deref ρ1 a with
  | some (.str s) => (T ρ1).bind fun xs ρ2 => match derefs ρ2 xs with
    | some ds => lift (f (.str s) ds) ρ2
    | none => .stuck
  | _ => .stuck) := rfl
@[simp] theorem q_sNext  {ρ : En} : sNext  ρ = (.nx ρ) := rfl
@[simp] theorem q_sSeq {S U : En → SR} {ρ : En} : sSeq S U ρ = (match S ρ with
  | .nx ρ1 => U ρ1
  | r => r) := rfl
@[simp] theorem q_sDrop {A : En → Res X} {ρ : En} : sDrop A ρ = ((A ρ).sb fun _ ρ1 => .nx ρ1) := rfl
@[simp] theorem q_sRet {A : En → Res X} {ρ : En} : sRet A ρ = ((A ρ).sb fun a ρ1 => .rt a ρ1) := rfl
@[simp] theorem q_sRetN  {ρ : En} : sRetN  ρ = (.rt (.val .non) ρ) := rfl
@[simp] theorem q_sBreak  {ρ : En} : sBreak  ρ = (.bk ρ) := rfl
@[simp] theorem q_sCont  {ρ : En} : sCont  ρ = (.ct ρ) := rfl
@[simp] theorem q_sIf {T : En → Res Bool} {S U : En → SR} {ρ : En} : sIf T S U ρ = ((T ρ).sb fun b ρ1 => match b with
  | true => S ρ1
  | false => U ρ1) := rfl
@[simp] theorem q_sSet {i : Nat} {A : En → Res X} {ρ : En} : sSet i A ρ = ((A ρ).sb fun a ρ1 => putX i a ρ1) := rfl
@[simp] theorem q_sTgt {U : Tg} {A : En → Res X} {ρ : En} : sTgt U A ρ = ((A ρ).sb fun a ρ1 => match toVal ρ1 a with
  | some (d, ρ2) => match U d ρ2 with
    | some ρ3 => .nx ρ3
    | none => .stuck
  | none => .stuck) := rfl
@[simp] theorem q_eMut {i : Nat} {f : Mu} {T : En → Res (List X)} {ρ : En} : eMut i f T ρ = (match lstAt ρ i with
  | none => .stuck
  | some _ => (T ρ).bind fun xs ρ1 => match toVals ρ1 xs with
    | none => .stuck
    | some (as, ρ2) => match lstAt ρ2 i with
      | none => .stuck
      | some ds => match f ds as with
        | none => .stuck
        | some (z, ds') => .ok (.val z) (setAt ρ2 i ds')) := rfl
@[simp] theorem q_sPut {i : Nat} {A B : En → Res X} {ρ : En} : sPut i A B ρ = ((A ρ).sb fun a ρ1 => match toVal ρ1 a with
  | none => .stuck
  | some (d, ρ2) => match lstAt ρ2 i with
    | none => .stuck
    | some _ => (B ρ2).sb fun b ρ3 => match asI ρ3 b, lstAt ρ3 i with
      | some k, some ds => match ixN ds.length k with
        | some j => .nx (setAt ρ3 i (ds.set j d))
        | none => .stuck
      | _, _ => .stuck) := rfl
@[simp] theorem q_dFld {Cs : List Addr} {f : Str} {A : En → Res X} {ρ : En} : dFld Cs f A ρ = ((A ρ).bind fun a ρ1 => match deref ρ1 a with
  | some (.ins C ks ds) => if C ∈ Cs then lift ((getF f ks ds).map X.val) ρ1 else .stuck
  | _ => .stuck) := rfl
@[simp] theorem q_sFldD {Cs : List Addr} {i : Nat} {f : Str} {A : En → Res X} {ρ : En} : sFldD Cs i f A ρ = ((A ρ).sb fun a ρ1 => match toVal ρ1 a with
  | none => .stuck
  | some (d, ρ2) => match insAt ρ2 i with
    | some (C, ks, ds) => if C ∈ Cs ∧ ks.length < 1000 then .nx (setIns ρ2 i (.ins C (putFD f d ks ds).1 (putFD f d ks ds).2)) else .stuck
    | none => .stuck) := rfl
@[simp] theorem q_nCons {A : En → Res X} {T : En → Res (List X)} {ρ : En} : nCons A T ρ = ((A ρ).bind fun a ρ1 => match a with
  | .own j => match toVal ρ1 (.own j) with
    | some (d, ρ2) => (T ρ2).bind fun as ρ3 => .ok (.val d :: as) ρ3
    | none => .stuck
  | a => (T ρ1).bind fun as ρ2 => .ok (a :: as) ρ2) := rfl
@[simp] theorem q_sMulti {is : List Nat} {T : En → Res (List X)} {ρ : En} : sMulti is T ρ = ((T ρ).sb fun xs ρ1 => puts is xs ρ1) := rfl
@[simp] theorem q_dRng1 {A : En → Res X} {ρ : En} : dRng1 A ρ = ((A ρ).bind fun a ρ1 => match asI ρ1 a with
  | some j => if -(2 ^ 62) ≤ j ∧ j < 2 ^ 62 then .ok ((List.range j.toNat).map fun i => D.int (0 + (i : Nat))) ρ1 else .stuck
  | none => .stuck) := rfl
@[simp] theorem q_dRng2 {A B : En → Res X} {ρ : En} : dRng2 A B ρ = ((A ρ).bind fun a ρ1 => (B ρ1).bind fun b ρ2 => match asI ρ2 a.settle, asI ρ2 b with
  | some i, some j => if -(2 ^ 62) ≤ i ∧ i < 2 ^ 62 ∧ -(2 ^ 62) ≤ j ∧ j < 2 ^ 62 then .ok ((List.range (j - i).toNat).map fun n => D.int (i + (n : Nat))) ρ2 else .stuck
  | _, _ => .stuck) := rfl
@[simp] theorem q_sFor {S : En → Res (List D)} {U : Tg} {B : En → SR} {ρ : En} : sFor S U B ρ = ((S ρ).sb fun ds ρ1 => forL U B ds ρ1) := rfl
@[simp] theorem q_sForS {A : En → Res X} {U : Tg} {B : En → SR} {ρ : En} : sForS A U B ρ = ((seqOf A ρ).sb fun p ρ1 => match p.1 with
  | none => forL U B p.2 ρ1
  | some i => (forL U B p.2 ρ1).unlock i) := rfl
@[simp] theorem q_dLc {S : En → Res (List D)} {vs : List Nat} {U : Tg} {T : En → Res Bool} {A : En → Res X} {ρ : En} : dLc S vs U T A ρ = ((S ρ).bind fun ds ρ1 => lcAll vs U T A ds ρ1) := rfl
@[simp] theorem q_tdYes  {ρ : En} : tdYes  ρ = (.ok true ρ) := rfl
@[simp] theorem q_dLcS {A0 : En → Res X} {vs : List Nat} {U : Tg} {T : En → Res Bool} {A : En → Res X} {ρ : En} : dLcS A0 vs U T A ρ = ((seqOf A0 ρ).bind fun p ρ1 => match p.1 with
  | none => lcAll vs U T A p.2 ρ1
  | some i => (lcAll vs U T A p.2 ρ1).unlock i) := rfl
@[simp] theorem q_dCall {n m : Nat} {T : En → SR} {A : En → Res (List X)} {ρ : En} : dCall n m T A ρ = ((A ρ).bind fun xs ρ1 => match toVals ρ1 xs with
  | some (ds, ρ2) => if ds.length = n then callV (fin (T (env0 m (ds.map .val)))) ρ2 else .stuck
  | none => .stuck) := rfl
@[simp] theorem q_dCallB {n m : Nat} {T : En → SR} {i : Nat} {A : En → Res (List X)} {ρ : En} : dCallB n m T i A ρ = ((A ρ).bind fun xs ρ1 => match toVals ρ1 xs with
  | some (ds, ρ2) => match coAt ρ2 i with
    | some o => if ds.length + 1 = n then callB (fin (T (env0 m (.bor o :: ds.map .val)))) i ρ2 else .stuck
    | none => .stuck
  | none => .stuck) := rfl
@[simp] theorem q_dMeth {C : Addr} {f : Str} {n m : Nat} {T : En → SR} {A : En → Res X} {B : En → Res (List X)} {ρ : En} : dMeth C f n m T A B ρ = ((A ρ).bind fun a ρ1 => match toVal ρ1 a with
  | some (.ins C' ks es, ρ2) => if C' = C ∧ noF f ks = true then (B ρ2).bind fun xs ρ3 => match toVals ρ3 xs with
      | some (ds, ρ4) => if ds.length + 1 = n then callV (fin (T (env0 m ((D.ins C' ks es :: ds).map .val)))) ρ4 else .stuck
      | none => .stuck
    else .stuck
  | _ => .stuck) := rfl
@[simp] theorem q_dProp {C : Addr} {m : Nat} {T : En → SR} {A : En → Res X} {ρ : En} : dProp C m T A ρ = ((A ρ).bind fun a ρ1 => match toVal ρ1 a with
  | some (.ins C' ks es, ρ2) => if C' = C then callV (fin (T (env0 m [.val (D.ins C' ks es)]))) ρ2 else .stuck
  | _ => .stuck) := rfl
@[simp] theorem q_dMake {C : Addr} {n m : Nat} {T : En → SR} {A : En → Res (List X)} {ρ : En} : dMake C n m T A ρ = ((A ρ).bind fun xs ρ1 => match toVals ρ1 xs with
  | some (ds, ρ2) => if ds.length + 1 = n then makeV (fin (T (env0 m (.bor (.ins C [] []) :: ds.map .val)))) ρ2 else .stuck
  | none => .stuck) := rfl
@[simp] theorem q_dIsi {kt : Kit} {Cs : List Addr} {us : List Value} {A : En → Res X} {ρ : En} : dIsi kt Cs us A ρ = ((A ρ).bind fun a ρ1 => match deref ρ1 a with
  | some d => if d.tyOk Cs = true then lift ((anyK kt d.ty us).map fun b => X.val (.bl b)) ρ1 else .stuck
  | none => .stuck) := rfl
@[simp] theorem q_dStrO {C : Addr} {m : Nat} {T : En → SR} {A : En → Res X} {ρ : En} : dStrO C m T A ρ = ((A ρ).bind fun a ρ1 => match toVal ρ1 a with
  | some (.ins C' ks es, ρ2) => if C' = C then callP xStr (fin (T (env0 m [.val (D.ins C' ks es)]))) ρ2 else .stuck
  | _ => .stuck) := rfl
@[simp] theorem q_dLenO {C : Addr} {m : Nat} {T : En → SR} {A : En → Res X} {ρ : En} : dLenO C m T A ρ = ((A ρ).bind fun a ρ1 => match toVal ρ1 a with
  | some (.ins C' ks es, ρ2) => if C' = C then callP xLen (fin (T (env0 m [.val (D.ins C' ks es)]))) ρ2 else .stuck
  | _ => .stuck) := rfl
@[simp] theorem q_dEqO {p : X → Option X} {C : Addr} {m : Nat} {T : En → SR} {A B : En → Res X} {ρ : En} : dEqO p C m T A B ρ = ((A ρ).bind fun a ρ1 => (B ρ1).bind fun b ρ2 => match toVal ρ2 a.settle with
  | some (.ins C' ks es, ρ3) => match toVal ρ3 b.settle with
    | some (.ins C'' ks' es', ρ4) => if C' = C ∧ C'' = C then callP p (fin (T (env0 m [.val (D.ins C' ks es), .val (D.ins C'' ks' es')]))) ρ4 else .stuck
    | _ => .stuck
  | _ => .stuck) := rfl
@[simp] theorem q_dLc2 {S : En → Res (List D)} {vs vs1 : List Nat} {U : Tg} {T : En → Res Bool} {S1 : En → Res (List D)} {U1 : Tg} {T1 : En → Res Bool} {A : En → Res X} {ρ : En} : dLc2 S vs vs1 U T S1 U1 T1 A ρ = ((S ρ).bind fun ds ρ1 => if vs.all (freeAt ρ1) = true then
    match lc2L vs vs1 U T S1 U1 T1 A ds (wipeN ρ1 vs) [] with
    | .ok es ρ2 => .ok (.new (.lst es)) ρ2
    | _ => .stuck
  else .stuck) := rfl
@[simp] theorem q_dUn {f : D → Option X} {A : En → Res X} {ρ : En} : dUn f A ρ = ((A ρ).bind fun a ρ1 => match deref ρ1 a with
  | some d => lift (f d) ρ1
  | none => .stuck) := rfl
@[simp] theorem q_dLend {n m : Nat} {T : En → SR} {i : Nat} {A : En → Res (List X)} {ρ : En} : dLend n m T i A ρ = (if (coAt ρ i).isSome then dCallB n m T i A ρ else .stuck) := rfl
@[simp] theorem q_dCMeth {C : Addr} {n m : Nat} {T : En → SR} {B : En → Res (List X)} {ρ : En} : dCMeth C n m T B ρ = ((B ρ).bind fun xs ρ1 => match toVals ρ1 xs with
  | some (ds, ρ2) => if ds.length + 1 = n then callV (fin (T (env0 m ((D.cls C :: ds).map .val)))) ρ2 else .stuck
  | none => .stuck) := rfl
@[simp] theorem q_dMakeL {C : Addr} {i n m : Nat} {T : En → SR} {A : En → Res (List X)} {ρ : En} : dMakeL C i n m T A ρ = (match ρ[i]? with
  | some (.val (.cls C')) => if C' = C then dMake C n m T A ρ else .stuck
  | _ => .stuck) := rfl
@[simp] theorem q_dSeqI {A : En → Res X} {ρ : En} : dSeqI A ρ = ((A ρ).bind fun a ρ1 => match a with
  | .val d => lift d.items ρ1
  | .new o => lift o.d.items ρ1
  | .own i => match ρ1[i]? with
    | some (.val d) => lift d.items ρ1
    | _ => .stuck) := rfl
@[simp] theorem w_eq_i {i j : Int} : eqB (.int i) (.int j) = some (decide (i = j)) := rfl
@[simp] theorem w_eq_s {i j : Str} : eqB (.str i) (.str j) = some (decide (i = j)) := rfl
@[simp] theorem w_eq_b {i j : Bool} : eqB (.bl i) (.bl j) = some (decide (i = j)) := rfl
@[simp] theorem w_eq_n : eqB .non .non = some true := rfl
section
variable {d : D} {o : O}
@[simp] theorem w_free_v : (Slot.val d).free = true := rfl
@[simp] theorem w_free_n : Slot.none.free = true := rfl
@[simp] theorem w_free_o : (Slot.own o).free = true := rfl
@[simp] theorem w_free_b : (Slot.bor o).free = false := rfl
@[simp] theorem w_free_l : (Slot.lck o).free = false := rfl
@[simp] theorem w_dd_v : (Slot.val d).dd = some d := rfl
@[simp] theorem w_dd_o : (Slot.own o).dd = some o.d := rfl
@[simp] theorem w_dd_b : (Slot.bor o).dd = some o.d := rfl
@[simp] theorem w_dd_l : (Slot.lck o).dd = some o.d := rfl
@[simp] theorem w_co_o : (Slot.own o).co = some o := rfl
@[simp] theorem w_co_b : (Slot.bor o).co = some o := rfl
end
section
variable {α : Type} {ρ : En} {d : D} {o : O} {i : Nat} {x : X}
@[simp] theorem w_fin_nx : fin (.nx ρ) = .ok (.val .non) ρ := rfl
@[simp] theorem w_fin_v : fin (.rt (.val d) ρ) = .ok (.val d) ρ := rfl
@[simp] theorem w_fin_n : fin (.rt (.new o) ρ) = .ok (.new o) ρ := rfl
@[simp] theorem w_fin_o : fin (.rt (.own i) ρ) = (match ρ[i]? with
    | some (.val d) => .ok (.val d) ρ
    | some (.own o) => .ok (.new o) ρ
    | _ => .stuck) := rfl
@[simp] theorem w_set_v : (X.val d).settle = .val d := rfl
@[simp] theorem w_set_n : (X.new o).settle = .val o.d := rfl
@[simp] theorem w_set_o : (X.own i).settle = .own i := rfl
@[simp] theorem w_O_lst {ds : List D} : (O.lst ds).d = .lst ds := rfl
@[simp] theorem w_O_ins {C : Addr} {ks : List Str} {ds : List D} : (O.ins C ks ds).d = .ins C ks ds := rfl
@[simp] theorem w_der_v : deref ρ (.val d) = some d := rfl
@[simp] theorem w_der_n : deref ρ (.new o) = some o.d := rfl
@[simp] theorem w_der_o : deref ρ (.own i) = ρ[i]?.bind Slot.dd := rfl
@[simp] theorem w_tv_v : toVal ρ (.val d) = some (d, ρ) := rfl
@[simp] theorem w_tv_n : toVal ρ (.new o) = some (o.d, ρ) := rfl
@[simp] theorem w_tv_o : toVal ρ (.own i) = (match ρ[i]? with
    | some (.val d) => some (d, ρ)
    | some (.own o) => some (o.d, ρ.set i (.val o.d))
    | _ => none) := rfl
@[simp] theorem w_lift_s {a : α} : lift (some a) ρ = .ok a ρ := rfl
@[simp] theorem w_lift_n : lift (none : Option α) ρ = .stuck := rfl
@[simp] theorem w_callP {p : X → Option X} {ρ' : En} : callP p (.ok x ρ') ρ = lift (p x) ρ := rfl
@[simp] theorem w_make {ρ' : En} (h : ρ'[0]? = some (.bor o)) : makeV (.ok (.val .non) ρ') ρ = .ok (.new o) ρ := by
  simp only [makeV, h]
end
@[simp] theorem sl_eq : (sizeLine : Nat) = 16777216 := sizeLine_eq
/-- what a def hands back -/
@[simp] def resV : Rt → Option X
  | .ok x _ => some x
  | _ => none
/-- .. and what was lent -/
@[simp] def resB : Rt → Option (X × O)
  | .ok x ρ => match (ρ[0]? : Option Slot) with
    | some (.bor o) => some (x, o)
    | _ => none
  | _ => none
def Gives (m : Nat) (T : En → SR) (ds : List D) (x : X) : Prop := resV (fin (T (env0 m (ds.map .val)))) = some x
def GivesB (m : Nat) (T : En → SR) (o : O) (ds : List D) (x : X) (o' : O) : Prop := resB (fin (T (env0 m (.bor o :: ds.map .val)))) = some (x, o')
open Classical in
@[simp] theorem q_dLstRg {T : En → Res (Int × Int)} {ρ : En} : dLstRg T ρ = ((T ρ).bind fun p ρ1 => if RgOk p.1 p.2 then .ok (.new (.lst (rgD p.1 p.2))) ρ1 else .stuck) := by
  unfold dLstRg
  rfl
theorem Gives.elim {m : Nat} {T : En → SR} {ds : List D} {x : X} (h : Gives m T ds x) : ∃ ρ', fin (T (env0 m (ds.map .val))) = .ok x ρ' := by
  unfold Gives at h
  cases e : fin (T (env0 m (ds.map .val))) with
  | ok y ρ' =>
    rw [e] at h
    cases h
    exact ⟨ρ', rfl⟩
  | err y ρ' => rw [e] at h; cases h
  | stuck => rw [e] at h; cases h
theorem GivesB.elim {m : Nat} {T : En → SR} {ds : List D} {x : X} {o o' : O} (h : GivesB m T o ds x o') : ∃ ρ', fin (T (env0 m (.bor o :: ds.map .val))) = .ok x ρ' ∧ ρ'[0]? = some (.bor o') := by
  unfold GivesB at h
  cases e : fin (T (env0 m (.bor o :: ds.map .val))) with
  | ok y ρ' =>
    rw [e] at h
    simp only [resB] at h
    split at h
    · rename_i u e2
      cases h
      exact ⟨ρ', rfl, e2⟩
    · cases h
  | err y ρ' => rw [e] at h; cases h
  | stuck => rw [e] at h; cases h
@[simp] theorem callB_ok {x : X} {ρ' ρ : En} {i : Nat} {o : O} (h : ρ'[0]? = some (.bor o)) : callB (.ok x ρ') i ρ = .ok x (reAt ρ i o) := by
  simp only [callB, h]
@[simp] theorem callV_ok {x : X} {ρ' ρ : En} : callV (.ok x ρ') ρ = .ok x ρ := rfl
@[simp] def stepL (U : Tg) (B : En → SR) (d : D) (ρ : En) : SR := match U d ρ with
  | none => .stuck
  | some ρ1 => B ρ1
theorem forL_inv {U : Tg} {B : En → SR} (W : Nat → En → Prop) {ds : List D} (h : ∀ i (hi : i < ds.length) ρ, W i ρ → ∃ ρ2, (stepL U B ds[i] ρ = .nx ρ2 ∨ stepL U B ds[i] ρ = .ct ρ2) ∧ W (i + 1) ρ2) {ρ : En} (h0 : W 0 ρ) : ∃ ρ', forL U B ds ρ = .nx ρ' ∧ W ds.length ρ' := by
  induction ds generalizing W ρ with
  | nil => exact ⟨ρ, rfl, h0⟩
  | cons d ds ih =>
    obtain ⟨ρ2, e2, w2⟩ := h 0 (by simp) ρ h0
    obtain ⟨ρ', e3, w3⟩ := ih (fun i => W (i + 1)) (fun i hi ρ hw => by
      obtain ⟨r2, q2, q3⟩ := h (i + 1) (by simpa using hi) ρ hw
      exact ⟨r2, by simpa using q2, q3⟩) w2
    refine ⟨ρ', ?_, w3⟩
    unfold forL
    have e2 : stepL U B d ρ = .nx ρ2 ∨ stepL U B d ρ = .ct ρ2 := e2
    unfold stepL at e2
    cases e1 : U d ρ with
    | none => rw [e1] at e2; rcases e2 with e2 | e2 <;> cases e2
    | some ρ1 =>
      rw [e1] at e2
      rcases e2 with e2 | e2 <;> (simp only [e2]; exact e3)
/-- a loop over range(n) -/
theorem forR_inv {U : Tg} {B : En → SR} {n : Nat} (W : Nat → En → Prop) (h : ∀ i, i < n → ∀ ρ, W i ρ → ∃ ρ2, (stepL U B (.int i) ρ = .nx ρ2 ∨ stepL U B (.int i) ρ = .ct ρ2) ∧ W (i + 1) ρ2) {ρ : En} (h0 : W 0 ρ) : ∃ ρ', forL U B ((List.range n).map fun i => D.int (i : Nat)) ρ = .nx ρ' ∧ W n ρ' := by
  obtain ⟨ρ', e, w⟩ := forL_inv (U := U) (B := B) (ds := (List.range n).map fun i => D.int (i : Nat)) W (fun i hi ρ hw => by
    simp only [List.length_map, List.length_range] at hi
    simp only [List.getElem_map, List.getElem_range]
    exact h i hi ρ hw) h0
  refine ⟨ρ', e, ?_⟩
  simpa using w
/-- the state of the draws -/
def box (b : Int × Int) : O := .lst [.int b.1, .int b.2]
theorem choose_gives {c : Cl} (b : Int × Int) {m : Int} (hm : 0 < m) (hm2 : m < 1073741824) : ∃ r b', GivesB 4 (D__law_choose c) (box b) [.int m] (.val (.int r)) (box b') ∧ 0 ≤ r ∧ r < m := by
  obtain ⟨x, y⟩ := b
  by_cases hx : 0 < x
  · refine ⟨x % m, (x / m, y), ?_, Int.emod_nonneg _ (by omega), Int.emod_lt_of_pos _ hm⟩
    simp [GivesB, D__law_choose, atI, ixN, hx, CDiv, hm, hm2, box]
  · refine ⟨((y * 40014 + 71) % 2147483563 * 2147483647 + (((y * 40014 + 71) % 2147483563 * 40692 + 4603) % 2147483629 + 1)) / 8191 % m, (x, ((y * 40014 + 71) % 2147483563 * 40692 + 4603) % 2147483629 + 1), ?_, Int.emod_nonneg _ (by omega : m ≠ 0), Int.emod_lt_of_pos _ hm⟩
    simp [GivesB, D__law_choose, atI, ixN, hx, CDiv, CMul, hm, hm2, box]
theorem atI_get {α : Type} {xs : List α} {i : Int} (h : 0 ≤ i) (h2 : i < xs.length) : ∃ x, atI xs i = some x ∧ x ∈ xs := by
  have hl : i.toNat < xs.length := by omega
  refine ⟨xs[i.toNat], ?_, List.getElem_mem hl⟩
  simp [atI, ixN, h, h2, hl]
theorem one_of_gives {c : Cl} (b : Int × Int) {ds : List D} (h0 : ds ≠ []) (h1 : ds.length ≤ 1000) : ∃ d b', GivesB 2 (D__law_one_of c) (box b) [.lst ds] (.val d) (box b') ∧ d ∈ ds := by
  have hp : 0 < ds.length := List.length_pos_iff.mpr h0
  obtain ⟨r, b', h, hr, hr2⟩ := choose_gives (c := c) b (m := (ds.length : Int)) (by omega) (by omega)
  obtain ⟨d, hd, hm⟩ := atI_get (xs := ds) hr hr2
  obtain ⟨ρ', e1, e2⟩ := h.elim
  simp at e1
  exact ⟨d, b', by simp [GivesB, D__law_one_of, e1, e2, hd], hm⟩
end DL
set_option linter.all false
set_option maxRecDepth 100000
set_option maxHeartbeats 1000000
namespace DL
open PySem PySem.Spec PyProof.Rows L2 DD
theorem atI_ints {ns : List Int} {k : Nat} (h : k < ns.length) : atI (ns.map D.int) (k : Int) = some (.int ns[k]) := by
  have h2 : (k : Int) < ns.length := by omega
  simp [atI, ixN, h2, h]
theorem seed_gives {c : Cl} (ns : List Int) (k : Nat) : ∃ b, Gives 3 (D__law_seed c) [.scr (ns.map D.int), .int k] (.new (box b)) := by
  by_cases h1 : k < ns.length
  · have h1' : (k : Int) < ns.length := by omega
    have e := atI_ints h1
    by_cases h2 : (1000000000000000000 : Int) ≤ (if ns[k] < 0 then -ns[k] else ns[k])
    · simp [Gives, D__law_seed, CMul, CPow, h1', e, box, h2]
    · simp [Gives, D__law_seed, CMul, CPow, h1', e, box, h2]
  · have h1' : ¬ (k : Int) < ns.length := by omega
    by_cases h0 : 0 < ns.length
    · have hm : k % ns.length < ns.length := Nat.mod_lt _ h0
      have e := atI_ints (ns := ns) hm
      rw [Int.natCast_emod] at e
      by_cases h2 : (1000000000000000000 : Int) ≤ 8831 * (k : Int) + 101 + (if ns[k % ns.length] < 0 then -ns[k % ns.length] else ns[k % ns.length]) % 2147483629 * 40093
      · simp [Gives, D__law_seed, CMul, CPow, h1, h0, e, box, h2]
      · simp [Gives, D__law_seed, CMul, CPow, h1, h0, e, box, h2]
    · by_cases h2 : (1000000000000000000 : Int) ≤ 8831 * (k : Int) + 101
      · simp [Gives, D__law_seed, CMul, CPow, h1, h0, box, h2]
      · simp [Gives, D__law_seed, CMul, CPow, h1, h0, box, h2]
/-- a meeting -/
abbrev Mt := Int × Int × Bool
def mtD (m : Mt) : D := .tup [.int m.1, .int m.2.1, .bl m.2.2]
/-- meetings in their order, from a tick on -/
def Meets : Int → List Mt → Prop
  | _, [] => True
  | a, m :: ms => a ≤ m.1 ∧ m.1 < m.2.1 ∧ Meets m.2.1 ms
def endOf : Int → List Mt → Int
  | a, [] => a
  | _, m :: ms => endOf m.2.1 ms
theorem Meets.snoc {m : Mt} : ∀ {a : Int} {ms : List Mt}, Meets a ms → endOf a ms ≤ m.1 → m.1 < m.2.1 → Meets a (ms ++ [m]) ∧ endOf a (ms ++ [m]) = m.2.1
  | _, [], _, h1, h2 => ⟨⟨h1, h2, trivial⟩, rfl⟩
  | _, x :: ms, h, h1, h2 => by
    obtain ⟨p, q⟩ := Meets.snoc (a := x.2.1) h.2.2 h1 h2
    exact ⟨⟨h.1, h.2.1, p⟩, q⟩
theorem mem_int {xs : List Int} {d : D} (h : d ∈ xs.map D.int) : ∃ i ∈ xs, d = .int i := by
  obtain ⟨i, hi, e⟩ := List.mem_map.mp h
  exact ⟨i, hi, e.symm⟩
theorem day_gives {c : Cl} (b : Int × Int) {top : Int} {s : Bool} (h1 : 1 ≤ top) (h2 : top ≤ 1000) : ∃ (n : Int) (ms : List Mt) (b' : Int × Int), GivesB 9 (D__law_day c) (box b) [.int top, .bl s] (.val (.tup [.int n, .lst (ms.map mtD)])) (box b') ∧ 1 ≤ n ∧ n ≤ top ∧ Meets 0 ms ∧ endOf 0 ms ≤ n ∧ ms.length ≤ 8 := by
  obtain ⟨r, b1, g1, r0, r1⟩ := choose_gives (c := c) b (m := top) (by omega) (by omega)
  obtain ⟨ρ1, e1, e1'⟩ := g1.elim
  simp at e1
  have W := forR_inv (U := uName 3) (B := D__law_day_b1 c) (n := 8) (fun i ρ => ∃ (ms : List Mt) (b : Int × Int) (s3 s7 s8 : Slot), ρ = [.bor (box b), .val (.int top), .val (.bl s), s3, .val (.int (1 + r)), .own (.lst (ms.map mtD)), .val (.int (endOf 0 ms)), s7, s8] ∧ s3.free = true ∧ s7.free = true ∧ s8.free = true ∧ Meets 0 ms ∧ 0 ≤ endOf 0 ms ∧ endOf 0 ms ≤ 1 + r ∧ ms.length ≤ i) ?_ (ρ := [.bor (box b1), .val (.int top), .val (.bl s), .none, .val (.int (1 + r)), .own (.lst []), .val (.int 0), .none, .none]) ⟨[], b1, .none, .none, .none, rfl, rfl, rfl, rfl, trivial, Int.le_refl _, by show (0 : Int) ≤ 1 + r; omega, Nat.le_refl _⟩
  · obtain ⟨ρ', e2, ms, b', s3, s7, s8, rfl, _, _, _, hm, h0, hle, hl⟩ := W
    refine ⟨1 + r, ms, b', ?_, by omega, by omega, hm, hle, hl⟩
    simp [GivesB, D__law_day, e1, e1', e2]
  · rintro i hi ρ ⟨ms, b, s3, s7, s8, rfl, f3, f7, f8, hm, h0, hle, hl⟩
    obtain ⟨d, b2, g2, hd⟩ := one_of_gives (c := c) b (ds := [0, 0, 1, 1, 2, 3, 5].map D.int) (by simp) (by simp)
    obtain ⟨x, hx, rfl⟩ := mem_int hd
    obtain ⟨d, b3, g3, hd⟩ := one_of_gives (c := c) b2 (ds := [1, 1, 2, 3, 4, 9].map D.int) (by simp) (by simp)
    obtain ⟨y, hy, rfl⟩ := mem_int hd
    obtain ⟨z, b4, g4, z0, z1⟩ := choose_gives (c := c) b3 (m := 3) (by omega) (by omega)
    obtain ⟨ρ2, p2, q2⟩ := g2.elim
    obtain ⟨ρ3, p3, q3⟩ := g3.elim
    obtain ⟨ρ4, p4, q4⟩ := g4.elim
    simp at p2 p3 p4
    have hx0 : 0 ≤ x := by simp at hx; omega
    have hy0 : 1 ≤ y := by simp at hy; omega
    have hsz : ms.length < 16777216 := by omega
    have sn : ∀ q, Meets 0 (ms ++ [(endOf 0 ms + x, endOf 0 ms + x + y, q)]) ∧ endOf 0 (ms ++ [(endOf 0 ms + x, endOf 0 ms + x + y, q)]) = endOf 0 ms + x + y := fun q => hm.snoc (by show endOf 0 ms ≤ endOf 0 ms + x; omega) (by show endOf 0 ms + x < endOf 0 ms + x + y; omega)
    by_cases hc : endOf 0 ms + x + y ≤ 1 + r
    · have fin_ : ∀ q, 0 ≤ endOf 0 (ms ++ [(endOf 0 ms + x, endOf 0 ms + x + y, q)]) ∧ endOf 0 (ms ++ [(endOf 0 ms + x, endOf 0 ms + x + y, q)]) ≤ 1 + r ∧ (ms ++ [(endOf 0 ms + x, endOf 0 ms + x + y, q)]).length ≤ i + 1 := fun q => by
        rw [(sn q).2]
        refine ⟨by omega, hc, ?_⟩
        simp
        exact hl
      cases s
      · refine ⟨_, .inl (by simp [D__law_day_b1, p2, q2, p3, q3, f3, f7, f8, hc, hsz] <;> rfl), ms ++ [(endOf 0 ms + x, endOf 0 ms + x + y, false)], b3, .val (.int i), .val (.int (endOf 0 ms + x)), .val (.int (endOf 0 ms + x + y)), ?_, rfl, rfl, rfl, (sn false).1, fin_ false⟩
        rw [(sn false).2]
        simp [mtD]
      · refine ⟨_, .inl (by simp [D__law_day_b1, p2, q2, p3, q3, p4, q4, f3, f7, f8, hc, hsz] <;> rfl), ms ++ [(endOf 0 ms + x, endOf 0 ms + x + y, decide (z = 0))], b4, .val (.int i), .val (.int (endOf 0 ms + x)), .val (.int (endOf 0 ms + x + y)), ?_, rfl, rfl, rfl, (sn _).1, fin_ _⟩
        rw [(sn _).2]
        simp [mtD]
    · refine ⟨_, .inl (by simp [D__law_day_b1, p2, q2, p3, q3, f3, f7, f8, hc] <;> rfl), ms, b3, .val (.int i), .val (.int (endOf 0 ms + x)), .val (.int (endOf 0 ms + x + y)), rfl, rfl, rfl, rfl, hm, h0, hle, by omega⟩
/-- a rule's five -/
structure Ru where
  s : Int
  g : Int
  l : Int
  p : Str
  h : Option (Int × Int)
structure RuOk (r : Ru) : Prop where
  s : 1 ≤ r.s ∧ r.s ≤ 8
  g : 0 ≤ r.g ∧ r.g ≤ 16
  l : 0 ≤ r.l ∧ r.l ≤ 16
  p : r.p ∈ (["busy", "none", "apart", "one"] : List Str)
  h : ∀ x, r.h = some x → 0 ≤ x.1 ∧ x.1 < x.2 ∧ x.2 ≤ 48
end DL
set_option linter.all false
set_option maxRecDepth 100000
set_option maxHeartbeats 1000000
namespace DL
open PySem PySem.Spec PyProof.Rows L2 DD
@[simp] theorem k_ii : kitB "int" "int" = some true := by decide +kernel
@[simp] theorem k_ib : kitB "int" "bool" = some false := by decide +kernel
@[simp] theorem k_bb : kitB "bool" "bool" = some true := by decide +kernel
@[simp] theorem k_ll : kitB "list" "list" = some true := by decide +kernel
@[simp] theorem k_tl : kitB "tuple" "list" = some false := by decide +kernel
@[simp] theorem k_tt : kitB "tuple" "tuple" = some true := by decide +kernel
@[simp] theorem k_lt : kitB "list" "tuple" = some false := by decide +kernel
@[simp] theorem kd_ty {Cs : List Addr} {a b : String} : kitD Cs (.type a) (.type b) = kitB a b := rfl
@[simp] theorem kd_own {Cs : List Addr} {a : Addr} : kitD Cs (.ref a) (.ref a) = some true := by simp [kitD]
@[simp] theorem is_integer_v {c : Cl} {i : Int} : Gives 1 (D_is_integer c) [.int i] (.val (.bl true)) := by
  simp [Gives, D_is_integer, anyK]
theorem is_number_v {c : Cl} {i : Int} : Gives 1 (D_is_number c) [.int i] (.val (.bl (decide (0 ≤ i)))) := by
  obtain ⟨_, p⟩ := (is_integer_v (c := c) (i := i)).elim
  simp at p
  simp [Gives, D_is_number, p]
theorem is_positive_v {c : Cl} {i : Int} : Gives 1 (D_is_positive c) [.int i] (.val (.bl (decide (1 ≤ i)))) := by
  obtain ⟨_, p⟩ := (is_integer_v (c := c) (i := i)).elim
  simp at p
  simp [Gives, D_is_positive, p]
theorem is_sequence_l {c : Cl} {ds : List D} : Gives 1 (D_is_sequence c) [.lst ds] (.val (.bl true)) := by
  simp [Gives, D_is_sequence, anyK]
theorem is_sequence_t {c : Cl} {ds : List D} : Gives 1 (D_is_sequence c) [.tup ds] (.val (.bl true)) := by
  simp [Gives, D_is_sequence, anyK]
theorem is_meeting_v {c : Cl} {m : Mt} (h0 : 0 ≤ m.1) (h1 : m.1 < m.2.1) : Gives 4 (D__is_meeting c) [mtD m] (.val (.bl true)) := by
  obtain ⟨_, p⟩ := (is_number_v (c := c) (i := m.1)).elim
  obtain ⟨_, q⟩ := (is_number_v (c := c) (i := m.2.1)).elim
  have h2 : 0 ≤ m.2.1 := by omega
  simp at p q
  simp [Gives, D__is_meeting, mtD, p, q, h0, h1, h2, anyK]
theorem Meets.at : ∀ {a : Int} {ms : List Mt} {i : Nat}, Meets a ms → (hi : i < ms.length) → endOf a (ms.take i) ≤ ms[i].1 ∧ ms[i].1 < ms[i].2.1 ∧ endOf a (ms.take (i + 1)) = ms[i].2.1 ∧ a ≤ endOf a (ms.take i)
  | _, [], i, _, hi => by simp at hi
  | a, m :: ms, 0, h, _ => ⟨h.1, h.2.1, rfl, Int.le_refl _⟩
  | a, m :: ms, i + 1, h, hi => by
    obtain ⟨p, q, r, s⟩ := Meets.at (a := m.2.1) (ms := ms) (i := i) h.2.2 (by simpa using hi)
    exact ⟨p, q, r, by have := h.1; have := h.2.1; show a ≤ endOf m.2.1 (ms.take i); omega⟩
theorem endOf_le : ∀ {a : Int} {ms : List Mt} {i : Nat}, Meets a ms → endOf a (ms.take i) ≤ endOf a ms
  | _, [], i, _ => by simp
  | a, m :: ms, 0, h => by
    have : ∀ {a : Int} {ms : List Mt}, Meets a ms → a ≤ endOf a ms := by
      intro a ms
      induction ms generalizing a with
      | nil => intro _; exact Int.le_refl _
      | cons m ms ih => intro h; have := ih h.2.2; have := h.1; have := h.2.1; show a ≤ endOf m.2.1 ms; omega
    exact this h
  | a, m :: ms, i + 1, h => endOf_le (a := m.2.1) (ms := ms) (i := i) h.2.2
theorem are_meetings_v {c : Cl} {n : Int} {ms : List Mt} (h : Meets 0 ms) (hn : endOf 0 ms ≤ n) {d : D} (hd : d = .lst (ms.map mtD) ∨ d = .tup (ms.map mtD)) : Gives 4 (D__are_meetings c) [d, .int n] (.val (.bl true)) := by
  have hseq : Gives 1 (D_is_sequence c) [d] (.val (.bl true)) := by
    rcases hd with rfl | rfl
    · exact is_sequence_l
    · exact is_sequence_t
  obtain ⟨_, p⟩ := hseq.elim
  simp at p
  have W := forL_inv (U := uName 3) (B := D__are_meetings_b1 c) (ds := ms.map mtD) (fun i ρ => ∃ s3 : Slot, ρ = [.val d, .val (.int n), .val (.int (endOf 0 (ms.take i))), s3] ∧ s3.free = true) (fun i hi ρ ⟨s3, e, f3⟩ => by
    subst e
    simp at hi
    obtain ⟨g1, g2, g3, g4⟩ := Meets.at h hi
    have g5 := endOf_le (i := i + 1) h
    obtain ⟨_, q⟩ := (is_meeting_v (c := c) (m := ms[i]) (by omega) g2).elim
    simp [mtD] at q
    have g6 : ¬ ms[i].1 < endOf 0 (ms.take i) := by omega
    have g7 : ¬ n < ms[i].2.1 := by omega
    refine ⟨_, .inl (by simp [D__are_meetings_b1, f3, mtD, q, atI, ixN, g6, g7] <;> rfl), .val (mtD ms[i]), ?_, rfl⟩
    rw [g3]
    simp [mtD]) (ρ := [.val d, .val (.int n), .val (.int 0), .none]) ⟨.none, rfl, rfl⟩
  obtain ⟨ρ', e, s3, rfl, _⟩ := W
  rcases hd with rfl | rfl
  · simp [Gives, D__are_meetings, p, e]
  · simp [Gives, D__are_meetings, p, e]
end DL
set_option linter.all false
namespace DL
open PySem
@[simp] theorem ne_step_gap : (Str.ofString "step" = Str.ofString "gap") = False := eq_false (by decide +kernel)
@[simp] theorem ne_step_least : (Str.ofString "step" = Str.ofString "least") = False := eq_false (by decide +kernel)
@[simp] theorem ne_step_private : (Str.ofString "step" = Str.ofString "private") = False := eq_false (by decide +kernel)
@[simp] theorem ne_step_hours : (Str.ofString "step" = Str.ofString "hours") = False := eq_false (by decide +kernel)
@[simp] theorem ne_step_length : (Str.ofString "step" = Str.ofString "length") = False := eq_false (by decide +kernel)
@[simp] theorem ne_step_meetings : (Str.ofString "step" = Str.ofString "meetings") = False := eq_false (by decide +kernel)
@[simp] theorem ne_step_shortest : (Str.ofString "step" = Str.ofString "shortest") = False := eq_false (by decide +kernel)
@[simp] theorem ne_step_most : (Str.ofString "step" = Str.ofString "most") = False := eq_false (by decide +kernel)
@[simp] theorem ne_step_known : (Str.ofString "step" = Str.ofString "known") = False := eq_false (by decide +kernel)
@[simp] theorem ne_step_busy : (Str.ofString "step" = Str.ofString "busy") = False := eq_false (by decide +kernel)
@[simp] theorem ne_step_none : (Str.ofString "step" = Str.ofString "none") = False := eq_false (by decide +kernel)
@[simp] theorem ne_step_apart : (Str.ofString "step" = Str.ofString "apart") = False := eq_false (by decide +kernel)
@[simp] theorem ne_step_one : (Str.ofString "step" = Str.ofString "one") = False := eq_false (by decide +kernel)
@[simp] theorem ne_gap_step : (Str.ofString "gap" = Str.ofString "step") = False := eq_false (by decide +kernel)
@[simp] theorem ne_gap_least : (Str.ofString "gap" = Str.ofString "least") = False := eq_false (by decide +kernel)
@[simp] theorem ne_gap_private : (Str.ofString "gap" = Str.ofString "private") = False := eq_false (by decide +kernel)
@[simp] theorem ne_gap_hours : (Str.ofString "gap" = Str.ofString "hours") = False := eq_false (by decide +kernel)
@[simp] theorem ne_gap_length : (Str.ofString "gap" = Str.ofString "length") = False := eq_false (by decide +kernel)
@[simp] theorem ne_gap_meetings : (Str.ofString "gap" = Str.ofString "meetings") = False := eq_false (by decide +kernel)
@[simp] theorem ne_gap_shortest : (Str.ofString "gap" = Str.ofString "shortest") = False := eq_false (by decide +kernel)
@[simp] theorem ne_gap_most : (Str.ofString "gap" = Str.ofString "most") = False := eq_false (by decide +kernel)
@[simp] theorem ne_gap_known : (Str.ofString "gap" = Str.ofString "known") = False := eq_false (by decide +kernel)
@[simp] theorem ne_gap_busy : (Str.ofString "gap" = Str.ofString "busy") = False := eq_false (by decide +kernel)
@[simp] theorem ne_gap_none : (Str.ofString "gap" = Str.ofString "none") = False := eq_false (by decide +kernel)
@[simp] theorem ne_gap_apart : (Str.ofString "gap" = Str.ofString "apart") = False := eq_false (by decide +kernel)
@[simp] theorem ne_gap_one : (Str.ofString "gap" = Str.ofString "one") = False := eq_false (by decide +kernel)
@[simp] theorem ne_least_step : (Str.ofString "least" = Str.ofString "step") = False := eq_false (by decide +kernel)
@[simp] theorem ne_least_gap : (Str.ofString "least" = Str.ofString "gap") = False := eq_false (by decide +kernel)
@[simp] theorem ne_least_private : (Str.ofString "least" = Str.ofString "private") = False := eq_false (by decide +kernel)
@[simp] theorem ne_least_hours : (Str.ofString "least" = Str.ofString "hours") = False := eq_false (by decide +kernel)
@[simp] theorem ne_least_length : (Str.ofString "least" = Str.ofString "length") = False := eq_false (by decide +kernel)
@[simp] theorem ne_least_meetings : (Str.ofString "least" = Str.ofString "meetings") = False := eq_false (by decide +kernel)
@[simp] theorem ne_least_shortest : (Str.ofString "least" = Str.ofString "shortest") = False := eq_false (by decide +kernel)
@[simp] theorem ne_least_most : (Str.ofString "least" = Str.ofString "most") = False := eq_false (by decide +kernel)
@[simp] theorem ne_least_known : (Str.ofString "least" = Str.ofString "known") = False := eq_false (by decide +kernel)
@[simp] theorem ne_least_busy : (Str.ofString "least" = Str.ofString "busy") = False := eq_false (by decide +kernel)
@[simp] theorem ne_least_none : (Str.ofString "least" = Str.ofString "none") = False := eq_false (by decide +kernel)
@[simp] theorem ne_least_apart : (Str.ofString "least" = Str.ofString "apart") = False := eq_false (by decide +kernel)
@[simp] theorem ne_least_one : (Str.ofString "least" = Str.ofString "one") = False := eq_false (by decide +kernel)
@[simp] theorem ne_private_step : (Str.ofString "private" = Str.ofString "step") = False := eq_false (by decide +kernel)
@[simp] theorem ne_private_gap : (Str.ofString "private" = Str.ofString "gap") = False := eq_false (by decide +kernel)
@[simp] theorem ne_private_least : (Str.ofString "private" = Str.ofString "least") = False := eq_false (by decide +kernel)
@[simp] theorem ne_private_hours : (Str.ofString "private" = Str.ofString "hours") = False := eq_false (by decide +kernel)
@[simp] theorem ne_private_length : (Str.ofString "private" = Str.ofString "length") = False := eq_false (by decide +kernel)
@[simp] theorem ne_private_meetings : (Str.ofString "private" = Str.ofString "meetings") = False := eq_false (by decide +kernel)
@[simp] theorem ne_private_shortest : (Str.ofString "private" = Str.ofString "shortest") = False := eq_false (by decide +kernel)
@[simp] theorem ne_private_most : (Str.ofString "private" = Str.ofString "most") = False := eq_false (by decide +kernel)
@[simp] theorem ne_private_known : (Str.ofString "private" = Str.ofString "known") = False := eq_false (by decide +kernel)
@[simp] theorem ne_private_busy : (Str.ofString "private" = Str.ofString "busy") = False := eq_false (by decide +kernel)
@[simp] theorem ne_private_none : (Str.ofString "private" = Str.ofString "none") = False := eq_false (by decide +kernel)
@[simp] theorem ne_private_apart : (Str.ofString "private" = Str.ofString "apart") = False := eq_false (by decide +kernel)
@[simp] theorem ne_private_one : (Str.ofString "private" = Str.ofString "one") = False := eq_false (by decide +kernel)
@[simp] theorem ne_hours_step : (Str.ofString "hours" = Str.ofString "step") = False := eq_false (by decide +kernel)
@[simp] theorem ne_hours_gap : (Str.ofString "hours" = Str.ofString "gap") = False := eq_false (by decide +kernel)
@[simp] theorem ne_hours_least : (Str.ofString "hours" = Str.ofString "least") = False := eq_false (by decide +kernel)
@[simp] theorem ne_hours_private : (Str.ofString "hours" = Str.ofString "private") = False := eq_false (by decide +kernel)
@[simp] theorem ne_hours_length : (Str.ofString "hours" = Str.ofString "length") = False := eq_false (by decide +kernel)
@[simp] theorem ne_hours_meetings : (Str.ofString "hours" = Str.ofString "meetings") = False := eq_false (by decide +kernel)
@[simp] theorem ne_hours_shortest : (Str.ofString "hours" = Str.ofString "shortest") = False := eq_false (by decide +kernel)
@[simp] theorem ne_hours_most : (Str.ofString "hours" = Str.ofString "most") = False := eq_false (by decide +kernel)
@[simp] theorem ne_hours_known : (Str.ofString "hours" = Str.ofString "known") = False := eq_false (by decide +kernel)
@[simp] theorem ne_hours_busy : (Str.ofString "hours" = Str.ofString "busy") = False := eq_false (by decide +kernel)
@[simp] theorem ne_hours_none : (Str.ofString "hours" = Str.ofString "none") = False := eq_false (by decide +kernel)
@[simp] theorem ne_hours_apart : (Str.ofString "hours" = Str.ofString "apart") = False := eq_false (by decide +kernel)
@[simp] theorem ne_hours_one : (Str.ofString "hours" = Str.ofString "one") = False := eq_false (by decide +kernel)
@[simp] theorem ne_length_step : (Str.ofString "length" = Str.ofString "step") = False := eq_false (by decide +kernel)
@[simp] theorem ne_length_gap : (Str.ofString "length" = Str.ofString "gap") = False := eq_false (by decide +kernel)
@[simp] theorem ne_length_least : (Str.ofString "length" = Str.ofString "least") = False := eq_false (by decide +kernel)
@[simp] theorem ne_length_private : (Str.ofString "length" = Str.ofString "private") = False := eq_false (by decide +kernel)
@[simp] theorem ne_length_hours : (Str.ofString "length" = Str.ofString "hours") = False := eq_false (by decide +kernel)
@[simp] theorem ne_length_meetings : (Str.ofString "length" = Str.ofString "meetings") = False := eq_false (by decide +kernel)
@[simp] theorem ne_length_shortest : (Str.ofString "length" = Str.ofString "shortest") = False := eq_false (by decide +kernel)
@[simp] theorem ne_length_most : (Str.ofString "length" = Str.ofString "most") = False := eq_false (by decide +kernel)
@[simp] theorem ne_length_known : (Str.ofString "length" = Str.ofString "known") = False := eq_false (by decide +kernel)
@[simp] theorem ne_length_busy : (Str.ofString "length" = Str.ofString "busy") = False := eq_false (by decide +kernel)
@[simp] theorem ne_length_none : (Str.ofString "length" = Str.ofString "none") = False := eq_false (by decide +kernel)
@[simp] theorem ne_length_apart : (Str.ofString "length" = Str.ofString "apart") = False := eq_false (by decide +kernel)
@[simp] theorem ne_length_one : (Str.ofString "length" = Str.ofString "one") = False := eq_false (by decide +kernel)
@[simp] theorem ne_meetings_step : (Str.ofString "meetings" = Str.ofString "step") = False := eq_false (by decide +kernel)
@[simp] theorem ne_meetings_gap : (Str.ofString "meetings" = Str.ofString "gap") = False := eq_false (by decide +kernel)
@[simp] theorem ne_meetings_least : (Str.ofString "meetings" = Str.ofString "least") = False := eq_false (by decide +kernel)
@[simp] theorem ne_meetings_private : (Str.ofString "meetings" = Str.ofString "private") = False := eq_false (by decide +kernel)
@[simp] theorem ne_meetings_hours : (Str.ofString "meetings" = Str.ofString "hours") = False := eq_false (by decide +kernel)
@[simp] theorem ne_meetings_length : (Str.ofString "meetings" = Str.ofString "length") = False := eq_false (by decide +kernel)
@[simp] theorem ne_meetings_shortest : (Str.ofString "meetings" = Str.ofString "shortest") = False := eq_false (by decide +kernel)
@[simp] theorem ne_meetings_most : (Str.ofString "meetings" = Str.ofString "most") = False := eq_false (by decide +kernel)
@[simp] theorem ne_meetings_known : (Str.ofString "meetings" = Str.ofString "known") = False := eq_false (by decide +kernel)
@[simp] theorem ne_meetings_busy : (Str.ofString "meetings" = Str.ofString "busy") = False := eq_false (by decide +kernel)
@[simp] theorem ne_meetings_none : (Str.ofString "meetings" = Str.ofString "none") = False := eq_false (by decide +kernel)
@[simp] theorem ne_meetings_apart : (Str.ofString "meetings" = Str.ofString "apart") = False := eq_false (by decide +kernel)
@[simp] theorem ne_meetings_one : (Str.ofString "meetings" = Str.ofString "one") = False := eq_false (by decide +kernel)
@[simp] theorem ne_shortest_step : (Str.ofString "shortest" = Str.ofString "step") = False := eq_false (by decide +kernel)
@[simp] theorem ne_shortest_gap : (Str.ofString "shortest" = Str.ofString "gap") = False := eq_false (by decide +kernel)
@[simp] theorem ne_shortest_least : (Str.ofString "shortest" = Str.ofString "least") = False := eq_false (by decide +kernel)
@[simp] theorem ne_shortest_private : (Str.ofString "shortest" = Str.ofString "private") = False := eq_false (by decide +kernel)
@[simp] theorem ne_shortest_hours : (Str.ofString "shortest" = Str.ofString "hours") = False := eq_false (by decide +kernel)
@[simp] theorem ne_shortest_length : (Str.ofString "shortest" = Str.ofString "length") = False := eq_false (by decide +kernel)
@[simp] theorem ne_shortest_meetings : (Str.ofString "shortest" = Str.ofString "meetings") = False := eq_false (by decide +kernel)
@[simp] theorem ne_shortest_most : (Str.ofString "shortest" = Str.ofString "most") = False := eq_false (by decide +kernel)
@[simp] theorem ne_shortest_known : (Str.ofString "shortest" = Str.ofString "known") = False := eq_false (by decide +kernel)
@[simp] theorem ne_shortest_busy : (Str.ofString "shortest" = Str.ofString "busy") = False := eq_false (by decide +kernel)
@[simp] theorem ne_shortest_none : (Str.ofString "shortest" = Str.ofString "none") = False := eq_false (by decide +kernel)
@[simp] theorem ne_shortest_apart : (Str.ofString "shortest" = Str.ofString "apart") = False := eq_false (by decide +kernel)
@[simp] theorem ne_shortest_one : (Str.ofString "shortest" = Str.ofString "one") = False := eq_false (by decide +kernel)
@[simp] theorem ne_most_step : (Str.ofString "most" = Str.ofString "step") = False := eq_false (by decide +kernel)
@[simp] theorem ne_most_gap : (Str.ofString "most" = Str.ofString "gap") = False := eq_false (by decide +kernel)
@[simp] theorem ne_most_least : (Str.ofString "most" = Str.ofString "least") = False := eq_false (by decide +kernel)
@[simp] theorem ne_most_private : (Str.ofString "most" = Str.ofString "private") = False := eq_false (by decide +kernel)
@[simp] theorem ne_most_hours : (Str.ofString "most" = Str.ofString "hours") = False := eq_false (by decide +kernel)
@[simp] theorem ne_most_length : (Str.ofString "most" = Str.ofString "length") = False := eq_false (by decide +kernel)
@[simp] theorem ne_most_meetings : (Str.ofString "most" = Str.ofString "meetings") = False := eq_false (by decide +kernel)
@[simp] theorem ne_most_shortest : (Str.ofString "most" = Str.ofString "shortest") = False := eq_false (by decide +kernel)
@[simp] theorem ne_most_known : (Str.ofString "most" = Str.ofString "known") = False := eq_false (by decide +kernel)
@[simp] theorem ne_most_busy : (Str.ofString "most" = Str.ofString "busy") = False := eq_false (by decide +kernel)
@[simp] theorem ne_most_none : (Str.ofString "most" = Str.ofString "none") = False := eq_false (by decide +kernel)
@[simp] theorem ne_most_apart : (Str.ofString "most" = Str.ofString "apart") = False := eq_false (by decide +kernel)
@[simp] theorem ne_most_one : (Str.ofString "most" = Str.ofString "one") = False := eq_false (by decide +kernel)
@[simp] theorem ne_known_step : (Str.ofString "known" = Str.ofString "step") = False := eq_false (by decide +kernel)
@[simp] theorem ne_known_gap : (Str.ofString "known" = Str.ofString "gap") = False := eq_false (by decide +kernel)
@[simp] theorem ne_known_least : (Str.ofString "known" = Str.ofString "least") = False := eq_false (by decide +kernel)
@[simp] theorem ne_known_private : (Str.ofString "known" = Str.ofString "private") = False := eq_false (by decide +kernel)
@[simp] theorem ne_known_hours : (Str.ofString "known" = Str.ofString "hours") = False := eq_false (by decide +kernel)
@[simp] theorem ne_known_length : (Str.ofString "known" = Str.ofString "length") = False := eq_false (by decide +kernel)
@[simp] theorem ne_known_meetings : (Str.ofString "known" = Str.ofString "meetings") = False := eq_false (by decide +kernel)
@[simp] theorem ne_known_shortest : (Str.ofString "known" = Str.ofString "shortest") = False := eq_false (by decide +kernel)
@[simp] theorem ne_known_most : (Str.ofString "known" = Str.ofString "most") = False := eq_false (by decide +kernel)
@[simp] theorem ne_known_busy : (Str.ofString "known" = Str.ofString "busy") = False := eq_false (by decide +kernel)
@[simp] theorem ne_known_none : (Str.ofString "known" = Str.ofString "none") = False := eq_false (by decide +kernel)
@[simp] theorem ne_known_apart : (Str.ofString "known" = Str.ofString "apart") = False := eq_false (by decide +kernel)
@[simp] theorem ne_known_one : (Str.ofString "known" = Str.ofString "one") = False := eq_false (by decide +kernel)
@[simp] theorem ne_busy_step : (Str.ofString "busy" = Str.ofString "step") = False := eq_false (by decide +kernel)
@[simp] theorem ne_busy_gap : (Str.ofString "busy" = Str.ofString "gap") = False := eq_false (by decide +kernel)
@[simp] theorem ne_busy_least : (Str.ofString "busy" = Str.ofString "least") = False := eq_false (by decide +kernel)
@[simp] theorem ne_busy_private : (Str.ofString "busy" = Str.ofString "private") = False := eq_false (by decide +kernel)
@[simp] theorem ne_busy_hours : (Str.ofString "busy" = Str.ofString "hours") = False := eq_false (by decide +kernel)
@[simp] theorem ne_busy_length : (Str.ofString "busy" = Str.ofString "length") = False := eq_false (by decide +kernel)
@[simp] theorem ne_busy_meetings : (Str.ofString "busy" = Str.ofString "meetings") = False := eq_false (by decide +kernel)
@[simp] theorem ne_busy_shortest : (Str.ofString "busy" = Str.ofString "shortest") = False := eq_false (by decide +kernel)
@[simp] theorem ne_busy_most : (Str.ofString "busy" = Str.ofString "most") = False := eq_false (by decide +kernel)
@[simp] theorem ne_busy_known : (Str.ofString "busy" = Str.ofString "known") = False := eq_false (by decide +kernel)
@[simp] theorem ne_busy_none : (Str.ofString "busy" = Str.ofString "none") = False := eq_false (by decide +kernel)
@[simp] theorem ne_busy_apart : (Str.ofString "busy" = Str.ofString "apart") = False := eq_false (by decide +kernel)
@[simp] theorem ne_busy_one : (Str.ofString "busy" = Str.ofString "one") = False := eq_false (by decide +kernel)
@[simp] theorem ne_none_step : (Str.ofString "none" = Str.ofString "step") = False := eq_false (by decide +kernel)
@[simp] theorem ne_none_gap : (Str.ofString "none" = Str.ofString "gap") = False := eq_false (by decide +kernel)
@[simp] theorem ne_none_least : (Str.ofString "none" = Str.ofString "least") = False := eq_false (by decide +kernel)
@[simp] theorem ne_none_private : (Str.ofString "none" = Str.ofString "private") = False := eq_false (by decide +kernel)
@[simp] theorem ne_none_hours : (Str.ofString "none" = Str.ofString "hours") = False := eq_false (by decide +kernel)
@[simp] theorem ne_none_length : (Str.ofString "none" = Str.ofString "length") = False := eq_false (by decide +kernel)
@[simp] theorem ne_none_meetings : (Str.ofString "none" = Str.ofString "meetings") = False := eq_false (by decide +kernel)
@[simp] theorem ne_none_shortest : (Str.ofString "none" = Str.ofString "shortest") = False := eq_false (by decide +kernel)
@[simp] theorem ne_none_most : (Str.ofString "none" = Str.ofString "most") = False := eq_false (by decide +kernel)
@[simp] theorem ne_none_known : (Str.ofString "none" = Str.ofString "known") = False := eq_false (by decide +kernel)
@[simp] theorem ne_none_busy : (Str.ofString "none" = Str.ofString "busy") = False := eq_false (by decide +kernel)
@[simp] theorem ne_none_apart : (Str.ofString "none" = Str.ofString "apart") = False := eq_false (by decide +kernel)
@[simp] theorem ne_none_one : (Str.ofString "none" = Str.ofString "one") = False := eq_false (by decide +kernel)
@[simp] theorem ne_apart_step : (Str.ofString "apart" = Str.ofString "step") = False := eq_false (by decide +kernel)
@[simp] theorem ne_apart_gap : (Str.ofString "apart" = Str.ofString "gap") = False := eq_false (by decide +kernel)
@[simp] theorem ne_apart_least : (Str.ofString "apart" = Str.ofString "least") = False := eq_false (by decide +kernel)
@[simp] theorem ne_apart_private : (Str.ofString "apart" = Str.ofString "private") = False := eq_false (by decide +kernel)
@[simp] theorem ne_apart_hours : (Str.ofString "apart" = Str.ofString "hours") = False := eq_false (by decide +kernel)
@[simp] theorem ne_apart_length : (Str.ofString "apart" = Str.ofString "length") = False := eq_false (by decide +kernel)
@[simp] theorem ne_apart_meetings : (Str.ofString "apart" = Str.ofString "meetings") = False := eq_false (by decide +kernel)
@[simp] theorem ne_apart_shortest : (Str.ofString "apart" = Str.ofString "shortest") = False := eq_false (by decide +kernel)
@[simp] theorem ne_apart_most : (Str.ofString "apart" = Str.ofString "most") = False := eq_false (by decide +kernel)
@[simp] theorem ne_apart_known : (Str.ofString "apart" = Str.ofString "known") = False := eq_false (by decide +kernel)
@[simp] theorem ne_apart_busy : (Str.ofString "apart" = Str.ofString "busy") = False := eq_false (by decide +kernel)
@[simp] theorem ne_apart_none : (Str.ofString "apart" = Str.ofString "none") = False := eq_false (by decide +kernel)
@[simp] theorem ne_apart_one : (Str.ofString "apart" = Str.ofString "one") = False := eq_false (by decide +kernel)
@[simp] theorem ne_one_step : (Str.ofString "one" = Str.ofString "step") = False := eq_false (by decide +kernel)
@[simp] theorem ne_one_gap : (Str.ofString "one" = Str.ofString "gap") = False := eq_false (by decide +kernel)
@[simp] theorem ne_one_least : (Str.ofString "one" = Str.ofString "least") = False := eq_false (by decide +kernel)
@[simp] theorem ne_one_private : (Str.ofString "one" = Str.ofString "private") = False := eq_false (by decide +kernel)
@[simp] theorem ne_one_hours : (Str.ofString "one" = Str.ofString "hours") = False := eq_false (by decide +kernel)
@[simp] theorem ne_one_length : (Str.ofString "one" = Str.ofString "length") = False := eq_false (by decide +kernel)
@[simp] theorem ne_one_meetings : (Str.ofString "one" = Str.ofString "meetings") = False := eq_false (by decide +kernel)
@[simp] theorem ne_one_shortest : (Str.ofString "one" = Str.ofString "shortest") = False := eq_false (by decide +kernel)
@[simp] theorem ne_one_most : (Str.ofString "one" = Str.ofString "most") = False := eq_false (by decide +kernel)
@[simp] theorem ne_one_known : (Str.ofString "one" = Str.ofString "known") = False := eq_false (by decide +kernel)
@[simp] theorem ne_one_busy : (Str.ofString "one" = Str.ofString "busy") = False := eq_false (by decide +kernel)
@[simp] theorem ne_one_none : (Str.ofString "one" = Str.ofString "none") = False := eq_false (by decide +kernel)
@[simp] theorem ne_one_apart : (Str.ofString "one" = Str.ofString "apart") = False := eq_false (by decide +kernel)
@[simp] theorem ne_but_step : (Str.ofString "but" = Str.ofString "step") = False := eq_false (by decide +kernel)
@[simp] theorem ne_but_gap : (Str.ofString "but" = Str.ofString "gap") = False := eq_false (by decide +kernel)
@[simp] theorem ne_but_least : (Str.ofString "but" = Str.ofString "least") = False := eq_false (by decide +kernel)
@[simp] theorem ne_but_private : (Str.ofString "but" = Str.ofString "private") = False := eq_false (by decide +kernel)
@[simp] theorem ne_but_hours : (Str.ofString "but" = Str.ofString "hours") = False := eq_false (by decide +kernel)
@[simp] theorem ne_but_length : (Str.ofString "but" = Str.ofString "length") = False := eq_false (by decide +kernel)
@[simp] theorem ne_but_meetings : (Str.ofString "but" = Str.ofString "meetings") = False := eq_false (by decide +kernel)
@[simp] theorem ne_but_shortest : (Str.ofString "but" = Str.ofString "shortest") = False := eq_false (by decide +kernel)
@[simp] theorem ne_but_most : (Str.ofString "but" = Str.ofString "most") = False := eq_false (by decide +kernel)
@[simp] theorem ne_but_known : (Str.ofString "but" = Str.ofString "known") = False := eq_false (by decide +kernel)
@[simp] theorem ne_without_step : (Str.ofString "without" = Str.ofString "step") = False := eq_false (by decide +kernel)
@[simp] theorem ne_without_gap : (Str.ofString "without" = Str.ofString "gap") = False := eq_false (by decide +kernel)
@[simp] theorem ne_without_least : (Str.ofString "without" = Str.ofString "least") = False := eq_false (by decide +kernel)
@[simp] theorem ne_without_private : (Str.ofString "without" = Str.ofString "private") = False := eq_false (by decide +kernel)
@[simp] theorem ne_without_hours : (Str.ofString "without" = Str.ofString "hours") = False := eq_false (by decide +kernel)
@[simp] theorem ne_without_length : (Str.ofString "without" = Str.ofString "length") = False := eq_false (by decide +kernel)
@[simp] theorem ne_without_meetings : (Str.ofString "without" = Str.ofString "meetings") = False := eq_false (by decide +kernel)
@[simp] theorem ne_without_shortest : (Str.ofString "without" = Str.ofString "shortest") = False := eq_false (by decide +kernel)
@[simp] theorem ne_without_most : (Str.ofString "without" = Str.ofString "most") = False := eq_false (by decide +kernel)
@[simp] theorem ne_without_known : (Str.ofString "without" = Str.ofString "known") = False := eq_false (by decide +kernel)
@[simp] theorem ne_having_step : (Str.ofString "having" = Str.ofString "step") = False := eq_false (by decide +kernel)
@[simp] theorem ne_having_gap : (Str.ofString "having" = Str.ofString "gap") = False := eq_false (by decide +kernel)
@[simp] theorem ne_having_least : (Str.ofString "having" = Str.ofString "least") = False := eq_false (by decide +kernel)
@[simp] theorem ne_having_private : (Str.ofString "having" = Str.ofString "private") = False := eq_false (by decide +kernel)
@[simp] theorem ne_having_hours : (Str.ofString "having" = Str.ofString "hours") = False := eq_false (by decide +kernel)
@[simp] theorem ne_having_length : (Str.ofString "having" = Str.ofString "length") = False := eq_false (by decide +kernel)
@[simp] theorem ne_having_meetings : (Str.ofString "having" = Str.ofString "meetings") = False := eq_false (by decide +kernel)
@[simp] theorem ne_having_shortest : (Str.ofString "having" = Str.ofString "shortest") = False := eq_false (by decide +kernel)
@[simp] theorem ne_having_most : (Str.ofString "having" = Str.ofString "most") = False := eq_false (by decide +kernel)
@[simp] theorem ne_having_known : (Str.ofString "having" = Str.ofString "known") = False := eq_false (by decide +kernel)
@[simp] theorem ne_knowing_step : (Str.ofString "knowing" = Str.ofString "step") = False := eq_false (by decide +kernel)
@[simp] theorem ne_knowing_gap : (Str.ofString "knowing" = Str.ofString "gap") = False := eq_false (by decide +kernel)
@[simp] theorem ne_knowing_least : (Str.ofString "knowing" = Str.ofString "least") = False := eq_false (by decide +kernel)
@[simp] theorem ne_knowing_private : (Str.ofString "knowing" = Str.ofString "private") = False := eq_false (by decide +kernel)
@[simp] theorem ne_knowing_hours : (Str.ofString "knowing" = Str.ofString "hours") = False := eq_false (by decide +kernel)
@[simp] theorem ne_knowing_length : (Str.ofString "knowing" = Str.ofString "length") = False := eq_false (by decide +kernel)
@[simp] theorem ne_knowing_meetings : (Str.ofString "knowing" = Str.ofString "meetings") = False := eq_false (by decide +kernel)
@[simp] theorem ne_knowing_shortest : (Str.ofString "knowing" = Str.ofString "shortest") = False := eq_false (by decide +kernel)
@[simp] theorem ne_knowing_most : (Str.ofString "knowing" = Str.ofString "most") = False := eq_false (by decide +kernel)
@[simp] theorem ne_knowing_known : (Str.ofString "knowing" = Str.ofString "known") = False := eq_false (by decide +kernel)
@[simp] theorem ne_lets_step : (Str.ofString "lets" = Str.ofString "step") = False := eq_false (by decide +kernel)
@[simp] theorem ne_lets_gap : (Str.ofString "lets" = Str.ofString "gap") = False := eq_false (by decide +kernel)
@[simp] theorem ne_lets_least : (Str.ofString "lets" = Str.ofString "least") = False := eq_false (by decide +kernel)
@[simp] theorem ne_lets_private : (Str.ofString "lets" = Str.ofString "private") = False := eq_false (by decide +kernel)
@[simp] theorem ne_lets_hours : (Str.ofString "lets" = Str.ofString "hours") = False := eq_false (by decide +kernel)
@[simp] theorem ne_lets_length : (Str.ofString "lets" = Str.ofString "length") = False := eq_false (by decide +kernel)
@[simp] theorem ne_lets_meetings : (Str.ofString "lets" = Str.ofString "meetings") = False := eq_false (by decide +kernel)
@[simp] theorem ne_lets_shortest : (Str.ofString "lets" = Str.ofString "shortest") = False := eq_false (by decide +kernel)
@[simp] theorem ne_lets_most : (Str.ofString "lets" = Str.ofString "most") = False := eq_false (by decide +kernel)
@[simp] theorem ne_lets_known : (Str.ofString "lets" = Str.ofString "known") = False := eq_false (by decide +kernel)
end DL
set_option linter.all false
set_option maxRecDepth 100000
set_option maxHeartbeats 1000000
namespace DL
open PySem PySem.Spec PyProof.Rows L2 DD
theorem pyEq_s {a b : Str} : pyEq (.str a) (.str b) = decide (a = b) := by
  show PyData.eqv (.str a) (.str b) = _
  simp [PyData.eqv]
  try rfl
theorem inD_s {s : Str} {xs : List Str} : inD (.str s) (xs.map D.str) = decide (s ∈ xs) := by
  induction xs with
  | nil => rfl
  | cons x xs ih =>
    rw [List.map_cons]
    show (pyEq (.str x) (.str s) || inD (.str s) (xs.map D.str)) = _
    rw [ih, pyEq_s]
    by_cases h : x = s
    · simp [h]
    · have h' : ¬ s = x := fun e => h e.symm
      simp [h, h']
theorem flat_s {xs : List Str} : (xs.map D.str).all D.flat = true := by simp [D.flat]
theorem in_strs {s : Str} {xs : List Str} : opInB (.str s) (.tup (xs.map D.str)) = some (decide (s ∈ xs)) := by
  show (if _ then some (inD (.str s) (xs.map D.str)) else _) = _
  rw [if_pos ⟨rfl, flat_s⟩, inD_s]
@[simp] theorem in_s4 {s a b c d : Str} : opInB (.str s) (.tup [.str a, .str b, .str c, .str d]) = some (decide (s ∈ [a, b, c, d])) := in_strs (xs := [a, b, c, d])
@[simp] theorem in_s2 {s a b : Str} : opInB (.str s) (.tup [.str a, .str b]) = some (decide (s ∈ [a, b])) := in_strs (xs := [a, b])
def dvD (c : Cl) (n : Int) (ms : List Mt) : D := .ins c.Day ["length", "meetings"] [.int n, .tup (ms.map mtD)]
def dyO (c : Cl) (n : Int) (ms : List Mt) : O := .ins c.Day ["length", "meetings"] [.int n, .tup (ms.map mtD)]
theorem day_init {c : Cl} {n : Int} {ms : List Mt} (h1 : 1 ≤ n) (h : Meets 0 ms) (hn : endOf 0 ms ≤ n) {d : D} (hd : d = .lst (ms.map mtD) ∨ d = .tup (ms.map mtD)) : GivesB 3 (fun ρ => D_Day___init__ c (fillD 3 [] ρ)) (.ins c.Day [] []) [.int n, d] (.val .non) (dyO c n ms) := by
  obtain ⟨_, p⟩ := (are_meetings_v (c := c) h hn hd).elim
  obtain ⟨_, p1⟩ := (is_positive_v (c := c) (i := n)).elim
  simp at p p1
  rcases hd with rfl | rfl
  · simp [GivesB, D_Day___init__, fillD, p, p1, h1, dyO]
  · simp [GivesB, D_Day___init__, fillD, p, p1, h1, dyO]
end DL
set_option linter.all false
set_option maxRecDepth 100000
set_option maxHeartbeats 1000000
namespace DL
open PySem PySem.Spec PyProof.Rows L2 DD
@[simp] theorem atI_zero {α : Type} {a : α} {L : List α} : atI (a :: L) 0 = some a := by
  have : (0 : Int) < (L.length : Int) + 1 := by omega
  simp [atI, ixN, this]
@[simp] theorem atI_one {α : Type} {a b : α} {L : List α} : atI (a :: b :: L) 1 = some b := by
  have : (1 : Int) < (L.length : Int) + 1 + 1 := by omega
  simp [atI, ixN, this]
@[simp] theorem atI_two {α : Type} {a b d : α} {L : List α} : atI (a :: b :: d :: L) 2 = some d := by
  have : (2 : Int) < (L.length : Int) + 1 + 1 + 1 := by omega
  simp [atI, ixN, this]
@[simp] theorem atI_three {α : Type} {a b d e : α} {L : List α} : atI (a :: b :: d :: e :: L) 3 = some e := by
  have : (3 : Int) < (L.length : Int) + 1 + 1 + 1 + 1 := by omega
  simp [atI, ixN, this]
@[simp] theorem atI_four {α : Type} {a b d e f : α} {L : List α} : atI (a :: b :: d :: e :: f :: L) 4 = some f := by
  have : (4 : Int) < (L.length : Int) + 1 + 1 + 1 + 1 + 1 := by omega
  simp [atI, ixN, this]
@[simp] theorem ixN_last {n : Nat} : ixN (n + 1) (-1) = some n := by
  have h1 : ¬ (0 : Int) ≤ -1 := by omega
  have h3 : (1 : Int) ≤ (n : Int) + 1 := by omega
  have h4 : (-1 + ((n : Int) + 1)).toNat = n := by omega
  simp [ixN, h3, h4]
@[simp] theorem atI_last {α : Type} {a : α} {L : List α} : atI (L ++ [a]) (-1) = some a := by
  unfold atI
  rw [List.length_append, List.length_singleton, ixN_last]
  simp
@[simp] theorem set_last {α : Type} {a b : α} {L : List α} : (L ++ [a]).set L.length b = L ++ [b] := by
  simp
/-- things that can be sorted -/
structure Bord {β : Type} (enc : β → D) (key : β → PyData) : Prop where
  py : ∀ b, (enc b).py = some (key b)
  inj : ∀ a b, PySem.W.keyToks (key a) = PySem.W.keyToks (key b) → a = b
  al : ∀ a b, PySem.W.alike (key a) (key b) = true
  tup : ∀ a, ∃ x r, key a = .tuple (x :: r)
  pl : ∀ a, (key a).plain = true
  dp : ∀ a, (key a).depth ≤ 50
  lt : ∀ a b, opLt (enc a) (enc b) = opLtD (enc a) (enc b)
  cl : ∀ a, (key a).canLay0 = true
section
variable {β : Type} {enc : β → D} {key : β → PyData}
theorem Bord.eqv (o : Bord enc key) {a b : β} : PyData.eqv (key a) (key b) = true ↔ a = b := by
  refine ⟨fun h => o.inj a b ((PySem.W.toks_eqv _ _ (o.al a b)).1 h), ?_⟩
  rintro rfl
  exact PySem.W.eqv_refl_alike _ (o.al a a)
theorem Bord.pyA (o : Bord enc key) : ∀ L : List β, D.pyA (L.map enc) = some (L.map key)
  | [] => rfl
  | a :: L => by
    rw [List.map_cons, List.map_cons]
    simp only [D.pyA, o.py, o.pyA L]
@[simp] theorem eqB_nil : eqB (.lst []) (.lst []) = some true := rfl
end
end DL
set_option linter.all false
set_option maxRecDepth 100000
set_option maxHeartbeats 1000000
namespace DL
open PySem PySem.Spec PyProof.Rows L2 DD
end DL
set_option linter.all false
set_option maxRecDepth 100000
set_option maxHeartbeats 1000000
namespace DL
open PySem PySem.Spec PyProof.Rows L2 DD
/-- a comprehension, step by step -/
theorem lc_fm {α : Type} {vs : List Nat} {U : Tg} {T : En → Res Bool} {A : En → Res X} {enc : α → D} (f : α → Option D) {ρ : En} : ∀ {L : List α} {acc : List D}, (∀ x ∈ L, ∀ ds acc, acc.length < 100000 → lcL vs U T A (enc x :: ds) ρ acc = lcL vs U T A ds ρ (acc ++ (f x).toList)) → L.length + acc.length ≤ 100000 → lcL vs U T A (L.map enc) ρ acc = .ok (acc ++ L.filterMap f) ρ
  | [], acc, _, _ => by simp [lcL]
  | x :: L, acc, h, hz => by
    rw [List.map_cons, h x List.mem_cons_self _ _ (by simp at hz; omega), lc_fm f (L := L) (fun y hy => h y (List.mem_cons_of_mem _ hy)) (by
      simp at hz ⊢
      cases f x <;> simp <;> omega)]
    cases e : f x <;> simp [List.filterMap_cons, e]
def dn (t s : Int) : Int := t / s * s
def up (t s : Int) : Int := (t + s - 1) / s * s
end DL
set_option linter.all false
set_option maxRecDepth 100000
set_option maxHeartbeats 1000000
namespace DL
open PySem PySem.Spec PyProof.Rows L2 DD
def isJ (r : Ru) (w : Bool) (e b : Int) : Prop := (w = true ∧ r.p = "one") ∨ b - e ≤ r.g
instance {r : Ru} {w : Bool} {e b : Int} : Decidable (isJ r w e b) := by
  unfold isJ
  infer_instance
end DL
set_option linter.all false
set_option maxRecDepth 100000
set_option maxHeartbeats 1000000
namespace DL
open PySem PySem.Spec PyProof.Rows L2 DD
end DL
set_option linter.all false
set_option maxRecDepth 100000
set_option maxHeartbeats 1000000
namespace DL
open PySem PySem.Spec PyProof.Rows L2 DD
def tk (b e : Int) : List Int := (List.range (e - b).toNat).map fun n => b + (n : Nat)
def flat (J : List (Int × Int)) : List Int := J.flatMap fun x => tk x.1 x.2
/-- spans in their order, not touching, up to a tick -/
structure Spc (a : Int) (J : List (Int × Int)) : Prop where
  one : ∀ x ∈ J, 0 ≤ x.1 ∧ x.1 < x.2 ∧ x.2 ≤ a
  two : J.Pairwise fun x y => x.2 < y.1
theorem Spc.nil {a : Int} : Spc a [] := ⟨fun x h => by simp at h, .nil⟩
theorem Spc.mono {a b : Int} {J : List (Int × Int)} (h : Spc a J) (hb : a ≤ b) : Spc b J := ⟨fun x hx => by have := h.one x hx; omega, h.two⟩
theorem Spc.init {a : Int} {J : List (Int × Int)} {y : Int × Int} (h : Spc a (J ++ [y])) : Spc y.1 J := ⟨fun x hx => by
  have h1 := h.one x (by simp [hx])
  have h2 := (List.pairwise_append.mp h.two).2.2 x hx y (by simp)
  omega, (List.pairwise_append.mp h.two).1⟩
theorem Spc.snoc {a b : Int} {J : List (Int × Int)} {y : Int × Int} (h : Spc a J) (h0 : 0 ≤ y.1) (h1 : ∀ x ∈ J, x.2 < y.1) (h2 : y.1 < y.2) (h3 : y.2 ≤ b) (h4 : a ≤ b) : Spc b (J ++ [y]) := ⟨fun x hx => by
  rw [List.mem_append] at hx
  rcases hx with hx | hx
  · have := h.one x hx
    omega
  · simp at hx
    subst hx
    omega, by
  rw [List.pairwise_append]
  refine ⟨h.two, by simp, fun x hx z hz => ?_⟩
  simp at hz
  subst hz
  exact h1 x hx⟩
end DL
set_option linter.all false
set_option maxRecDepth 100000
set_option maxHeartbeats 1000000
namespace DL
open PySem PySem.Spec PyProof.Rows L2 DD
theorem eqB_lst_nil {β : Type} {enc : β → D} {key : β → PyData} (py : ∀ b, (enc b).py = some (key b)) (cl : ∀ b, (key b).canLay0 = true) (dp : ∀ b, (key b).depth ≤ 50) (L : List β) : eqB (.lst (L.map enc)) (.lst []) = some L.isEmpty := by
  have h1 : ∀ L : List β, D.pyA (L.map enc) = some (L.map key) := by
    intro L
    induction L with
    | nil => rfl
    | cons a L ih =>
      rw [List.map_cons, List.map_cons]
      simp only [D.pyA, py, ih]
  have h2 : ∀ L : List β, PyData.canLayAll0 (L.map key) = true := by
    intro L
    induction L with
    | nil => rfl
    | cons a L ih =>
      rw [List.map_cons]
      simp only [PyData.canLayAll0, cl a, ih, Bool.and_self]
  have h3 : ∀ L : List β, PyData.depthAll (L.map key) ≤ 50 := by
    intro L
    induction L with
    | nil => simp [PyData.depthAll]
    | cons a L ih =>
      rw [List.map_cons]
      simp only [PyData.depthAll]
      have := dp a
      omega
  have hs : SeqAt.shaped (.list (L.map key)) = true := by
    unfold SeqAt.shaped
    simp only [PyData.canLay0, h2 L, Bool.true_and, PyData.depth]
    have := h3 L
    simp
    omega
  have h : (D.lst (L.map enc)).py = some (.list (L.map key)) := by simp only [D.py, h1 L, Option.map]
  show (match (D.lst (L.map enc)).py, (D.lst []).py with
    | some p, some q => if SeqAt.shaped p = true ∧ SeqAt.shaped q = true then some (PyData.eqv p q) else none
    | _, _ => match D.lst (L.map enc), D.lst [] with
      | .lst ds, .lst es => if ds.length = es.length then none else some false
      | _, _ => none) = _
  rw [h]
  show (if SeqAt.shaped (.list (L.map key)) = true ∧ SeqAt.shaped (.list []) = true then some (PyData.eqv (.list (L.map key)) (.list [])) else none) = _
  rw [if_pos ⟨hs, rfl⟩]
  cases L with
  | nil => rfl
  | cons a L => rfl
/-- the tuple of a rule, of a day, in the laws -/
def dtD (n : Int) (ms : List Mt) : D := .tup [.int n, .lst (ms.map mtD)]
theorem endOf_nonneg : ∀ {a : Int} {ms : List Mt}, 0 ≤ a → Meets a ms → a ≤ endOf a ms
  | a, [], _, _ => Int.le_refl _
  | a, m :: ms, h0, h => by
    have := endOf_nonneg (a := m.2.1) (by have := h.1; have := h.2.1; omega) h.2.2
    have := h.1
    have := h.2.1
    show a ≤ endOf m.2.1 ms
    omega
end DL
set_option linter.all false
set_option maxRecDepth 100000
set_option maxHeartbeats 1000000
namespace DL
open PySem PySem.Spec PyProof.Rows L2 DD
end DL
set_option linter.all false
set_option maxRecDepth 100000
set_option maxHeartbeats 1000000
namespace DL
open PySem PySem.Spec PyProof.Rows L2 DD
end DL
set_option linter.all false
set_option maxRecDepth 100000
set_option maxHeartbeats 1000000
namespace DL
open PySem PySem.Spec PyProof.Rows L2 DD
def In (i : Int) : Prop := 0 ≤ i ∧ i ≤ 1100
theorem In.log {i : Int} (h : In i) : i.natAbs.log2 < 1920 := by
  have := Nat.log2_le_self i.natAbs
  have := h.1
  have := h.2
  omega
/-- the text of a number -/
def iT (i : Int) : Str := Str.ofString (toString i)
@[simp] theorem iT_r {i : Int} : Str.ofString i.repr = iT i := rfl
@[simp] theorem iT_s {i : Int} : Str.ofString (toString i) = iT i := rfl
theorem In.len {i : Int} (h : In i) : (iT i).length ≤ 5 := by
  have e := int_text_length_le10 (a := i) (k := 4) (by decide) (by have := h.1; have := h.2; omega)
  show (Str.ofString (toString i)).length ≤ 5
  rw [PySem.ofString_length]
  omega
@[simp] theorem e_app {x : Str} : Str.empty ++ x = x := Str.empty_append x
@[simp] theorem app_e {x : Str} : x ++ Str.ofString "" = x := Str.append_empty x
@[simp] theorem l_dash : (Str.ofString "-").length = 1 := by decide +kernel
@[simp] theorem l_priv : (Str.ofString " private").length = 8 := by decide +kernel
@[simp] theorem l_nil : (Str.ofString "").length = 0 := by decide +kernel
@[simp] theorem l_colon : (Str.ofString ": ").length = 2 := by decide +kernel
@[simp] theorem l_comma : (Str.ofString ", ").length = 2 := by decide +kernel
@[simp] theorem l_sp : (Str.ofString " ").length = 1 := by decide +kernel
theorem allS_map {α : Type} {f : α → Str} : ∀ L : List α, allS (L.map fun x => D.str (f x)) = some (L.map f)
  | [] => rfl
  | a :: L => by
    rw [List.map_cons, List.map_cons]
    simp only [allS, allS_map L, Option.map]
def mtT (m : Mt) : Str := if m.2.2 then iT m.1 ++ ("-" : Str) ++ iT m.2.1 ++ (" private" : Str) else iT m.1 ++ ("-" : Str) ++ iT m.2.1
theorem mtT_len {m : Mt} (h : In m.1) (h2 : In m.2.1) : (mtT m).length ≤ 20 := by
  have := h.len
  have := h2.len
  unfold mtT
  split <;> simp only [Str.length_append, l_dash, l_priv] <;> omega
theorem meeting_text_v {c : Cl} {m : Mt} (h : In m.1) (h2 : In m.2.1) : Gives 4 (D__meeting_text c) [mtD m] (.val (.str (mtT m))) := by
  obtain ⟨a, b, p⟩ := m
  have h1l : (iT a).length ≤ 5 := h.len
  have h2l : (iT b).length ≤ 5 := h2.len
  have h1g : a.natAbs.log2 < 1920 := h.log
  have h2g : b.natAbs.log2 < 1920 := h2.log
  have f2 : (iT a).length ≤ 16777216 := by omega
  have f3 : (iT a).length ≤ 16777215 := by omega
  have f4 : (iT a).length + 1 + (iT b).length ≤ 16777216 := by omega
  have f5 : (iT a).length + 1 + (iT b).length ≤ 16777208 := by omega
  cases p <;> simp [Gives, D__meeting_text, mtD, mtT, h1g, h2g, f2, f3, f4, f5, Str.length_append]
theorem strOk_app {x y : Str} : PyData.strOk (x ++ y) = (PyData.strOk x && PyData.strOk y) := by
  unfold PyData.strOk
  rw [Str.cps_append, Array.all_append]
theorem mtT_ok {m : Mt} (h : In m.1) (h2 : In m.2.1) : PyData.strOk (mtT m) = true := by
  have a : PyData.strOk (iT m.1) = true := okInt h.1
  have b : PyData.strOk (iT m.2.1) = true := okInt h2.1
  have e1 : PyData.strOk ("-" : Str) = true := by decide +kernel
  have e2 : PyData.strOk (" private" : Str) = true := by decide +kernel
  unfold mtT
  split <;> simp only [strOk_app, a, b, e1, e2, Bool.and_self]
theorem pyA_strs : ∀ L : List Str, D.pyA (L.map D.str) = some (L.map PyData.str)
  | [] => rfl
  | a :: L => by
    rw [List.map_cons, List.map_cons]
    simp only [D.pyA, D.py, pyA_strs L]
theorem eqB_strs_nil {L : List Str} (h : ∀ x ∈ L, PyData.strOk x = true) : eqB (.lst (L.map D.str)) (.lst []) = some L.isEmpty := by
  have e : (D.lst (L.map D.str)).py = some (.list (L.map PyData.str)) := by simp only [D.py, pyA_strs L, Option.map]
  show (match (D.lst (L.map D.str)).py, (D.lst []).py with
    | some p, some q => if SeqAt.shaped p = true ∧ SeqAt.shaped q = true then some (PyData.eqv p q) else none
    | _, _ => match D.lst (L.map D.str), D.lst [] with
      | .lst ds, .lst es => if ds.length = es.length then none else some false
      | _, _ => none) = _
  rw [e]
  show (if SeqAt.shaped (.list (L.map PyData.str)) = true ∧ SeqAt.shaped (.list []) = true then some (PyData.eqv (.list (L.map PyData.str)) (.list [])) else none) = _
  rw [if_pos ⟨shapedStrs h, rfl⟩]
  cases L with
  | nil => rfl
  | cons a L => rfl
def InM (ms : List Mt) : Prop := ∀ m ∈ ms, In m.1 ∧ In m.2.1
def msT (ms : List Mt) : Str := if ms = [] then "-" else Txt.join ", " (ms.map mtT)
def dyT (n : Int) (ms : List Mt) : Str := iT n ++ (": " : Str) ++ msT ms
theorem sum_mt {ms : List Mt} (h : InM ms) : ((ms.map mtT).map (·.length)).sum ≤ ms.length * 20 := by
  have := sum_le (f := fun m => (mtT m).length) (k := 20) (xs := ms) fun m hm => mtT_len (h m hm).1 (h m hm).2
  rw [List.map_map]
  exact this
theorem msT_len {ms : List Mt} (h : InM ms) (hz : ms.length ≤ 400) : (msT ms).length ≤ 10000 := by
  unfold msT
  split
  · simp
  · have h1 := join_len (s := (", " : Str)) (xs := ms.map mtT)
    have h2 := sum_mt h
    simp only [l_comma, List.length_map] at h1
    omega
theorem meetings_text_v {c : Cl} {ms : List Mt} (h : InM ms) (hz : ms.length ≤ 400) : Gives 2 (D__meetings_text c) [.tup (ms.map mtD)] (.val (.str (msT ms))) := by
  have L := lc_fm (vs := [1]) (U := uName 1) (T := tdYes) (A := dCall 1 4 (D__meeting_text c) (aCons (dVar 1) aNil)) (enc := mtD) (fun m => some (.str (mtT m))) (ρ := [.val (.tup (ms.map mtD)), .none]) (L := ms) (acc := []) (fun m hm ds acc ha => by
    obtain ⟨_, p⟩ := (meeting_text_v (c := c) (h m hm).1 (h m hm).2).elim
    simp at p
    have ha' : acc.length < 16777216 := by omega
    simp [lcL, p, ha']) (by simp; omega)
  have hs := sum_mt h
  have hs2 : ((ms.map mtT).map (·.length)).sum + (ms.map mtT).length * 2 ≤ 16777216 := by rw [List.length_map]; omega
  have hA := allS_map (f := mtT) ms
  simp [Function.comp_def] at L hs2 hA
  cases ms with
  | nil => simp [Gives, D__meetings_text, msT]
  | cons m ms =>
    have h0 : ¬ ((ms.length : Int) + 1 = 0) := by omega
    simp [Function.comp_def] at L hs2 hA
    simp [Gives, D__meetings_text, msT, lcAll, L, hA, hs2, h0, Function.comp_def]
end DL
set_option linter.all false
set_option maxRecDepth 100000
set_option maxHeartbeats 1000000
namespace DL
open PySem PySem.Spec PyProof.Rows L2 DD
theorem day_str_v {c : Cl} {n : Int} {ms : List Mt} (hn : In n) (h : InM ms) (hz : ms.length ≤ 400) : Gives 1 (D_Day___str__ c) [dvD c n ms] (.val (.str (dyT n ms))) := by
  obtain ⟨_, p⟩ := (meetings_text_v (c := c) h hz).elim
  simp at p
  have l1 := hn.len
  have l2 := msT_len h hz
  have f1 : n.natAbs.log2 < 1920 := hn.log
  have f2 : (iT n).length ≤ 16777216 := by omega
  have f3 : (iT n).length ≤ 16777214 := by omega
  have f4 : (iT n).length + 2 + (msT ms).length ≤ 16777216 := by omega
  have f5 : (msT ms).length ≤ 16777216 := by omega
  simp [Gives, D_Day___str__, dvD, p, f1, f2, f3, f4, f5, Str.length_append, dyT]
theorem law_day_text_v {c : Cl} {n : Int} {ms : List Mt} (hn : In n) (h : InM ms) (hz : ms.length ≤ 400) : Gives 5 (D__law_day_text c) [dtD n ms] (.val (.str (dyT n ms))) := by
  have L := lc_fm (vs := [2, 3, 4]) (U := uTup 3 (usCons (uName 2) (usCons (uName 3) (usCons (uName 4) usNil)))) (T := tdYes) (A := dBin opAdd (dBin opAdd (dBin opAdd (dCB fStr (aCons (dVar 2) aNil)) (dC (.str "-"))) (dCB fStr (aCons (dVar 3) aNil))) (dIfE (dTest (dVar 4)) (dC (.str " private")) (dC (.str "")))) (enc := mtD) (fun m => some (.str (mtT m))) (ρ := [.val (dtD n ms), .none, .none, .none, .none]) (L := ms) (acc := []) (fun m hm ds acc ha => by
    obtain ⟨h1, h2⟩ := h m hm
    have ha' : acc.length < 16777216 := by omega
    have l1 : (iT m.1).length ≤ 5 := h1.len
    have l2 : (iT m.2.1).length ≤ 5 := h2.len
    have g1 := h1.log
    have g2 := h2.log
    have f3 : (iT m.1).length ≤ 16777215 := by omega
    have f4 : (iT m.1).length + 1 + (iT m.2.1).length ≤ 16777216 := by omega
    have f5 : (iT m.1).length + 1 + (iT m.2.1).length ≤ 16777208 := by omega
    obtain ⟨a, b, p⟩ := m
    cases p
    · simp at g1 g2 f3 f4 f5
      simp [lcL, ha', mtD, mtT, g1, g2, f3, f4, f5, Str.length_append]
    · simp at g1 g2 f3 f4 f5
      simp [lcL, ha', mtD, mtT, g1, g2, f3, f4, f5, Str.length_append]) (by simp; omega)
  have hs := sum_mt h
  have hs2 : ((ms.map mtT).map (·.length)).sum + (ms.map mtT).length * 2 ≤ 16777216 := by rw [List.length_map]; omega
  have hA := allS_map (f := mtT) ms
  have en := eqB_strs_nil (L := ms.map mtT) (fun x hx => by
    obtain ⟨m, hm, rfl⟩ := List.mem_map.mp hx
    exact mtT_ok (h m hm).1 (h m hm).2)
  have l1 := hn.len
  have l2 := msT_len h hz
  have f1 : n.natAbs.log2 < 1920 := hn.log
  have f3 : (iT n).length ≤ 16777214 := by omega
  have f4 : (iT n).length + 2 + (msT ms).length ≤ 16777216 := by omega
  cases ms with
  | nil =>
    simp [dtD] at L
    simp [msT] at f4
    simp [Gives, D__law_day_text, msT, dtD, lcAll, L, f1, f3, f4, Str.length_append, dyT]
  | cons m ms =>
    simp [Function.comp_def] at L hs2 hA en
    simp [msT] at f4
    simp [dtD] at L
    simp [Gives, D__law_day_text, msT, dtD, lcAll, L, f1, f3, f4, hA, en, hs2, Str.length_append, dyT, Function.comp_def]
@[simp] theorem l_hours : (Str.ofString " hours ").length = 7 := by decide +kernel
@[simp] theorem l_step : (Str.ofString "step ").length = 5 := by decide +kernel
@[simp] theorem l_gap : (Str.ofString " gap ").length = 5 := by decide +kernel
@[simp] theorem l_least : (Str.ofString " least ").length = 7 := by decide +kernel
@[simp] theorem l_private : (Str.ofString " private ").length = 9 := by decide +kernel
/-- rules whose numbers are small -/
structure RuT (r : Ru) : Prop where
  s : In r.s
  g : In r.g
  l : In r.l
  p : r.p.length ≤ 5
  h : ∀ x, r.h = some x → In x.1 ∧ In x.2
theorem RuOk.t {r : Ru} (h : RuOk r) : RuT r := by
  have h1 := h.s
  have h2 := h.g
  have h3 := h.l
  refine ⟨⟨by omega, by omega⟩, ⟨by omega, by omega⟩, ⟨by omega, by omega⟩, ?_, fun x e => ?_⟩
  · have := h.p
    simp at this
    rcases this with e | e | e | e <;> rw [e] <;> decide +kernel
  · have := h.h x e
    exact ⟨⟨by omega, by omega⟩, ⟨by omega, by omega⟩⟩
end DL
set_option linter.all false
set_option maxRecDepth 100000
set_option maxHeartbeats 1000000
namespace DL
open PySem PySem.Spec PyProof.Rows L2 DD
end DL
set_option linter.all false
set_option maxRecDepth 100000
set_option maxHeartbeats 1000000
namespace DL
open PySem PySem.Spec PyProof.Rows L2 DD
theorem eqB_tup {ds es : List D} {ps qs : List PyData} (h1 : D.pyA ds = some ps) (h2 : D.pyA es = some qs) (s1 : SeqAt.shaped (.tuple ps) = true) (s2 : SeqAt.shaped (.tuple qs) = true) : eqB (.tup ds) (.tup es) = some (PyData.eqvAll ps qs) := by
  have e1 : (D.tup ds).py = some (.tuple ps) := by simp only [D.py, h1, Option.map]
  have e2 : (D.tup es).py = some (.tuple qs) := by simp only [D.py, h2, Option.map]
  show (match (D.tup ds).py, (D.tup es).py with
    | some p, some q => if SeqAt.shaped p = true ∧ SeqAt.shaped q = true then some (PyData.eqv p q) else none
    | _, _ => match D.tup ds, D.tup es with
      | .lst ds, .lst es => if ds.length = es.length then none else some false
      | _, _ => none) = _
  rw [e1, e2]
  show (if SeqAt.shaped (.tuple ps) = true ∧ SeqAt.shaped (.tuple qs) = true then some (PyData.eqv (.tuple ps) (.tuple qs)) else none) = _
  rw [if_pos ⟨s1, s2⟩, PyData.eqv]
theorem eqB_lst {ds es : List D} {ps qs : List PyData} (h1 : D.pyA ds = some ps) (h2 : D.pyA es = some qs) (s1 : SeqAt.shaped (.list ps) = true) (s2 : SeqAt.shaped (.list qs) = true) : eqB (.lst ds) (.lst es) = some (PyData.eqvAll ps qs) := by
  have e1 : (D.lst ds).py = some (.list ps) := by simp only [D.py, h1, Option.map]
  have e2 : (D.lst es).py = some (.list qs) := by simp only [D.py, h2, Option.map]
  show (match (D.lst ds).py, (D.lst es).py with
    | some p, some q => if SeqAt.shaped p = true ∧ SeqAt.shaped q = true then some (PyData.eqv p q) else none
    | _, _ => match D.lst ds, D.lst es with
      | .lst ds, .lst es => if ds.length = es.length then none else some false
      | _, _ => none) = _
  rw [e1, e2]
  show (if SeqAt.shaped (.list ps) = true ∧ SeqAt.shaped (.list qs) = true then some (PyData.eqv (.list ps) (.list qs)) else none) = _
  rw [if_pos ⟨s1, s2⟩, PyData.eqv]
theorem sh_b4 {a b c d : Bool} : SeqAt.shaped (.list [.bool a, .bool b, .bool c, .bool d]) = true := by
  simp [SeqAt.shaped, PyData.canLay0, PyData.canLayAll0, PyData.depth, PyData.depthAll]
@[simp] theorem eq_b4 {a b c d a' b' c' d' : Bool} : eqB (.lst [.bl a, .bl b, .bl c, .bl d]) (.lst [.bl a', .bl b', .bl c', .bl d']) = some (decide (a = a' ∧ b = b' ∧ c = c' ∧ d = d')) := by
  rw [eqB_lst (ps := [.bool a, .bool b, .bool c, .bool d]) (qs := [.bool a', .bool b', .bool c', .bool d']) rfl rfl sh_b4 sh_b4]
  cases a <;> cases b <;> cases c <;> cases d <;> cases a' <;> cases b' <;> cases c' <;> cases d' <;> rfl
def w4 (p : Str) : Prop := p ∈ (["busy", "none", "apart", "one"] : List Str)
theorem Ru.ext {a b : Ru} (h1 : a.s = b.s) (h2 : a.g = b.g) (h3 : a.l = b.l) (h4 : a.p = b.p) (h5 : a.h = b.h) : a = b := by
  cases a; cases b
  cases h1; cases h2; cases h3; cases h4; cases h5
  rfl
instance : DecidableEq Ru := fun a b => if h : a.s = b.s ∧ a.g = b.g ∧ a.l = b.l ∧ a.p = b.p ∧ a.h = b.h then .isTrue (Ru.ext h.1 h.2.1 h.2.2.1 h.2.2.2.1 h.2.2.2.2) else .isFalse fun e => h (by subst e; exact ⟨rfl, rfl, rfl, rfl, rfl⟩)
end DL
set_option linter.all false
set_option maxRecDepth 100000
set_option maxHeartbeats 1000000
namespace DL
open PySem PySem.Spec PyProof.Rows L2 DD
/-- a number that a text can have -/
def Sm (i : Int) : Prop := 0 ≤ i ∧ i ≤ 99
theorem Sm.in {i : Int} (h : Sm i) : In i := ⟨h.1, by have := h.2; omega⟩
/-- numbers that are read again -/
structure RuS (r : Ru) : Prop where
  s : Sm r.s
  g : Sm r.g
  l : Sm r.l
  p : w4 r.p
  h : ∀ x, r.h = some x → Sm x.1 ∧ Sm x.2
theorem w4_len {p : Str} (h : w4 p) : p.length ≤ 5 := by
  simp [w4] at h
  rcases h with rfl | rfl | rfl | rfl <;> decide +kernel
theorem RuS.t {r : Ru} (h : RuS r) : RuT r := ⟨h.s.in, h.g.in, h.l.in, w4_len h.p, fun x e => ⟨(h.h x e).1.in, (h.h x e).2.in⟩⟩
@[simp] theorem q_dSl3 {st : Int} {A : En → Res X} {L U : En → Res (Option Int)} {ρ : En} : dSl3 st A L U ρ = ((A ρ).bind fun a ρ1 => (L ρ1).bind fun lo ρ2 => (U ρ2).bind fun hi ρ3 => match deref ρ3 a.settle with
  | some d => lift (opSl3 st d lo hi) ρ3
  | none => .stuck) := rfl
@[simp] theorem q_dEqOS {C : Addr} {m : Nat} {T : En → SR} {A B : En → Res X} {ρ : En} : dEqOS C m T A B ρ = ((A ρ).bind fun a ρ1 => (B ρ1).bind fun b ρ2 => match toVal ρ2 a.settle with
  | some (.ins C' ks es, ρ3) => match toVal ρ3 b.settle with
    | some (.str z, ρ4) => if C' = C then callP xBl (fin (T (env0 m [.val (D.ins C' ks es), .val (D.str z)]))) ρ4 else .stuck
    | _ => .stuck
  | _ => .stuck) := rfl
end DL
set_option linter.all false
set_option maxRecDepth 100000
set_option maxHeartbeats 1000000
namespace DL
open PySem PySem.Spec PyProof.Rows L2 DD
theorem shaped_all {ps : List PyData} (h1 : PyData.canLayAll0 ps = true) (h2 : PyData.depthAll ps ≤ 50) : SeqAt.shaped (.tuple ps) = true := by
  unfold SeqAt.shaped
  simp only [PyData.canLay0, h1, Bool.true_and, PyData.depth]
  simp
  omega
theorem eqB_self {ds : List D} {ps : List PyData} (h : D.pyA ds = some ps) (h1 : PyData.canLayAll0 ps = true) (h2 : PyData.depthAll ps ≤ 50) : eqB (.tup ds) (.tup ds) = some true := by
  rw [eqB_tup h h (shaped_all h1 h2) (shaped_all h1 h2), SeqAt.eqvAll_refl ps h1]
def mtP (m : Mt) : PyData := .tuple [.int m.1, .int m.2.1, .bool m.2.2]
theorem mt_pyA : ∀ ms : List Mt, D.pyA (ms.map mtD) = some (ms.map mtP)
  | [] => rfl
  | m :: ms => by
    rw [List.map_cons, List.map_cons]
    have : D.py (mtD m) = some (mtP m) := rfl
    simp only [D.pyA, this, mt_pyA ms]
theorem mt_lay : ∀ ms : List Mt, PyData.canLayAll0 (ms.map mtP) = true
  | [] => rfl
  | m :: ms => by
    rw [List.map_cons]
    have : PyData.canLay0 (mtP m) = true := by simp [mtP, PyData.canLay0, PyData.canLayAll0]
    simp only [PyData.canLayAll0, this, mt_lay ms, Bool.and_self]
theorem mt_dep : ∀ ms : List Mt, PyData.depthAll (ms.map mtP) ≤ 50
  | [] => by simp [PyData.depthAll]
  | m :: ms => by
    rw [List.map_cons]
    have h1 : PyData.depth (mtP m) ≤ 50 := by simp [mtP, PyData.depth, PyData.depthAll]
    have h2 := mt_dep ms
    simp only [PyData.depthAll]
    omega
theorem eq_mts {ms : List Mt} : eqB (.tup (ms.map mtD)) (.tup (ms.map mtD)) = some true := eqB_self (mt_pyA ms) (mt_lay ms) (mt_dep ms)
theorem day_eq_v {c : Cl} {n : Int} {ms : List Mt} : Gives 2 (D_Day___eq__ c) [dvD c n ms, dvD c n ms] (.val (.bl true)) := by
  have k : anyK (kitD [c.Day, c.Rule, c.Frame]) (.ref c.Day) [.ref c.Day] = some true := by simp [anyK, kitD]
  have e := eq_mts (ms := ms)
  simp [Gives, D_Day___eq__, dvD, k, e]
theorem cutD_to {xs : List D} {k : Nat} : cutD xs none (some (k : Int)) = xs.take k := by
  unfold cutD
  rw [HT.sIx_none, HT.sIx_nat, Nat.sub_zero, List.drop_zero]
  by_cases h : k ≤ xs.length
  · rw [Nat.min_eq_left h]
  · rw [Nat.min_eq_right (by omega), List.take_length, List.take_of_length_le (by omega)]
theorem cutD_from {xs : List D} {k : Nat} : cutD xs (some (k : Int)) none = xs.drop k := by
  unfold cutD
  rw [HT.sIx_none, HT.sIx_nat]
  by_cases h : k ≤ xs.length
  · rw [Nat.min_eq_left h, List.take_of_length_le (by rw [List.length_drop] <;> omega)]
  · rw [Nat.min_eq_right (by omega), List.drop_length, List.drop_of_length_le (by omega)]
    simp
theorem Meets.weak {a b : Int} (h : a ≤ b) : ∀ {ms : List Mt}, Meets b ms → Meets a ms
  | [], _ => trivial
  | m :: ms, hm => ⟨by have := hm.1; omega, hm.2⟩
end DL
set_option linter.all false
set_option maxRecDepth 100000
set_option maxHeartbeats 1000000
namespace DL
open PySem PySem.Spec PyProof.Rows L2 DD
end DL
set_option linter.all false
set_option maxRecDepth 100000
set_option maxHeartbeats 1000000
namespace DL
open PySem PySem.Spec PyProof.Rows L2 DD
end DL
set_option linter.all false
set_option maxRecDepth 100000
set_option maxHeartbeats 1000000
namespace DL
open PySem PySem.Spec PyProof.Rows L2 DD
end DL
set_option linter.all false
set_option maxRecDepth 100000
set_option maxHeartbeats 1000000
namespace DL
open PySem PySem.Spec PyProof.Rows L2 DD
abbrev SPC : Str := " "
abbrev Jn (l : List Str) : Str := Str.join SPC l
def Rj (l l' : List Str) : Prop := (l = [] ↔ l' = []) ∧ Jn l = Jn l'
theorem Rj.refl (l : List Str) : Rj l l := ⟨Iff.rfl, rfl⟩
theorem Rj.cons {l l' : List Str} (x : Str) (r : Rj l l') : Rj (x :: l) (x :: l') := by
  refine ⟨by simp, ?_⟩
  obtain ⟨r1, r2⟩ := r
  cases l with
  | nil =>
    obtain rfl := r1.mp rfl
    rfl
  | cons y l =>
    cases l' with
    | nil => exact absurd (r1.mpr rfl) (by simp)
    | cons y' l' =>
      show x ++ SPC ++ Jn (y :: l) = x ++ SPC ++ Jn (y' :: l')
      rw [r2]
end DL
set_option linter.all false
set_option maxRecDepth 100000
set_option maxHeartbeats 1000000
namespace DL
open PySem PySem.Spec PyProof.Rows L2 DD
@[simp] theorem q_dRng3 {T : En → Res (List X)} {ρ : En} : dRng3 T ρ = ((T ρ).bind fun xs ρ1 => lift ((derefs ρ1 xs).bind rng3D) ρ1) := rfl
end DL
set_option linter.all false
set_option maxRecDepth 100000
set_option maxHeartbeats 2000000
namespace DL
open PySem PySem.Spec PyProof.Rows L2 DD
end DL
set_option linter.all false
set_option maxRecDepth 100000
set_option maxHeartbeats 2000000
namespace DL
open PySem PySem.Spec PyProof.Rows L2 DD
end DL
set_option linter.all false
set_option maxRecDepth 100000
set_option maxHeartbeats 2000000
namespace DL
open PySem PySem.Spec PyProof.Rows L2 DD
end DL
set_option linter.all false
set_option maxRecDepth 100000
set_option maxHeartbeats 1000000
namespace DL
open PySem PySem.Spec PyProof.Rows L2 DD
end DL
set_option linter.all false
set_option maxRecDepth 100000
set_option maxHeartbeats 1000000
namespace DL
open PySem PySem.Spec PyProof.Rows L2 DD
end DL
set_option linter.all false
set_option maxRecDepth 100000
set_option maxHeartbeats 1000000
namespace DL
open PySem PySem.Spec PyProof.Rows L2 DD
end DL
set_option linter.all false
set_option maxRecDepth 100000
set_option maxHeartbeats 1000000
namespace DL
open PySem PySem.Spec PyProof.Rows L2 DD
end DL
set_option linter.all false
set_option maxRecDepth 100000
set_option maxHeartbeats 1000000
namespace DL
open PySem PySem.Spec PyProof.Rows L2 DD
def Wi (J : List (Int × Int)) (y : Int × Int) : Prop := ∃ z ∈ J, z.1 ≤ y.1 ∧ y.2 ≤ z.2
theorem Wi.ext {I : List (Int × Int)} {z x y : Int × Int} (h : Wi (I ++ [z]) y) (hx : z.2 ≤ x.2) : Wi (I ++ [(z.1, x.2)]) y := by
  obtain ⟨u, hu, h1, h2⟩ := h
  rcases List.mem_append.mp hu with hu | hu
  · exact ⟨u, List.mem_append.mpr (.inl hu), h1, h2⟩
  · obtain rfl := List.mem_singleton.mp hu
    exact ⟨(u.1, x.2), by simp, h1, by show y.2 ≤ x.2; omega⟩
end DL
set_option linter.all false
set_option maxRecDepth 100000
set_option maxHeartbeats 1000000
namespace DL
open PySem PySem.Spec PyProof.Rows L2 DD
theorem meets_le : ∀ {ms : List Mt} {a : Int}, 0 ≤ a → Meets a ms → ∀ m ∈ ms, 0 ≤ m.1 ∧ m.1 < m.2.1 ∧ m.2.1 ≤ endOf a ms
  | m :: ms, a, ha, h, x, hx => by
    have h1 := h.1
    have h2 := h.2.1
    have h3 : endOf a (m :: ms) = endOf m.2.1 ms := rfl
    have h4 := endOf_nonneg (a := m.2.1) (ms := ms) (by omega) h.2.2
    rw [h3]
    rcases List.mem_cons.mp hx with rfl | hx
    · exact ⟨by omega, by omega, h4⟩
    · exact meets_le (by omega) h.2.2 x hx
end DL
set_option linter.all false
set_option maxRecDepth 100000
set_option maxHeartbeats 1000000
namespace DL
open PySem PySem.Spec PyProof.Rows L2 DD
@[simp] theorem q_dIxO {C : Addr} {m : Nat} {T : En → SR} {A B : En → Res X} {ρ : En} : dIxO C m T A B ρ = ((A ρ).bind fun a ρ1 => (B ρ1).bind fun b ρ2 => match toVal ρ2 a.settle with
  | some (.ins C' ks es, ρ3) => match toVal ρ3 b.settle with
    | some (z, ρ4) => if C' = C then callV (fin (T (env0 m [.val (D.ins C' ks es), .val z]))) ρ4 else .stuck
    | none => .stuck
  | _ => .stuck) := rfl
theorem meets_mid {m : Mt} {B : List Mt} : ∀ {A : List Mt} {a : Int}, Meets a (A ++ m :: B) → Meets a (A ++ B) ∧ endOf a (A ++ B) ≤ endOf a (A ++ m :: B)
  | [], a, h => by
    have h1 := h.1
    have h2 := h.2.1
    refine ⟨Meets.weak (by omega) h.2.2, ?_⟩
    show endOf a B ≤ endOf m.2.1 B
    cases B with
    | nil => show a ≤ m.2.1; omega
    | cons x B => exact Int.le_refl _
  | x :: A, a, h => by
    have ih := meets_mid (A := A) h.2.2
    exact ⟨⟨h.1, h.2.1, ih.1⟩, ih.2⟩
theorem without_v {c : Cl} {n : Int} {A B : List Mt} {m : Mt} (h1 : 1 ≤ n) (hm : Meets 0 (A ++ m :: B)) (he : endOf 0 (A ++ m :: B) ≤ n) (hz : A.length + B.length ≤ 400) : Gives 2 (D_Day_without c) [dvD c n (A ++ m :: B), .int A.length] (.new (dyO c n (A ++ B))) := by
  obtain ⟨w, w2⟩ := meets_mid hm
  obtain ⟨_, p, q⟩ := (day_init (c := c) h1 w (by omega) (.inr rfl)).elim
  have c1 : cutD (A.map mtD ++ mtD m :: B.map mtD) none (some (A.length : Int)) = A.map mtD := by
    rw [cutD_to]
    simp
  have c2 : cutD (A.map mtD ++ mtD m :: B.map mtD) (some ((A.length : Int) + 1)) none = B.map mtD := by
    have := cutD_from (xs := A.map mtD ++ mtD m :: B.map mtD) (k := A.length + 1)
    rw [show (((A.length + 1 : Nat)) : Int) = (A.length : Int) + 1 by omega] at this
    rw [this, List.drop_append]
    simp
  have z : A.length + B.length ≤ 16777215 := by omega
  have z2 : A.length ≤ 16777215 := by omega
  have z4 : B.length ≤ 16777215 := by omega
  have z5 : A.length + (B.length + 1) ≤ 16777216 := by omega
  have z6 : ¬ ((A.length : Int) < 0) := by omega
  have z7 : ¬ ((A.length : Int) + ((B.length : Int) + 1) ≤ (A.length : Int)) := by omega
  have z8 : A.length + B.length ≤ 16777216 := by omega
  have z9 : A.length ≤ 16777216 := by omega
  have z10 : B.length ≤ 16777216 := by omega
  have z11 : A.length < 16777216 := by omega
  have z12 : B.length < 16777216 := by omega
  simp at p
  simp [Gives, D_Day_without, dvD, c1, c2, p, q, z, z2, z4, z5, z6, z7, z8, z9, z10, z11, z12]
theorem at_mid {A B : List D} {d : D} : atI (A ++ d :: B) (A.length : Int) = some d := by
  have : ixN (A ++ d :: B).length (A.length : Int) = some A.length := by
    have h : (A.length : Int) < (A.length : Int) + ((B.length : Int) + 1) := by omega
    unfold ixN
    simp [h]
  unfold atI
  rw [this]
  simp
theorem getitem_v {c : Cl} {n : Int} {A B : List Mt} {m : Mt} (hz : A.length + B.length ≤ 400) : Gives 2 (D_Day___getitem__ c) [dvD c n (A ++ m :: B), .int A.length] (.val (mtD m)) := by
  have e := at_mid (A := A.map mtD) (B := B.map mtD) (d := mtD m)
  rw [List.length_map] at e
  have z5 : A.length + (B.length + 1) ≤ 16777216 := by omega
  have z6 : ¬ ((A.length : Int) < 0) := by omega
  have z7 : ¬ ((A.length : Int) + ((B.length : Int) + 1) ≤ (A.length : Int)) := by omega
  simp [Gives, D_Day___getitem__, dvD, e, z5, z6, z7]
end DL
set_option linter.all false
set_option maxRecDepth 100000
set_option maxHeartbeats 1000000
namespace DL
open PySem PySem.Spec PyProof.Rows L2 DD
end DL
set_option linter.all false
set_option maxRecDepth 100000
set_option maxHeartbeats 1000000
namespace DL
open PySem PySem.Spec PyProof.Rows L2 DD
end DL
set_option linter.all false
set_option maxRecDepth 100000
set_option maxHeartbeats 1000000
namespace DL
open PySem PySem.Spec PyProof.Rows L2 DD
def isI : D → Bool
  | .int _ => true
  | _ => false
def isB : D → Bool
  | .bl _ => true
  | _ => false
def isT : D → Bool
  | .tup _ => true
  | _ => false
def isS : D → Bool
  | .str _ => true
  | _ => false
def isL : D → Bool
  | .lst _ | .scr _ => true
  | _ => false
def isN : D → Bool
  | .int i => decide (0 ≤ i)
  | _ => false
@[simp] theorem kx1 : kitB "NoneType" "int" = some false := by decide +kernel
@[simp] theorem kx2 : kitB "NoneType" "bool" = some false := by decide +kernel
@[simp] theorem kx3 : kitB "NoneType" "str" = some false := by decide +kernel
@[simp] theorem kx4 : kitB "NoneType" "tuple" = some false := by decide +kernel
@[simp] theorem kx5 : kitB "NoneType" "list" = some false := by decide +kernel
@[simp] theorem kx6 : kitB "bool" "int" = some true := by decide +kernel
@[simp] theorem kx7 : kitB "bool" "str" = some false := by decide +kernel
@[simp] theorem kx8 : kitB "bool" "tuple" = some false := by decide +kernel
@[simp] theorem kx9 : kitB "bool" "list" = some false := by decide +kernel
@[simp] theorem kx10 : kitB "int" "str" = some false := by decide +kernel
@[simp] theorem kx11 : kitB "int" "tuple" = some false := by decide +kernel
@[simp] theorem kx12 : kitB "int" "list" = some false := by decide +kernel
@[simp] theorem kx13 : kitB "str" "int" = some false := by decide +kernel
@[simp] theorem kx14 : kitB "str" "bool" = some false := by decide +kernel
@[simp] theorem kx15 : kitB "str" "str" = some true := by decide +kernel
@[simp] theorem kx16 : kitB "str" "tuple" = some false := by decide +kernel
@[simp] theorem kx17 : kitB "str" "list" = some false := by decide +kernel
@[simp] theorem kx18 : kitB "tuple" "int" = some false := by decide +kernel
@[simp] theorem kx19 : kitB "tuple" "bool" = some false := by decide +kernel
@[simp] theorem kx20 : kitB "tuple" "str" = some false := by decide +kernel
@[simp] theorem kx21 : kitB "list" "int" = some false := by decide +kernel
@[simp] theorem kx22 : kitB "list" "bool" = some false := by decide +kernel
@[simp] theorem kx23 : kitB "list" "str" = some false := by decide +kernel
theorem kd_no0 {Cs : List Addr} {a : Addr} (h : a ∈ Cs) : kitD Cs (.ref a) (.type "int") = some false := by
  simp [kitD, h, blts]
theorem kd_no1 {Cs : List Addr} {a : Addr} (h : a ∈ Cs) : kitD Cs (.ref a) (.type "bool") = some false := by
  simp [kitD, h, blts]
theorem kd_no2 {Cs : List Addr} {a : Addr} (h : a ∈ Cs) : kitD Cs (.ref a) (.type "str") = some false := by
  simp [kitD, h, blts]
theorem kd_no3 {Cs : List Addr} {a : Addr} (h : a ∈ Cs) : kitD Cs (.ref a) (.type "tuple") = some false := by
  simp [kitD, h, blts]
theorem kd_no4 {Cs : List Addr} {a : Addr} (h : a ∈ Cs) : kitD Cs (.ref a) (.type "list") = some false := by
  simp [kitD, h, blts]
@[simp] theorem ty_non : D.non.ty = .type "NoneType" := rfl
@[simp] theorem ty_bl {b : Bool} : (D.bl b).ty = .type "bool" := rfl
@[simp] theorem ty_int {b : Int} : (D.int b).ty = .type "int" := rfl
@[simp] theorem ty_str {b : Str} : (D.str b).ty = .type "str" := rfl
@[simp] theorem ty_tup {b : List D} : (D.tup b).ty = .type "tuple" := rfl
@[simp] theorem ty_lst {b : List D} : (D.lst b).ty = .type "list" := rfl
@[simp] theorem ty_ins {C : Addr} {ks : List Str} {b : List D} : (D.ins C ks b).ty = .ref C := rfl
@[simp] theorem tk_non {Cs : List Addr} : D.non.tyOk Cs = true := rfl
@[simp] theorem tk_bl {Cs : List Addr} {b : Bool} : (D.bl b).tyOk Cs = true := rfl
@[simp] theorem tk_int {Cs : List Addr} {b : Int} : (D.int b).tyOk Cs = true := rfl
@[simp] theorem tk_str {Cs : List Addr} {b : Str} : (D.str b).tyOk Cs = true := rfl
@[simp] theorem tk_tup {Cs : List Addr} {b : List D} : (D.tup b).tyOk Cs = true := rfl
@[simp] theorem tk_lst {Cs : List Addr} {b : List D} : (D.lst b).tyOk Cs = true := rfl
section
variable {Cs : List Addr} {d : D}
theorem an_int (h : d.tyOk Cs = true) : anyK (kitD Cs) d.ty [.type "int"] = some (isI d || isB d) := by
  cases d <;> simp [D.tyOk] at h <;> simp [anyK, isI, isB, kd_no0, kd_no1, kd_no2, kd_no3, kd_no4, h]
theorem an_bool (h : d.tyOk Cs = true) : anyK (kitD Cs) d.ty [.type "bool"] = some (isB d) := by
  cases d <;> simp [D.tyOk] at h <;> simp [anyK, isI, isB, kd_no0, kd_no1, kd_no2, kd_no3, kd_no4, h]
theorem an_tup (h : d.tyOk Cs = true) : anyK (kitD Cs) d.ty [.type "tuple"] = some (isT d) := by
  cases d <;> simp [D.tyOk] at h <;> simp [anyK, isT, kd_no0, kd_no1, kd_no2, kd_no3, kd_no4, h]
theorem an_seq (h : d.tyOk Cs = true) : anyK (kitD Cs) d.ty [.type "list", .type "tuple"] = some (isL d || isT d) := by
  cases d <;> simp [D.tyOk] at h <;> simp [anyK, isL, isT, kd_no0, kd_no1, kd_no2, kd_no3, kd_no4, h]
theorem isT_ex (h : isT d = true) : ∃ ds, d = .tup ds := by cases d <;> first | exact ⟨_, rfl⟩ | cases h
theorem isN_ex (h : isN d = true) : ∃ i : Int, d = .int i ∧ 0 ≤ i := by
  cases d <;> first | exact ⟨_, rfl, by simpa [isN] using h⟩ | cases h
end
abbrev Okd (c : Cl) (d : D) : Prop := d.tyOk [c.Day, c.Rule, c.Frame] = true
theorem is_integer_d {c : Cl} {d : D} (h : Okd c d) : Gives 1 (D_is_integer c) [d] (.val (.bl (isI d))) := by
  have e1 := an_int h
  have e2 := an_bool h
  have h' : d.tyOk [c.Day, c.Rule, c.Frame] = true := h
  cases d <;> simp [isI, isB] at e1 e2 <;> simp at h' <;> simp [Gives, D_is_integer, e1, e2, isI, h']
theorem is_number_d {c : Cl} {d : D} (h : Okd c d) : Gives 1 (D_is_number c) [d] (.val (.bl (isN d))) := by
  obtain ⟨_, p⟩ := (is_integer_d (c := c) h).elim
  cases d <;> simp [isI] at p <;> simp [Gives, D_is_number, p, isN]
/-- plain data of a depth -/
def Pv (n : Nat) (d : D) : Prop := ∃ p, d.py = some p ∧ p.canLay0 = true ∧ p.depth ≤ n
theorem Pv.mono {m n : Nat} {d : D} (h : Pv m d) (k : m ≤ n) : Pv n d := by
  obtain ⟨p, e, l, s⟩ := h
  exact ⟨p, e, l, by omega⟩
theorem Pv.ok {c : Cl} {n : Nat} {d : D} (h : Pv n d) : Okd c d := by
  obtain ⟨p, e, _⟩ := h
  cases d <;> first | rfl | cases e
theorem pv_all {n : Nat} : ∀ {ds : List D}, (∀ d ∈ ds, Pv n d) → ∃ ps, D.pyA ds = some ps ∧ PyData.canLayAll0 ps = true ∧ PyData.depthAll ps ≤ n ∧ ps.length = ds.length
  | [], _ => ⟨[], rfl, rfl, Nat.zero_le _, rfl⟩
  | d :: ds, h => by
    obtain ⟨p, e, l, s⟩ := h d (by simp)
    obtain ⟨ps, e2, l2, s2, z⟩ := pv_all (ds := ds) fun x hx => h x (by simp [hx])
    refine ⟨p :: ps, by simp only [D.pyA, e, e2], by simp only [PyData.canLayAll0, l, l2, Bool.and_self], ?_, by simp [z]⟩
    simp only [PyData.depthAll]
    omega
theorem pv_mem {n : Nat} : ∀ {ds : List D} {ps : List PyData}, D.pyA ds = some ps → PyData.canLayAll0 ps = true → PyData.depthAll ps ≤ n → ∀ d ∈ ds, Pv n d
  | [], _, _, _, _ => fun d h => by simp at h
  | d :: ds, _, e, l, s => by
    obtain ⟨p, r, rfl, e1, e2⟩ := pyA_cons e
    simp only [PyData.canLayAll0, Bool.and_eq_true] at l
    simp only [PyData.depthAll] at s
    intro x hx
    rw [List.mem_cons] at hx
    rcases hx with rfl | hx
    · exact ⟨p, e1, l.1, by omega⟩
    · exact pv_mem e2 l.2 (by omega) x hx
theorem Pv.tup {n : Nat} {ds : List D} (h : ∀ d ∈ ds, Pv n d) : Pv (n + 1) (.tup ds) := by
  obtain ⟨ps, e, l, s, _⟩ := pv_all h
  refine ⟨.tuple ps, by show (D.pyA ds).map PyData.tuple = _; rw [e]; rfl, by simpa [PyData.canLay0] using l, ?_⟩
  simp only [PyData.depth]
  omega
theorem Pv.lst {n : Nat} {ds : List D} (h : ∀ d ∈ ds, Pv n d) : Pv (n + 1) (.lst ds) := by
  obtain ⟨ps, e, l, s, _⟩ := pv_all h
  refine ⟨.list ps, by show (D.pyA ds).map PyData.list = _; rw [e]; rfl, by simpa [PyData.canLay0] using l, ?_⟩
  simp only [PyData.depth]
  omega
theorem Pv.of_tup {n : Nat} {ds : List D} (h : Pv n (.tup ds)) : ∀ d ∈ ds, Pv n d := by
  obtain ⟨p, e, l, s⟩ := h
  have e : (D.pyA ds).map PyData.tuple = some p := e
  cases e2 : D.pyA ds with
  | none => rw [e2] at e; cases e
  | some ps =>
    rw [e2] at e
    cases e
    simp only [PyData.depth] at s
    exact pv_mem e2 (by simpa [PyData.canLay0] using l) (by omega)
theorem pv_int {n : Nat} {i : Int} : Pv n (.int i) := ⟨.int i, rfl, by simp [PyData.canLay0], by simp [PyData.depth]⟩
theorem pv_bl {n : Nat} {i : Bool} : Pv n (.bl i) := ⟨.bool i, rfl, by simp [PyData.canLay0], by simp [PyData.depth]⟩
theorem pv_non {n : Nat} : Pv n .non := ⟨.none, rfl, by simp [PyData.canLay0], by simp [PyData.depth]⟩
theorem pv_str {n : Nat} {x : Str} (h : PyData.strOk x = true) : Pv n (.str x) := ⟨.str x, rfl, by simp [PyData.canLay0, h], by simp [PyData.depth]⟩
/-- an own thing or plain data -/
def Own (c : Cl) (d : D) : Prop := ∃ C ks ds, d = .ins C ks ds ∧ C ∈ [c.Day, c.Rule, c.Frame]
def El (c : Cl) (d : D) : Prop := Pv 40 d ∨ Own c d
theorem Own.ok {c : Cl} {d : D} (h : Own c d) : Okd c d := by
  obtain ⟨C, ks, ds, rfl, h⟩ := h
  simpa [Okd, D.tyOk] using h
theorem Own.no {c : Cl} {d : D} (h : Own c d) : isT d = false ∧ isL d = false ∧ isI d = false ∧ isB d = false ∧ isS d = false ∧ d ≠ .non ∧ d.py = none := by
  obtain ⟨C, ks, ds, rfl, h⟩ := h
  exact ⟨rfl, rfl, rfl, rfl, rfl, fun z => (nomatch z), rfl⟩
theorem El.ok {c : Cl} {d : D} (h : El c d) : Okd c d := by
  rcases h with h | h
  · exact h.ok
  · exact h.ok
theorem El.tup {c : Cl} {ds : List D} (h : El c (.tup ds)) : Pv 40 (.tup ds) := by
  rcases h with h | h
  · exact h
  · cases h.no.1
end DL
set_option linter.all false
set_option maxRecDepth 100000
set_option maxHeartbeats 1000000
namespace DL
open PySem PySem.Spec PyProof.Rows L2 DD
def ltI : D → D → Bool
  | .int i, .int j => decide (i < j)
  | _, _ => false
end DL
set_option linter.all false
set_option maxRecDepth 100000
set_option maxHeartbeats 1000000
namespace DL
open PySem PySem.Spec PyProof.Rows L2 DD
end DL
set_option linter.all false
set_option maxRecDepth 100000
set_option maxHeartbeats 1000000
namespace DL
open PySem PySem.Spec PyProof.Rows L2 DD
end DL
set_option linter.all false
set_option maxRecDepth 100000
set_option maxHeartbeats 1000000
namespace DL
open PySem PySem.Spec PyProof.Rows L2 DD
section
variable {α β : Type} {ρ ρ' : En} {x : Xc}
@[simp] theorem e_bind {U : α → En → Res β} : (Res.err x ρ : Res α).bind U = .err x ρ := rfl
@[simp] theorem e_sb {U : α → En → SR} : (Res.err x ρ : Res α).sb U = .err x ρ := rfl
@[simp] theorem e_nE {A : En → Res α} : nE A ρ = (match A ρ with
  | .err _ _ => .stuck
  | r => r) := rfl
@[simp] theorem e_nS {S : En → SR} : nS S ρ = (match S ρ with
  | .err _ _ => .stuck
  | r => r) := rfl
@[simp] theorem e_raise {C : Addr} {f : Str} {A : En → Res X} : sRaise1 C f A ρ = ((A ρ).sb fun a ρ1 => match toVal ρ1 a with
  | some (d, ρ2) => .err ⟨.ref C, [f], [d]⟩ ρ2
  | none => .stuck) := rfl
@[simp] theorem e_fin : fin (.err x ρ) = .err x ρ := rfl
@[simp] theorem e_make : makeV (.err x ρ') ρ = .err x ρ := rfl
@[simp] theorem e_call : callV (.err x ρ') ρ = .err x ρ := rfl
@[simp] theorem e_try {cm : Value → Option Bool} {i : Nat} {B : En → SR} {S : Xc → En → SR} : sTryAs cm i B S ρ = (match B ρ with
  | .err x ρ1 => match cm x.cls with
    | some true => if freeAt ρ1 i = true then match S x (ρ1.set i .none) with
        | .nx ρ2 => if freeAt ρ2 i = true then .nx (ρ2.set i .none) else .stuck
        | .rt v ρ2 => .rt v ρ2
        | _ => .stuck
      else .stuck
    | some false => .err x ρ1
    | none => .stuck
  | r => r) := rfl
@[simp] theorem e_is {D : Addr} {b : Bool} : dXi D b x ρ = if x.cls = .ref D ∧ x.ks ≠ [] then .ok (.val (.bl b)) ρ else .stuck := rfl
@[simp] theorem e_fld {C : Addr} {f : Str} : dXf C f x ρ = if x.cls = .ref C then lift ((getF f x.ks x.ds).map X.val) ρ else .stuck := rfl
@[simp] theorem e_ch3 {op op' op'' : D2} {A B C Z : En → Res X} : dChain3 op op' op'' A B C Z ρ = ((A ρ).bind fun a ρ1 => (B ρ1).bind fun b ρ2 => (ap2 op a.settle b.settle ρ2).bind fun z ρ3 => match asB ρ3 z with
  | some true => (C ρ3).bind fun c ρ4 => (ap2 op' b.settle c.settle ρ4).bind fun z' ρ5 => match asB ρ5 z' with
    | some true => (Z ρ5).bind fun d ρ6 => ap2 op'' c.settle d ρ6
    | some false => .ok (.val (.bl false)) ρ5
    | none => .stuck
  | some false => .ok (.val (.bl false)) ρ3
  | none => .stuck) := rfl
end
theorem is_sequence_d {c : Cl} {d : D} (h : Okd c d) : Gives 1 (D_is_sequence c) [d] (.val (.bl (isL d || isT d))) := by
  have h' : d.tyOk [c.Day, c.Rule, c.Frame] = true := h
  have e := an_seq h'
  simp [-D.tyOk, -D.ty, Gives, D_is_sequence, h', e]
def toMt : D → Option Mt
  | .tup [.int a, .int b, .bl p] => if 0 ≤ a ∧ a < b then some (a, b, p) else none
  | _ => none
theorem toMt_eq {d : D} {m : Mt} (h : toMt d = some m) : d = mtD m ∧ 0 ≤ m.1 ∧ m.1 < m.2.1 := by
  unfold toMt at h
  split at h
  · split at h
    · rename_i q
      cases h
      exact ⟨rfl, q⟩
    · cases h
  · cases h
theorem toMt_mt {m : Mt} (h0 : 0 ≤ m.1) (h1 : m.1 < m.2.1) : toMt (mtD m) = some m := by
  obtain ⟨x, y, w⟩ := m
  simp [toMt, mtD] at *
  simp [h0, h1]
theorem isT_toMt {d : D} (h : isT d = false) : toMt d = none := by
  cases d <;> first | rfl | cases h
theorem toMt3 {a b w : D} : (toMt (.tup [a, b, w])).isSome = (isN a && isN b && isB w && ltI a b) := by
  cases a <;> cases b <;> first | rfl | (simp [isN, toMt]; done) | skip
  rename_i i j
  cases w <;> first | (simp [isN, isB, toMt]; done) | skip
  by_cases h0 : 0 ≤ i
  · by_cases h1 : i < j
    · have h2 : 0 ≤ j := by omega
      simp [isN, isB, ltI, toMt, h0, h1, h2]
    · simp [isN, isB, ltI, toMt, h0, h1]
  · simp [isN, toMt, h0]
theorem is_meeting_d {c : Cl} {d : D} (h : El c d) : Gives 4 (D__is_meeting c) [d] (.val (.bl (toMt d).isSome)) := by
  have ok := h.ok
  have ok' : d.tyOk [c.Day, c.Rule, c.Frame] = true := ok
  have e := an_tup ok
  cases t : isT d with
  | false =>
    rw [t] at e
    simp [-D.tyOk, -D.ty, Gives, D__is_meeting, ok', e, isT_toMt t]
  | true =>
    rw [t] at e
    obtain ⟨ds, rfl⟩ := isT_ex t
    simp [-D.tyOk, -D.ty] at e
    have hp := h.tup.of_tup
    match ds, hp with
    | [], _ => simp [-D.tyOk, -D.ty, Gives, D__is_meeting, e, toMt]
    | [_], _ => simp [-D.tyOk, -D.ty, Gives, D__is_meeting, e, toMt]
    | [_, _], _ => simp [-D.tyOk, -D.ty, Gives, D__is_meeting, e, toMt]
    | x :: y :: z :: u :: r, _ =>
      have : ¬ (r.length : Int) + 1 + 1 + 1 + 1 = 3 := by omega
      simp [-D.tyOk, -D.ty, Gives, D__is_meeting, e, toMt, this]
    | [x, y, w], hp =>
      have px := hp x (by simp)
      have py := hp y (by simp)
      have pw := hp w (by simp)
      have okw : w.tyOk [c.Day, c.Rule, c.Frame] = true := pw.ok
      have ew := an_bool okw
      obtain ⟨_, p1⟩ := (is_number_d (c := c) px.ok).elim
      obtain ⟨_, p2⟩ := (is_number_d (c := c) py.ok).elim
      rw [toMt3]
      simp [-D.tyOk, -D.ty] at p1 p2
      cases n1 : isN x with
      | false =>
        rw [n1] at p1
        simp [-D.tyOk, -D.ty, Gives, D__is_meeting, e, p1]
      | true =>
        rw [n1] at p1
        obtain ⟨i, rfl, hi⟩ := isN_ex n1
        cases n2 : isN y with
        | false =>
          rw [n2] at p2
          simp [-D.tyOk, -D.ty, Gives, D__is_meeting, e, p1, p2]
        | true =>
          rw [n2] at p2
          obtain ⟨j, rfl, hj⟩ := isN_ex n2
          cases hb : isB w with
          | false =>
            rw [hb] at ew
            simp [-D.tyOk, -D.ty, Gives, D__is_meeting, e, p1, p2, okw, ew]
          | true =>
            rw [hb] at ew
            by_cases hl : i < j
            · simp [-D.tyOk, -D.ty, Gives, D__is_meeting, e, p1, p2, okw, ew, hl, ltI]
            · simp [-D.tyOk, -D.ty, Gives, D__is_meeting, e, p1, p2, okw, ew, hl, ltI]
/-- meetings of a day, from a tick on -/
def mtsOk (n : Int) : Int → List D → Bool
  | _, [] => true
  | a, d :: ds => match toMt d with
    | some m => decide (a ≤ m.1) && decide (m.2.1 ≤ n) && mtsOk n m.2.1 ds
    | none => false
theorem are_loop {c : Cl} {n : Int} {v0 : Slot} : ∀ {ds : List D} {a : Int} {s3 : Slot}, (∀ e ∈ ds, El c e) → s3.free = true →
    (mtsOk n a ds = true ∧ ∃ s2 t3 : Slot, forL (uName 3) (D__are_meetings_b1 c) ds [v0, .val (.int n), .val (.int a), s3] = .nx [v0, .val (.int n), s2, t3]) ∨
      (mtsOk n a ds = false ∧ ∃ ρ, forL (uName 3) (D__are_meetings_b1 c) ds [v0, .val (.int n), .val (.int a), s3] = .rt (.val (.bl false)) ρ)
  | [], a, s3, _, _ => .inl ⟨rfl, _, _, rfl⟩
  | d :: ds, a, s3, h, f3 => by
    obtain ⟨_, p⟩ := (is_meeting_d (c := c) (h d (by simp))).elim
    simp [-D.tyOk, -D.ty] at p
    cases k : toMt d with
    | none =>
      rw [k] at p
      refine .inr ⟨by simp [mtsOk, k], [v0, .val (.int n), .val (.int a), .val d], ?_⟩
      simp [forL, D__are_meetings_b1, f3, p]
    | some m =>
      rw [k] at p
      obtain ⟨rfl, h0, h1⟩ := toMt_eq k
      by_cases c1 : a ≤ m.1
      · have c1' : ¬ m.1 < a := by omega
        by_cases c2 : m.2.1 ≤ n
        · have c2' : ¬ n < m.2.1 := by omega
          have ih := are_loop (c := c) (n := n) (v0 := v0) (ds := ds) (a := m.2.1) (s3 := .val (mtD m)) (fun e he => h e (by simp [he])) rfl
          have st : forL (uName 3) (D__are_meetings_b1 c) (mtD m :: ds) [v0, .val (.int n), .val (.int a), s3] = forL (uName 3) (D__are_meetings_b1 c) ds [v0, .val (.int n), .val (.int m.2.1), .val (mtD m)] := by
            simp [mtD] at p
            simp [forL, D__are_meetings_b1, f3, p, mtD, c1', c2']
          have e : mtsOk n a (mtD m :: ds) = mtsOk n m.2.1 ds := by simp [mtsOk, k, c1, c2]
          rw [st, e]
          exact ih
        · have c2' : n < m.2.1 := by omega
          refine .inr ⟨by simp [mtsOk, k, c2], [v0, .val (.int n), .val (.int a), .val (mtD m)], ?_⟩
          simp [mtD] at p
          simp [forL, D__are_meetings_b1, f3, p, mtD, c1', c2']
      · have c1' : m.1 < a := by omega
        refine .inr ⟨by simp [mtsOk, k, c1], [v0, .val (.int n), .val (.int a), .val (mtD m)], ?_⟩
        simp [mtD] at p
        simp [forL, D__are_meetings_b1, f3, p, mtD, c1']
/-- a sequence of such, or no sequence -/
def Sq (c : Cl) (v : D) : Prop := (∃ ds, (v = .tup ds ∨ v = .lst ds) ∧ ds.length ≤ 1000 ∧ ∀ e ∈ ds, El c e) ∨ (isT v = false ∧ isL v = false ∧ Okd c v)
def sqOk (n : Int) : D → Bool
  | .tup ds | .lst ds => mtsOk n 0 ds
  | _ => false
theorem Sq.ok {c : Cl} {v : D} (h : Sq c v) : Okd c v := by
  rcases h with ⟨ds, rfl | rfl, _⟩ | h
  · rfl
  · rfl
  · exact h.2.2
theorem are_meetings_d {c : Cl} {v : D} {n : Int} (h : Sq c v) : Gives 4 (D__are_meetings c) [v, .int n] (.val (.bl (sqOk n v))) := by
  obtain ⟨_, p⟩ := (is_sequence_d (c := c) h.ok).elim
  rcases h with ⟨ds, hv, hz, h⟩ | ⟨t, l, ok⟩
  · have loop := are_loop (c := c) (n := n) (v0 := .val v) (ds := ds) (a := 0) (s3 := .none) h rfl
    have e : sqOk n v = mtsOk n 0 ds := by rcases hv with rfl | rfl <;> rfl
    rw [e]
    rcases loop with ⟨e1, s2, t3, e2⟩ | ⟨e1, ρ, e2⟩
    · rw [e1]
      rcases hv with rfl | rfl
      · simp [isT, isL] at p e2
        simp [Gives, D__are_meetings, p, seqOf, e2]
      · simp [isT, isL] at p e2
        simp [Gives, D__are_meetings, p, seqOf, e2]
    · rw [e1]
      rcases hv with rfl | rfl
      · simp [isT, isL] at p e2
        simp [Gives, D__are_meetings, p, seqOf, e2]
      · simp [isT, isL] at p e2
        simp [Gives, D__are_meetings, p, seqOf, e2]
  · rw [t, l] at p
    have e : sqOk n v = false := by cases v <;> first | rfl | (cases t; done) | (cases l; done)
    simp at p
    simp [Gives, D__are_meetings, p, e]
end DL
set_option linter.all false
set_option maxRecDepth 100000
set_option maxHeartbeats 1000000
namespace DL
open PySem PySem.Spec PyProof.Rows L2 DD
theorem mt_pv {n : Nat} {m : Mt} : Pv (n + 1) (mtD m) := Pv.tup fun d hd => by
  simp at hd
  rcases hd with rfl | rfl | rfl <;> first | exact pv_int | exact pv_bl
theorem el_mts {c : Cl} {ms : List Mt} : ∀ e ∈ ms.map mtD, El c e := fun e he => by
  obtain ⟨m, _, rfl⟩ := List.mem_map.mp he
  exact .inl (mt_pv.mono (by omega : 1 ≤ 40))
end DL
set_option linter.all false
set_option maxRecDepth 100000
set_option maxHeartbeats 2000000
namespace DL
open PySem PySem.Spec PyProof.Rows L2 DD
def befB (b : Int) (x : Mt) : Bool := decide (x.1 < b)
def befs (b : Int) (ms : List Mt) : List Mt := ms.filter (befB b)
def ovrB (m : Mt) (x : Mt) : Bool := decide (x.1 < m.2.1) && decide (m.1 < x.2.1)
def ovr (m : Mt) (ms : List Mt) : List Mt := ms.filter (ovrB m)
/-- the meetings with m at its place -/
def put (m : Mt) (ms : List Mt) : List Mt := ms.take (befs m.1 ms).length ++ m :: ms.drop (befs m.1 ms).length
theorem befs_none : ∀ {ms : List Mt} {a b : Int}, Meets a ms → b ≤ a → befs b ms = []
  | [], a, b, _, _ => rfl
  | x :: ms, a, b, h, hb => by
    have h1 := h.1
    have h2 := h.2.1
    have ih := befs_none (b := b) h.2.2 (by omega)
    unfold befs at ih ⊢
    rw [List.filter_cons, ih, if_neg]
    simp only [befB, decide_eq_true_eq]
    omega
theorem befs_take : ∀ {ms : List Mt} {a b : Int}, Meets a ms → befs b ms = ms.take (befs b ms).length
  | [], a, b, _ => rfl
  | x :: ms, a, b, h => by
    have ih := befs_take (b := b) h.2.2
    by_cases hx : x.1 < b
    · have e : befs b (x :: ms) = x :: befs b ms := by
        unfold befs
        rw [List.filter_cons, if_pos (by simp only [befB, decide_eq_true_eq]; exact hx)]
      rw [e, List.length_cons, List.take_succ_cons, ← ih]
    · have e : befs b (x :: ms) = [] := by
        have h2 := h.2.1
        have := befs_none (b := b) h.2.2 (by omega)
        unfold befs at this ⊢
        rw [List.filter_cons, this, if_neg (by simp only [befB, decide_eq_true_eq]; exact hx)]
      rw [e]
      rfl
theorem put_cons {x m : Mt} {ms : List Mt} (h : x.1 < m.1) : put m (x :: ms) = x :: put m ms := by
  have e : befs m.1 (x :: ms) = x :: befs m.1 ms := by
    unfold befs
    rw [List.filter_cons, if_pos (by simp only [befB, decide_eq_true_eq]; exact h)]
  unfold put
  rw [e]
  rfl
theorem put_head {x m : Mt} {ms : List Mt} {a : Int} (hm : Meets a (x :: ms)) (h : ¬ x.1 < m.1) : put m (x :: ms) = m :: x :: ms := by
  have e : befs m.1 (x :: ms) = [] := by
    have h2 := hm.2.1
    have := befs_none (b := m.1) hm.2.2 (by omega)
    unfold befs at this ⊢
    rw [List.filter_cons, this, if_neg (by simp only [befB, decide_eq_true_eq]; exact h)]
  unfold put
  rw [e]
  rfl
theorem ovr_none : ∀ {ms : List Mt} {a : Int} {m : Mt}, Meets a ms → m.2.1 ≤ a → ovr m ms = []
  | [], a, m, _, _ => rfl
  | x :: ms, a, m, h, hb => by
    have h1 := h.1
    have h2 := h.2.1
    have ih := ovr_none (m := m) h.2.2 (by omega)
    unfold ovr at ih ⊢
    rw [List.filter_cons, ih, if_neg]
    simp only [ovrB, Bool.and_eq_true, decide_eq_true_eq]
    omega
theorem mtsOk_meets {n : Int} : ∀ {ms : List Mt} {a : Int}, 0 ≤ a → Meets a ms → endOf a ms ≤ n → mtsOk n a (ms.map mtD) = true
  | [], a, _, _, _ => rfl
  | x :: ms, a, h0, h, he => by
    have h1 := h.1
    have h2 := h.2.1
    have ih := mtsOk_meets (n := n) (by omega) h.2.2 he
    have hle := endOf_le (i := 0) h.2.2
    have hle' : x.2.1 ≤ endOf x.2.1 ms := by simpa [endOf] using hle
    have hx : toMt (mtD x) = some x := by
      obtain ⟨b, e, w⟩ := x
      simp only [toMt, mtD]
      simp
      dsimp only at h1 h2
      omega
    have he' : endOf x.2.1 ms ≤ n := he
    rw [List.map_cons]
    simp only [mtsOk, hx, ih, Bool.and_true, Bool.and_eq_true, decide_eq_true_eq]
    omega
theorem put_ok {n : Int} {m : Mt} (h0 : 0 ≤ m.1) (hm : m.1 < m.2.1) : ∀ {ms : List Mt} {a : Int}, 0 ≤ a → Meets a ms → endOf a ms ≤ n → (mtsOk n a ((put m ms).map mtD) = true ↔ (a ≤ m.1 ∧ m.2.1 ≤ n ∧ ovr m ms = []))
  | [], a, _, _, _ => by
    have hx := toMt_mt h0 hm
    show mtsOk n a [mtD m] = true ↔ _
    simp [mtsOk, hx, ovr]
  | x :: ms, a, ha, h, he => by
    have h1 := h.1
    have h2 := h.2.1
    have hx := toMt_mt (m := x) (by omega) h2
    have hmm := toMt_mt h0 hm
    have hle := endOf_le (i := 0) h.2.2
    have hle' : x.2.1 ≤ endOf x.2.1 ms := by simpa [endOf] using hle
    have he' : endOf x.2.1 ms ≤ n := he
    by_cases c : x.1 < m.1
    · have ih := put_ok h0 hm (ms := ms) (a := x.2.1) (by omega) h.2.2 he
      rw [put_cons c, List.map_cons]
      have e : mtsOk n a (mtD x :: (put m ms).map mtD) = (decide (a ≤ x.1) && decide (x.2.1 ≤ n) && mtsOk n x.2.1 ((put m ms).map mtD)) := by
        simp only [mtsOk, hx]
      rw [e]
      simp only [Bool.and_eq_true, decide_eq_true_eq]
      rw [ih]
      have eo : ovr m (x :: ms) = if x.1 < m.2.1 ∧ m.1 < x.2.1 then x :: ovr m ms else ovr m ms := by
        unfold ovr
        rw [List.filter_cons]
        simp only [ovrB, Bool.and_eq_true, decide_eq_true_eq]
      rw [eo]
      by_cases d : m.1 < x.2.1
      · rw [if_pos ⟨by omega, d⟩]
        constructor
        · intro q; omega
        · intro q; exact absurd q.2.2 (by simp)
      · rw [if_neg (by omega)]
        constructor
        · intro q; exact ⟨by omega, q.2.2.1, q.2.2.2⟩
        · intro q; exact ⟨⟨h1, by omega⟩, by omega, q.2.1, q.2.2⟩
    · rw [put_head h c, List.map_cons]
      have e : mtsOk n a (mtD m :: (x :: ms).map mtD) = (decide (a ≤ m.1) && decide (m.2.1 ≤ n) && mtsOk n m.2.1 ((x :: ms).map mtD)) := by
        simp only [mtsOk, hmm]
      have e2 : mtsOk n m.2.1 ((x :: ms).map mtD) = (decide (m.2.1 ≤ x.1) && decide (x.2.1 ≤ n) && mtsOk n x.2.1 (ms.map mtD)) := by
        rw [List.map_cons]
        simp only [mtsOk, hx]
      have e3 := mtsOk_meets (n := n) (a := x.2.1) (by omega) h.2.2 he
      rw [e, e2, e3]
      simp only [Bool.and_eq_true, decide_eq_true_eq, and_true]
      have eo : ovr m (x :: ms) = if x.1 < m.2.1 ∧ m.1 < x.2.1 then x :: ovr m ms else ovr m ms := by
        unfold ovr
        rw [List.filter_cons]
        simp only [ovrB, Bool.and_eq_true, decide_eq_true_eq]
      rw [eo]
      by_cases d : x.1 < m.2.1
      · rw [if_pos ⟨d, by omega⟩]
        constructor
        · intro q; omega
        · intro q; exact absurd q.2.2 (by simp)
      · rw [if_neg (by omega), ovr_none (m := m) h.2.2 (by omega)]
        constructor
        · intro q; exact ⟨q.1.1, q.1.2, rfl⟩
        · intro q; exact ⟨⟨q.1, q.2.1⟩, by omega, by omega⟩
end DL
set_option linter.all false
set_option maxRecDepth 100000
set_option maxHeartbeats 2000000
namespace DL
open PySem PySem.Spec PyProof.Rows L2 DD
def xI (c : Cl) : Xc := ⟨.ref c.InvalidDay, ["word"], [.str "meetings"]⟩
def xN (c : Cl) (i : Int) : Xc := ⟨.ref c.NoMeeting, ["at"], [.int i]⟩
theorem init_t {c : Cl} {n : Int} {ms : List Mt} (h1 : 1 ≤ n) (hz : ms.length ≤ 1000) : (mtsOk n 0 (ms.map mtD) = true ∧ ∃ ρ', fin (E_Day___init__ c [.bor (.ins c.Day [] []), .val (.int n), .val (.tup (ms.map mtD))]) = .ok (.val .non) ρ' ∧ ρ'[0]? = some (.bor (dyO c n ms))) ∨
    (mtsOk n 0 (ms.map mtD) = false ∧ ∃ ρ', fin (E_Day___init__ c [.bor (.ins c.Day [] []), .val (.int n), .val (.tup (ms.map mtD))]) = .err (xI c) ρ') := by
  obtain ⟨_, p1⟩ := (is_positive_v (c := c) (i := n)).elim
  obtain ⟨_, p2⟩ := (are_meetings_d (c := c) (n := n) (v := .tup (ms.map mtD)) (.inl ⟨ms.map mtD, .inl rfl, by simpa using hz, el_mts⟩)).elim
  have e : sqOk n (.tup (ms.map mtD)) = mtsOk n 0 (ms.map mtD) := rfl
  rw [e] at p2
  simp at p1 p2
  have z1 : ms.length ≤ 16777216 := by omega
  cases h2 : mtsOk n 0 (ms.map mtD) with
  | true =>
    rw [h2] at p2
    exact .inl ⟨rfl, by simp [E_Day___init__, p1, h1, p2, dyO, z1]⟩
  | false =>
    rw [h2] at p2
    exact .inr ⟨rfl, by simp [E_Day___init__, p1, h1, p2, xI]⟩
theorem fm_befs {b : Int} : ∀ ms : List Mt, (ms.filterMap fun m => if m.1 < b then some (mtD m) else none) = (befs b ms).map mtD
  | [] => rfl
  | m :: ms => by
    have ih := fm_befs (b := b) ms
    unfold befs at ih ⊢
    by_cases h : m.1 < b
    · simp [h, ih, befB]
    · simp [h, ih, befB]
theorem fm_ovr {m : Mt} : ∀ ms : List Mt, (ms.filterMap fun x => if x.1 < m.2.1 ∧ m.1 < x.2.1 then some (mtD x) else none) = (ovr m ms).map mtD
  | [] => rfl
  | x :: ms => by
    have ih := fm_ovr (m := m) ms
    unfold ovr at ih ⊢
    by_cases h : x.1 < m.2.1 ∧ m.1 < x.2.1
    · simp [h, ih, ovrB]
    · have : (decide (x.1 < m.2.1) && decide (m.1 < x.2.1)) = false := by simpa using h
      simp [h, ih, ovrB, this]
/-- how many begin ahead -/
theorem befs_lc {m : Mt} {v0 : Slot} {ms : List Mt} (hz : ms.length ≤ 1000) :
    lcL [3] (uName 3) (dTest (dBin opLt (dBin opIx (dVar 3) (dC (.int 0))) (dBin opIx (dVar 1) (dC (.int 0))))) (dVar 3) (ms.map mtD) [v0, .val (mtD m), .none, .none] [] = .ok ((befs m.1 ms).map mtD) [v0, .val (mtD m), .none, .none] := by
  have L := lc_fm (vs := [3]) (U := uName 3) (T := dTest (dBin opLt (dBin opIx (dVar 3) (dC (.int 0))) (dBin opIx (dVar 1) (dC (.int 0))))) (A := dVar 3) (enc := mtD) (fun x => if x.1 < m.1 then some (mtD x) else none) (ρ := [v0, .val (mtD m), .none, .none]) (L := ms) (acc := []) (fun x hm ds acc ha => by
    have ha' : acc.length < 16777216 := by omega
    by_cases q : x.1 < m.1
    · simp [lcL, mtD, ha', q]
    · simp [lcL, mtD, ha', q]) (by simp; omega)
  rw [L, fm_befs]
  rfl
theorem put_mid {m : Mt} : ∀ {A B : List Mt} {a : Int}, Meets a (A ++ m :: B) → put m (A ++ B) = A ++ m :: B
  | [], [], a, h => rfl
  | [], x :: B, a, h => by
    have h1 := h.2.1
    have h2 := h.2.2.1
    exact put_head (a := m.2.1) h.2.2 (by omega)
  | x :: A, B, a, h => by
    have ih := put_mid h.2.2
    have hx : x.1 < m.1 := by
      have := h.2.1
      have h3 : ∀ {A : List Mt} {a : Int}, Meets a (A ++ m :: B) → a ≤ m.1 := by
        intro A
        induction A with
        | nil => exact fun h => h.1
        | cons y A ih => exact fun h => by have := ih h.2.2; have := h.1; have := h.2.1; omega
      have := h3 h.2.2
      omega
    rw [List.cons_append, put_cons hx, ih]
    rfl
theorem put_cut {m : Mt} {ms : List Mt} : cutD (ms.map mtD) none (some ((befs m.1 ms).length : Int)) ++ [mtD m] ++ cutD (ms.map mtD) (some ((befs m.1 ms).length : Int)) none = (put m ms).map mtD := by
  rw [cutD_to, cutD_from, ← List.map_take, ← List.map_drop]
  unfold put
  simp
theorem befs_le {m : Mt} {ms : List Mt} : (befs m.1 ms).length ≤ ms.length := List.length_filter_le _ _
theorem put_len {m : Mt} {ms : List Mt} : (put m ms).length = ms.length + 1 := by
  have := befs_le (m := m) (ms := ms)
  unfold put
  simp
  omega
/-- one more, as it should be -/
theorem having_q {c : Cl} {n : Int} {m : Mt} {ms : List Mt} (h0 : 0 ≤ m.1) (h2 : m.1 < m.2.1) (h1 : 1 ≤ n) (hm : Meets 0 (put m ms)) (he : endOf 0 (put m ms) ≤ n) (hz : ms.length ≤ 400) : Gives 4 (D_Day_having_2 c) [dvD c n ms, mtD m] (.new (dyO c n (put m ms))) := by
  obtain ⟨_, p, q⟩ := (day_init (c := c) h1 hm he (.inr rfl)).elim
  obtain ⟨_, p2⟩ := (is_meeting_v (c := c) (m := m) h0 h2).elim
  have l := befs_lc (m := m) (v0 := .val (dvD c n ms)) (ms := ms) (by omega)
  have hc := put_cut (m := m) (ms := ms)
  have hb := befs_le (m := m) (ms := ms)
  have hp := put_len (m := m) (ms := ms)
  have hx : mtD m = .tup [.int m.1, .int m.2.1, .bl m.2.2] := rfl
  have k1 : (befs m.1 ms).length ≤ 16777216 := by omega
  have c1l : (cutD (ms.map mtD) none (some ((befs m.1 ms).length : Int))).length = (befs m.1 ms).length := by rw [cutD_to]; simp; omega
  have c2l : (cutD (ms.map mtD) (some ((befs m.1 ms).length : Int)) none).length = ms.length - (befs m.1 ms).length := by rw [cutD_from]; simp
  simp only [dyO] at q ⊢
  simp only [dvD] at l ⊢
  rw [← hc] at p q ⊢
  obtain ⟨A, hA⟩ : ∃ A, cutD (ms.map mtD) none (some ((befs m.1 ms).length : Int)) = A := ⟨_, rfl⟩
  obtain ⟨B, hB⟩ : ∃ B, cutD (ms.map mtD) (some ((befs m.1 ms).length : Int)) none = B := ⟨_, rfl⟩
  obtain ⟨MD, hMD⟩ : ∃ MD, ms.map mtD = MD := ⟨_, rfl⟩
  obtain ⟨BD, hBD⟩ : ∃ BD, (befs m.1 ms).map mtD = BD := ⟨_, rfl⟩
  have bl : BD.length = (befs m.1 ms).length := by rw [← hBD, List.length_map]
  rw [hA] at c1l
  rw [hB] at c2l
  rw [hA, hB] at p q ⊢
  rw [hMD] at hA hB l ⊢
  rw [hBD] at l
  rw [← bl] at hA hB c1l c2l hb k1
  have z1 : A.length ≤ 16777216 := by omega
  have z2 : B.length ≤ 16777216 := by omega
  have z3 : A.length + 1 ≤ 16777216 := by omega
  have z4 : A.length + (B.length + 1) ≤ 16777216 := by omega
  have z5 : A.length + 1 + B.length ≤ 16777216 := by omega
  have z6 : A.length < 16777216 := by omega
  have z7 : A.length + B.length < 16777216 := by omega
  have z8 : A.length + B.length ≤ 16777215 := by omega
  simp [hx] at p p2 l q
  simp [Gives, D_Day_having_2, hx, p, p2, l, q, lcAll, hA, hB, k1, z1, z2, z3, z4, z5, z6, z7, z8]
end DL
set_option linter.all false
set_option maxRecDepth 100000
set_option maxHeartbeats 2000000
namespace DL
open PySem PySem.Spec PyProof.Rows L2 DD
theorem having_no {c : Cl} {v : Slot} {d : D} (h : El c d) (hn : toMt d = none) : ∃ ρ', fin (E_Day_having c [v, .val d, .none, .none]) = .err (xI c) ρ' := by
  obtain ⟨_, p⟩ := (is_meeting_d (c := c) h).elim
  rw [hn] at p
  simp at p
  simp [E_Day_having, p, xI]
theorem having_x {c : Cl} {n : Int} {m : Mt} {ms : List Mt} (h0 : 0 ≤ m.1) (h2 : m.1 < m.2.1) (h1 : 1 ≤ n) (hz : ms.length ≤ 400) :
    (mtsOk n 0 ((put m ms).map mtD) = true ∧ ∃ ρ', fin (E_Day_having c [.val (dvD c n ms), .val (mtD m), .none, .none]) = .ok (.new (dyO c n (put m ms))) ρ') ∨
    (mtsOk n 0 ((put m ms).map mtD) = false ∧ ∃ ρ', fin (E_Day_having c [.val (dvD c n ms), .val (mtD m), .none, .none]) = .err (xI c) ρ') := by
  have hp := put_len (m := m) (ms := ms)
  have I := init_t (c := c) (n := n) (ms := put m ms) h1 (by omega)
  obtain ⟨_, p2⟩ := (is_meeting_v (c := c) (m := m) h0 h2).elim
  have l := befs_lc (m := m) (v0 := .val (dvD c n ms)) (ms := ms) (by omega)
  have hc := put_cut (m := m) (ms := ms)
  have hb := befs_le (m := m) (ms := ms)
  have hx : mtD m = .tup [.int m.1, .int m.2.1, .bl m.2.2] := rfl
  have k1 : (befs m.1 ms).length ≤ 16777216 := by omega
  have c1l : (cutD (ms.map mtD) none (some ((befs m.1 ms).length : Int))).length = (befs m.1 ms).length := by rw [cutD_to]; simp; omega
  have c2l : (cutD (ms.map mtD) (some ((befs m.1 ms).length : Int)) none).length = ms.length - (befs m.1 ms).length := by rw [cutD_from]; simp
  simp only [dyO] at I ⊢
  simp only [dvD] at l ⊢
  generalize mtsOk n 0 ((put m ms).map mtD) = OK at *
  rw [← hc] at I ⊢
  obtain ⟨A, hA⟩ : ∃ A, cutD (ms.map mtD) none (some ((befs m.1 ms).length : Int)) = A := ⟨_, rfl⟩
  obtain ⟨B, hB⟩ : ∃ B, cutD (ms.map mtD) (some ((befs m.1 ms).length : Int)) none = B := ⟨_, rfl⟩
  obtain ⟨MD, hMD⟩ : ∃ MD, ms.map mtD = MD := ⟨_, rfl⟩
  obtain ⟨BD, hBD⟩ : ∃ BD, (befs m.1 ms).map mtD = BD := ⟨_, rfl⟩
  have bl : BD.length = (befs m.1 ms).length := by rw [← hBD, List.length_map]
  rw [hA] at c1l
  rw [hB] at c2l
  rw [hA, hB] at I ⊢
  rw [hMD] at hA hB l ⊢
  rw [hBD] at l
  rw [← bl] at hA hB c1l c2l hb k1
  have z1 : A.length ≤ 16777216 := by omega
  have z2 : B.length ≤ 16777216 := by omega
  have z3 : A.length + 1 ≤ 16777216 := by omega
  have z4 : A.length + (B.length + 1) ≤ 16777216 := by omega
  have z5 : A.length + 1 + B.length ≤ 16777216 := by omega
  have z6 : A.length < 16777216 := by omega
  have z7 : A.length + B.length < 16777216 := by omega
  have z8 : A.length + B.length ≤ 16777215 := by omega
  simp [hx] at p2 l
  rcases I with ⟨i1, _, i2, i3⟩ | ⟨i1, _, i2⟩
  · simp [hx] at i2 i3
    exact .inl ⟨i1, by simp [E_Day_having, hx, p2, l, i2, i3, lcAll, hA, hB, k1, z1, z2, z3, z4, z5, z6, z7, z8]⟩
  · simp [hx] at i2
    exact .inr ⟨i1, by simp [E_Day_having, hx, p2, l, i2, lcAll, hA, hB, k1, z1, z2, z3, z4, z5, z6, z7, z8]⟩
theorem without_no {c : Cl} {n i : Int} {ms : List Mt} (hz : ms.length ≤ 400) (hi : i < 0 ∨ (ms.length : Int) ≤ i) : ∃ ρ', fin (E_Day_without c [.val (dvD c n ms), .val (.int i)]) = .err (xN c i) ρ' := by
  have z : ms.length ≤ 16777216 := by omega
  by_cases h : i < 0
  · simp [E_Day_without, dvD, h, xN, z]
  · have h2 : (ms.length : Int) ≤ i := by omega
    simp [E_Day_without, dvD, h, h2, xN, z]
theorem getitem_no {c : Cl} {n i : Int} {ms : List Mt} (hz : ms.length ≤ 400) (hi : i < 0 ∨ (ms.length : Int) ≤ i) : ∃ ρ', fin (E_Day___getitem__ c [.val (dvD c n ms), .val (.int i)]) = .err (xN c i) ρ' := by
  have z : ms.length ≤ 16777216 := by omega
  by_cases h : i < 0
  · simp [E_Day___getitem__, dvD, h, xN, z]
  · have h2 : (ms.length : Int) ≤ i := by omega
    simp [E_Day___getitem__, dvD, h, h2, xN, z]
section
variable {c : Cl} {is : List Nat} {cD cN cI : Addr} {m : Nat} {T : En → SR} {Ed : En → Res X} {ρ ρ2 : En}
theorem heard_str {z : Str} (h : dStrO cD m (nS T) Ed (vals (frzE is ρ)) = .ok (.val (.str z)) ρ2) : dHeard is cD cN cI m T Ed ρ = .ok (.val (.str z)) (frzE is ρ) := by
  unfold dHeard
  rw [h]
theorem heard_xI (hne : c.InvalidDay ≠ c.NoMeeting) (h : dStrO cD m (nS T) Ed (vals (frzE is ρ)) = .err (xI c) ρ2) : dHeard is cD c.NoMeeting c.InvalidDay m T Ed ρ = .ok (.val (.str "!meetings")) (frzE is ρ) := by
  unfold dHeard
  rw [h]
  have e : hear c.NoMeeting c.InvalidDay (xI c) = some (.str "!meetings") := by
    have n1 : ¬ (Value.ref c.InvalidDay = Value.ref c.NoMeeting) := fun e => hne (Value.ref.inj e)
    have l : (1 : Nat) + (Str.ofString "meetings").length ≤ sizeLine := by rw [sizeLine_eq]; decide +kernel
    have e2 : ("!" : Str) ++ ("meetings" : Str) = ("!meetings" : Str) := by decide +kernel
    unfold hear xI
    rw [if_neg n1, if_pos rfl]
    dsimp only
    rw [if_pos ⟨rfl, l⟩]
    exact congrArg (fun z => some (D.str z)) e2
  dsimp only
  rw [e]
  rfl
theorem heard_xN {i : Int} (h : dStrO cD m (nS T) Ed (vals (frzE is ρ)) = .err (xN c i) ρ2) : dHeard is cD c.NoMeeting cI m T Ed ρ = .ok (.val (.tup [.str "none", .int i])) (frzE is ρ) := by
  unfold dHeard
  rw [h]
  have e : hear c.NoMeeting cI (xN c i) = some (.tup [.str "none", .int i]) := by
    unfold hear xN
    rw [if_pos rfl]
    dsimp only
    rw [if_pos rfl]
  dsimp only
  rw [e]
  rfl
end
theorem say_having {c : Cl} {n : Int} {ms : List Mt} {d : D} {i : Nat} {R : En} (h4 : R[4]? = some (.val (dvD c n ms))) (hi : R[i]? = some (.val d)) :
    dMeth c.Day "having" 2 4 (E_Day_having c) (nE (dVar 4)) (nE (aCons (dVar i) aNil)) R = callV (fin (E_Day_having c [.val (dvD c n ms), .val d, .none, .none])) R := by
  simp only [dvD] at h4 ⊢
  simp [h4, hi]
theorem say_without {c : Cl} {n : Int} {ms : List Mt} {d : D} {i : Nat} {R : En} (h4 : R[4]? = some (.val (dvD c n ms))) (hi : R[i]? = some (.val d)) :
    dMeth c.Day "without" 2 2 (E_Day_without c) (nE (dVar 4)) (nE (aCons (dVar i) aNil)) R = callV (fin (E_Day_without c [.val (dvD c n ms), .val d])) R := by
  simp only [dvD] at h4 ⊢
  simp [h4, hi]
theorem say_item {c : Cl} {n : Int} {ms : List Mt} {d : D} {i : Nat} {R : En} (h4 : R[4]? = some (.val (dvD c n ms))) (hi : R[i]? = some (.val d)) :
    dIxO c.Day 2 (E_Day___getitem__ c) (nE (dVar 4)) (nE (dVar i)) R = callV (fin (E_Day___getitem__ c [.val (dvD c n ms), .val d])) R := by
  simp only [dvD] at h4 ⊢
  simp [h4, hi]
theorem str_err {cD : Addr} {m : Nat} {T : En → SR} {Ed : En → Res X} {R R2 : En} {x : Xc} (h : Ed R = .err x R2) : dStrO cD m T Ed R = .err x R2 := by
  unfold dStrO
  rw [h]
  rfl
theorem nS_fin {T : En → SR} {ρ ρ' : En} {x : X} (h : fin (T ρ) = .ok x ρ') : fin (nS T ρ) = .ok x ρ' := by
  unfold nS
  cases e : T ρ with
  | err y ρ2 => rw [e] at h; cases h
  | nx ρ2 => rw [e] at h; exact h
  | rt y ρ2 => rw [e] at h; exact h
  | bk ρ2 => rw [e] at h; exact h
  | ct ρ2 => rw [e] at h; exact h
  | stuck => rw [e] at h; exact h
theorem heard_out {c : Cl} (hne : c.InvalidDay ≠ c.NoMeeting) {is : List Nat} {n : Int} {ms : List Mt} {d : D} {i : Nat} {ρ : En} (h4 : (vals (frzE is ρ))[4]? = some (.val (dvD c n ms))) (hi : (vals (frzE is ρ))[i]? = some (.val d)) (h : ∃ ρ', fin (E_Day_having c [.val (dvD c n ms), .val d, .none, .none]) = .err (xI c) ρ') :
    dHeard is c.Day c.NoMeeting c.InvalidDay 1 (D_Day___str__ c) (dMeth c.Day "having" 2 4 (E_Day_having c) (nE (dVar 4)) (nE (aCons (dVar i) aNil))) ρ = .ok (.val (.str "!meetings")) (frzE is ρ) := by
  obtain ⟨ρ', h⟩ := h
  refine heard_xI hne (ρ2 := vals (frzE is ρ)) (str_err ?_)
  rw [say_having h4 hi, h]
  rfl
theorem heard_in {c : Cl} {is : List Nat} {n : Int} {m : Mt} {ms : List Mt} {i : Nat} {ρ : En} (hn : In n) (hI : InM (put m ms)) (hz : ms.length ≤ 300) (h4 : (vals (frzE is ρ))[4]? = some (.val (dvD c n ms))) (hi : (vals (frzE is ρ))[i]? = some (.val (mtD m))) (h : ∃ ρ', fin (E_Day_having c [.val (dvD c n ms), .val (mtD m), .none, .none]) = .ok (.new (dyO c n (put m ms))) ρ') :
    dHeard is c.Day c.NoMeeting c.InvalidDay 1 (D_Day___str__ c) (dMeth c.Day "having" 2 4 (E_Day_having c) (nE (dVar 4)) (nE (aCons (dVar i) aNil))) ρ = .ok (.val (.str (dyT n (put m ms)))) (frzE is ρ) := by
  obtain ⟨ρ', h⟩ := h
  have hp := put_len (m := m) (ms := ms)
  obtain ⟨_, p⟩ := (day_str_v (c := c) hn hI (by omega)).elim
  refine heard_str (ρ2 := vals (frzE is ρ)) ?_
  have e := say_having h4 hi
  rw [h] at e
  simp only [dvD] at p
  simp only [dyO] at e
  unfold dStrO
  rw [e]
  generalize vals (frzE is ρ) = R at *
  generalize (put m ms).map mtD = PD at *
  have p' := nS_fin p
  simp [-e_nS] at p'
  simp [-e_nS, p']
theorem heard_w {c : Cl} {is : List Nat} {n k : Int} {ms : List Mt} {i : Nat} {ρ : En} (hz : ms.length ≤ 400) (hk : k < 0 ∨ (ms.length : Int) ≤ k) (h4 : (vals (frzE is ρ))[4]? = some (.val (dvD c n ms))) (hi : (vals (frzE is ρ))[i]? = some (.val (.int k))) :
    dHeard is c.Day c.NoMeeting c.InvalidDay 1 (D_Day___str__ c) (dMeth c.Day "without" 2 2 (E_Day_without c) (nE (dVar 4)) (nE (aCons (dVar i) aNil))) ρ = .ok (.val (.tup [.str "none", .int k])) (frzE is ρ) := by
  obtain ⟨ρ', h⟩ := without_no (c := c) (n := n) hz hk
  refine heard_xN (ρ2 := vals (frzE is ρ)) (str_err ?_)
  rw [say_without h4 hi, h]
  rfl
theorem heard_g {c : Cl} {is : List Nat} {n k : Int} {ms : List Mt} {i : Nat} {ρ : En} (hz : ms.length ≤ 400) (hk : k < 0 ∨ (ms.length : Int) ≤ k) (h4 : (vals (frzE is ρ))[4]? = some (.val (dvD c n ms))) (hi : (vals (frzE is ρ))[i]? = some (.val (.int k))) :
    dHeard is c.Day c.NoMeeting c.InvalidDay 1 (D_Day___str__ c) (dIxO c.Day 2 (E_Day___getitem__ c) (nE (dVar 4)) (nE (dVar i))) ρ = .ok (.val (.tup [.str "none", .int k])) (frzE is ρ) := by
  obtain ⟨ρ', h⟩ := getitem_no (c := c) (n := n) hz hk
  refine heard_xN (ρ2 := vals (frzE is ρ)) (str_err ?_)
  rw [say_item h4 hi, h]
  rfl
end DL
set_option linter.all false
set_option maxRecDepth 100000
set_option maxHeartbeats 2000000
namespace DL
open PySem PySem.Spec PyProof.Rows L2 DD
theorem for_then {S : En → Res (List D)} {U : Tg} {B K : En → SR} {ds : List D} {ρ ρ1 ρ2 : En} (h1 : S ρ = .ok ds ρ1) (h2 : forL U B ds ρ1 = .nx ρ2) : sSeq (sFor S U B) K ρ = K ρ2 := by
  show (match (S ρ).sb fun ds ρ1 => forL U B ds ρ1 with
    | .nx ρ1 => K ρ1
    | r => r) = _
  rw [h1]
  show (match forL U B ds ρ1 with
    | .nx ρ1 => K ρ1
    | r => r) = _
  rw [h2]
theorem forV_then {A : En → Res X} {U : Tg} {B K : En → SR} {d : D} {ds : List D} {ρ ρ1 ρ2 : En} (h1 : A ρ = .ok (.val d) ρ1) (hd : d.items = some ds) (h2 : forL U B ds ρ1 = .nx ρ2) : sSeq (sForV A U B) K ρ = K ρ2 := by
  show (match (A ρ).sb fun x ρ1 => match x with
      | .val d => match d.items with
        | some ds => forL U B ds ρ1
        | none => .stuck
      | _ => .stuck with
    | .nx ρ1 => K ρ1
    | r => r) = _
  rw [h1]
  show (match (match d.items with
        | some ds => forL U B ds ρ1
        | none => SR.stuck) with
    | .nx ρ1 => K ρ1
    | r => r) = _
  rw [hd]
  show (match forL U B ds ρ1 with
    | .nx ρ1 => K ρ1
    | r => r) = _
  rw [h2]
theorem eq_mt {m : Mt} : eqB (mtD m) (mtD m) = some true := eqB_self (ps := [.int m.1, .int m.2.1, .bool m.2.2]) rfl (by simp [PyData.canLay0, PyData.canLayAll0]) (by simp [PyData.depth, PyData.depthAll])
theorem eq_no {k : Int} : eqB (.tup [.str "none", .int k]) (.tup [.str "none", .int k]) = some true := eqB_self (ps := [.str "none", .int k]) rfl (by simp [PyData.canLay0, PyData.canLayAll0]; decide +kernel) (by simp [PyData.depth, PyData.depthAll])
theorem b1_v {c : Cl} {n : Int} {A B : List Mt} {m : Mt} (h1 : 1 ≤ n) (hm : Meets 0 (A ++ m :: B)) (he : endOf 0 (A ++ m :: B) ≤ n) (hz : A.length + B.length ≤ 300) {v0 v1 v2 v3 s4 s6 s7 s8 s9 s10 s11 s13 s14 s15 : Slot} (h4 : s4 = .own (dyO c n (A ++ m :: B)) ∨ s4 = .val (dvD c n (A ++ m :: B))) (f13 : s13.free = true) :
    D_law_b1 c [v0, v1, v2, v3, s4, .val (.int A.length), s6, s7, s8, s9, s10, .val (.int n), .val (.lst ((A ++ m :: B).map mtD)), s13, s14, s15] = .nx [v0, v1, v2, v3, .val (dvD c n (A ++ m :: B)), .val (.int A.length), s6, s7, s8, s9, s10, .val (.int n), .val (.lst ((A ++ m :: B).map mtD)), .val (dvD c n (A ++ B)), s14, s15] := by
  obtain ⟨w, w2⟩ := meets_mid hm
  have pm := put_mid hm
  have h00 : 0 ≤ m.1 ∧ m.1 < m.2.1 := by
    have := meets_le (Int.le_refl 0) hm m (by simp)
    exact ⟨this.1, this.2.1⟩
  obtain ⟨_, p1⟩ := (without_v (c := c) h1 hm he (by omega)).elim
  obtain ⟨_, p2, q2⟩ := (day_init (c := c) h1 w (by omega) (.inl rfl)).elim
  obtain ⟨_, p3⟩ := (day_eq_v (c := c) (n := n) (ms := A ++ B)).elim
  obtain ⟨_, p4⟩ := (getitem_v (c := c) (n := n) (A := A) (B := B) (m := m) (by omega)).elim
  obtain ⟨_, p5⟩ := (having_q (c := c) (n := n) (m := m) (ms := A ++ B) h00.1 h00.2 h1 (by rw [pm]; exact hm) (by rw [pm]; exact he) (by simp; omega)).elim
  rw [pm] at p5
  obtain ⟨_, p6⟩ := (day_eq_v (c := c) (n := n) (ms := A ++ m :: B)).elim
  have c1 : cutD (A.map mtD ++ mtD m :: B.map mtD) none (some (A.length : Int)) = A.map mtD := by
    rw [cutD_to]
    simp
  have c2 : cutD (A.map mtD ++ mtD m :: B.map mtD) (some ((A.length : Int) + 1)) none = B.map mtD := by
    have := cutD_from (xs := A.map mtD ++ mtD m :: B.map mtD) (k := A.length + 1)
    rw [show (((A.length + 1 : Nat)) : Int) = (A.length : Int) + 1 by omega] at this
    rw [this, List.drop_append]
    simp
  have c3 : atI (A.map mtD ++ mtD m :: B.map mtD) (A.length : Int) = some (mtD m) := by
    have e := at_mid (A := A.map mtD) (B := B.map mtD) (d := mtD m)
    rw [List.length_map] at e
    exact e
  have e5 := eq_mt (m := m)
  have z : A.length + B.length ≤ 16777215 := by omega
  have z2 : A.length ≤ 16777215 := by omega
  have z4 : B.length ≤ 16777215 := by omega
  have z5 : A.length + (B.length + 1) ≤ 16777216 := by omega
  have z8 : A.length + B.length ≤ 16777216 := by omega
  have z9 : A.length ≤ 16777216 := by omega
  have z10 : B.length ≤ 16777216 := by omega
  have z11 : A.length < 16777216 := by omega
  have z12 : B.length < 16777216 := by omega
  simp only [dvD, dyO, List.map_append, List.map_cons] at *
  obtain ⟨M, hM⟩ : ∃ M, mtD m = M := ⟨_, rfl⟩
  obtain ⟨AD, hA⟩ : ∃ AD, A.map mtD = AD := ⟨_, rfl⟩
  obtain ⟨BD, hB⟩ : ∃ BD, B.map mtD = BD := ⟨_, rfl⟩
  have la : AD.length = A.length := by rw [← hA, List.length_map]
  have lb : BD.length = B.length := by rw [← hB, List.length_map]
  rw [hM] at p1 p4 p5 p6 c1 c2 c3 e5 h4 ⊢
  rw [hA, hB] at p1 p2 q2 p3 p4 p5 p6 c1 c2 c3 h4 ⊢
  rw [← la] at z z2 z5 z8 z9 z11
  rw [← lb] at z z4 z5 z8 z10 z12
  generalize (A.length : Int) = AL at *
  simp at p1 p2 p3 p4 p5 p6
  rcases h4 with rfl | rfl <;> simp [D_law_b1, f13, p1, p2, q2, p3, p4, p5, p6, c1, c2, c3, e5, z, z2, z4, z5, z8, z9, z10, z11, z12]
theorem b2_v {c : Cl} {n k : Int} {ms : List Mt} (hz : ms.length ≤ 300) (hk : k < 0 ∨ (ms.length : Int) ≤ k) {v0 v1 v2 v3 s4 s6 s7 s8 s9 s10 s11 s12 s13 s14 s15 : Slot} (h4 : s4 = .own (dyO c n ms) ∨ s4 = .val (dvD c n ms)) :
    D_law_b2 c [v0, v1, v2, v3, s4, .val (.int k), s6, s7, s8, s9, s10, s11, s12, s13, s14, s15] = .nx [v0, v1, v2, v3, .val (dvD c n ms), .val (.int k), s6, s7, s8, s9, s10, s11, s12, s13, s14, s15] := by
  have fz : frzE [4, 5] [v0, v1, v2, v3, s4, .val (.int k), s6, s7, s8, s9, s10, s11, s12, s13, s14, s15] = [v0, v1, v2, v3, .val (dvD c n ms), .val (.int k), s6, s7, s8, s9, s10, s11, s12, s13, s14, s15] := by
    rcases h4 with rfl | rfl <;> rfl
  have fz2 : frzE [4, 5] [v0, v1, v2, v3, .val (dvD c n ms), .val (.int k), s6, s7, s8, s9, s10, s11, s12, s13, s14, s15] = [v0, v1, v2, v3, .val (dvD c n ms), .val (.int k), s6, s7, s8, s9, s10, s11, s12, s13, s14, s15] := rfl
  have a1 := heard_w (c := c) (is := [4, 5]) (n := n) (k := k) (ms := ms) (i := 5) (ρ := [v0, v1, v2, v3, s4, .val (.int k), s6, s7, s8, s9, s10, s11, s12, s13, s14, s15]) (by omega) hk (by rw [fz]; rfl) (by rw [fz]; rfl)
  have a2 := heard_g (c := c) (is := [4, 5]) (n := n) (k := k) (ms := ms) (i := 5) (ρ := [v0, v1, v2, v3, .val (dvD c n ms), .val (.int k), s6, s7, s8, s9, s10, s11, s12, s13, s14, s15]) (by omega) hk (by rw [fz2]; rfl) (by rw [fz2]; rfl)
  rw [fz] at a1
  rw [fz2] at a2
  have e := eq_no (k := k)
  clear fz fz2
  generalize dvD c n ms = dv at *
  simp [D_law_b2, a1, a2, e]
end DL
set_option linter.all false
set_option maxRecDepth 100000
set_option maxHeartbeats 2000000
namespace DL
open PySem PySem.Spec PyProof.Rows L2 DD
noncomputable def D_law_b3_p0 (c : Cl) (K : En → SR) : En → SR := (sSeq (sTgt (uTup 2 (usCons (uName 11) (usCons (uName 12) usNil))) (dLend 3 9 (D__law_day c) 2 (aCons (dC (.int 30)) (aCons (dC (.bl true)) aNil)))) (sSeq (sSet 4 (dMake c.Day 3 3 (fun ρ => D_Day___init__ c (fillD 3 [] ρ)) (aCons (dVar 11) (aCons (dVar 12) aNil)))) K))
noncomputable def D_law_b3_p1 (c : Cl) (K : En → SR) : En → SR := (sSeq (sFor (dRng1 (dCB fLen (aCons (dVar 12) aNil))) (uName 5) (D_law_b1 c)) K)
noncomputable def D_law_b3_p2 (c : Cl) (K : En → SR) : En → SR := (sSeq (sForV (dTup (aCons (dBin opSub (dC (.int 0)) (dC (.int 1))) (aCons (dCB fLen (aCons (dVar 12) aNil)) (aCons (dBin opAdd (dCB fLen (aCons (dVar 12) aNil)) (dC (.int 9))) (aCons (dBin opPow (dC (.int 10)) (dC (.int 9))) aNil))))) (uName 5) (D_law_b2 c)) K)
noncomputable def D_law_b3_p3 (c : Cl) (K : En → SR) : En → SR := (sSeq (sSet 6 (dLend 2 4 (D__law_choose c) 2 (aCons (dBin opAdd (dVar 11) (dC (.int 2))) aNil))) (sSeq (sSet 7 (dTup (aCons (dVar 6) (aCons (dBin opAdd (dBin opAdd (dVar 6) (dC (.int 1))) (dLend 2 4 (D__law_choose c) 2 (aCons (dC (.int 4)) aNil))) (aCons (dBin opEq (dLend 2 4 (D__law_choose c) 2 (aCons (dC (.int 2)) aNil)) (dC (.int 0))) aNil))))) K))
noncomputable def D_law_b3_p4 (c : Cl) (K : En → SR) : En → SR := (sSeq (sSet 8 (dLcS (dVar 12) [15] (uName 15) (tnd (dTest (dBin opLt (dBin opIx (dVar 15) (dC (.int 0))) (dBin opIx (dVar 7) (dC (.int 1))))) (dTest (dBin opLt (dBin opIx (dVar 7) (dC (.int 0))) (dBin opIx (dVar 15) (dC (.int 1)))))) (dVar 15))) K)
noncomputable def D_law_b3_p5 (c : Cl) (K : En → SR) : En → SR := (sSeq (sSet 9 (dC (.str "!meetings"))) (sSeq (sIf (tnd (dTest (dBin opEq (dVar 8) (dLst aNil))) (dTest (dBin opLe (dBin opIx (dVar 7) (dC (.int 1))) (dVar 11)))) (sSeq (sSet 14 (dLcS (dVar 12) [15] (uName 15) (dTest (dBin opLt (dBin opIx (dVar 15) (dC (.int 0))) (dVar 6))) (dVar 15))) (sSet 9 (dCall 1 5 (D__law_day_text c) (aCons (dTup (aCons (dVar 11) (aCons (dBin opAdd (dBin opAdd (dVar 14) (dLst (aCons (dVar 7) aNil))) (dSl (dVar 12) (oSome (dCB fLen (aCons (dVar 14) aNil))) oNone)) aNil))) aNil)))) sNext) K))
noncomputable def D_law_b3_p6 (c : Cl) (K : En → SR) : En → SR := (sSeq (sIf (dTest (dBin opNe (dHeard [4, 7] c.Day c.NoMeeting c.InvalidDay 1 (D_Day___str__ c) (dMeth c.Day "having" 2 4 (E_Day_having c) (nE (dVar 4)) (nE (aCons (dVar 7) aNil)))) (dVar 9))) (sRet (dC (.bl false))) sNext) K)
noncomputable def D_law_b3_p7 (c : Cl) : En → SR := (sSeq (sSet 10 (dLend 2 2 (D__law_one_of c) 2 (aCons (dLst (aCons (dC .non) (aCons (dC (.str "2-5")) (aCons (dTup (aCons (dC (.int 1)) (aCons (dC (.int 2)) aNil))) (aCons (dLst (aCons (dC (.int 0)) (aCons (dC (.int 1)) (aCons (dC (.bl false)) aNil)))) (aCons (dTup (aCons (dC (.int 2)) (aCons (dC (.int 1)) (aCons (dC (.bl true)) aNil)))) (aCons (dTup (aCons (dC (.int 0)) (aCons (dC (.int 1)) (aCons (dC (.int 1)) aNil)))) (aCons (dC (.int 3)) (aCons (dTup aNil) (aCons (dVar 4) aNil)))))))))) aNil))) (sIf (tor (dTest (dBin opNe (dHeard [4, 10] c.Day c.NoMeeting c.InvalidDay 1 (D_Day___str__ c) (dMeth c.Day "having" 2 4 (E_Day_having c) (nE (dVar 4)) (nE (aCons (dVar 10) aNil)))) (dC (.str "!meetings")))) (dTest (dBin opNe (dStrO c.Day 1 (D_Day___str__ c) (dVar 4)) (dCall 1 5 (D__law_day_text c) (aCons (dTup (aCons (dVar 11) (aCons (dVar 12) aNil))) aNil))))) (sRet (dC (.bl false))) sNext))
theorem D_law_b3_eq {c : Cl} : D_law_b3 c = (D_law_b3_p0 c (D_law_b3_p1 c (D_law_b3_p2 c (D_law_b3_p3 c (D_law_b3_p4 c (D_law_b3_p5 c (D_law_b3_p6 c (D_law_b3_p7 c)))))))) := by
  unfold D_law_b3 D_law_b3_p0 D_law_b3_p1 D_law_b3_p2 D_law_b3_p3 D_law_b3_p4 D_law_b3_p5 D_law_b3_p6 D_law_b3_p7
  with_reducible rfl
theorem p0_v {c : Cl} {K : En → SR} {b : Int × Int} {v0 v1 v3 s4 s5 s6 s7 s8 s9 s10 s11 s12 s13 s14 s15 : Slot} (f4 : s4.free = true) (f11 : s11.free = true) (f12 : s12.free = true) : ∃ (b' : Int × Int) (n : Int) (ms : List Mt), 1 ≤ n ∧ n ≤ 30 ∧ Meets 0 ms ∧ endOf 0 ms ≤ n ∧ ms.length ≤ 8 ∧
    D_law_b3_p0 c K [v0, v1, .own (box b), v3, s4, s5, s6, s7, s8, s9, s10, s11, s12, s13, s14, s15] = K [v0, v1, .own (box b'), v3, .own (dyO c n ms), s5, s6, s7, s8, s9, s10, .val (.int n), .val (.lst (ms.map mtD)), s13, s14, s15] := by
  obtain ⟨n, ms, b2, g2, n0, n1, hm, he, hz⟩ := day_gives (c := c) b (top := 30) (s := true) (by omega) (by omega)
  obtain ⟨_, p2, q2⟩ := g2.elim
  obtain ⟨_, p3, q3⟩ := (day_init (c := c) n0 hm he (.inl rfl)).elim
  refine ⟨b2, n, ms, n0, n1, hm, he, hz, ?_⟩
  simp only [dyO] at p3 q3 ⊢
  generalize ms.map mtD = MD at *
  simp at p2 p3
  simp [D_law_b3_p0, f4, f11, f12, p2, q2, p3, q3]
theorem rng1_is {A : En → Res X} {ρ ρ1 : En} {x : Int} (h : A ρ = .ok (.val (.int x)) ρ1) (h0 : 0 ≤ x) (h1 : x ≤ 1000) : dRng1 A ρ = .ok ((List.range x.toNat).map fun i => D.int (i : Nat)) ρ1 := by
  have r1 : -4611686018427387904 ≤ x := by omega
  have r2 : x < 4611686018427387904 := by omega
  simp [h, r1, r2]
theorem p1_v {c : Cl} {K : En → SR} {n : Int} {ms : List Mt} (h1 : 1 ≤ n) (hm : Meets 0 ms) (he : endOf 0 ms ≤ n) (hz : ms.length ≤ 300) {v0 v1 v2 v3 s5 s6 s7 s8 s9 s10 s13 s14 s15 : Slot} (f5 : s5.free = true) (f13 : s13.free = true) : ∃ t4 t5 t13 : Slot, (t4 = .own (dyO c n ms) ∨ t4 = .val (dvD c n ms)) ∧ t5.free = true ∧ t13.free = true ∧
    D_law_b3_p1 c K [v0, v1, v2, v3, .own (dyO c n ms), s5, s6, s7, s8, s9, s10, .val (.int n), .val (.lst (ms.map mtD)), s13, s14, s15] = K [v0, v1, v2, v3, t4, t5, s6, s7, s8, s9, s10, .val (.int n), .val (.lst (ms.map mtD)), t13, s14, s15] := by
  obtain ⟨ρ1, e1, t4, t5, t13, rfl, g4, g5, g13⟩ := forR_inv (U := uName 5) (B := D_law_b1 c) (n := ms.length) (fun i ρ => ∃ s4 s5 s13 : Slot, ρ = [v0, v1, v2, v3, s4, s5, s6, s7, s8, s9, s10, .val (.int n), .val (.lst (ms.map mtD)), s13, s14, s15] ∧ (s4 = .own (dyO c n ms) ∨ s4 = .val (dvD c n ms)) ∧ s5.free = true ∧ s13.free = true) (fun i hi ρ hw => by
    obtain ⟨s4, s5, s13, rfl, h4, f5, f13⟩ := hw
    have hcut : ms = ms.take i ++ ms[i] :: ms.drop (i + 1) := by
      rw [List.getElem_cons_drop, List.take_append_drop]
    have hlen : (ms.take i).length = i := by rw [List.length_take]; omega
    have hl2 : (ms.drop (i + 1)).length ≤ ms.length := by rw [List.length_drop]; omega
    have e := b1_v (c := c) (n := n) (A := ms.take i) (B := ms.drop (i + 1)) (m := ms[i]) (v0 := v0) (v1 := v1) (v2 := v2) (v3 := v3) (s4 := s4) (s6 := s6) (s7 := s7) (s8 := s8) (s9 := s9) (s10 := s10) (s11 := .none) (s13 := s13) (s14 := s14) (s15 := s15) h1 (by rw [← hcut]; exact hm) (by rw [← hcut]; exact he) (by rw [hlen, List.length_drop]; omega) (by rw [← hcut]; exact h4) f13
    rw [← hcut, hlen] at e
    refine ⟨[v0, v1, v2, v3, .val (dvD c n ms), .val (.int i), s6, s7, s8, s9, s10, .val (.int n), .val (.lst (ms.map mtD)), .val (dvD c n (ms.take i ++ ms.drop (i + 1))), s14, s15], .inl ?_, .val (dvD c n ms), .val (.int i), .val (dvD c n (ms.take i ++ ms.drop (i + 1))), rfl, .inr rfl, rfl, rfl⟩
    generalize dvD c n (ms.take i ++ ms.drop (i + 1)) = w at *
    generalize dvD c n ms = dv at *
    generalize ms.map mtD = MD at *
    simp [f5, e]) (ρ := [v0, v1, v2, v3, .own (dyO c n ms), s5, s6, s7, s8, s9, s10, .val (.int n), .val (.lst (ms.map mtD)), s13, s14, s15]) ⟨_, _, _, rfl, .inl rfl, f5, f13⟩
  refine ⟨t4, t5, t13, g4, g5, g13, ?_⟩
  refine for_then ?_ e1
  have z3 : ms.length ≤ 16777216 := by omega
  have h : dCB fLen (aCons (dVar 12) aNil) [v0, v1, v2, v3, .own (dyO c n ms), s5, s6, s7, s8, s9, s10, .val (.int n), .val (.lst (ms.map mtD)), s13, s14, s15] = .ok (.val (.int (ms.length : Int))) [v0, v1, v2, v3, .own (dyO c n ms), s5, s6, s7, s8, s9, s10, .val (.int n), .val (.lst (ms.map mtD)), s13, s14, s15] := by
    generalize dyO c n ms = dy
    simp [z3]
  have := rng1_is h (by omega) (by omega)
  rw [Int.toNat_natCast] at this
  exact this
theorem p2_v {c : Cl} {K : En → SR} {n : Int} {ms : List Mt} (hz : ms.length ≤ 300) {v0 v1 v2 v3 s4 s5 s6 s7 s8 s9 s10 s11 s13 s14 s15 : Slot} (h4 : s4 = .own (dyO c n ms) ∨ s4 = .val (dvD c n ms)) (f5 : s5.free = true) : ∃ t5 : Slot, t5.free = true ∧
    D_law_b3_p2 c K [v0, v1, v2, v3, s4, s5, s6, s7, s8, s9, s10, s11, .val (.lst (ms.map mtD)), s13, s14, s15] = K [v0, v1, v2, v3, .val (dvD c n ms), t5, s6, s7, s8, s9, s10, s11, .val (.lst (ms.map mtD)), s13, s14, s15] := by
  have st : ∀ (k : Int) (s4 s5 : Slot), (s4 = .own (dyO c n ms) ∨ s4 = .val (dvD c n ms)) → s5.free = true → (k < 0 ∨ (ms.length : Int) ≤ k) → stepL (uName 5) (D_law_b2 c) (.int k) [v0, v1, v2, v3, s4, s5, s6, s7, s8, s9, s10, s11, .val (.lst (ms.map mtD)), s13, s14, s15] = .nx [v0, v1, v2, v3, .val (dvD c n ms), .val (.int k), s6, s7, s8, s9, s10, s11, .val (.lst (ms.map mtD)), s13, s14, s15] := fun k s4 s5 h4 f5 hk => by
    have e := b2_v (c := c) (n := n) (k := k) (ms := ms) hz hk (v0 := v0) (v1 := v1) (v2 := v2) (v3 := v3) (s6 := s6) (s7 := s7) (s8 := s8) (s9 := s9) (s10 := s10) (s11 := s11) (s12 := .val (.lst (ms.map mtD))) (s13 := s13) (s14 := s14) (s15 := s15) h4
    generalize dvD c n ms = dv at *
    generalize dyO c n ms = dy at *
    generalize ms.map mtD = MD at *
    simp [f5, e]
  obtain ⟨ρ', e, t4, t5, rfl, g4, g5, g6⟩ := forL_inv (U := uName 5) (B := D_law_b2 c) (ds := [.int (-1), .int ms.length, .int (ms.length + 9), .int 1000000000]) (fun i ρ => ∃ s4 s5 : Slot, ρ = [v0, v1, v2, v3, s4, s5, s6, s7, s8, s9, s10, s11, .val (.lst (ms.map mtD)), s13, s14, s15] ∧ (s4 = .own (dyO c n ms) ∨ s4 = .val (dvD c n ms)) ∧ s5.free = true ∧ (0 < i → s4 = .val (dvD c n ms))) (fun i hi ρ hw => by
    obtain ⟨s4, s5, rfl, h4, f5, _⟩ := hw
    obtain ⟨k, hk, hd⟩ : ∃ k : Int, (k < 0 ∨ (ms.length : Int) ≤ k) ∧ ([.int (-1), .int ms.length, .int (ms.length + 9), .int 1000000000] : List D)[i] = .int k := by
      match i, hi with
      | 0, _ => exact ⟨-1, .inl (by omega), rfl⟩
      | 1, _ => exact ⟨_, .inr (Int.le_refl _), rfl⟩
      | 2, _ => exact ⟨(ms.length : Int) + 9, .inr (by omega), rfl⟩
      | 3, _ => exact ⟨1000000000, .inr (by omega), rfl⟩
    rw [hd]
    exact ⟨_, .inl (st k s4 s5 h4 f5 hk), _, _, rfl, .inr rfl, rfl, fun _ => rfl⟩) (ρ := [v0, v1, v2, v3, s4, s5, s6, s7, s8, s9, s10, s11, .val (.lst (ms.map mtD)), s13, s14, s15]) ⟨_, _, rfl, h4, f5, fun h => absurd h (by omega)⟩
  have g7 := g6 (by simp)
  subst g7
  refine ⟨t5, g5, ?_⟩
  have z3 : ms.length ≤ 16777216 := by omega
  refine forV_then (d := .tup [.int (-1), .int ms.length, .int (ms.length + 9), .int 1000000000]) ?_ rfl e
  simp [z3, CPow]
theorem p3_v {c : Cl} {K : En → SR} {b : Int × Int} {n : Int} (h1 : 1 ≤ n) (hn : n ≤ 30) {v0 v1 v3 s4 s5 s6 s7 s8 s9 s10 s12 s13 s14 s15 : Slot} (f6 : s6.free = true) (f7 : s7.free = true) : ∃ (b' : Int × Int) (m : Mt), 0 ≤ m.1 ∧ m.1 < m.2.1 ∧ m.1 ≤ 40 ∧ m.2.1 ≤ 50 ∧
    D_law_b3_p3 c K [v0, v1, .own (box b), v3, s4, s5, s6, s7, s8, s9, s10, .val (.int n), s12, s13, s14, s15] = K [v0, v1, .own (box b'), v3, s4, s5, .val (.int m.1), .val (mtD m), s8, s9, s10, .val (.int n), s12, s13, s14, s15] := by
  obtain ⟨r1, b1, g1, r10, r11⟩ := choose_gives (c := c) b (m := n + 2) (by omega) (by omega)
  obtain ⟨r2, b2, g2, r20, r21⟩ := choose_gives (c := c) b1 (m := 4) (by omega) (by omega)
  obtain ⟨r3, b3, g3, r30, r31⟩ := choose_gives (c := c) b2 (m := 2) (by omega) (by omega)
  obtain ⟨_, p1, q1⟩ := g1.elim
  obtain ⟨_, p2, q2⟩ := g2.elim
  obtain ⟨_, p3, q3⟩ := g3.elim
  refine ⟨b3, (r1, r1 + 1 + r2, decide (r3 = 0)), r10, by dsimp only; omega, by dsimp only; omega, by dsimp only; omega, ?_⟩
  simp at p1 p2 p3
  simp [D_law_b3_p3, f6, f7, p1, q1, p2, q2, p3, q3, mtD]
theorem p4_v {c : Cl} {K : En → SR} {m : Mt} {ms : List Mt} (hz : ms.length ≤ 300) {v0 v1 v2 v3 s4 s5 s6 s8 s9 s10 s11 s13 s14 : Slot} (f8 : s8.free = true) :
    D_law_b3_p4 c K [v0, v1, v2, v3, s4, s5, s6, .val (mtD m), s8, s9, s10, s11, .val (.lst (ms.map mtD)), s13, s14, .none] = K [v0, v1, v2, v3, s4, s5, s6, .val (mtD m), .own (.lst ((ovr m ms).map mtD)), s9, s10, s11, .val (.lst (ms.map mtD)), s13, s14, .none] := by
  have L := lc_fm (vs := [15]) (U := uName 15) (T := (tnd (dTest (dBin opLt (dBin opIx (dVar 15) (dC (.int 0))) (dBin opIx (dVar 7) (dC (.int 1))))) (dTest (dBin opLt (dBin opIx (dVar 7) (dC (.int 0))) (dBin opIx (dVar 15) (dC (.int 1))))))) (A := dVar 15) (enc := mtD) (fun x => if x.1 < m.2.1 ∧ m.1 < x.2.1 then some (mtD x) else none) (ρ := [v0, v1, v2, v3, s4, s5, s6, .val (mtD m), s8, s9, s10, s11, .val (.lst (ms.map mtD)), s13, s14, .none]) (L := ms) (acc := []) (fun x hm ds acc ha => by
    have ha' : acc.length < 16777216 := by omega
    generalize ms.map mtD = MD
    by_cases q : x.1 < m.2.1
    · by_cases q2 : m.1 < x.2.1
      · simp [lcL, mtD, ha', q, q2]
      · simp [lcL, mtD, ha', q, q2]
    · simp [lcL, mtD, ha', q]) (by simp; omega)
  rw [fm_ovr, List.nil_append] at L
  generalize (ovr m ms).map mtD = OD at *
  generalize ms.map mtD = MD at *
  generalize mtD m = M at *
  simp [D_law_b3_p4, L, lcAll, f8]
end DL
set_option linter.all false
set_option maxRecDepth 100000
set_option maxHeartbeats 2000000
namespace DL
open PySem PySem.Spec PyProof.Rows L2 DD
theorem eq_mts_nil (L : List Mt) : eqB (.lst (L.map mtD)) (.lst []) = some L.isEmpty := eqB_lst_nil (key := mtP) (fun _ => rfl) (fun b => by simp [mtP, PyData.canLay0, PyData.canLayAll0]) (fun b => by simp [mtP, PyData.depth, PyData.depthAll]) L
def due (n : Int) (m : Mt) (ms : List Mt) : Str := if ovr m ms = [] ∧ m.2.1 ≤ n then dyT n (put m ms) else "!meetings"
theorem put_mem {m x : Mt} {ms : List Mt} (h : x ∈ put m ms) : x = m ∨ x ∈ ms := by
  unfold put at h
  rcases List.mem_append.mp h with h | h
  · exact .inr (List.mem_of_mem_take h)
  · rcases List.mem_cons.mp h with h | h
    · exact .inl h
    · exact .inr (List.mem_of_mem_drop h)
theorem inm_of {n : Int} {ms : List Mt} (hm : Meets 0 ms) (he : endOf 0 ms ≤ n) (hn : n ≤ 99) : InM ms := fun m h => by
  obtain ⟨h1, h2, h3⟩ := meets_le (Int.le_refl 0) hm m h
  exact ⟨⟨by omega, by omega⟩, ⟨by omega, by omega⟩⟩
theorem inm_put {m : Mt} {ms : List Mt} (h : InM ms) (h0 : 0 ≤ m.1) (h1 : m.1 < m.2.1) (h2 : m.2.1 ≤ 50) : InM (put m ms) := fun x hx => by
  rcases put_mem hx with rfl | hx
  · exact ⟨⟨by omega, by omega⟩, ⟨by omega, by omega⟩⟩
  · exact h x hx
theorem p5_v {c : Cl} {K : En → SR} {n : Int} {m : Mt} {ms : List Mt} (h1 : 1 ≤ n) (hn : n ≤ 30) (hm : Meets 0 ms) (he : endOf 0 ms ≤ n) (hz : ms.length ≤ 300) (m0 : 0 ≤ m.1) (m1 : m.1 < m.2.1) (m2 : m.2.1 ≤ 50) {v0 v1 v2 v3 s4 s5 s9 s10 s13 s14 : Slot} (f9 : s9.free = true) (f14 : s14.free = true) : ∃ t14 : Slot, t14.free = true ∧
    D_law_b3_p5 c K [v0, v1, v2, v3, s4, s5, .val (.int m.1), .val (mtD m), .own (.lst ((ovr m ms).map mtD)), s9, s10, .val (.int n), .val (.lst (ms.map mtD)), s13, s14, .none] = K [v0, v1, v2, v3, s4, s5, .val (.int m.1), .val (mtD m), .own (.lst ((ovr m ms).map mtD)), .val (.str (due n m ms)), s10, .val (.int n), .val (.lst (ms.map mtD)), s13, t14, .none] := by
  have en := eq_mts_nil (ovr m ms)
  have hx : mtD m = .tup [.int m.1, .int m.2.1, .bl m.2.2] := rfl
  by_cases ho : ovr m ms = []
  · by_cases hl : m.2.1 ≤ n
    · have hdue : due n m ms = dyT n (put m ms) := if_pos ⟨ho, hl⟩
      have L := lc_fm (vs := [15]) (U := uName 15) (T := (dTest (dBin opLt (dBin opIx (dVar 15) (dC (.int 0))) (dVar 6)))) (A := dVar 15) (enc := mtD) (fun x => if x.1 < m.1 then some (mtD x) else none) (ρ := [v0, v1, v2, v3, s4, s5, .val (.int m.1), .val (mtD m), .own (.lst ((ovr m ms).map mtD)), .val (.str "!meetings"), s10, .val (.int n), .val (.lst (ms.map mtD)), s13, s14, .none]) (L := ms) (acc := []) (fun x hm ds acc ha => by
        have ha' : acc.length < 16777216 := by omega
        generalize ms.map mtD = MD
        generalize (ovr m ms).map mtD = OD
        generalize mtD m = M
        by_cases q : x.1 < m.1
        · simp [lcL, mtD, ha', q]
        · simp [lcL, mtD, ha', q]) (by simp; omega)
      rw [fm_befs, List.nil_append] at L
      have hput : (befs m.1 ms).map mtD ++ [mtD m] ++ cutD (ms.map mtD) (some ((befs m.1 ms).length : Int)) none = (put m ms).map mtD := by
        have e := put_cut (m := m) (ms := ms)
        rw [cutD_to, ← List.map_take, ← befs_take hm] at e
        exact e
      obtain ⟨_, p⟩ := (law_day_text_v (c := c) (n := n) (ms := put m ms) ⟨by omega, by omega⟩ (inm_put (inm_of hm he (by omega)) m0 m1 m2) (by rw [put_len]; omega)).elim
      have hb := befs_le (m := m) (ms := ms)
      have c2l : (cutD (ms.map mtD) (some ((befs m.1 ms).length : Int)) none).length = ms.length - (befs m.1 ms).length := by rw [cutD_from]; simp
      refine ⟨.own (.lst ((befs m.1 ms).map mtD)), rfl, ?_⟩
      rw [hdue]
      simp only [dtD] at p
      rw [← hput] at p
      rw [ho] at en L ⊢
      obtain ⟨B, hB⟩ : ∃ B, cutD (ms.map mtD) (some ((befs m.1 ms).length : Int)) none = B := ⟨_, rfl⟩
      obtain ⟨MD, hMD⟩ : ∃ MD, ms.map mtD = MD := ⟨_, rfl⟩
      obtain ⟨BD, hBD⟩ : ∃ BD, (befs m.1 ms).map mtD = BD := ⟨_, rfl⟩
      have bl : BD.length = (befs m.1 ms).length := by rw [← hBD, List.length_map]
      rw [hB] at c2l p
      rw [hMD] at hB L ⊢
      rw [hBD] at L p ⊢
      rw [← bl] at hB c2l hb
      generalize dyT n (put m ms) = TX at *
      have z1 : BD.length ≤ 16777216 := by omega
      have z2 : B.length ≤ 16777216 := by omega
      have z3 : BD.length + 1 ≤ 16777216 := by omega
      have z5 : BD.length + 1 + B.length ≤ 16777216 := by omega
      have z4 : BD.length + (B.length + 1) ≤ 16777216 := by omega
      have z6 : BD.length < 16777216 := by omega
      simp [hx] at p L
      simp [D_law_b3_p5, hx, f9, f14, p, L, lcAll, hB, hl, z1, z2, z3, z4, z5, z6]
    · have hdue : due n m ms = "!meetings" := if_neg fun h => hl h.2
      refine ⟨s14, f14, ?_⟩
      rw [hdue]
      rw [ho] at en ⊢
      generalize ms.map mtD = MD at *
      simp [D_law_b3_p5, hx, f9, hl]
  · have hdue : due n m ms = "!meetings" := if_neg fun h => ho h.1
    have hi : (ovr m ms).isEmpty = false := by
      cases e : ovr m ms with
      | nil => exact absurd e ho
      | cons x xs => rfl
    rw [hi] at en
    refine ⟨s14, f14, ?_⟩
    rw [hdue]
    generalize ms.map mtD = MD at *
    generalize (ovr m ms).map mtD = OD at *
    generalize mtD m = M at *
    simp [D_law_b3_p5, f9, en]
theorem p6_v {c : Cl} (hne : c.InvalidDay ≠ c.NoMeeting) {K : En → SR} {n : Int} {m : Mt} {ms : List Mt} (h1 : 1 ≤ n) (hn : n ≤ 30) (hm : Meets 0 ms) (he : endOf 0 ms ≤ n) (hz : ms.length ≤ 300) (m0 : 0 ≤ m.1) (m1 : m.1 < m.2.1) (m2 : m.2.1 ≤ 50) {v0 v1 v2 v3 s5 s6 s8 s10 s11 s12 s13 s14 s15 : Slot} :
    D_law_b3_p6 c K [v0, v1, v2, v3, .val (dvD c n ms), s5, s6, .val (mtD m), s8, .val (.str (due n m ms)), s10, s11, s12, s13, s14, s15] = K [v0, v1, v2, v3, .val (dvD c n ms), s5, s6, .val (mtD m), s8, .val (.str (due n m ms)), s10, s11, s12, s13, s14, s15] := by
  have fz : frzE [4, 7] [v0, v1, v2, v3, .val (dvD c n ms), s5, s6, .val (mtD m), s8, .val (.str (due n m ms)), s10, s11, s12, s13, s14, s15] = [v0, v1, v2, v3, .val (dvD c n ms), s5, s6, .val (mtD m), s8, .val (.str (due n m ms)), s10, s11, s12, s13, s14, s15] := rfl
  have po := put_ok (n := n) m0 m1 (Int.le_refl 0) hm he
  have a1 : dHeard [4, 7] c.Day c.NoMeeting c.InvalidDay 1 (D_Day___str__ c) (dMeth c.Day "having" 2 4 (E_Day_having c) (nE (dVar 4)) (nE (aCons (dVar 7) aNil))) [v0, v1, v2, v3, .val (dvD c n ms), s5, s6, .val (mtD m), s8, .val (.str (due n m ms)), s10, s11, s12, s13, s14, s15] = .ok (.val (.str (due n m ms))) [v0, v1, v2, v3, .val (dvD c n ms), s5, s6, .val (mtD m), s8, .val (.str (due n m ms)), s10, s11, s12, s13, s14, s15] := by
    rcases having_x (c := c) (n := n) (m := m) (ms := ms) m0 m1 h1 (by omega) with ⟨i1, i2⟩ | ⟨i1, i2⟩
    · have q := po.mp i1
      have hd : due n m ms = dyT n (put m ms) := if_pos ⟨q.2.2, q.2.1⟩
      have a := heard_in (c := c) (is := [4, 7]) (n := n) (m := m) (ms := ms) (i := 7) (ρ := [v0, v1, v2, v3, .val (dvD c n ms), s5, s6, .val (mtD m), s8, .val (.str (due n m ms)), s10, s11, s12, s13, s14, s15]) ⟨by omega, by omega⟩ (inm_put (inm_of hm he (by omega)) m0 m1 m2) hz (by rw [fz]; rfl) (by rw [fz]; rfl) i2
      rw [fz, ← hd] at a
      exact a
    · have hd : due n m ms = "!meetings" := if_neg fun q => by
        rw [po.mpr ⟨m0, q.2, q.1⟩] at i1
        cases i1
      have a := heard_out (c := c) hne (is := [4, 7]) (n := n) (ms := ms) (d := mtD m) (i := 7) (ρ := [v0, v1, v2, v3, .val (dvD c n ms), s5, s6, .val (mtD m), s8, .val (.str (due n m ms)), s10, s11, s12, s13, s14, s15]) (by rw [fz]; rfl) (by rw [fz]; rfl) i2
      rw [fz] at a
      rw [a]
      rw [hd]
  clear fz
  generalize due n m ms = TX at *
  generalize dvD c n ms = dv at *
  generalize mtD m = M at *
  simp [D_law_b3_p6, a1]
def oddL (dv : D) : List D := [.non, .str "2-5", .tup [.int 1, .int 2], .lst [.int 0, .int 1, .bl false], .tup [.int 2, .int 1, .bl true], .tup [.int 0, .int 1, .int 1], .int 3, .tup [], dv]
theorem odd_no {c : Cl} {n : Int} {ms : List Mt} {d : D} (h : d ∈ oddL (dvD c n ms)) : El c d ∧ toMt d = none := by
  unfold oddL at h
  simp only [List.mem_cons, List.not_mem_nil, or_false] at h
  rcases h with rfl | rfl | rfl | rfl | rfl | rfl | rfl | rfl | rfl
  · exact ⟨.inl pv_non, rfl⟩
  · exact ⟨.inl (pv_str (by decide +kernel)), rfl⟩
  · exact ⟨.inl (Pv.tup fun d hd => by simp at hd; rcases hd with rfl | rfl <;> exact pv_int), rfl⟩
  · exact ⟨.inl (Pv.lst fun d hd => by simp at hd; rcases hd with rfl | rfl | rfl <;> first | exact pv_int | exact pv_bl), rfl⟩
  · exact ⟨.inl (Pv.tup fun d hd => by simp at hd; rcases hd with rfl | rfl | rfl <;> first | exact pv_int | exact pv_bl), by simp [toMt]⟩
  · exact ⟨.inl (Pv.tup fun d hd => by simp at hd; rcases hd with rfl | rfl <;> exact pv_int), rfl⟩
  · exact ⟨.inl pv_int, rfl⟩
  · exact ⟨.inl (Pv.tup fun d hd => by simp at hd), rfl⟩
  · exact ⟨.inr ⟨_, _, _, rfl, by simp⟩, rfl⟩
theorem p7_v {c : Cl} (hne : c.InvalidDay ≠ c.NoMeeting) {b : Int × Int} {n : Int} {ms : List Mt} (h1 : 1 ≤ n) (hn : n ≤ 30) (hm : Meets 0 ms) (he : endOf 0 ms ≤ n) (hz : ms.length ≤ 300) {v0 v1 v3 s5 s6 s7 s8 s9 s10 s13 s14 s15 : Slot} (f10 : s10.free = true) : ∃ (b' : Int × Int) (t10 : Slot), t10.free = true ∧
    D_law_b3_p7 c [v0, v1, .own (box b), v3, .val (dvD c n ms), s5, s6, s7, s8, s9, s10, .val (.int n), .val (.lst (ms.map mtD)), s13, s14, s15] = .nx [v0, v1, .own (box b'), v3, .val (dvD c n ms), s5, s6, s7, s8, s9, t10, .val (.int n), .val (.lst (ms.map mtD)), s13, s14, s15] := by
  obtain ⟨d, b', g, hd⟩ := one_of_gives (c := c) b (ds := oddL (dvD c n ms)) (by simp [oddL]) (by simp [oddL])
  obtain ⟨he1, he2⟩ := odd_no hd
  obtain ⟨_, p, q⟩ := g.elim
  obtain ⟨_, p2⟩ := (day_str_v (c := c) (n := n) (ms := ms) ⟨by omega, by omega⟩ (inm_of hm he (by omega)) (by omega)).elim
  obtain ⟨_, p3⟩ := (law_day_text_v (c := c) (n := n) (ms := ms) ⟨by omega, by omega⟩ (inm_of hm he (by omega)) (by omega)).elim
  have fz : frzE [4, 10] [v0, v1, .own (box b'), v3, .val (dvD c n ms), s5, s6, s7, s8, s9, .val d, .val (.int n), .val (.lst (ms.map mtD)), s13, s14, s15] = [v0, v1, .own (box b'), v3, .val (dvD c n ms), s5, s6, s7, s8, s9, .val d, .val (.int n), .val (.lst (ms.map mtD)), s13, s14, s15] := rfl
  have a := heard_out (c := c) hne (is := [4, 10]) (n := n) (ms := ms) (d := d) (i := 10) (ρ := [v0, v1, .own (box b'), v3, .val (dvD c n ms), s5, s6, s7, s8, s9, .val d, .val (.int n), .val (.lst (ms.map mtD)), s13, s14, s15]) (by rw [fz]; rfl) (by rw [fz]; rfl) (having_no he1 he2)
  rw [fz] at a
  clear fz hd he1 he2
  refine ⟨b', .val d, rfl, ?_⟩
  generalize dyT n ms = TX at *
  simp only [dtD] at p3
  simp only [oddL, dvD] at p
  simp only [dvD] at p2 a ⊢
  generalize ms.map mtD = MD at *
  simp at p p2 p3
  simp [D_law_b3_p7, f10, p, q, p2, p3, a]
theorem b3_v {c : Cl} (hne : c.InvalidDay ≠ c.NoMeeting) {b : Int × Int} {v0 v1 v3 s4 s5 s6 s7 s8 s9 s10 s11 s12 s13 s14 : Slot} (f4 : s4.free = true) (f5 : s5.free = true) (f6 : s6.free = true) (f7 : s7.free = true) (f8 : s8.free = true) (f9 : s9.free = true) (f10 : s10.free = true) (f11 : s11.free = true) (f12 : s12.free = true) (f13 : s13.free = true) (f14 : s14.free = true) :
    ∃ (b' : Int × Int) (t4 t5 t6 t7 t8 t9 t10 t11 t12 t13 t14 : Slot), D_law_b3 c [v0, v1, .own (box b), v3, s4, s5, s6, s7, s8, s9, s10, s11, s12, s13, s14, .none] = .nx [v0, v1, .own (box b'), v3, t4, t5, t6, t7, t8, t9, t10, t11, t12, t13, t14, .none] ∧
      t4.free = true ∧ t5.free = true ∧ t6.free = true ∧ t7.free = true ∧ t8.free = true ∧ t9.free = true ∧ t10.free = true ∧ t11.free = true ∧ t12.free = true ∧ t13.free = true ∧ t14.free = true := by
  rw [D_law_b3_eq]
  obtain ⟨b1, n, ms, n0, n1, hm, he, hz, e0⟩ := p0_v (c := c) (K := (D_law_b3_p1 c (D_law_b3_p2 c (D_law_b3_p3 c (D_law_b3_p4 c (D_law_b3_p5 c (D_law_b3_p6 c (D_law_b3_p7 c)))))))) (b := b) (v0 := v0) (v1 := v1) (v3 := v3) (s5 := s5) (s6 := s6) (s7 := s7) (s8 := s8) (s9 := s9) (s10 := s10) (s13 := s13) (s14 := s14) (s15 := .none) f4 f11 f12
  obtain ⟨t4, t5, t13, g4, g5, g13, e1⟩ := p1_v (c := c) (K := (D_law_b3_p2 c (D_law_b3_p3 c (D_law_b3_p4 c (D_law_b3_p5 c (D_law_b3_p6 c (D_law_b3_p7 c))))))) n0 hm he (by omega) (v0 := v0) (v1 := v1) (v2 := .own (box b1)) (v3 := v3) (s6 := s6) (s7 := s7) (s8 := s8) (s9 := s9) (s10 := s10) (s14 := s14) (s15 := .none) f5 f13
  obtain ⟨u5, k5, e2⟩ := p2_v (c := c) (n := n) (ms := ms) (K := (D_law_b3_p3 c (D_law_b3_p4 c (D_law_b3_p5 c (D_law_b3_p6 c (D_law_b3_p7 c)))))) (by omega) (v0 := v0) (v1 := v1) (v2 := .own (box b1)) (v3 := v3) (s6 := s6) (s7 := s7) (s8 := s8) (s9 := s9) (s10 := s10) (s11 := .val (.int n)) (s13 := t13) (s14 := s14) (s15 := .none) g4 g5
  obtain ⟨b2, m, m0, m1, m2, m3, e3⟩ := p3_v (c := c) (b := b1) (K := (D_law_b3_p4 c (D_law_b3_p5 c (D_law_b3_p6 c (D_law_b3_p7 c))))) n0 n1 (v0 := v0) (v1 := v1) (v3 := v3) (s4 := .val (dvD c n ms)) (s5 := u5) (s8 := s8) (s9 := s9) (s10 := s10) (s12 := .val (.lst (ms.map mtD))) (s13 := t13) (s14 := s14) (s15 := .none) f6 f7
  have e4 := p4_v (c := c) (m := m) (ms := ms) (K := (D_law_b3_p5 c (D_law_b3_p6 c (D_law_b3_p7 c)))) (by omega) (v0 := v0) (v1 := v1) (v2 := .own (box b2)) (v3 := v3) (s4 := .val (dvD c n ms)) (s5 := u5) (s6 := .val (.int m.1)) (s9 := s9) (s10 := s10) (s11 := .val (.int n)) (s13 := t13) (s14 := s14) f8
  obtain ⟨t14, g14, e5⟩ := p5_v (c := c) (n := n) (m := m) (ms := ms) (K := (D_law_b3_p6 c (D_law_b3_p7 c))) n0 n1 hm he (by omega) m0 m1 m3 (v0 := v0) (v1 := v1) (v2 := .own (box b2)) (v3 := v3) (s4 := .val (dvD c n ms)) (s5 := u5) (s10 := s10) (s13 := t13) f9 f14
  have e6 := p6_v (c := c) hne (n := n) (m := m) (ms := ms) (K := (D_law_b3_p7 c)) n0 n1 hm he (by omega) m0 m1 m3 (v0 := v0) (v1 := v1) (v2 := .own (box b2)) (v3 := v3) (s5 := u5) (s6 := .val (.int m.1)) (s8 := .own (.lst ((ovr m ms).map mtD))) (s10 := s10) (s11 := .val (.int n)) (s12 := .val (.lst (ms.map mtD))) (s13 := t13) (s14 := t14) (s15 := .none)
  obtain ⟨b3, t10, g10, e7⟩ := p7_v (c := c) hne (b := b2) (n := n) (ms := ms) n0 n1 hm he (by omega) (v0 := v0) (v1 := v1) (v3 := v3) (s5 := u5) (s6 := .val (.int m.1)) (s7 := .val (mtD m)) (s8 := .own (.lst ((ovr m ms).map mtD))) (s9 := .val (.str (due n m ms))) (s13 := t13) (s14 := t14) (s15 := .none) f10
  exact ⟨b3, _, _, _, _, _, _, _, _, _, _, _, by rw [e0, e1, e2, e3, e4, e5, e6, e7], rfl, k5, rfl, rfl, rfl, rfl, g10, rfl, rfl, g13, g14⟩
theorem b4_v {c : Cl} (hne : c.InvalidDay ≠ c.NoMeeting) {ns : List Int} {k : Nat} {s2 s3 s4 s5 s6 s7 s8 s9 s10 s11 s12 s13 s14 : Slot} (f2 : s2.free = true) (f3 : s3.free = true) (f4 : s4.free = true) (f5 : s5.free = true) (f6 : s6.free = true) (f7 : s7.free = true) (f8 : s8.free = true) (f9 : s9.free = true) (f10 : s10.free = true) (f11 : s11.free = true) (f12 : s12.free = true) (f13 : s13.free = true) (f14 : s14.free = true) :
    ∃ (t2 t3 t4 t5 t6 t7 t8 t9 t10 t11 t12 t13 t14 : Slot), D_law_b4 c [.val (.scr (ns.map D.int)), .val (.int k), s2, s3, s4, s5, s6, s7, s8, s9, s10, s11, s12, s13, s14, .none] = .nx [.val (.scr (ns.map D.int)), .val (.int k), t2, t3, t4, t5, t6, t7, t8, t9, t10, t11, t12, t13, t14, .none] ∧
      t2.free = true ∧ t3.free = true ∧ t4.free = true ∧ t5.free = true ∧ t6.free = true ∧ t7.free = true ∧ t8.free = true ∧ t9.free = true ∧ t10.free = true ∧ t11.free = true ∧ t12.free = true ∧ t13.free = true ∧ t14.free = true := by
  obtain ⟨b, g⟩ := seed_gives (c := c) ns k
  obtain ⟨_, p1⟩ := g.elim
  obtain ⟨ρ2, e2, b2, t3, t4, t5, t6, t7, t8, t9, t10, t11, t12, t13, t14, rfl, h3, h4, h5, h6, h7, h8, h9, h10, h11, h12, h13, h14⟩ := forR_inv (U := uName 3) (B := D_law_b3 c) (n := 4) (fun i ρ => ∃ (b : Int × Int) (s3 s4 s5 s6 s7 s8 s9 s10 s11 s12 s13 s14 : Slot), ρ = [.val (.scr (ns.map D.int)), .val (.int k), .own (box b), s3, s4, s5, s6, s7, s8, s9, s10, s11, s12, s13, s14, .none] ∧ s3.free = true ∧ s4.free = true ∧ s5.free = true ∧ s6.free = true ∧ s7.free = true ∧ s8.free = true ∧ s9.free = true ∧ s10.free = true ∧ s11.free = true ∧ s12.free = true ∧ s13.free = true ∧ s14.free = true) (fun i hi ρ hw => by
    obtain ⟨b, s3, s4, s5, s6, s7, s8, s9, s10, s11, s12, s13, s14, rfl, f3, f4, f5, f6, f7, f8, f9, f10, f11, f12, f13, f14⟩ := hw
    obtain ⟨b', t4, t5, t6, t7, t8, t9, t10, t11, t12, t13, t14, e, g4, g5, g6, g7, g8, g9, g10, g11, g12, g13, g14⟩ := b3_v (c := c) hne (b := b) (v0 := .val (.scr (ns.map D.int))) (v1 := .val (.int k)) (v3 := .val (.int i)) f4 f5 f6 f7 f8 f9 f10 f11 f12 f13 f14
    exact ⟨_, .inl (by simp [f3, e] <;> rfl), b', .val (.int i), t4, t5, t6, t7, t8, t9, t10, t11, t12, t13, t14, rfl, rfl, g4, g5, g6, g7, g8, g9, g10, g11, g12, g13, g14⟩) (ρ := [.val (.scr (ns.map D.int)), .val (.int k), .own (box b), s3, s4, s5, s6, s7, s8, s9, s10, s11, s12, s13, s14, .none]) ⟨b, _, _, _, _, _, _, _, _, _, _, _, _, rfl, f3, f4, f5, f6, f7, f8, f9, f10, f11, f12, f13, f14⟩
  refine ⟨.own (box b2), t3, t4, t5, t6, t7, t8, t9, t10, t11, t12, t13, t14, ?_, rfl, h3, h4, h5, h6, h7, h8, h9, h10, h11, h12, h13, h14⟩
  simp at p1
  simp [D_law_b4, f2, p1, e2]
theorem loop_v {c : Cl} (hne : c.InvalidDay ≠ c.NoMeeting) {ns : List Int} {N : Nat} : ∃ ρ, forL (uName 1) (D_law_b4 c) ((List.range N).map fun i => D.int (i : Nat)) [.val (.scr (ns.map D.int)), .none, .none, .none, .none, .none, .none, .none, .none, .none, .none, .none, .none, .none, .none, .none] = .nx ρ := by
  obtain ⟨ρ', e, _⟩ := forR_inv (U := uName 1) (B := D_law_b4 c) (n := N) (fun i ρ => ∃ s1 s2 s3 s4 s5 s6 s7 s8 s9 s10 s11 s12 s13 s14 : Slot, ρ = [.val (.scr (ns.map D.int)), s1, s2, s3, s4, s5, s6, s7, s8, s9, s10, s11, s12, s13, s14, .none] ∧ s1.free = true ∧ s2.free = true ∧ s3.free = true ∧ s4.free = true ∧ s5.free = true ∧ s6.free = true ∧ s7.free = true ∧ s8.free = true ∧ s9.free = true ∧ s10.free = true ∧ s11.free = true ∧ s12.free = true ∧ s13.free = true ∧ s14.free = true) (fun i hi ρ hw => by
    obtain ⟨s1, s2, s3, s4, s5, s6, s7, s8, s9, s10, s11, s12, s13, s14, rfl, f1, f2, f3, f4, f5, f6, f7, f8, f9, f10, f11, f12, f13, f14⟩ := hw
    obtain ⟨t2, t3, t4, t5, t6, t7, t8, t9, t10, t11, t12, t13, t14, e, g2, g3, g4, g5, g6, g7, g8, g9, g10, g11, g12, g13, g14⟩ := b4_v (c := c) hne (ns := ns) (k := i) f2 f3 f4 f5 f6 f7 f8 f9 f10 f11 f12 f13 f14
    exact ⟨_, .inl (by simp [f1, e] <;> rfl), .val (.int i), t2, t3, t4, t5, t6, t7, t8, t9, t10, t11, t12, t13, t14, rfl, rfl, g2, g3, g4, g5, g6, g7, g8, g9, g10, g11, g12, g13, g14⟩) (ρ := [.val (.scr (ns.map D.int)), .none, .none, .none, .none, .none, .none, .none, .none, .none, .none, .none, .none, .none, .none, .none]) ⟨_, _, _, _, _, _, _, _, _, _, _, _, _, _, rfl, rfl, rfl, rfl, rfl, rfl, rfl, rfl, rfl, rfl, rfl, rfl, rfl, rfl, rfl⟩
  exact ⟨ρ', e⟩
def lawN : En → Res (List D) := (dRng1 (dCB fMax (aCons (dC (.int 2)) (aCons (dCB fMin (aCons (dC (.int 5)) (aCons (dCB fLen (aCons (dVar 0) aNil)) aNil))) aNil))))
theorem lawN_v {ns : List Int} : ∃ N : Nat, lawN [.val (.scr (ns.map D.int)), .none, .none, .none, .none, .none, .none, .none, .none, .none, .none, .none, .none, .none, .none, .none] = .ok ((List.range N).map fun i => D.int (i : Nat)) [.val (.scr (ns.map D.int)), .none, .none, .none, .none, .none, .none, .none, .none, .none, .none, .none, .none, .none, .none, .none] := by
  obtain ⟨x, hx, h0, h1⟩ : ∃ x : Int, (if (if (ns.length : Int) < 5 then (ns.length : Int) else 5) > 2 then (if (ns.length : Int) < 5 then (ns.length : Int) else 5) else 2) = x ∧ 0 ≤ x ∧ x ≤ 5 := by
    refine ⟨_, rfl, ?_, ?_⟩ <;> (repeat' split) <;> omega
  refine ⟨x.toNat, rng1_is ?_ h0 (by omega)⟩
  simp at hx
  simp [hx]
theorem law_eq3 {c : Cl} : D_law c = (sSeq (sFor lawN (uName 1) (D_law_b4 c)) (sRet (dC (.bl true)))) := rfl
theorem law_ok (c : Cl) (hne : c.InvalidDay ≠ c.NoMeeting) : LawOkT 16 (D_law c) := by
  intro ns hn
  obtain ⟨N, hN⟩ := lawN_v (ns := ns)
  obtain ⟨ρ, e⟩ := loop_v (c := c) hne (ns := ns) (N := N)
  refine ⟨ρ, ?_⟩
  rw [law_eq3]
  exact (for_then hN e).trans rfl
end DL
set_option Elab.async false
set_option linter.all false
set_option maxRecDepth 100000
set_option maxHeartbeats 4000000
namespace DD
open PySem PySem.Spec PyProof.Rows L2 StX ClX DL
theorem kit_str {K : PySem.W.Frag} {C : Addr} (h1 : PySem.W.isClsIn K C = true) (h2 : PySem.W.typeIn K (.ref C) = some (.type "type")) (h3 : PySem.W.subIn K (.type "str") (.ref C) = some false) : PySem.W.kitOne K (.type "str") (.ref C) = some false := by
  have h4 : (PySem.W.clsIn K C).isSome = true := h1
  simp [PySem.W.kitOne, PySem.W.kitCls, h4, h2, h3]
section
variable {P : Program} {w : World} {K : PySem.W.Frag} {mg : Str → Option Value} {base : Heap} {d : Ad}
def LQ : Str := (envOfC (Str.ofString "law") (defScope s_law) 0 0 .none).qual ++ Str.ofString "<lambda>"
theorem ok_law {f : Addr} {fd : FuncData} (T : Txt K mg d) (F : Fun K "law" "law" s_law f fd) {cT PT : Addr} (hcode : fd.code = .ref cT) (TB : LamX.TabB base mg cT PT) : FnOk P w K mg base CX0 10 f fd ["_law_script"] (spLawT K PT) := by
  obtain ⟨oc, od, kV, doc, pm, an, cdv, ct, osl, rfl, lk, hcd⟩ := F.ex
  have hc : cdv = .ref cT := hcode
  subst hc
  refine fn_of lk hcd sc_law (fun vs H Q E h => ?_) fun A outer s H vs Q E hr h => ?_
  · obtain ⟨_, _, rfl, _⟩ := h
    rfl
  · have hu := hr.units
    have hu5 := room5 hr
    obtain ⟨t, h1, h2⟩ : ∃ t, PSs (cxOf CX0 P w K mg base ["_law_script", "_law_k", "_law_box", "_law_turn", "_law_day_here", "_law_at", "_law_begin", "_law_fresh", "_law_over", "_law_due", "_law_value", "_law_size", "_law_meetings", "_law_less", "_law_ahead", "_law_one"] "law" (defScope s_law) f (.ref cT) A outer s H E).nox (defBody s_law) t ∧ LSt K [(PT, LQ)] E0 t (D_law (cl d)) := by
      have hcode : (cxOf CX0 P w K mg base ["_law_script", "_law_k", "_law_box", "_law_turn", "_law_day_here", "_law_at", "_law_begin", "_law_fresh", "_law_over", "_law_due", "_law_value", "_law_size", "_law_meetings", "_law_less", "_law_ahead", "_law_one"] "law" (defScope s_law) f (.ref cT) A outer s H E).nox.env.code = .ref cT := rfl
      exact ⟨_, (pss_cons (ps_for PassesOwn.never rfl (pi_range1 rfl T.b_range (pa_cons (pe_callB (call_max2 rfl) (by rfl) T.b_max (by decide +kernel) (pa_cons pe_int (pa_cons (pe_callB (call_min2 rfl) (by rfl) T.b_min (by decide +kernel) (pa_cons pe_int (pa_cons (pe_callB (call_len2 (K := K)) (by rfl) T.b_len PySem.boot_len (pa_cons (pv 0) pa_nil)) pa_nil))) pa_nil))) pa_nil)) (pg_name (i := 1) sc_law.nd rfl (by first | exact Or.inl rfl | exact Or.inr rfl)) (pss_cons (ps_set (i := 2) sc_law.nd rfl (by first | exact Or.inl rfl | exact Or.inr rfl) (pe_callR (sp := spD0 K 2 3 (D__law_seed (cl d))) (ok__law_seed T) (hr.mono (by decide)) rfl T.m__law_seed T.k__law_seed pass0 (pa_cons (pv 0) (pa_cons (pv 1) pa_nil)))) (pss_one (ps_for PassesOwn.never rfl (pi_range1 rfl T.b_range (pa_cons pe_int pa_nil)) (pg_name (i := 3) sc_law.nd rfl (by first | exact Or.inl rfl | exact Or.inr rfl)) (pss_cons (ps_asg (pe_callR (sp := spD0 K 3 9 (D__law_day (cl d))) (ok__law_day T) (hr.mono (by decide)) rfl T.m__law_day T.k__law_day pass0 (pa_cons (pv 2) (pa_cons pe_int (pa_cons pe_bl pa_nil)))) (pg_tupK (K := K) (n := 2) rfl (pgs_cons (pg_name (i := 11) sc_law.nd rfl (by first | exact Or.inl rfl | exact Or.inr rfl)) (pgs_cons (pg_name (i := 12) sc_law.nd rfl (by first | exact Or.inl rfl | exact Or.inr rfl)) pgs_nil)))) (pss_cons (ps_set (i := 4) sc_law.nd rfl (by first | exact Or.inl rfl | exact Or.inr rfl) (pe_makeR (sp := spD0 K 3 3 (fun ρ => D_Day___init__ (cl d) (fillD 3 [] ρ))) T.mk_Day (ok_Day_init2 T) (hr.mono (by decide)) rfl T.m_Day pass0 (pa_cons (pv 11) (pa_cons (pv 12) pa_nil)))) (pss_cons (ps_for PassesOwn.never rfl (pi_range1 rfl T.b_range (pa_cons (pe_callB (call_len2 (K := K)) (by rfl) T.b_len PySem.boot_len (pa_cons (pv 12) pa_nil)) pa_nil)) (pg_name (i := 5) sc_law.nd rfl (by first | exact Or.inl rfl | exact Or.inr rfl)) (pss_cons (ps_set (i := 13) sc_law.nd rfl (by first | exact Or.inl rfl | exact Or.inr rfl) (DD.pe_methR (sp := spD0 K 2 2 (D_Day_without (cl d))) (pv 4) T.cl_Day T.me_Day_without (ok_Day_without T) (hr.mono (by decide)) pass0 (pa_cons (pv 5) pa_nil))) (pss_cons (ps_if (PW.pt (pw_or (pt_cmpR (op_neO (sp := spD0 K 2 2 (D_Day___eq__ (cl d))) T.n_Day T.o_Day T.e_Day T.ef_Day (ok_Day___eq__ T) (hr.mono (by decide)) pass0) (pv 13) (pe_makeR (sp := spD0 K 3 3 (fun ρ => D_Day___init__ (cl d) (fillD 3 [] ρ))) T.mk_Day (ok_Day_init2 T) (hr.mono (by decide)) rfl T.m_Day pass0 (pa_cons (pv 11) (pa_cons (pe_op (op_add4 (K := K)) (pe_slice (sl_3 (K := K)) (pv 12) po_none (po_some (pv 5))) (pe_slice (sl_3 (K := K)) (pv 12) (po_some (pe_op (op_add4 (K := K)) (pv 5) pe_int)) po_none)) pa_nil))) (nomark _)) (pw_or1 (pt_cmpR (op_ne2 (K := K) hu) (pe_ixO (sp := spD0 K 2 2 (D_Day___getitem__ (cl d))) T.g_Day T.gn_Day T.gf_Day (ok_Day___getitem__ T) (hr.mono (by decide)) pass0 (pv 4) (pv 5)) (pe_ix (ix_3 (K := K)) (pv 12) (pv 5) (fun _ _ => rfl)) (nomark _))))) (pss_one (ps_ret pe_bl)) pss_nil) (pss_one (ps_if (pt_cmpR (op_neO (sp := spD0 K 2 2 (D_Day___eq__ (cl d))) T.n_Day T.o_Day T.e_Day T.ef_Day (ok_Day___eq__ T) (hr.mono (by decide)) pass0) (DD.pe_methR (sp := spD0 K 2 4 (D_Day_having_2 (cl d))) (pv 13) T.cl_Day T.me_Day_having (ok_Day_having T) (hr.mono (by decide)) pass0 (pa_cons (pe_ix (ix_3 (K := K)) (pv 12) (pv 5) (fun _ _ => rfl)) pa_nil)) (pv 4) (nomark _)) (pss_one (ps_ret pe_bl)) pss_nil))))) (pss_cons (ps_for PassesOwn.never rfl (pi_seq (K := K) (pe_tup (pa_cons (pe_op op_sub pe_int pe_int) (pa_cons (pe_callB (call_len2 (K := K)) (by rfl) T.b_len PySem.boot_len (pa_cons (pv 12) pa_nil)) (pa_cons (pe_op (op_add4 (K := K)) (pe_callB (call_len2 (K := K)) (by rfl) T.b_len PySem.boot_len (pa_cons (pv 12) pa_nil)) pe_int) (pa_cons (pe_op op_pow pe_int pe_int) pa_nil)))))) (pg_name (i := 5) sc_law.nd rfl (by first | exact Or.inl rfl | exact Or.inr rfl)) (pss_cons (ps_if (pt_cmpR (op_ne2 (K := K) hu) (pe_heard (T := [(PT, LQ)]) (TT := TTh K d.C_Day d.C_NoMeeting d.C_InvalidDay (spD0 K 1 1 (D_Day___str__ (cl d)))) (k := 7) T.F__law_heard sc__law_heard rfl (by first | exact Or.inl rfl | exact Or.inr rfl) (fun _ _ _ _ _ _ us hl => match us, hl with | [_], _ => rfl) rfl T.m__law_heard (gt__law_heard T (hr.mono (by decide)) _) TB hcode (List.mem_singleton.mpr rfl) (fun p hp _ => by rw [List.mem_singleton.mp hp]; rfl) (hr.mono (by decide)) (LamX.lamS_by (show LamX.lamSB (defScope s_law) _ = true from by decide +kernel)) rfl (fun _ _ _ _ _ => rfl) (fun A outer s H E f c' hr => (DD.pe_methR (sp := spD K 2 2 (E_Day_without (cl d))) (pv 4) T.cl_Day T.me_Day_without (okE_Day_without T) (hr.mono (by decide)) (passes_call (takes_of rfl rfl rfl rfl) (fun _ _ _ _ h => h)) (pa_cons (pv 5) pa_nil)))) (pe_tup (pa_cons pe_str (pa_cons (pv 5) pa_nil))) (nomark _)) (pss_one (ps_ret pe_bl)) pss_nil) (pss_one (ps_if (pt_cmpR (op_ne2 (K := K) hu) (pe_heard (T := [(PT, LQ)]) (TT := TTh K d.C_Day d.C_NoMeeting d.C_InvalidDay (spD0 K 1 1 (D_Day___str__ (cl d)))) (k := 7) T.F__law_heard sc__law_heard rfl (by first | exact Or.inl rfl | exact Or.inr rfl) (fun _ _ _ _ _ _ us hl => match us, hl with | [_], _ => rfl) rfl T.m__law_heard (gt__law_heard T (hr.mono (by decide)) _) TB hcode (List.mem_singleton.mpr rfl) (fun p hp _ => by rw [List.mem_singleton.mp hp]; rfl) (hr.mono (by decide)) (LamX.lamS_by (show LamX.lamSB (defScope s_law) _ = true from by decide +kernel)) rfl (fun _ _ _ _ _ => rfl) (fun A outer s H E f c' hr => (pe_ixO (sp := spD K 2 2 (E_Day___getitem__ (cl d))) T.g_Day T.gn_Day T.gf_Day (okE_Day___getitem__ T) (hr.mono (by decide)) (passes_call (takes_of rfl rfl rfl rfl) (fun _ _ _ _ h => h)) (pv 4) (pv 5)))) (pe_tup (pa_cons pe_str (pa_cons (pv 5) pa_nil))) (nomark _)) (pss_one (ps_ret pe_bl)) pss_nil)))) (pss_cons (ps_set (i := 6) sc_law.nd rfl (by first | exact Or.inl rfl | exact Or.inr rfl) (pe_callR (sp := spD0 K 2 4 (D__law_choose (cl d))) (ok__law_choose T) (hr.mono (by decide)) rfl T.m__law_choose T.k__law_choose pass0 (pa_cons (pv 2) (pa_cons (pe_op (op_add4 (K := K)) (pv 11) pe_int) pa_nil)))) (pss_cons (ps_set (i := 7) sc_law.nd rfl (by first | exact Or.inl rfl | exact Or.inr rfl) (pe_tup (pa_cons (pv 6) (pa_cons (pe_op (op_add4 (K := K)) (pe_op (op_add4 (K := K)) (pv 6) pe_int) (pe_callR (sp := spD0 K 2 4 (D__law_choose (cl d))) (ok__law_choose T) (hr.mono (by decide)) rfl T.m__law_choose T.k__law_choose pass0 (pa_cons (pv 2) (pa_cons pe_int pa_nil)))) (pa_cons (pe_cmpR (op_eq2 (K := K) hu) (pe_callR (sp := spD0 K 2 4 (D__law_choose (cl d))) (ok__law_choose T) (hr.mono (by decide)) rfl T.m__law_choose T.k__law_choose pass0 (pa_cons (pv 2) (pa_cons pe_int pa_nil))) pe_int (nomark _)) pa_nil))))) (pss_cons (ps_setLc (i := 8) (own := [("_law_one", 15)]) rfl sc_law.nd rfl rfl (by rfl) (pi_seq (K := K) (pv 12)) (blkOk_by (N := ["_law_script", "_law_k", "_law_box", "_law_turn", "_law_day_here", "_law_at", "_law_begin", "_law_fresh", "_law_over", "_law_due", "_law_value", "_law_size", "_law_meetings", "_law_less", "_law_ahead", "_law_one"]) (sc := defScope s_law) (by decide +kernel)) (fun _ _ _ _ _ => (pg_name (i := 15) sc_law.nd rfl (by first | exact Or.inl rfl | exact Or.inr rfl))) (fun _ _ _ _ _ => (pts_one (PW.pt (pw_and (pt_cmpR (op_lt2 (K := K) hu) (pe_ix (ix_3 (K := K)) (pv 15) pe_int (fun _ _ => rfl)) (pe_ix (ix_3 (K := K)) (pv 7) pe_int (fun _ _ => rfl)) (nomark _)) (pw_and1 (pt_cmpR (op_lt2 (K := K) hu) (pe_ix (ix_3 (K := K)) (pv 7) pe_int (fun _ _ => rfl)) (pe_ix (ix_3 (K := K)) (pv 15) pe_int (fun _ _ => rfl)) (nomark _))))))) (fun _ _ _ _ _ => (pv 15))) (pss_cons (ps_set (i := 9) sc_law.nd rfl (by first | exact Or.inl rfl | exact Or.inr rfl) pe_str) (pss_cons (ps_if (PW.pt (pw_and (pt_cmpR (op_eq2 (K := K) hu) (pv 8) (pe_lst pa_nil) (nomark _)) (pw_and1 (pt_cmpR op_le (pe_ix (ix_3 (K := K)) (pv 7) pe_int (fun _ _ => rfl)) (pv 11) (nomark _))))) (pss_cons (ps_setLc (i := 14) (own := [("_law_one", 15)]) rfl sc_law.nd rfl rfl (by rfl) (pi_seq (K := K) (pv 12)) (blkOk_by (N := ["_law_script", "_law_k", "_law_box", "_law_turn", "_law_day_here", "_law_at", "_law_begin", "_law_fresh", "_law_over", "_law_due", "_law_value", "_law_size", "_law_meetings", "_law_less", "_law_ahead", "_law_one"]) (sc := defScope s_law) (by decide +kernel)) (fun _ _ _ _ _ => (pg_name (i := 15) sc_law.nd rfl (by first | exact Or.inl rfl | exact Or.inr rfl))) (fun _ _ _ _ _ => (pts_one (pt_cmpR (op_lt2 (K := K) hu) (pe_ix (ix_3 (K := K)) (pv 15) pe_int (fun _ _ => rfl)) (pv 6) (nomark _)))) (fun _ _ _ _ _ => (pv 15))) (pss_one (ps_set (i := 9) sc_law.nd rfl (by first | exact Or.inl rfl | exact Or.inr rfl) (pe_callR (sp := spD0 K 1 5 (D__law_day_text (cl d))) (ok__law_day_text T) (hr.mono (by decide)) rfl T.m__law_day_text T.k__law_day_text pass0 (pa_cons (pe_tup (pa_cons (pv 11) (pa_cons (pe_op (op_add4 (K := K)) (pe_op (op_add4 (K := K)) (pv 14) (pe_lst (pa_cons (pv 7) pa_nil))) (pe_slice (sl_3 (K := K)) (pv 12) (po_some (pe_callB (call_len2 (K := K)) (by rfl) T.b_len PySem.boot_len (pa_cons (pv 14) pa_nil))) po_none)) pa_nil))) pa_nil))))) pss_nil) (pss_cons (ps_if (pt_cmpR (op_ne2 (K := K) hu) (pe_heard (T := [(PT, LQ)]) (TT := TTh K d.C_Day d.C_NoMeeting d.C_InvalidDay (spD0 K 1 1 (D_Day___str__ (cl d)))) (k := 7) T.F__law_heard sc__law_heard rfl (by first | exact Or.inl rfl | exact Or.inr rfl) (fun _ _ _ _ _ _ us hl => match us, hl with | [_], _ => rfl) rfl T.m__law_heard (gt__law_heard T (hr.mono (by decide)) _) TB hcode (List.mem_singleton.mpr rfl) (fun p hp _ => by rw [List.mem_singleton.mp hp]; rfl) (hr.mono (by decide)) (LamX.lamS_by (show LamX.lamSB (defScope s_law) _ = true from by decide +kernel)) rfl (fun _ _ _ _ _ => rfl) (fun A outer s H E f c' hr => (DD.pe_methR (sp := spD K 2 4 (E_Day_having (cl d))) (pv 4) T.cl_Day T.me_Day_having (okE_Day_having T) (hr.mono (by decide)) (passes_call (takes_of rfl rfl rfl rfl) (fun _ _ _ _ h => h)) (pa_cons (pv 7) pa_nil)))) (pv 9) (nomark _)) (pss_one (ps_ret pe_bl)) pss_nil) (pss_cons (ps_set (i := 10) sc_law.nd rfl (by first | exact Or.inl rfl | exact Or.inr rfl) (pe_callR (sp := spD0 K 2 2 (D__law_one_of (cl d))) (ok__law_one_of T) (hr.mono (by decide)) rfl T.m__law_one_of T.k__law_one_of pass0 (pa_cons (pv 2) (pa_cons (pe_lst (pa_cons pe_non (pa_cons pe_str (pa_cons (pe_tup (pa_cons pe_int (pa_cons pe_int pa_nil))) (pa_cons (pe_lst (pa_cons pe_int (pa_cons pe_int (pa_cons pe_bl pa_nil)))) (pa_cons (pe_tup (pa_cons pe_int (pa_cons pe_int (pa_cons pe_bl pa_nil)))) (pa_cons (pe_tup (pa_cons pe_int (pa_cons pe_int (pa_cons pe_int pa_nil)))) (pa_cons pe_int (pa_cons (pe_tup pa_nil) (pa_cons (pv 4) pa_nil)))))))))) pa_nil)))) (pss_one (ps_if (PW.pt (pw_or (pt_cmpR (op_ne2 (K := K) hu) (pe_heard (T := [(PT, LQ)]) (TT := TTh K d.C_Day d.C_NoMeeting d.C_InvalidDay (spD0 K 1 1 (D_Day___str__ (cl d)))) (k := 7) T.F__law_heard sc__law_heard rfl (by first | exact Or.inl rfl | exact Or.inr rfl) (fun _ _ _ _ _ _ us hl => match us, hl with | [_], _ => rfl) rfl T.m__law_heard (gt__law_heard T (hr.mono (by decide)) _) TB hcode (List.mem_singleton.mpr rfl) (fun p hp _ => by rw [List.mem_singleton.mp hp]; rfl) (hr.mono (by decide)) (LamX.lamS_by (show LamX.lamSB (defScope s_law) _ = true from by decide +kernel)) rfl (fun _ _ _ _ _ => rfl) (fun A outer s H E f c' hr => (DD.pe_methR (sp := spD K 2 4 (E_Day_having (cl d))) (pv 4) T.cl_Day T.me_Day_having (okE_Day_having T) (hr.mono (by decide)) (passes_call (takes_of rfl rfl rfl rfl) (fun _ _ _ _ h => h)) (pa_cons (pv 10) pa_nil)))) pe_str (nomark _)) (pw_or1 (pt_cmpR (op_ne2 (K := K) hu) (pe_callTy (call_strO (sp := spD0 K 1 1 (D_Day___str__ (cl d))) T.s_Day T.sf_Day (ok_Day___str__ T) (hr.mono (by decide)) pass0) rfl T.b_str (by decide +kernel) (pa_cons (pv 4) pa_nil)) (pe_callR (sp := spD0 K 1 5 (D__law_day_text (cl d))) (ok__law_day_text T) (hr.mono (by decide)) rfl T.m__law_day_text T.k__law_day_text pass0 (pa_cons (pe_tup (pa_cons (pv 11) (pa_cons (pv 12) pa_nil))) pa_nil)) (nomark _))))) (pss_one (ps_ret pe_bl)) pss_nil))))))))))))))))) (pss_one (ps_ret pe_bl))), (Lt_seq (Lt_for (vs := [1]) (I_rng1 (L_cb C_max (A_cons L_int (A_cons (L_cb C_min (A_cons L_int (A_cons (L_cb C_len (A_cons (L_var (i := 0)) A_nil)) A_nil))) A_nil)))) (U_name (by decide)) (Lt_seq (LSt.of (L_set (Lz_call (A_cons (L_var (i := 0)) (A_cons (L_var (i := 1)) A_nil))))) (Lt_for (vs := [3]) (I_rng1 L_int) (U_name (by decide)) (Lt_seq (LSt.of (L_tgt (vs := [11, 12]) (Lz_lend (i := 2) (A_cons L_int (A_cons L_bl A_nil))) (U_tup (Us_cons (U_name (by decide)) (Us_cons (U_name (by decide)) Us_nil))))) (Lt_seq (LSt.of (L_set (Lz_make (A_cons (L_var (i := 11)) (A_cons (L_var (i := 12)) A_nil))))) (Lt_seq (LSt.of (L_for (vs := [5]) (I_rng1 (L_cb C_len (A_cons (L_var (i := 12)) A_nil))) (U_name (by decide)) (L_seq (L_set (Lz_meth (L_var (i := 4)) (A_cons (L_var (i := 5)) A_nil))) (L_seq (L_if (L_tor (L_test (Lz_neO (L_var (i := 13)) (Lz_make (A_cons (L_var (i := 11)) (A_cons (L_bin S_add4 (L_sl (L_var (i := 12)) O_none (O_some (L_var (i := 5)))) (L_sl (L_var (i := 12)) (O_some (L_bin S_add4 (L_var (i := 5)) L_int)) O_none)) A_nil))))) (L_test (L_bin S_ne (Lz_ixO (L_var (i := 4)) (L_var (i := 5))) (L_bin S_ix (L_var (i := 12)) (L_var (i := 5)))))) (L_ret L_bl) L_next) (L_if (L_test (Lz_neO (Lz_meth (L_var (i := 13)) (A_cons (L_bin S_ix (L_var (i := 12)) (L_var (i := 5))) A_nil)) (L_var (i := 4)))) (L_ret L_bl) L_next))))) (Lt_seq (Lt_forV (vs := [5]) (L_tup (A_cons (L_bin S_sub L_int L_int) (A_cons (L_cb C_len (A_cons (L_var (i := 12)) A_nil)) (A_cons (L_bin S_add4 (L_cb C_len (A_cons (L_var (i := 12)) A_nil)) L_int) (A_cons (L_bin S_pow L_int L_int) A_nil))))) (U_name (by decide)) (Lt_seq (Lt_if (Lt_test (Lt_bin S_ne (Lt_heard (is := [4, 5]) (fun E => L_meth (L_no (L_var (i := 4))) (L_no (A_cons (L_var (i := 5)) A_nil)))) (LGt.of (L_tup (A_cons L_str (A_cons (L_var (i := 5)) A_nil)))))) (LSt.of (L_ret L_bl)) (LSt.of L_next)) (Lt_if (Lt_test (Lt_bin S_ne (Lt_heard (is := [4, 5]) (fun E => L_ixO (L_no (L_var (i := 4))) (L_no (L_var (i := 5))))) (LGt.of (L_tup (A_cons L_str (A_cons (L_var (i := 5)) A_nil)))))) (LSt.of (L_ret L_bl)) (LSt.of L_next)))) (Lt_seq (LSt.of (L_set (Lz_lend (i := 2) (A_cons (L_bin S_add4 (L_var (i := 11)) L_int) A_nil)))) (Lt_seq (LSt.of (L_set (L_tup (A_cons (L_var (i := 6)) (A_cons (L_bin S_add4 (L_bin S_add4 (L_var (i := 6)) L_int) (Lz_lend (i := 2) (A_cons L_int A_nil))) (A_cons (L_bin S_eq (Lz_lend (i := 2) (A_cons L_int A_nil)) L_int) A_nil)))))) (Lt_seq (LSt.of (L_set (L_lcS (Et := E0) (Ea := E0) (L_var (i := 12)) (U_name (by decide)) (L_tand (L_test (L_bin S_lt2 (L_bin S_ix (L_var (i := 15)) L_int) (L_bin S_ix (L_var (i := 7)) L_int))) (L_test (L_bin S_lt2 (L_bin S_ix (L_var (i := 7)) L_int) (L_bin S_ix (L_var (i := 15)) L_int)))) (L_var (i := 15))))) (Lt_seq (LSt.of (L_set L_str)) (Lt_seq (LSt.of (L_if (L_tand (L_test (L_bin S_eq (L_var (i := 8)) (L_lst A_nil))) (L_test (L_bin S_le (L_bin S_ix (L_var (i := 7)) L_int) (L_var (i := 11))))) (L_seq (L_set (L_lcS (Et := E0) (Ea := E0) (L_var (i := 12)) (U_name (by decide)) (L_test (L_bin S_lt2 (L_bin S_ix (L_var (i := 15)) L_int) (L_var (i := 6)))) (L_var (i := 15)))) (L_set (Lz_call (A_cons (L_tup (A_cons (L_var (i := 11)) (A_cons (L_bin S_add4 (L_bin S_add4 (L_var (i := 14)) (L_lst (A_cons (L_var (i := 7)) A_nil))) (L_sl (L_var (i := 12)) (O_some (L_cb C_len (A_cons (L_var (i := 14)) A_nil))) O_none)) A_nil))) A_nil)))) L_next)) (Lt_seq (Lt_if (Lt_test (Lt_bin S_ne (Lt_heard (is := [4, 7]) (fun E => L_meth (L_no (L_var (i := 4))) (L_no (A_cons (L_var (i := 7)) A_nil)))) (LGt.of (L_var (i := 9))))) (LSt.of (L_ret L_bl)) (LSt.of L_next)) (Lt_seq (LSt.of (L_set (Lz_lend (i := 2) (A_cons (L_lst (A_cons L_non (A_cons L_str (A_cons (L_tup (A_cons L_int (A_cons L_int A_nil))) (A_cons (L_lst (A_cons L_int (A_cons L_int (A_cons L_bl A_nil)))) (A_cons (L_tup (A_cons L_int (A_cons L_int (A_cons L_bl A_nil)))) (A_cons (L_tup (A_cons L_int (A_cons L_int (A_cons L_int A_nil)))) (A_cons L_int (A_cons (L_tup A_nil) (A_cons (L_var (i := 4)) A_nil)))))))))) A_nil)))) (Lt_if (Lt_tor (Lt_test (Lt_bin S_ne (Lt_heard (is := [4, 10]) (fun E => L_meth (L_no (L_var (i := 4))) (L_no (A_cons (L_var (i := 10)) A_nil)))) (LGt.of L_str))) (LGt.of (L_test (L_bin S_ne (Lz_strO (L_var (i := 4))) (Lz_call (A_cons (L_tup (A_cons (L_var (i := 11)) (A_cons (L_var (i := 12)) A_nil))) A_nil)))))) (LSt.of (L_ret L_bl)) (LSt.of L_next)))))))))))))))) (LSt.of (L_ret L_bl)))⟩
    exact ⟨t, h1.nox, law_runT (N := ["_law_script", "_law_k", "_law_box", "_law_turn", "_law_day_here", "_law_at", "_law_begin", "_law_fresh", "_law_over", "_law_due", "_law_value", "_law_size", "_law_meetings", "_law_less", "_law_ahead", "_law_one"]) (by decide) h2 (law_ok (cl d) (DL.ne_exm T.tn_InvalidDay_NoMeeting T.te_NoMeeting)) h⟩
end
theorem all_mk {l : PySem.W.OpenLaw} {w : World} {K : PySem.W.Frag} {h : Heap} {mg : Str → Option Value} {fa : Addr} (X : K.In h) (G : h.Ns mainGlobals mg) (hfa : mg "law" = some (.ref fa))
    {f_is_integer f_is_number f__is_meeting f_is_sequence f__are_meetings f_is_positive f__meeting_text f__meetings_text f__law_choose f__law_one_of f__law_day f__law_day_text f__law_heard f__law_seed f_law f_Day___eq__ f_Day___getitem__ f_Day___init__ f_Day___str__ f_Day_having f_Day_without C_Day C_DimError C_InvalidDay C_NoMeeting f_InvalidDay___init__ f_NoMeeting___init__ cT PT : Addr}
     (a_Day : PySem.W.nsIn K mainGlobals "Day" = some (some (.ref C_Day)))
    {oc_is_integer kV_is_integer do_is_integer pm_is_integer cd_is_integer ct_is_integer : Value} {od_is_integer an_is_integer : Option Addr} {sl_is_integer : Array (Option Value)} (a_is_integer : PySem.W.nsIn K mainGlobals "is_integer" = some (some (.ref f_is_integer)))
     (l_is_integer : K.lookup f_is_integer = some ⟨oc_is_integer, od_is_integer, .func (PySem.W.fnOf "is_integer" "is_integer" (defArgs s_is_integer) (defBody s_is_integer) (defScope s_is_integer) .none kV_is_integer do_is_integer pm_is_integer an_is_integer cd_is_integer ct_is_integer), sl_is_integer⟩)
     (c_is_integer : PySem.W.codeIn K cd_is_integer "is_integer" = true)
     (k_is_integer : PySem.W.keepIn K (.ref f_is_integer) = true)
    {oc_is_number kV_is_number do_is_number pm_is_number cd_is_number ct_is_number : Value} {od_is_number an_is_number : Option Addr} {sl_is_number : Array (Option Value)} (a_is_number : PySem.W.nsIn K mainGlobals "is_number" = some (some (.ref f_is_number)))
     (l_is_number : K.lookup f_is_number = some ⟨oc_is_number, od_is_number, .func (PySem.W.fnOf "is_number" "is_number" (defArgs s_is_number) (defBody s_is_number) (defScope s_is_number) .none kV_is_number do_is_number pm_is_number an_is_number cd_is_number ct_is_number), sl_is_number⟩)
     (c_is_number : PySem.W.codeIn K cd_is_number "is_number" = true)
     (k_is_number : PySem.W.keepIn K (.ref f_is_number) = true)
    {oc__is_meeting kV__is_meeting do__is_meeting pm__is_meeting cd__is_meeting ct__is_meeting : Value} {od__is_meeting an__is_meeting : Option Addr} {sl__is_meeting : Array (Option Value)} (a__is_meeting : PySem.W.nsIn K mainGlobals "_is_meeting" = some (some (.ref f__is_meeting)))
     (l__is_meeting : K.lookup f__is_meeting = some ⟨oc__is_meeting, od__is_meeting, .func (PySem.W.fnOf "_is_meeting" "_is_meeting" (defArgs s__is_meeting) (defBody s__is_meeting) (defScope s__is_meeting) .none kV__is_meeting do__is_meeting pm__is_meeting an__is_meeting cd__is_meeting ct__is_meeting), sl__is_meeting⟩)
     (c__is_meeting : PySem.W.codeIn K cd__is_meeting "_is_meeting" = true)
     (k__is_meeting : PySem.W.keepIn K (.ref f__is_meeting) = true)
    {oc_is_sequence kV_is_sequence do_is_sequence pm_is_sequence cd_is_sequence ct_is_sequence : Value} {od_is_sequence an_is_sequence : Option Addr} {sl_is_sequence : Array (Option Value)} (a_is_sequence : PySem.W.nsIn K mainGlobals "is_sequence" = some (some (.ref f_is_sequence)))
     (l_is_sequence : K.lookup f_is_sequence = some ⟨oc_is_sequence, od_is_sequence, .func (PySem.W.fnOf "is_sequence" "is_sequence" (defArgs s_is_sequence) (defBody s_is_sequence) (defScope s_is_sequence) .none kV_is_sequence do_is_sequence pm_is_sequence an_is_sequence cd_is_sequence ct_is_sequence), sl_is_sequence⟩)
     (c_is_sequence : PySem.W.codeIn K cd_is_sequence "is_sequence" = true)
     (k_is_sequence : PySem.W.keepIn K (.ref f_is_sequence) = true)
    {oc__are_meetings kV__are_meetings do__are_meetings pm__are_meetings cd__are_meetings ct__are_meetings : Value} {od__are_meetings an__are_meetings : Option Addr} {sl__are_meetings : Array (Option Value)} (a__are_meetings : PySem.W.nsIn K mainGlobals "_are_meetings" = some (some (.ref f__are_meetings)))
     (l__are_meetings : K.lookup f__are_meetings = some ⟨oc__are_meetings, od__are_meetings, .func (PySem.W.fnOf "_are_meetings" "_are_meetings" (defArgs s__are_meetings) (defBody s__are_meetings) (defScope s__are_meetings) .none kV__are_meetings do__are_meetings pm__are_meetings an__are_meetings cd__are_meetings ct__are_meetings), sl__are_meetings⟩)
     (c__are_meetings : PySem.W.codeIn K cd__are_meetings "_are_meetings" = true)
     (k__are_meetings : PySem.W.keepIn K (.ref f__are_meetings) = true)
    {oc_is_positive kV_is_positive do_is_positive pm_is_positive cd_is_positive ct_is_positive : Value} {od_is_positive an_is_positive : Option Addr} {sl_is_positive : Array (Option Value)} (a_is_positive : PySem.W.nsIn K mainGlobals "is_positive" = some (some (.ref f_is_positive)))
     (l_is_positive : K.lookup f_is_positive = some ⟨oc_is_positive, od_is_positive, .func (PySem.W.fnOf "is_positive" "is_positive" (defArgs s_is_positive) (defBody s_is_positive) (defScope s_is_positive) .none kV_is_positive do_is_positive pm_is_positive an_is_positive cd_is_positive ct_is_positive), sl_is_positive⟩)
     (c_is_positive : PySem.W.codeIn K cd_is_positive "is_positive" = true)
     (k_is_positive : PySem.W.keepIn K (.ref f_is_positive) = true)
    {oc__meeting_text kV__meeting_text do__meeting_text pm__meeting_text cd__meeting_text ct__meeting_text : Value} {od__meeting_text an__meeting_text : Option Addr} {sl__meeting_text : Array (Option Value)} (a__meeting_text : PySem.W.nsIn K mainGlobals "_meeting_text" = some (some (.ref f__meeting_text)))
     (l__meeting_text : K.lookup f__meeting_text = some ⟨oc__meeting_text, od__meeting_text, .func (PySem.W.fnOf "_meeting_text" "_meeting_text" (defArgs s__meeting_text) (defBody s__meeting_text) (defScope s__meeting_text) .none kV__meeting_text do__meeting_text pm__meeting_text an__meeting_text cd__meeting_text ct__meeting_text), sl__meeting_text⟩)
     (c__meeting_text : PySem.W.codeIn K cd__meeting_text "_meeting_text" = true)
     (k__meeting_text : PySem.W.keepIn K (.ref f__meeting_text) = true)
    {oc__meetings_text kV__meetings_text do__meetings_text pm__meetings_text cd__meetings_text ct__meetings_text : Value} {od__meetings_text an__meetings_text : Option Addr} {sl__meetings_text : Array (Option Value)} (a__meetings_text : PySem.W.nsIn K mainGlobals "_meetings_text" = some (some (.ref f__meetings_text)))
     (l__meetings_text : K.lookup f__meetings_text = some ⟨oc__meetings_text, od__meetings_text, .func (PySem.W.fnOf "_meetings_text" "_meetings_text" (defArgs s__meetings_text) (defBody s__meetings_text) (defScope s__meetings_text) .none kV__meetings_text do__meetings_text pm__meetings_text an__meetings_text cd__meetings_text ct__meetings_text), sl__meetings_text⟩)
     (c__meetings_text : PySem.W.codeIn K cd__meetings_text "_meetings_text" = true)
     (k__meetings_text : PySem.W.keepIn K (.ref f__meetings_text) = true)
    {oc__law_choose kV__law_choose do__law_choose pm__law_choose cd__law_choose ct__law_choose : Value} {od__law_choose an__law_choose : Option Addr} {sl__law_choose : Array (Option Value)} (a__law_choose : PySem.W.nsIn K mainGlobals "_law_choose" = some (some (.ref f__law_choose)))
     (l__law_choose : K.lookup f__law_choose = some ⟨oc__law_choose, od__law_choose, .func (PySem.W.fnOf "_law_choose" "_law_choose" (defArgs s__law_choose) (defBody s__law_choose) (defScope s__law_choose) .none kV__law_choose do__law_choose pm__law_choose an__law_choose cd__law_choose ct__law_choose), sl__law_choose⟩)
     (c__law_choose : PySem.W.codeIn K cd__law_choose "_law_choose" = true)
     (k__law_choose : PySem.W.keepIn K (.ref f__law_choose) = true)
    {oc__law_one_of kV__law_one_of do__law_one_of pm__law_one_of cd__law_one_of ct__law_one_of : Value} {od__law_one_of an__law_one_of : Option Addr} {sl__law_one_of : Array (Option Value)} (a__law_one_of : PySem.W.nsIn K mainGlobals "_law_one_of" = some (some (.ref f__law_one_of)))
     (l__law_one_of : K.lookup f__law_one_of = some ⟨oc__law_one_of, od__law_one_of, .func (PySem.W.fnOf "_law_one_of" "_law_one_of" (defArgs s__law_one_of) (defBody s__law_one_of) (defScope s__law_one_of) .none kV__law_one_of do__law_one_of pm__law_one_of an__law_one_of cd__law_one_of ct__law_one_of), sl__law_one_of⟩)
     (c__law_one_of : PySem.W.codeIn K cd__law_one_of "_law_one_of" = true)
     (k__law_one_of : PySem.W.keepIn K (.ref f__law_one_of) = true)
    {oc__law_day kV__law_day do__law_day pm__law_day cd__law_day ct__law_day : Value} {od__law_day an__law_day : Option Addr} {sl__law_day : Array (Option Value)} (a__law_day : PySem.W.nsIn K mainGlobals "_law_day" = some (some (.ref f__law_day)))
     (l__law_day : K.lookup f__law_day = some ⟨oc__law_day, od__law_day, .func (PySem.W.fnOf "_law_day" "_law_day" (defArgs s__law_day) (defBody s__law_day) (defScope s__law_day) .none kV__law_day do__law_day pm__law_day an__law_day cd__law_day ct__law_day), sl__law_day⟩)
     (c__law_day : PySem.W.codeIn K cd__law_day "_law_day" = true)
     (k__law_day : PySem.W.keepIn K (.ref f__law_day) = true)
    {oc__law_day_text kV__law_day_text do__law_day_text pm__law_day_text cd__law_day_text ct__law_day_text : Value} {od__law_day_text an__law_day_text : Option Addr} {sl__law_day_text : Array (Option Value)} (a__law_day_text : PySem.W.nsIn K mainGlobals "_law_day_text" = some (some (.ref f__law_day_text)))
     (l__law_day_text : K.lookup f__law_day_text = some ⟨oc__law_day_text, od__law_day_text, .func (PySem.W.fnOf "_law_day_text" "_law_day_text" (defArgs s__law_day_text) (defBody s__law_day_text) (defScope s__law_day_text) .none kV__law_day_text do__law_day_text pm__law_day_text an__law_day_text cd__law_day_text ct__law_day_text), sl__law_day_text⟩)
     (c__law_day_text : PySem.W.codeIn K cd__law_day_text "_law_day_text" = true)
     (k__law_day_text : PySem.W.keepIn K (.ref f__law_day_text) = true)
    {oc__law_heard kV__law_heard do__law_heard pm__law_heard cd__law_heard ct__law_heard : Value} {od__law_heard an__law_heard : Option Addr} {sl__law_heard : Array (Option Value)} (a__law_heard : PySem.W.nsIn K mainGlobals "_law_heard" = some (some (.ref f__law_heard)))
     (l__law_heard : K.lookup f__law_heard = some ⟨oc__law_heard, od__law_heard, .func (PySem.W.fnOf "_law_heard" "_law_heard" (defArgs s__law_heard) (defBody s__law_heard) (defScope s__law_heard) .none kV__law_heard do__law_heard pm__law_heard an__law_heard cd__law_heard ct__law_heard), sl__law_heard⟩)
     (c__law_heard : PySem.W.codeIn K cd__law_heard "_law_heard" = true)
     (k__law_heard : PySem.W.keepIn K (.ref f__law_heard) = true)
    {oc__law_seed kV__law_seed do__law_seed pm__law_seed cd__law_seed ct__law_seed : Value} {od__law_seed an__law_seed : Option Addr} {sl__law_seed : Array (Option Value)} (a__law_seed : PySem.W.nsIn K mainGlobals "_law_seed" = some (some (.ref f__law_seed)))
     (l__law_seed : K.lookup f__law_seed = some ⟨oc__law_seed, od__law_seed, .func (PySem.W.fnOf "_law_seed" "_law_seed" (defArgs s__law_seed) (defBody s__law_seed) (defScope s__law_seed) .none kV__law_seed do__law_seed pm__law_seed an__law_seed cd__law_seed ct__law_seed), sl__law_seed⟩)
     (c__law_seed : PySem.W.codeIn K cd__law_seed "_law_seed" = true)
     (k__law_seed : PySem.W.keepIn K (.ref f__law_seed) = true)
    {oc_law kV_law do_law pm_law cd_law ct_law : Value} {od_law an_law : Option Addr} {sl_law : Array (Option Value)} (a_law : PySem.W.nsIn K mainGlobals "law" = some (some (.ref f_law)))
     (l_law : K.lookup f_law = some ⟨oc_law, od_law, .func (PySem.W.fnOf "law" "law" (defArgs s_law) (defBody s_law) (defScope s_law) .none kV_law do_law pm_law an_law cd_law ct_law), sl_law⟩)
     (c_law : PySem.W.codeIn K cd_law "law" = true)
     (k_law : PySem.W.keepIn K (.ref f_law) = true)
    {oc_Day___eq__ kV_Day___eq__ do_Day___eq__ pm_Day___eq__ cd_Day___eq__ ct_Day___eq__ : Value} {od_Day___eq__ an_Day___eq__ : Option Addr} {sl_Day___eq__ : Array (Option Value)} (a_Day___eq__ : PySem.W.findIn K (.ref C_Day) "__eq__" = some (some (.ref f_Day___eq__)))
     (i_Day___eq__ : PySem.W.isFn K (.ref f_Day___eq__) = true)
     (l_Day___eq__ : K.lookup f_Day___eq__ = some ⟨oc_Day___eq__, od_Day___eq__, .func (PySem.W.fnOf "__eq__" "Day.__eq__" (defArgs s_Day___eq__) (defBody s_Day___eq__) (defScope s_Day___eq__) .none kV_Day___eq__ do_Day___eq__ pm_Day___eq__ an_Day___eq__ cd_Day___eq__ ct_Day___eq__), sl_Day___eq__⟩)
     (c_Day___eq__ : PySem.W.codeIn K cd_Day___eq__ "Day.__eq__" = true)
     (k_Day___eq__ : PySem.W.keepIn K (.ref f_Day___eq__) = true)
    {oc_Day___getitem__ kV_Day___getitem__ do_Day___getitem__ pm_Day___getitem__ cd_Day___getitem__ ct_Day___getitem__ : Value} {od_Day___getitem__ an_Day___getitem__ : Option Addr} {sl_Day___getitem__ : Array (Option Value)} (a_Day___getitem__ : PySem.W.findIn K (.ref C_Day) "__getitem__" = some (some (.ref f_Day___getitem__)))
     (i_Day___getitem__ : PySem.W.isFn K (.ref f_Day___getitem__) = true)
     (gn_Day___getitem__ : PySem.W.fnIn K f_Day___getitem__ = true)
     (l_Day___getitem__ : K.lookup f_Day___getitem__ = some ⟨oc_Day___getitem__, od_Day___getitem__, .func (PySem.W.fnOf "__getitem__" "Day.__getitem__" (defArgs s_Day___getitem__) (defBody s_Day___getitem__) (defScope s_Day___getitem__) .none kV_Day___getitem__ do_Day___getitem__ pm_Day___getitem__ an_Day___getitem__ cd_Day___getitem__ ct_Day___getitem__), sl_Day___getitem__⟩)
     (c_Day___getitem__ : PySem.W.codeIn K cd_Day___getitem__ "Day.__getitem__" = true)
     (k_Day___getitem__ : PySem.W.keepIn K (.ref f_Day___getitem__) = true)
    {oc_Day___init__ kV_Day___init__ do_Day___init__ pm_Day___init__ cd_Day___init__ ct_Day___init__ : Value} {od_Day___init__ an_Day___init__ : Option Addr} {sl_Day___init__ : Array (Option Value)} (a_Day___init__ : PySem.W.findIn K (.ref C_Day) "__init__" = some (some (.ref f_Day___init__)))
     (i_Day___init__ : PySem.W.isFn K (.ref f_Day___init__) = true)
    {T_Day___init__ : Addr} (l_Day___init__ : K.lookup f_Day___init__ = some ⟨oc_Day___init__, od_Day___init__, .func (PySem.W.fnOf "__init__" "Day.__init__" (defArgs s_Day___init__) (defBody s_Day___init__) (defScope s_Day___init__) (.ref T_Day___init__) kV_Day___init__ do_Day___init__ pm_Day___init__ an_Day___init__ cd_Day___init__ ct_Day___init__), sl_Day___init__⟩)
    {tc_Day___init__ : Value} {td_Day___init__ : Option Addr} {it_Day___init__ : Array Value} {tn_Day___init__ : Nat} {ts_Day___init__ : Array (Option Value)} (lt_Day___init__ : K.lookup T_Day___init__ = some ⟨tc_Day___init__, td_Day___init__, .seq it_Day___init__ tn_Day___init__, ts_Day___init__⟩)
    {z_Day : Addr} (lv_Day___init__ : it_Day___init__.toList.mapM absV = some [V.ref z_Day])
    {td_zDay : Option Addr} {it_zDay : Array Value} {tn_zDay : Nat} {ts_zDay : Array (Option Value)} (l_zDay : K.lookup z_Day = some ⟨.type "tuple", td_zDay, .seq it_zDay tn_zDay, ts_zDay⟩)
     (lv_zDay : it_zDay.toList.mapM absV = some [])
     (c_Day___init__ : PySem.W.codeIn K cd_Day___init__ "Day.__init__" = true)
     (k_Day___init__ : PySem.W.keepIn K (.ref f_Day___init__) = true)
    {oc_Day___str__ kV_Day___str__ do_Day___str__ pm_Day___str__ cd_Day___str__ ct_Day___str__ : Value} {od_Day___str__ an_Day___str__ : Option Addr} {sl_Day___str__ : Array (Option Value)} (a_Day___str__ : PySem.W.findIn K (.ref C_Day) "__str__" = some (some (.ref f_Day___str__)))
     (i_Day___str__ : PySem.W.isFn K (.ref f_Day___str__) = true)
     (l_Day___str__ : K.lookup f_Day___str__ = some ⟨oc_Day___str__, od_Day___str__, .func (PySem.W.fnOf "__str__" "Day.__str__" (defArgs s_Day___str__) (defBody s_Day___str__) (defScope s_Day___str__) .none kV_Day___str__ do_Day___str__ pm_Day___str__ an_Day___str__ cd_Day___str__ ct_Day___str__), sl_Day___str__⟩)
     (c_Day___str__ : PySem.W.codeIn K cd_Day___str__ "Day.__str__" = true)
     (k_Day___str__ : PySem.W.keepIn K (.ref f_Day___str__) = true)
    {oc_Day_having kV_Day_having do_Day_having pm_Day_having cd_Day_having ct_Day_having : Value} {od_Day_having an_Day_having : Option Addr} {sl_Day_having : Array (Option Value)} (a_Day_having : PySem.W.findIn K (.ref C_Day) "having" = some (some (.ref f_Day_having)))
     (i_Day_having : PySem.W.isFn K (.ref f_Day_having) = true)
     (l_Day_having : K.lookup f_Day_having = some ⟨oc_Day_having, od_Day_having, .func (PySem.W.fnOf "having" "Day.having" (defArgs s_Day_having) (defBody s_Day_having) (defScope s_Day_having) .none kV_Day_having do_Day_having pm_Day_having an_Day_having cd_Day_having ct_Day_having), sl_Day_having⟩)
     (c_Day_having : PySem.W.codeIn K cd_Day_having "Day.having" = true)
     (k_Day_having : PySem.W.keepIn K (.ref f_Day_having) = true)
    {oc_Day_without kV_Day_without do_Day_without pm_Day_without cd_Day_without ct_Day_without : Value} {od_Day_without an_Day_without : Option Addr} {sl_Day_without : Array (Option Value)} (a_Day_without : PySem.W.findIn K (.ref C_Day) "without" = some (some (.ref f_Day_without)))
     (i_Day_without : PySem.W.isFn K (.ref f_Day_without) = true)
     (l_Day_without : K.lookup f_Day_without = some ⟨oc_Day_without, od_Day_without, .func (PySem.W.fnOf "without" "Day.without" (defArgs s_Day_without) (defBody s_Day_without) (defScope s_Day_without) .none kV_Day_without do_Day_without pm_Day_without an_Day_without cd_Day_without ct_Day_without), sl_Day_without⟩)
     (c_Day_without : PySem.W.codeIn K cd_Day_without "Day.without" = true)
     (k_Day_without : PySem.W.keepIn K (.ref f_Day_without) = true)
     (pg_Day : PySem.W.plainGet K C_Day Str.empty = true)
     (hd_Day : PySem.W.hasDictIn K C_Day = true)
     (po_Day : PySem.W.plainOver K C_Day = true)
     (sa_Day : PySem.W.findIn K (.ref C_Day) "__setattr__" = some (some (.builtin "object.__setattr__")))
     (mk_Day : PySem.W.makesIn K C_Day = true)
     (kc_Day : PySem.W.keepIn K (.ref C_Day) = true)
     (na_Day_length : PySem.W.findIn K (.ref C_Day) "length" = some none)
     (na_Day_meetings : PySem.W.findIn K (.ref C_Day) "meetings" = some none)
     (na_Day_word : PySem.W.findIn K (.ref C_Day) "word" = some none)
     (n_Day : PySem.W.findIn K (.ref C_Day) "__ne__" = some (some (.builtin "object.__ne__")))
     (isc_Day : PySem.W.isClsIn K C_Day = true)
     (tyc_Day : PySem.W.typeIn K (.ref C_Day) = some (.type "type"))
     (su_Day : PySem.W.subIn K (.type "str") (.ref C_Day) = some false)
     (sb_Day_int : PySem.W.subIn K (.ref C_Day) (.type "int") = some false)
     (sb_Day_bool : PySem.W.subIn K (.ref C_Day) (.type "bool") = some false)
     (sb_Day_str : PySem.W.subIn K (.ref C_Day) (.type "str") = some false)
     (sb_Day_tuple : PySem.W.subIn K (.ref C_Day) (.type "tuple") = some false)
     (sb_Day_list : PySem.W.subIn K (.ref C_Day) (.type "list") = some false)
     (o_Day : PySem.W.mroIn K C_Day (.type "object") = some true)
     (ic_Day : PySem.W.findIn K (.ref C_Day) "__class__" = some (some (.builtin "object.__class__")))
     (oc1 : PySem.W.specialIn K (.builtin "object.__class__") "__get__" = some (some (.builtin "getset_descriptor.__get__")))
     (oc2 : PySem.W.takesIn K (.builtin "object.__class__") = some true)
     (a_DimError : PySem.W.nsIn K mainGlobals "DimError" = some (some (.ref C_DimError)))
     (isc_DimError : PySem.W.isClsIn K C_DimError = true)
     (tyc_DimError : PySem.W.typeIn K (.ref C_DimError) = some (.type "type"))
     (a_InvalidDay : PySem.W.nsIn K mainGlobals "InvalidDay" = some (some (.ref C_InvalidDay)))
     (isc_InvalidDay : PySem.W.isClsIn K C_InvalidDay = true)
     (tyc_InvalidDay : PySem.W.typeIn K (.ref C_InvalidDay) = some (.type "type"))
     (a_NoMeeting : PySem.W.nsIn K mainGlobals "NoMeeting" = some (some (.ref C_NoMeeting)))
     (isc_NoMeeting : PySem.W.isClsIn K C_NoMeeting = true)
     (tyc_NoMeeting : PySem.W.typeIn K (.ref C_NoMeeting) = some (.type "type"))
    {nm_InvalidDay q_InvalidDay : Str} {N_InvalidDay : Addr} {bs_InvalidDay : List Value} {sn_InvalidDay : List Str} {sb_InvalidDay : List Value} {ab_InvalidDay : Bool} {co_InvalidDay : Option Bool} {dd_InvalidDay : Option Addr} {z0_InvalidDay z1_InvalidDay z2_InvalidDay z3_InvalidDay z5_InvalidDay : Option Value} (xl_InvalidDay : K.lookup C_InvalidDay = some (excClassObj nm_InvalidDay q_InvalidDay C_InvalidDay N_InvalidDay bs_InvalidDay [.ref C_DimError, .type "ValueError", .type "Exception", .type "BaseException", .type "object"] true sn_InvalidDay sb_InvalidDay ab_InvalidDay co_InvalidDay dd_InvalidDay z0_InvalidDay z1_InvalidDay z2_InvalidDay z3_InvalidDay z5_InvalidDay "ValueError.__new__"))
     (xsa_InvalidDay : PySem.W.findIn K (.ref C_InvalidDay) "__setattr__" = some (some (.builtin "object.__setattr__")))
     (xga_InvalidDay : PySem.W.findIn K (.ref C_InvalidDay) "__getattribute__" = some (some (.builtin "BaseException.__getattribute__")))
     (xgg_InvalidDay : PySem.W.findIn K (.ref C_InvalidDay) "__getattr__" = some none)
     (xno_InvalidDay : PySem.W.findIn K (.ref C_InvalidDay) "word" = some none)
     (xi_InvalidDay : PySem.W.findIn K (.ref C_InvalidDay) "__init__" = some (some (.ref f_InvalidDay___init__)))
     (xt_InvalidDay : PySem.W.typeIn K (.ref f_InvalidDay___init__) = some (.type "function"))
    {oc_InvalidDay___init__ kV_InvalidDay___init__ do_InvalidDay___init__ pm_InvalidDay___init__ cd_InvalidDay___init__ ct_InvalidDay___init__ : Value} {od_InvalidDay___init__ an_InvalidDay___init__ : Option Addr} {sl_InvalidDay___init__ : Array (Option Value)} (l_InvalidDay___init__ : K.lookup f_InvalidDay___init__ = some ⟨oc_InvalidDay___init__, od_InvalidDay___init__, .func (PySem.W.fnOf "__init__" "InvalidDay.__init__" (defArgs s_InvalidDay___init__) (defBody s_InvalidDay___init__) (defScope s_InvalidDay___init__) .none kV_InvalidDay___init__ do_InvalidDay___init__ pm_InvalidDay___init__ an_InvalidDay___init__ cd_InvalidDay___init__ ct_InvalidDay___init__), sl_InvalidDay___init__⟩)
     (c_InvalidDay___init__ : PySem.W.codeIn K cd_InvalidDay___init__ "InvalidDay.__init__" = true)
     (k_InvalidDay___init__ : PySem.W.keepIn K (.ref f_InvalidDay___init__) = true)
     (xk_InvalidDay : PySem.W.keepIn K (.ref C_InvalidDay) = true)
     (xe_InvalidDay : PySem.W.subIn K (.ref C_InvalidDay) (.type "BaseException") = some true)
     (xd_InvalidDay : PySem.W.hasDictIn K C_InvalidDay = true)
     (xs_InvalidDay : PySem.W.subIn K (.ref C_InvalidDay) (.ref C_InvalidDay) = some true)
     (xcl_InvalidDay : PySem.W.findIn K (.ref C_InvalidDay) "__class__" = some (some (.builtin "object.__class__")))
     (xm_InvalidDay : PySem.W.mroIn K C_InvalidDay (.type "object") = some true)
    {nm_NoMeeting q_NoMeeting : Str} {N_NoMeeting : Addr} {bs_NoMeeting : List Value} {sn_NoMeeting : List Str} {sb_NoMeeting : List Value} {ab_NoMeeting : Bool} {co_NoMeeting : Option Bool} {dd_NoMeeting : Option Addr} {z0_NoMeeting z1_NoMeeting z2_NoMeeting z3_NoMeeting z5_NoMeeting : Option Value} (xl_NoMeeting : K.lookup C_NoMeeting = some (excClassObj nm_NoMeeting q_NoMeeting C_NoMeeting N_NoMeeting bs_NoMeeting [.type "IndexError", .type "LookupError", .type "Exception", .type "BaseException", .type "object"] true sn_NoMeeting sb_NoMeeting ab_NoMeeting co_NoMeeting dd_NoMeeting z0_NoMeeting z1_NoMeeting z2_NoMeeting z3_NoMeeting z5_NoMeeting "IndexError.__new__"))
     (xsa_NoMeeting : PySem.W.findIn K (.ref C_NoMeeting) "__setattr__" = some (some (.builtin "object.__setattr__")))
     (xga_NoMeeting : PySem.W.findIn K (.ref C_NoMeeting) "__getattribute__" = some (some (.builtin "BaseException.__getattribute__")))
     (xgg_NoMeeting : PySem.W.findIn K (.ref C_NoMeeting) "__getattr__" = some none)
     (xno_NoMeeting : PySem.W.findIn K (.ref C_NoMeeting) "at" = some none)
     (xi_NoMeeting : PySem.W.findIn K (.ref C_NoMeeting) "__init__" = some (some (.ref f_NoMeeting___init__)))
     (xt_NoMeeting : PySem.W.typeIn K (.ref f_NoMeeting___init__) = some (.type "function"))
    {oc_NoMeeting___init__ kV_NoMeeting___init__ do_NoMeeting___init__ pm_NoMeeting___init__ cd_NoMeeting___init__ ct_NoMeeting___init__ : Value} {od_NoMeeting___init__ an_NoMeeting___init__ : Option Addr} {sl_NoMeeting___init__ : Array (Option Value)} (l_NoMeeting___init__ : K.lookup f_NoMeeting___init__ = some ⟨oc_NoMeeting___init__, od_NoMeeting___init__, .func (PySem.W.fnOf "__init__" "NoMeeting.__init__" (defArgs s_NoMeeting___init__) (defBody s_NoMeeting___init__) (defScope s_NoMeeting___init__) .none kV_NoMeeting___init__ do_NoMeeting___init__ pm_NoMeeting___init__ an_NoMeeting___init__ cd_NoMeeting___init__ ct_NoMeeting___init__), sl_NoMeeting___init__⟩)
     (c_NoMeeting___init__ : PySem.W.codeIn K cd_NoMeeting___init__ "NoMeeting.__init__" = true)
     (k_NoMeeting___init__ : PySem.W.keepIn K (.ref f_NoMeeting___init__) = true)
     (xk_NoMeeting : PySem.W.keepIn K (.ref C_NoMeeting) = true)
     (xe_NoMeeting : PySem.W.subIn K (.ref C_NoMeeting) (.type "BaseException") = some true)
     (xd_NoMeeting : PySem.W.hasDictIn K C_NoMeeting = true)
     (xs_NoMeeting : PySem.W.subIn K (.ref C_NoMeeting) (.ref C_NoMeeting) = some true)
     (xcl_NoMeeting : PySem.W.findIn K (.ref C_NoMeeting) "__class__" = some (some (.builtin "object.__class__")))
     (xm_NoMeeting : PySem.W.mroIn K C_NoMeeting (.type "object") = some true)
     (xk_NoMeeting_DimError : PySem.W.subIn K (.ref C_NoMeeting) (.ref C_DimError) = some false)
     (xk_NoMeeting_IndexError : PySem.W.subIn K (.ref C_NoMeeting) (.type "IndexError") = some true)
     (xk_InvalidDay_NoMeeting : PySem.W.subIn K (.ref C_InvalidDay) (.ref C_NoMeeting) = some false)
     (b_IndexError : PySem.W.nsIn K mainGlobals "IndexError" = some none)
     (b_abs : PySem.W.nsIn K mainGlobals "abs" = some none)
     (b_bool : PySem.W.nsIn K mainGlobals "bool" = some none)
     (b_int : PySem.W.nsIn K mainGlobals "int" = some none)
     (b_isinstance : PySem.W.nsIn K mainGlobals "isinstance" = some none)
     (b_len : PySem.W.nsIn K mainGlobals "len" = some none)
     (b_list : PySem.W.nsIn K mainGlobals "list" = some none)
     (b_max : PySem.W.nsIn K mainGlobals "max" = some none)
     (b_min : PySem.W.nsIn K mainGlobals "min" = some none)
     (b_range : PySem.W.nsIn K mainGlobals "range" = some none)
     (b_str : PySem.W.nsIn K mainGlobals "str" = some none)
     (b_tuple : PySem.W.nsIn K mainGlobals "tuple" = some none)
     (tb_e : cd_law = .ref cT)
    {dT : Option Addr} {vT : Array Value} {sT : Array (Option Value)} (tb_c : K.lookup cT = some ⟨.type "code", dT, .fields vT, sT⟩)
     (tb_11 : vT[11]? = some (.ref PT))
     (tb_g11 : vT.getD 11 .none = .ref PT)
    {fT : Str} {tf : Tok} (tb_g18 : vT.getD 18 .none = .str fT tf)
    {gT : Int} {tg : Tok} (tb_g7 : vT.getD 7 .none = .int gT tg)
    {bT : Bool} (tb_g9 : vT.getD 9 .none = .bool bT)
    {xT : Int} {tx : Tok} (tb_g10 : vT.getD 10 .none = .int xT tx)
     (tb_n : K.lookup PT = none)
     (tb_ne : cT ≠ PT)
    : LamX.OwnTab K fa h → LamX.LawAtS l w K CX0 10 63 "_law_script" mg fa h := by
  intro own
  have e := hfa.symm.trans (PySem.W.mg_of X G a_law)
  cases e
  have T : Txt K mg { f_is_integer := f_is_integer, f_is_number := f_is_number, f__is_meeting := f__is_meeting, f_is_sequence := f_is_sequence, f__are_meetings := f__are_meetings, f_is_positive := f_is_positive, f__meeting_text := f__meeting_text, f__meetings_text := f__meetings_text, f__law_choose := f__law_choose, f__law_one_of := f__law_one_of, f__law_day := f__law_day, f__law_day_text := f__law_day_text, f__law_heard := f__law_heard, f__law_seed := f__law_seed, f_law := fa, f_Day___eq__ := f_Day___eq__, f_Day___getitem__ := f_Day___getitem__, f_Day___init__ := f_Day___init__, z_Day := z_Day, f_Day___str__ := f_Day___str__, f_Day_having := f_Day_having, f_Day_without := f_Day_without, C_Day := C_Day, C_DimError := C_DimError, C_InvalidDay := C_InvalidDay, C_NoMeeting := C_NoMeeting, f_InvalidDay___init__ := f_InvalidDay___init__, f_NoMeeting___init__ := f_NoMeeting___init__ } := { m_is_integer := PySem.W.mg_of X G a_is_integer, k_is_integer := k_is_integer, F_is_integer := ⟨_, fun_mk (st := s_is_integer) l_is_integer c_is_integer k_is_integer⟩, m_is_number := PySem.W.mg_of X G a_is_number, k_is_number := k_is_number, F_is_number := ⟨_, fun_mk (st := s_is_number) l_is_number c_is_number k_is_number⟩, m__is_meeting := PySem.W.mg_of X G a__is_meeting, k__is_meeting := k__is_meeting, F__is_meeting := ⟨_, fun_mk (st := s__is_meeting) l__is_meeting c__is_meeting k__is_meeting⟩, m_is_sequence := PySem.W.mg_of X G a_is_sequence, k_is_sequence := k_is_sequence, F_is_sequence := ⟨_, fun_mk (st := s_is_sequence) l_is_sequence c_is_sequence k_is_sequence⟩, m__are_meetings := PySem.W.mg_of X G a__are_meetings, k__are_meetings := k__are_meetings, F__are_meetings := ⟨_, fun_mk (st := s__are_meetings) l__are_meetings c__are_meetings k__are_meetings⟩, m_is_positive := PySem.W.mg_of X G a_is_positive, k_is_positive := k_is_positive, F_is_positive := ⟨_, fun_mk (st := s_is_positive) l_is_positive c_is_positive k_is_positive⟩, m__meeting_text := PySem.W.mg_of X G a__meeting_text, k__meeting_text := k__meeting_text, F__meeting_text := ⟨_, fun_mk (st := s__meeting_text) l__meeting_text c__meeting_text k__meeting_text⟩, m__meetings_text := PySem.W.mg_of X G a__meetings_text, k__meetings_text := k__meetings_text, F__meetings_text := ⟨_, fun_mk (st := s__meetings_text) l__meetings_text c__meetings_text k__meetings_text⟩, m__law_choose := PySem.W.mg_of X G a__law_choose, k__law_choose := k__law_choose, F__law_choose := ⟨_, fun_mk (st := s__law_choose) l__law_choose c__law_choose k__law_choose⟩, m__law_one_of := PySem.W.mg_of X G a__law_one_of, k__law_one_of := k__law_one_of, F__law_one_of := ⟨_, fun_mk (st := s__law_one_of) l__law_one_of c__law_one_of k__law_one_of⟩, m__law_day := PySem.W.mg_of X G a__law_day, k__law_day := k__law_day, F__law_day := ⟨_, fun_mk (st := s__law_day) l__law_day c__law_day k__law_day⟩, m__law_day_text := PySem.W.mg_of X G a__law_day_text, k__law_day_text := k__law_day_text, F__law_day_text := ⟨_, fun_mk (st := s__law_day_text) l__law_day_text c__law_day_text k__law_day_text⟩, m__law_heard := PySem.W.mg_of X G a__law_heard, k__law_heard := k__law_heard, F__law_heard := ⟨_, fun_mk (st := s__law_heard) l__law_heard c__law_heard k__law_heard⟩, m__law_seed := PySem.W.mg_of X G a__law_seed, k__law_seed := k__law_seed, F__law_seed := ⟨_, fun_mk (st := s__law_seed) l__law_seed c__law_seed k__law_seed⟩, m_law := PySem.W.mg_of X G a_law, k_law := k_law, F_law := ⟨_, fun_mk (st := s_law) l_law c_law k_law⟩, F_Day___eq__ := ⟨_, fun_mk (st := s_Day___eq__) l_Day___eq__ c_Day___eq__ k_Day___eq__⟩, e_Day := a_Day___eq__, ef_Day := i_Day___eq__, gn_Day := gn_Day___getitem__, F_Day___getitem__ := ⟨_, fun_mk (st := s_Day___getitem__) l_Day___getitem__ c_Day___getitem__ k_Day___getitem__⟩, g_Day := a_Day___getitem__, gf_Day := i_Day___getitem__, w_zDay := fun _ => sqt_mk l_zDay lv_zDay (by decide), F_Day___init__ := ⟨_, fund_mk l_Day___init__ lt_Day___init__ lv_Day___init__ (List.cons_ne_nil _ _) c_Day___init__ k_Day___init__⟩, F_Day___str__ := ⟨_, fun_mk (st := s_Day___str__) l_Day___str__ c_Day___str__ k_Day___str__⟩, s_Day := a_Day___str__, sf_Day := i_Day___str__, F_Day_having := ⟨_, fun_mk (st := s_Day_having) l_Day_having c_Day_having k_Day_having⟩, me_Day_having := ⟨a_Day_having, i_Day_having, k_Day_having⟩, F_Day_without := ⟨_, fun_mk (st := s_Day_without) l_Day_without c_Day_without k_Day_without⟩, me_Day_without := ⟨a_Day_without, i_Day_without, k_Day_without⟩, m_Day := PySem.W.mg_of X G a_Day, cl_Day := ⟨pg_Day, hd_Day, po_Day, sa_Day⟩, mk_Day := ⟨mk_Day, a_Day___init__, i_Day___init__, kc_Day⟩, na_Day_length := na_Day_length, na_Day_meetings := na_Day_meetings, na_Day_word := na_Day_word, n_Day := n_Day, ks_Day := kit_str isc_Day tyc_Day su_Day, su_Day := su_Day, sb_Day_int := sb_Day_int, sb_Day_bool := sb_Day_bool, sb_Day_str := sb_Day_str, sb_Day_tuple := sb_Day_tuple, sb_Day_list := sb_Day_list, o_Day := o_Day, ic_Day := ic_Day, oc1 := oc1, oc2 := oc2, m_DimError := PySem.W.mg_of X G a_DimError, m_InvalidDay := PySem.W.mg_of X G a_InvalidDay, m_NoMeeting := PySem.W.mg_of X G a_NoMeeting, ox_InvalidDay := ⟨⟨_, _, _, _, _, _, _, _, _, _, _, _, _, _, _, xl_InvalidDay, by first | rfl | decide +kernel⟩, xsa_InvalidDay, xe_InvalidDay, tyc_InvalidDay, xk_InvalidDay⟩, no_InvalidDay := xno_InvalidDay, iC_InvalidDay := xi_InvalidDay, tI_InvalidDay := xt_InvalidDay, F_InvalidDay___init__ := ⟨_, fun_mk (st := s_InvalidDay___init__) l_InvalidDay___init__ c_InvalidDay___init__ k_InvalidDay___init__⟩, xf_InvalidDay := ⟨xga_InvalidDay, xgg_InvalidDay, xe_InvalidDay, xd_InvalidDay⟩, xc_InvalidDay := ⟨xga_InvalidDay, xgg_InvalidDay, xe_InvalidDay, xd_InvalidDay, xcl_InvalidDay, oc1, oc2, xm_InvalidDay⟩, te_InvalidDay := DL.exm_selfX xe_InvalidDay isc_InvalidDay tyc_InvalidDay xs_InvalidDay, ox_NoMeeting := ⟨⟨_, _, _, _, _, _, _, _, _, _, _, _, _, _, xl_NoMeeting⟩, xsa_NoMeeting, xe_NoMeeting, tyc_NoMeeting, xk_NoMeeting⟩, no_NoMeeting := xno_NoMeeting, iC_NoMeeting := xi_NoMeeting, tI_NoMeeting := xt_NoMeeting, F_NoMeeting___init__ := ⟨_, fun_mk (st := s_NoMeeting___init__) l_NoMeeting___init__ c_NoMeeting___init__ k_NoMeeting___init__⟩, xf_NoMeeting := ⟨xga_NoMeeting, xgg_NoMeeting, xe_NoMeeting, xd_NoMeeting⟩, xc_NoMeeting := ⟨xga_NoMeeting, xgg_NoMeeting, xe_NoMeeting, xd_NoMeeting, xcl_NoMeeting, oc1, oc2, xm_NoMeeting⟩, te_NoMeeting := DL.exm_selfX xe_NoMeeting isc_NoMeeting tyc_NoMeeting xs_NoMeeting, kx_NoMeeting_DimError := DL.kit_ref isc_DimError tyc_DimError xk_NoMeeting_DimError xs_NoMeeting, kx_NoMeeting_IndexError := DL.kit_ty xk_NoMeeting_IndexError xs_NoMeeting, tn_InvalidDay_NoMeeting := DL.exm_notX xe_NoMeeting isc_NoMeeting tyc_NoMeeting xk_InvalidDay_NoMeeting, b_IndexError := PySem.W.mg_none_of X G b_IndexError, b_abs := PySem.W.mg_none_of X G b_abs, b_bool := PySem.W.mg_none_of X G b_bool, b_int := PySem.W.mg_none_of X G b_int, b_isinstance := PySem.W.mg_none_of X G b_isinstance, b_len := PySem.W.mg_none_of X G b_len, b_list := PySem.W.mg_none_of X G b_list, b_max := PySem.W.mg_none_of X G b_max, b_min := PySem.W.mg_none_of X G b_min, b_range := PySem.W.mg_none_of X G b_range, b_str := PySem.W.mg_none_of X G b_str, b_tuple := PySem.W.mg_none_of X G b_tuple }
  have hP := own cT PT _ _ _ _ _ _ l_law rfl tb_e tb_c tb_11
  have CH : PySem.W.CodeHd h cT PT := ⟨_, vT, _, _, _, _, _, _, _, X _ _ tb_c, rfl, rfl, tb_11, tb_g11, tb_g18, tb_g7, tb_g9, tb_g10, tb_ne⟩
  have one : ∀ p ∈ [(cT, PT)], p = (cT, PT) := fun p hp => List.mem_singleton.mp hp
  exact ⟨PySem.W.fnOf "law" "law" (defArgs s_law) (defBody s_law) (defScope s_law) .none kV_law do_law pm_law an_law cd_law ct_law, [(cT, PT)], spLawT K PT, fun p hp => by rw [one p hp]; exact hP, fun p hp => by rw [one p hp]; exact tb_n, fun p hp => by rw [one p hp]; exact CH, fun s v => .of_eq rfl, fun H a ns hl _ ht hS => ⟨a, ns, rfl, hS, hl, ht (cT, PT) (List.mem_singleton.mpr rfl), fun _ => rfl⟩, fun base _ _ tb => ok_law T (fun_mk l_law c_law k_law) tb_e (tb (cT, PT) (List.mem_singleton.mpr rfl))⟩
theorem walk {l : PySem.W.OpenLaw} {q : Program} {loose : List Str} {XP : (Str → Option Value) → Heap → Prop} {YP : World → Heap → Prop} {d : DefRec} {K : Params → PySem.W.Frag} (hn : l.most = some 63) (hdf : d.params.defaults = [])
    (hrec : ((recsOf q).any fun e => e.name == d.name) = true) (hY : ∀ (w : World) (h : Heap), YP w h → (K w.params).In h)
    (F : ∀ (w : World) (mg : Str → Option Value) (fa : Addr) (h : Heap), YP w h → (K w.params).In h → h.Ns mainGlobals mg → mg d.name = some (.ref fa) → LamX.OwnTab (K w.params) fa h → LamX.LawAtS l w (K w.params) CX0 10 63 "_law_script" mg fa h) :
    PySem.W.WalkO q loose XP YP l.row.toRowW d [] (fun f vs => PySem.call f vs) :=
  LamX.walk_ofOwn (n := 63) (k := 10) (x := "_law_script") (CX := fun _ => CX0) hn (by decide) hdf ⟨rfl, by decide, by decide⟩ hrec hY F fun _ _ _ _ _ z => z
end DD
open PySem PySem.W PyProof.Rows
set_option maxRecDepth 100000 in
set_option maxHeartbeats 0 in
theorem PySem.Challenge.cw_dimdays_k05_days_with_one_meeting_more_o_holds : PySem.Challenge.rw_dimdays_k05_days_with_one_meeting_more_o.Holds := by
  w_on; o_law; k_head; (case hw => w_witness2)
  k_fill
  refine DD.walk (l := PySem.Challenge.rw_dimdays_k05_days_with_one_meeting_more_o) rfl rfl (by decide +kernel) (fun w h Y => PySem.W.km_in_of Y) ?F
  case F =>
    intro w mg fa h Y KX G hmg own
    refine' DD.all_mk KX G hmg ?a_Day ?a_is_integer ?l_is_integer ?c_is_integer ?k_is_integer ?a_is_number ?l_is_number ?c_is_number ?k_is_number ?a__is_meeting ?l__is_meeting ?c__is_meeting ?k__is_meeting ?a_is_sequence ?l_is_sequence ?c_is_sequence ?k_is_sequence ?a__are_meetings ?l__are_meetings ?c__are_meetings ?k__are_meetings ?a_is_positive ?l_is_positive ?c_is_positive ?k_is_positive ?a__meeting_text ?l__meeting_text ?c__meeting_text ?k__meeting_text ?a__meetings_text ?l__meetings_text ?c__meetings_text ?k__meetings_text ?a__law_choose ?l__law_choose ?c__law_choose ?k__law_choose ?a__law_one_of ?l__law_one_of ?c__law_one_of ?k__law_one_of ?a__law_day ?l__law_day ?c__law_day ?k__law_day ?a__law_day_text ?l__law_day_text ?c__law_day_text ?k__law_day_text ?a__law_heard ?l__law_heard ?c__law_heard ?k__law_heard ?a__law_seed ?l__law_seed ?c__law_seed ?k__law_seed ?a_law ?l_law ?c_law ?k_law ?a_Day___eq__ ?i_Day___eq__ ?l_Day___eq__ ?c_Day___eq__ ?k_Day___eq__ ?a_Day___getitem__ ?i_Day___getitem__ ?gn_Day___getitem__ ?l_Day___getitem__ ?c_Day___getitem__ ?k_Day___getitem__ ?a_Day___init__ ?i_Day___init__ ?l_Day___init__ ?lt_Day___init__ ?lv_Day___init__ ?l_zDay ?lv_zDay ?c_Day___init__ ?k_Day___init__ ?a_Day___str__ ?i_Day___str__ ?l_Day___str__ ?c_Day___str__ ?k_Day___str__ ?a_Day_having ?i_Day_having ?l_Day_having ?c_Day_having ?k_Day_having ?a_Day_without ?i_Day_without ?l_Day_without ?c_Day_without ?k_Day_without ?pg_Day ?hd_Day ?po_Day ?sa_Day ?mk_Day ?kc_Day ?na_Day_length ?na_Day_meetings ?na_Day_word ?n_Day ?isc_Day ?tyc_Day ?su_Day ?sb_Day_int ?sb_Day_bool ?sb_Day_str ?sb_Day_tuple ?sb_Day_list ?o_Day ?ic_Day ?oc1 ?oc2 ?a_DimError ?isc_DimError ?tyc_DimError ?a_InvalidDay ?isc_InvalidDay ?tyc_InvalidDay ?a_NoMeeting ?isc_NoMeeting ?tyc_NoMeeting ?xl_InvalidDay ?xsa_InvalidDay ?xga_InvalidDay ?xgg_InvalidDay ?xno_InvalidDay ?xi_InvalidDay ?xt_InvalidDay ?l_InvalidDay___init__ ?c_InvalidDay___init__ ?k_InvalidDay___init__ ?xk_InvalidDay ?xe_InvalidDay ?xd_InvalidDay ?xs_InvalidDay ?xcl_InvalidDay ?xm_InvalidDay ?xl_NoMeeting ?xsa_NoMeeting ?xga_NoMeeting ?xgg_NoMeeting ?xno_NoMeeting ?xi_NoMeeting ?xt_NoMeeting ?l_NoMeeting___init__ ?c_NoMeeting___init__ ?k_NoMeeting___init__ ?xk_NoMeeting ?xe_NoMeeting ?xd_NoMeeting ?xs_NoMeeting ?xcl_NoMeeting ?xm_NoMeeting ?xk_NoMeeting_DimError ?xk_NoMeeting_IndexError ?xk_InvalidDay_NoMeeting ?b_IndexError ?b_abs ?b_bool ?b_int ?b_isinstance ?b_len ?b_list ?b_max ?b_min ?b_range ?b_str ?b_tuple ?tb_e ?tb_c ?tb_11 ?tb_g11 ?tb_g18 ?tb_g7 ?tb_g9 ?tb_g10 ?tb_n ?tb_ne own
    (case a_Day => k_is)
    (case a_is_integer => k_is)
    (case l_is_integer => k_is)
    (case c_is_integer => k_is)
    (case k_is_integer => k_is)
    (case a_is_number => k_is)
    (case l_is_number => k_is)
    (case c_is_number => k_is)
    (case k_is_number => k_is)
    (case a__is_meeting => k_is)
    (case l__is_meeting => k_is)
    (case c__is_meeting => k_is)
    (case k__is_meeting => k_is)
    (case a_is_sequence => k_is)
    (case l_is_sequence => k_is)
    (case c_is_sequence => k_is)
    (case k_is_sequence => k_is)
    (case a__are_meetings => k_is)
    (case l__are_meetings => k_is)
    (case c__are_meetings => k_is)
    (case k__are_meetings => k_is)
    (case a_is_positive => k_is)
    (case l_is_positive => k_is)
    (case c_is_positive => k_is)
    (case k_is_positive => k_is)
    (case a__meeting_text => k_is)
    (case l__meeting_text => k_is)
    (case c__meeting_text => k_is)
    (case k__meeting_text => k_is)
    (case a__meetings_text => k_is)
    (case l__meetings_text => k_is)
    (case c__meetings_text => k_is)
    (case k__meetings_text => k_is)
    (case a__law_choose => k_is)
    (case l__law_choose => k_is)
    (case c__law_choose => k_is)
    (case k__law_choose => k_is)
    (case a__law_one_of => k_is)
    (case l__law_one_of => k_is)
    (case c__law_one_of => k_is)
    (case k__law_one_of => k_is)
    (case a__law_day => k_is)
    (case l__law_day => k_is)
    (case c__law_day => k_is)
    (case k__law_day => k_is)
    (case a__law_day_text => k_is)
    (case l__law_day_text => k_is)
    (case c__law_day_text => k_is)
    (case k__law_day_text => k_is)
    (case a__law_heard => k_is)
    (case l__law_heard => k_is)
    (case c__law_heard => k_is)
    (case k__law_heard => k_is)
    (case a__law_seed => k_is)
    (case l__law_seed => k_is)
    (case c__law_seed => k_is)
    (case k__law_seed => k_is)
    (case a_law => k_is)
    (case l_law => k_is)
    (case c_law => k_is)
    (case k_law => k_is)
    (case a_Day___eq__ => k_is)
    (case i_Day___eq__ => k_is)
    (case l_Day___eq__ => k_is)
    (case c_Day___eq__ => k_is)
    (case k_Day___eq__ => k_is)
    (case a_Day___getitem__ => k_is)
    (case i_Day___getitem__ => k_is)
    (case gn_Day___getitem__ => k_is)
    (case l_Day___getitem__ => k_is)
    (case c_Day___getitem__ => k_is)
    (case k_Day___getitem__ => k_is)
    (case a_Day___init__ => k_is)
    (case i_Day___init__ => k_is)
    (case l_Day___init__ => k_is)
    (case lt_Day___init__ => k_is)
    (case lv_Day___init__ => exact rfl)
    (case l_zDay => k_is)
    (case lv_zDay => exact rfl)
    (case c_Day___init__ => k_is)
    (case k_Day___init__ => k_is)
    (case a_Day___str__ => k_is)
    (case i_Day___str__ => k_is)
    (case l_Day___str__ => k_is)
    (case c_Day___str__ => k_is)
    (case k_Day___str__ => k_is)
    (case a_Day_having => k_is)
    (case i_Day_having => k_is)
    (case l_Day_having => k_is)
    (case c_Day_having => k_is)
    (case k_Day_having => k_is)
    (case a_Day_without => k_is)
    (case i_Day_without => k_is)
    (case l_Day_without => k_is)
    (case c_Day_without => k_is)
    (case k_Day_without => k_is)
    (case pg_Day => k_is)
    (case hd_Day => k_is)
    (case po_Day => k_is)
    (case sa_Day => k_is)
    (case mk_Day => k_is)
    (case kc_Day => k_is)
    (case na_Day_length => k_is)
    (case na_Day_meetings => k_is)
    (case na_Day_word => k_is)
    (case n_Day => k_is)
    (case isc_Day => k_is)
    (case tyc_Day => k_is)
    (case su_Day => k_is)
    (case sb_Day_int => k_is)
    (case sb_Day_bool => k_is)
    (case sb_Day_str => k_is)
    (case sb_Day_tuple => k_is)
    (case sb_Day_list => k_is)
    (case o_Day => k_is)
    (case ic_Day => k_is)
    (case oc1 => k_is)
    (case oc2 => k_is)
    (case a_DimError => k_is)
    (case isc_DimError => k_is)
    (case tyc_DimError => k_is)
    (case a_InvalidDay => k_is)
    (case isc_InvalidDay => k_is)
    (case tyc_InvalidDay => k_is)
    (case a_NoMeeting => k_is)
    (case isc_NoMeeting => k_is)
    (case tyc_NoMeeting => k_is)
    (case xl_InvalidDay => k_is)
    (case xsa_InvalidDay => k_is)
    (case xga_InvalidDay => k_is)
    (case xgg_InvalidDay => k_is)
    (case xno_InvalidDay => k_is)
    (case xi_InvalidDay => k_is)
    (case xt_InvalidDay => k_is)
    (case l_InvalidDay___init__ => k_is)
    (case c_InvalidDay___init__ => k_is)
    (case k_InvalidDay___init__ => k_is)
    (case xk_InvalidDay => k_is)
    (case xe_InvalidDay => k_is)
    (case xd_InvalidDay => k_is)
    (case xs_InvalidDay => k_is)
    (case xcl_InvalidDay => k_is)
    (case xm_InvalidDay => k_is)
    (case xl_NoMeeting => k_is)
    (case xsa_NoMeeting => k_is)
    (case xga_NoMeeting => k_is)
    (case xgg_NoMeeting => k_is)
    (case xno_NoMeeting => k_is)
    (case xi_NoMeeting => k_is)
    (case xt_NoMeeting => k_is)
    (case l_NoMeeting___init__ => k_is)
    (case c_NoMeeting___init__ => k_is)
    (case k_NoMeeting___init__ => k_is)
    (case xk_NoMeeting => k_is)
    (case xe_NoMeeting => k_is)
    (case xd_NoMeeting => k_is)
    (case xs_NoMeeting => k_is)
    (case xcl_NoMeeting => k_is)
    (case xm_NoMeeting => k_is)
    (case xk_NoMeeting_DimError => k_is)
    (case xk_NoMeeting_IndexError => k_is)
    (case xk_InvalidDay_NoMeeting => k_is)
    (case b_IndexError => k_is)
    (case b_abs => k_is)
    (case b_bool => k_is)
    (case b_int => k_is)
    (case b_isinstance => k_is)
    (case b_len => k_is)
    (case b_list => k_is)
    (case b_max => k_is)
    (case b_min => k_is)
    (case b_range => k_is)
    (case b_str => k_is)
    (case b_tuple => k_is)
    (case tb_e => exact rfl)
    (case tb_c => k_is)
    (case tb_11 => exact rfl)
    (case tb_g11 => exact rfl)
    (case tb_g18 => exact rfl)
    (case tb_g7 => exact rfl)
    (case tb_g9 => exact rfl)
    (case tb_g10 => exact rfl)
    (case tb_n => first | k_is | rfl)
    (case tb_ne => decide)
